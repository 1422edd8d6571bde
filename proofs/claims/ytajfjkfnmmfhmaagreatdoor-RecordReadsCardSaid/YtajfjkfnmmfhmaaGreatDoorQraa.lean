/- Words of our own for worlds, footprints and rows of bytes; small laws on them. Speaks of no program. -/
import Derived.WalkKit
import Derived.WalkSpells
import Derived.WalkLawsBesides
import Derived.Handy
import Derived.Deep.OwnRows
import Derived.Laws.BytesArg
import Derived.Laws.CopyOwn
import Derived.Lib.AppendStr
import Derived.Test.YtajfjkfnmmfhmaaGreatDoorRows
import Derived.Deep.QuietTactic
import Derived.BigQuiet
import Derived.Deep.RegionHeld3
namespace Go.Proofs.YtajfjkfnmmfhmaaGreatDoor
set_option maxRecDepth 100000
set_option maxHeartbeats 25600000
section
theorem cR {w : World} {b : Nat} {c : Array Value} {T : TypeId} {s : Nat × Nat} (i : Nat) (u : Value) (h : w.heap[b]? = some (.cells c T s)) (hu : c[i]? = some u := by rfl) : w.cell? ⟨b, i, none⟩ = some u := (cell_of_row _ _ _ _ _ _ h).trans hu
theorem fZ {w : World} {b : Nat} {c : Array Value} {T : TypeId} (i : Nat) (h : w.heap[b]? = some (.cells c T (0, 0))) : w.frozen? ⟨b, i, none⟩ = false := frozen_of_row w b i _ _ h
theorem eX {α : Sort _} (a : α) : ∃ z, a = z := ⟨a, rfl⟩
open Go.RowKit Go.Lib
theorem hid {p : Prop} (h : p) : Hid p := h
structure Frm (S : List Nat) (w w' : World) : Prop where
 os : w'.os = w.os
 tape : w'.tape = w.tape
 output : w'.output = w.output
 size : w.heap.size ≤ w'.heap.size
 block : ∀ k, k < w.heap.size → k ∉ S → w'.heap[k]? = w.heap[k]?
theorem Frm.refl (S : List Nat) (w : World) : Frm S w w := ⟨rfl, rfl, rfl, Nat.le_refl _, fun _ _ _ => rfl⟩
theorem Frm.trans {S T : List Nat} {a b c : World} (h : Frm S a b) (k : Frm T b c) (hT : ∀ i ∈ T, i < a.heap.size → i ∈ S) : Frm S a c :=
 ⟨k.os.trans h.os, k.tape.trans h.tape, k.output.trans h.output, Nat.le_trans h.size k.size, fun i hi hn =>
  (k.block i (Nat.lt_of_lt_of_le hi h.size) (fun ht => hn (hT i ht hi))).trans (h.block i hi hn)⟩
theorem Frm.mono {S T : List Nat} {a b : World} (h : Frm S a b) (hT : ∀ i ∈ S, i < a.heap.size → i ∈ T) : Frm T a b :=
 ⟨h.os, h.tape, h.output, h.size, fun i hi hn => h.block i hi (fun hs => hn (hT i hs hi))⟩
theorem Frm.alloc {S : List Nat} {a w : World} (h : Frm S a w) (o : Obj) : Frm S a (w.alloc o) :=
 h.trans (T := []) ⟨rfl, rfl, rfl, by simp, fun k hk _ => Below.heap_alloc w o k hk⟩ (by simp)
theorem Frm.drew {S : List Nat} {a w : World} (h : Frm S a w) : Frm S a w.drew := ⟨h.os, h.tape, h.output, h.size, h.block⟩
theorem Frm.drewN {S : List Nat} {a w : World} (h : Frm S a w) (n : Nat) : Frm S a (w.drewN n) := ⟨h.os, h.tape, h.output, h.size, h.block⟩
theorem Frm.setCell {S : List Nat} {a w : World} (h : Frm S a w) (p : Addr) (u : Value) (hp : p.block < a.heap.size → p.block ∈ S) : Frm S a (w.setCell p u) :=
 h.trans (T := [p.block]) ⟨rfl, rfl, rfl, by simp [World.setCell], fun k _ hn => heap_setCell_other w p k u (by simpa using hn)⟩ (by simpa using hp)
theorem Frm.grown {S : List Nat} {a w w' : World} {row : Option Nat} (h : Frm S a w) (hg : w.grownBy w' row) (hr : ∀ k, row = some k → k < a.heap.size → k ∈ S) : Frm S a w' :=
 h.trans (T := row.toList) ⟨hg.os, hg.tape, hg.output, hg.size, fun k hk hn => hg.block k hk (fun e => hn (by rw [← e]; simp))⟩ (fun i hi hlt => hr i (by simpa using hi) hlt)
theorem Frm.below {S : List Nat} {B : Nat} {a w : World} (h : Frm S a w) (hB : B ≤ a.heap.size) (hS : ∀ i ∈ S, B ≤ i) : Below B a w :=
 ⟨h.os, h.tape, h.output, h.size, fun k hk => h.block k (by omega) (fun hs => by have := hS k hs; omega)⟩
theorem Frm.cell {S : List Nat} {a w : World} (h : Frm S a w) {p : Addr} (hp : p.block < a.heap.size) (hn : p.block ∉ S) : w.cell? p = a.cell? p :=
 World.cell?_of_block (h.block _ hp hn)
theorem Frm.frozen {S : List Nat} {a w : World} (h : Frm S a w) {p : Addr} (hp : p.block < a.heap.size) (hn : p.block ∉ S) : w.frozen? p = a.frozen? p :=
 World.frozen?_of_block (h.block _ hp hn)
theorem Frm.heap {S : List Nat} {a w : World} (h : Frm S a w) {k : Nat} {o : Obj} (hk : a.heap[k]? = some o) (hn : k ∉ S) : w.heap[k]? = some o :=
 (h.block k (Array.getElem?_eq_some_iff.1 hk).1 hn).trans hk
theorem lt_of_heap {w : World} {k : Nat} {o : Obj} (hk : w.heap[k]? = some o) : k < w.heap.size := (Array.getElem?_eq_some_iff.1 hk).1
def bv (zs : List Int) : List Value := zs.map (Value.int .u8)
theorem bv_length (zs : List Int) : (bv zs).length = zs.length := by simp [bv]
theorem bv_append (a b : List Int) : bv (a ++ b) = bv a ++ bv b := by simp [bv]
theorem bv_take (a : List Int) (n : Nat) : bv (a.take n) = (bv a).take n := by simp [bv, List.map_take]
theorem bv_one {zs : List Int} : ∀ u ∈ bv zs, u.oneCell' = true := by
 intro u hu; simp [bv] at hu; obtain ⟨z, _, rfl⟩ := hu; rfl
theorem bv_get {zs : List Int} {i : Nat} (h : i < zs.length) : (bv zs)[i]? = some (.int .u8 (zs.getD i 0)) := by
 simp [bv, h]
theorem get_mid {α : Type} (a : List α) (m : Nat) (v : α) (h : 0 < m) : (a ++ List.replicate m v)[a.length]? = some v := by
 rw [List.getElem?_append_right (Nat.le_refl _), Nat.sub_self]; cases m with
 | zero => omega
 | succ m => simp [List.replicate_succ]
theorem set_mid {α : Type} (a : List α) (m : Nat) (v u : α) : (a ++ List.replicate (m + 1) v).set a.length u = a ++ [u] ++ List.replicate m v := by
 rw [List.set_append_right _ _ (Nat.le_refl _)]; simp [List.replicate_succ]
def Rd (w : World) (p : Option Addr) (zs : List Int) : Prop :=
 zs = [] ∨ ∃ g o, p = some ⟨g, o, none⟩ ∧ ∀ i, i < zs.length → w.cell? ⟨g, o + i, none⟩ = some (.int .u8 (zs.getD i 0))
theorem Rd.nil (w : World) (p : Option Addr) : Rd w p [] := Or.inl rfl
theorem Rd.drewN {w : World} {p : Option Addr} {zs : List Int} (h : Rd w p zs) (n : Nat) : Rd (w.drewN n) p zs := h
theorem Rd.drew {w : World} {p : Option Addr} {zs : List Int} (h : Rd w p zs) : Rd w.drew p zs := h
def blk (p : Option Addr) : List Nat := match p with | some a => [a.block] | none => []
theorem Rd.kept {S : List Nat} {w w' : World} {p : Option Addr} {zs : List Int} (h : Rd w p zs) (hf : Frm S w w') (hn : ∀ k ∈ blk p, k ∉ S) : Rd w' p zs := by
 rcases h with h | ⟨g, o, rfl, hc⟩
 ·exact Or.inl h
 ·refine Or.inr ⟨g, o, rfl, fun i hi => ?_⟩
  have hlt : g < w.heap.size := World.block_lt_of_cell? w _ (hc i hi)
  rw [hf.cell (p := ⟨g, o + i, none⟩) hlt (hn g (by simp [blk]))]
  exact hc i hi
theorem Rd.alloc {w : World} {p : Option Addr} {zs : List Int} (h : Rd w p zs) (o : Obj) : Rd (w.alloc o) p zs := h.kept (S := []) ((Frm.refl [] w).alloc o) (by simp)
theorem Rd.take {w : World} {p : Option Addr} {zs : List Int} (h : Rd w p zs) (n : Nat) : Rd w p (zs.take n) := by
 rcases h with rfl | ⟨g, o, rfl, hc⟩
 ·exact Or.inl (by simp)
 ·refine Or.inr ⟨g, o, rfl, fun i hi => ?_⟩
  simp at hi
  rw [hc i (by omega)]
  have h2 : i < zs.length := by omega
  simp [List.getD, hi, h2]
theorem Rd.drop {w : World} {g o : Nat} {zs : List Int} (h : Rd w (some ⟨g, o, none⟩) zs) (n : Nat) : Rd w (some ⟨g, o + n, none⟩) (zs.drop n) := by
 rcases h with rfl | ⟨g', o', he, hc⟩
 ·exact Or.inl (by simp)
 ·simp at he; obtain ⟨rfl, rfl⟩ := he
  refine Or.inr ⟨g, o + n, rfl, fun i hi => ?_⟩
  simp at hi
  rw [Nat.add_assoc, hc (n + i) (by omega)]
  simp [List.getD]
def Own (w : World) (E : TypeId) (v : Value) (zs : List Int) : Prop := w.ownsRow 0 E 1 v zs.length (bv zs)
theorem Own.nil (w : World) (E : TypeId) : Own w E (.slice none 0 0) [] := World.ownsRow_nil w 0 E 1
theorem Own.shape {w : World} {E : TypeId} {v : Value} {zs : List Int} (h : Own w E v zs) : ∃ p c, v = .slice p zs.length c ∧ zs.length ≤ c ∧ (p = none → zs = [] ∧ c = 0) ∧ (∀ a, p = some a → a.off = 0 ∧ a.spot = none ∧ a.block < w.heap.size) ∧ v.ownBlock.toList = blk p := by
 rcases h.2 with ⟨rfl, h0⟩ | ⟨g, c, cur, rfl, _, hg, hc, _⟩
 ·exact ⟨none, 0, by rw [h0], by omega, fun _ => ⟨List.eq_nil_of_length_eq_zero h0, rfl⟩, by simp, rfl⟩
 ·refine ⟨some ⟨g, 0, none⟩, c, rfl, hc, by simp, ?_, rfl⟩
  intro a ha; simp at ha; subst ha; exact ⟨rfl, rfl, lt_of_heap hg⟩
theorem Own.rd {w : World} {E : TypeId} {p : Option Addr} {n c : Nat} {zs : List Int} (h : Own w E (.slice p n c) zs) : Rd w p zs := by
 rcases h.2 with ⟨_, h0⟩ | ⟨g, c', cur, he, _, hg, hc, _, hs, ht⟩
 ·exact Or.inl (List.eq_nil_of_length_eq_zero h0)
 ·simp at he
  obtain ⟨rfl, _, _⟩ := he
  refine Or.inr ⟨g, 0, rfl, fun i hi => ?_⟩
  rw [Nat.zero_add, cell_of_row w g i cur E (0, 0) hg]
  have := congrArg (fun l => l[i]?) ht
  simp only [List.getElem?_take, bv_get hi] at this
  rw [if_pos (by omega)] at this
  simpa using this
theorem Own.kept {S : List Nat} {w w' : World} {E : TypeId} {v : Value} {zs : List Int} (h : Own w E v zs) (hf : Frm S w w') (hn : ∀ k ∈ v.ownBlock.toList, k ∉ S) : Own w' E v zs := by
 refine ⟨h.1, ?_⟩
 rcases h.2 with h0 | ⟨g, c, cur, rfl, hb, hg, r⟩
 ·exact Or.inl h0
 ·exact Or.inr ⟨g, c, cur, rfl, hb, hf.heap hg (hn g (by simp [Value.ownBlock])), r⟩
theorem own_of_block {w : World} {E : TypeId} {g : Nat} {zs : List Int} (hg : w.heap[g]? = some (.cells (bv zs).toArray E (0, 0))) (hm : zs.length ≤ maxLen) : Own w E (.slice (some ⟨g, 0, none⟩) zs.length zs.length) zs :=
 ⟨by simp [bv], Or.inr ⟨g, zs.length, _, rfl, Nat.zero_le _, hg, Nat.le_refl _, hm, by simp [bv], by simp [bv, List.take_of_length_le]⟩⟩
theorem own_of_block' {w : World} {E : TypeId} {g n : Nat} {zs : List Int} (hg : w.heap[g]? = some (.cells (bv zs).toArray E (0, 0))) (hm : zs.length ≤ maxLen) (hn : zs.length = n) : Own w E (.slice (some ⟨g, 0, none⟩) zs.length n) zs := by
 subst hn; exact own_of_block hg hm
def le (n : Int) (k : Nat) : List Int := (List.range k).map fun i => n / 2 ^ (8 * i) % 256
theorem le_length (n : Int) (k : Nat) : (le n k).length = k := by simp [le]
theorem le_succ (n : Int) (k : Nat) : le n (k + 1) = le n k ++ [n / 2 ^ (8 * k) % 256] := by simp [le, List.range_succ]
theorem own_blk {p : Option Addr} {n c : Nat} : (Value.slice p n c).ownBlock.toList = blk p := by cases p <;> rfl
section
variable {P : Program} {w : World}
theorem bytes_at {p : Option Addr} {ns : List Int} (hrd : Rd w p ns) (hne : ns ≠ []) : ∃ ad, p = some ad ∧ ∀ j u, (bv ns)[j]? = some u → w.cell? (ad.add j) = some u := by
 rcases hrd with h | ⟨g, o, rfl, hc⟩
 ·exact absurd h hne
 ·refine ⟨_, rfl, fun j u hu => ?_⟩
  have hj : j < ns.length := by have := (List.getElem?_eq_some_iff.1 hu).1; simpa [bv] using this
  rw [bv_get hj] at hu
  rw [show (⟨g, o, none⟩ : Addr).add j = ⟨g, o + j, none⟩ by unfold Addr.add; split <;> simp_all, hc j hj]
  exact hu
theorem oks {v v' : Value} {w1 w2 : World} (h : (Result.ok v w1 : Result Value) = .ok v' w2) : v = v' ∧ w1 = w2 := by cases h; exact ⟨rfl, rfl⟩
theorem run_appB (t ty E : TypeId) (ht : P.underlying t = some (.slice E)) (hI : (P.info? E).map (fun i => (i.zero, i.size, i.bytes)) = some (some (.int .u8 0), 1, 1))
  (v : Value) (zs : List Int) (hown : Own w E v zs) (p : Option Addr) (c : Nat) (ns : List Int) (hp : ns = [] → p = none → c = 0) (hrd : Rd w p ns) (hsz : zs.length + ns.length ≤ 140737488355328) :
  ∃ v' w', (Builtin.append_ #[t, t] ty #[v, .slice p ns.length c]).run P w = .ok v' w' ∧ Own w' E v' (zs ++ ns) ∧ Frm v.ownBlock.toList w w' ∧ (∀ k ∈ v'.ownBlock.toList, k ∈ v.ownBlock.toList ∨ w.heap.size ≤ k) := by
 obtain ⟨i, hi, hz, h1, h2⟩ := info_parts hI
 have hmax : zs.length + ns.length ≤ maxLen := by unfold maxLen; omega
 by_cases hne : ns = []
 ·subst hne
  cases p with
  | none =>
   obtain rfl := hp rfl rfl
   have hr := run_append_owned_none (P := P) w 0 t ty E i 1 ht hi v zs.length (bv zs) hown
   exact ⟨v, w, hr, by simpa using hown, Frm.refl _ _, fun k hk => Or.inl hk⟩
  | some ad =>
   obtain ⟨v', w', hr, ho, hg, _⟩ := run_append_own (P := P) w 0 t ty E i (.int .u8 0) 1 1 ht hi hz h1 h2 rfl (by decide) v zs.length (bv zs) hown ad 0 c [] rfl (by simp) (by simp) (by simpa using hmax) (by simp at hsz; omega) (Nat.zero_le _)
   refine ⟨v', w', hr, by simpa [Own] using ho, (Frm.refl _ _).grown hg (fun k hk _ => by simp [hk]), ?_⟩
   rcases hown.2 with ⟨rfl, h0⟩ | ⟨g, cap, cur, rfl, _, hgg, hc, hcm, hcs, htk⟩
   ·obtain rfl : zs = [] := List.eq_nil_of_length_eq_zero h0
    obtain ⟨v2, w2, hr2, ho2, _, _⟩ := run_append_own (P := P) w w.heap.size t ty E i (.int .u8 0) 1 1 ht hi hz h1 h2 rfl (by decide) (.slice none 0 0) 0 [] (World.ownsRow_nil w _ E 1) ad 0 c [] rfl (by simp) (by simp) (by simp) (by simp) (Nat.le_refl _)
    obtain ⟨rfl, rfl⟩ := oks (hr.symm.trans hr2)
    intro k hk; exact Or.inr (ho2.lt k (by simpa using hk)).1
   ·have hr2 := run_append_room (P := P) w t ty E i ht hi g zs.length cap cur hgg ad 0 c [] (by simp) (by simp) (by simp) (by omega) (by simp [h1]; omega)
    obtain ⟨rfl, rfl⟩ := oks (hr.symm.trans hr2)
    intro k hk; exact Or.inl (by simpa [Value.ownBlock] using hk)
 ·obtain ⟨ad, rfl, hnews⟩ := bytes_at hrd hne
  obtain ⟨v', w', hr, ho, hg, _⟩ := run_append_own (P := P) w 0 t ty E i (.int .u8 0) 1 1 ht hi hz h1 h2 rfl (by decide) v zs.length (bv zs) hown ad ns.length c (bv ns) (by simp [bv]) hnews bv_one hmax (by omega) (Nat.zero_le _)
  refine ⟨v', w', hr, by simpa [Own, bv_append] using ho, (Frm.refl _ _).grown hg (fun k hk _ => by simp [hk]), ?_⟩
  have hpos : 0 < ns.length := List.length_pos_iff.2 hne
  rcases hown.2 with ⟨rfl, h0⟩ | ⟨g, cap, cur, rfl, _, hgg, hc, hcm, hcs, htk⟩
  ·obtain rfl : zs = [] := List.eq_nil_of_length_eq_zero h0
   have hr2 := run_append_nil (P := P) w t ty E i (.int .u8 0) ht hi hz ad ns.length c (bv ns) (by simp [bv, h1]) hnews hpos (by omega) (by rw [h2]; omega)
   obtain ⟨rfl, rfl⟩ := oks (hr.symm.trans hr2)
   intro k hk; simp [Value.ownBlock] at hk; exact Or.inr (by omega)
  ·by_cases hroom : zs.length + ns.length ≤ cap
   ·have hr2 := run_append_room (P := P) w t ty E i ht hi g zs.length cap cur hgg ad ns.length c (bv ns) (by simp [bv, h1]) hnews bv_one hroom (by simp [bv, h1]; omega)
    obtain ⟨rfl, rfl⟩ := oks (hr.symm.trans hr2)
    intro k hk; exact Or.inl (by simpa [Value.ownBlock] using hk)
   ·have holds := World.ownsRow.cells (g := g) hown rfl
    have hr2 := run_append_grow (P := P) w t ty E i (.int .u8 0) ht hi hz ⟨g, 0, none⟩ zs.length cap (bv zs) (by simp [bv, h1]) holds ad ns.length c (bv ns) (by simp [bv, h1]) hnews (by omega) (by omega) (growslice_fits (by omega) (by rw [h2]; omega))
    obtain ⟨rfl, rfl⟩ := oks (hr.symm.trans hr2)
    intro k hk; simp [Value.ownBlock] at hk; exact Or.inr (by omega)
theorem wpList_appB {ops : Array Oper} {rest : List Oper} {o : Oper} {a : Act} {Q : Exit → Act → World → Prop} (hgd : o.guard = none) (s x : Operand) (t : TypeId)
  (ho : o.op = .call { callee := .builtin .append, args := #[s, x], argTypes := #[t, t] })
  (E : TypeId) (ht : P.underlying t = some (.slice E)) (hI : (P.info? E).map (fun i => (i.zero, i.size, i.bytes)) = some (some (.int .u8 0), 1, 1))
  (p0 : Option Addr) (n0 c0 : Nat) (zs : List Int) (hs : a.eval s = .slice p0 n0 c0) (hn0 : n0 = zs.length) (hown : Own w E (.slice p0 zs.length c0) zs)
  (p : Option Addr) (n c : Nat) (ns : List Int) (hx : a.eval x = .slice p n c) (hn : n = ns.length) (hp : ns = [] → p = none → c = 0) (hrd : Rd w p ns) (hsz : zs.length + ns.length ≤ 140737488355328)
  (h : ∀ xs p2 c2 w', Hid (xs = zs ++ ns) → Hid (Own w' E (.slice p2 xs.length c2) xs) → Hid (Frm (blk p0) w w') → Hid (∀ k ∈ blk p2, k ∈ blk p0 ∨ w.heap.size ≤ k) → wpList P ops Q rest (a.put o.dst (.slice p2 xs.length c2)) w') :
  wpList P ops Q (o :: rest) a w := by
 refine wpList_plain hgd fun K hK => ?_
 subst hn
 subst hn0
 obtain ⟨v', w', hrun, h1, h2, h3⟩ := run_appB (P := P) (w := w) t o.type E ht hI _ zs hown p c ns hp hrd hsz
 obtain ⟨xs, hxs⟩ : ∃ xs, xs = zs ++ ns := ⟨_, rfl⟩
 rw [← hxs] at h1
 obtain ⟨p2, c2, rfl, _, _, _, hb⟩ := h1.shape
 rw [hb, own_blk] at h3
 rw [own_blk] at h2
 unfold Oper.wp
 simp [execOp, ho, resolve, invoke, builtin, hs, hx, hrun, Result.andThen]
 exact hK _ _ (h xs p2 c2 w' hxs h1 h2 h3)
theorem wpList_copyB {ops : Array Oper} {rest : List Oper} {o : Oper} {a : Act} {Q : Exit → Act → World → Prop} (hgd : o.guard = none) (d s : Operand) (T : TypeId)
  (ho : o.op = .call { callee := .builtin .copy, args := #[d, s], argTypes := #[T, T] })
  (E : TypeId) (ht : P.underlying T = some (.slice E)) (hI : (P.info? E).map (fun i => (i.zero, i.size, i.bytes)) = some (some (.int .u8 0), 1, 1))
  (g n dc : Nat) (cur : Array Value) (hd : a.eval d = .slice (some ⟨g, 0, none⟩) n dc) (hg : w.heap[g]? = some (.cells cur E (0, 0))) (hcur : cur.size = n)
  (p : Option Addr) (m c : Nat) (ns : List Int) (hx : a.eval s = .slice p m c) (hm : m = ns.length) (hrd : Rd w p ns) (hle : n ≤ ns.length)
  (h : ∀ w', w'.heap[g]? = some (.cells (bv (ns.take n)).toArray E (0, 0)) → Frm [g] w w' → wpList P ops Q rest (a.put o.dst (goInt n)) w') :
  wpList P ops Q (o :: rest) a w := by
 obtain ⟨i, hi, hz, h1, h2⟩ := info_parts hI
 have hsz : (P.info? E).map (·.size) = some 1 := by simp [hi, h1]
 subst hm
 by_cases hn : n = 0
 ·subst hn
  refine wpList_copy_nothing hgd d s T T ho E ht hsz (some ⟨g, 0, none⟩) p 0 dc ns.length c hd hx (by simp) ?_
  have hc0 : cur = #[] := Array.eq_empty_of_size_eq_zero hcur
  exact h w (by subst hc0; simpa [bv] using hg) (Frm.refl _ _)
 ·have hne : ns ≠ [] := by intro e; subst e; simp at hle; omega
  obtain ⟨ad, rfl, hnews⟩ := bytes_at hrd hne
  have hl : (bv (ns.take n)).length = n := by simp [bv]; omega
  have hl' : n = (bv (ns.take n)).length := hl.symm
  refine wpList_copy_own hgd d s T T ho E ht hsz g 0 n dc ad ns.length c hd hx cur E hg (bv (ns.take n)) (by rw [hl]; simp [Nat.min_def]; omega) ?_ (by omega) bv_one ?_
  ·intro j v hj
   have hjn : j < n := by have := (List.getElem?_eq_some_iff.1 hj).1; omega
   refine hnews j v ?_
   rw [bv_take, List.getElem?_take, if_pos hjn] at hj
   exact hj
  ·rw [hl]
   refine h _ ?_ ⟨rfl, rfl, rfl, by simp, fun k _ hk => setRow_other w g k _ (by simpa using hk)⟩
   rw [setRow_heap w g cur _ E _ hg]
   congr 2
   have hd0 : cur.toList.drop (0 + n) = [] := List.drop_eq_nil_of_le (by simp [hcur])
   rw [hd0]; simp
def tx (s : ByteArray) : List Int := s.data.toList.map fun u => (u.toNat : Int)
theorem tx_length (s : ByteArray) : (tx s).length = s.size := by simp [tx]
theorem strCells_tx (s : ByteArray) : strCells s = bv (tx s) := by simp [strCells, bv, tx]
theorem run_appS (t u ty E : TypeId) (ht : P.underlying t = some (.slice E)) (hu : P.underlying u = some .string) (hI : (P.info? E).map (fun i => (i.zero, i.size, i.bytes)) = some (some (.int .u8 0), 1, 1))
  (v : Value) (zs : List Int) (hown : Own w E v zs) (s : ByteArray) (hsz : zs.length + s.size ≤ 140737488355328) :
  ∃ v' w', (Builtin.append_ #[t, u] ty #[v, .string s]).run P w = .ok v' w' ∧ Own w' E v' (zs ++ tx s) ∧ Frm v.ownBlock.toList w w' ∧ (∀ k ∈ v'.ownBlock.toList, k ∈ v.ownBlock.toList ∨ w.heap.size ≤ k) := by
 obtain ⟨i, hi, hz, h1, h2⟩ := info_parts hI
 have hmax : zs.length + s.size ≤ maxLen := by unfold maxLen; omega
 obtain ⟨v', w', hr, ho, hg, _⟩ := run_append_own_string (P := P) w 0 t u ty E i ht hu hi hz h1 h2 v zs.length (bv zs) hown s hmax hsz (Nat.zero_le _)
 refine ⟨v', w', hr, by simpa [Own, bv_append, strCells_tx, tx_length] using ho, (Frm.refl _ _).grown hg (fun k hk _ => by simp [hk]), ?_⟩
 rcases hown.2 with ⟨rfl, h0⟩ | ⟨g, cap, cur, rfl, _, hgg, hc, hcm, hcs, htk⟩
 ·obtain rfl : zs = [] := List.eq_nil_of_length_eq_zero h0
  obtain ⟨v2, w2, hr2, ho2, _, _⟩ := run_append_own_string (P := P) w w.heap.size t u ty E i ht hu hi hz h1 h2 (.slice none 0 0) 0 [] (World.ownsRow_nil w _ E 1) s (by simpa using hmax) (by simpa using hsz) (Nat.le_refl _)
  obtain ⟨rfl, rfl⟩ := oks (hr.symm.trans hr2)
  intro k hk; exact Or.inr (ho2.lt k (by simpa using hk)).1
 ·by_cases hroom : zs.length + s.size ≤ cap
  ·have hr2 := run_append_room_string (P := P) w t u ty E i ht hu hi h1 g zs.length cap cur hgg s hroom (by omega)
   obtain ⟨rfl, rfl⟩ := oks (hr.symm.trans hr2)
   intro k hk; exact Or.inl (by simpa [Value.ownBlock] using hk)
  ·have holds := World.ownsRow.cells (g := g) hown rfl
   have hr2 := run_append_grow_string (P := P) w t u ty E i (.int .u8 0) ht hu hi hz ⟨g, 0, none⟩ zs.length cap (bv zs) (by simp [bv, h1]) holds s (by omega) (by omega) (growslice_fits (by omega) (by rw [h2]; omega))
   obtain ⟨rfl, rfl⟩ := oks (hr.symm.trans hr2)
   intro k hk; simp [Value.ownBlock] at hk; exact Or.inr (by omega)
theorem step_appS {ops : Array Oper} {o : Oper} {a : Act} {K : Act → World → Prop} {Q : Exit → Act → World → Prop} {Z : Prop} (hgd : o.guard = none) (sl x : Operand) (t u : TypeId)
  (ho : o.op = .call { callee := .builtin .append, args := #[sl, x], argTypes := #[t, u] })
  (E : TypeId) (ht : P.underlying t = some (.slice E)) (hu : P.underlying u = some .string) (hI : (P.info? E).map (fun i => (i.zero, i.size, i.bytes)) = some (some (.int .u8 0), 1, 1))
  (p0 : Option Addr) (n0 c0 : Nat) (zs : List Int) (hs : a.eval sl = .slice p0 n0 c0) (hn0 : n0 = zs.length) (hown : Own w E (.slice p0 zs.length c0) zs)
  (s : ByteArray) (hx : a.eval x = .string s) (hsz : zs.length + s.size ≤ 140737488355328)
  (h : ∀ xs p2 c2 w', Hid (xs = zs ++ tx s) → Hid (Own w' E (.slice p2 xs.length c2) xs) → Hid (Frm (blk p0) w w') → Hid (∀ k ∈ blk p2, k ∈ blk p0 ∨ w.heap.size ≤ k) → K (a.put o.dst (.slice p2 xs.length c2)) w') :
  if Region.wanted o (yielded ops a.tmps) = true then Oper.wp P o a w K Q else Z := by
 have hw : Region.wanted o (yielded ops a.tmps) = true := by simp [Region.wanted, hgd]
 rw [if_pos hw]
 subst hn0
 obtain ⟨v', w', hrun, h1, h2, h3⟩ := run_appS (P := P) (w := w) t u o.type E ht hu hI _ zs hown s hsz
 obtain ⟨xs, hxs⟩ : ∃ xs, xs = zs ++ tx s := ⟨_, rfl⟩
 rw [← hxs] at h1
 obtain ⟨p2, c2, rfl, _, _, _, hb⟩ := h1.shape
 rw [hb, own_blk] at h3
 rw [own_blk] at h2
 unfold Oper.wp
 simp [execOp, ho, resolve, invoke, builtin, hs, hx, hrun, Result.andThen]
 exact h xs p2 c2 w' hxs h1 h2 h3
end
end
section
open Go.RowKit
theorem infoE : (Tryz.prog.info? 5).map (fun i => (i.zero, i.size, i.bytes)) = some (some (.int .u8 0), 1, 1) := by kernel_rfl
def IsW (w : World) (b : Nat) (fp : List Nat) (room : Int) (zs : List Int) (err : Int) : Prop :=
 ∃ p c, w.heap[b]? = some (.cells #[.int .i64 room, .slice p zs.length c, .int .i64 err] 89 (0, 0)) ∧ Own w 5 (.slice p zs.length c) zs ∧ fp = b :: blk p ∧ b ∉ blk p
theorem IsW.kept {w w' : World} {b : Nat} {fp S : List Nat} {room err : Int} {zs : List Int} (h : IsW w b fp room zs err) (hf : Frm S w w') (hn : ∀ k ∈ fp, k ∉ S) : IsW w' b fp room zs err := by
 obtain ⟨p, c, h1, h2, rfl, h4⟩ := h
 exact ⟨p, c, hf.heap h1 (hn b (by simp)), h2.kept hf (fun k hk => hn k (by rw [own_blk] at hk; simp [hk])), rfl, h4⟩
theorem IsW.lt {w : World} {b : Nat} {fp : List Nat} {room err : Int} {zs : List Int} (h : IsW w b fp room zs err) : ∀ k ∈ fp, k < w.heap.size := by
 obtain ⟨p, c, h1, h2, rfl, h4⟩ := h
 intro k hk
 simp at hk
 rcases hk with rfl | hk
 ·exact lt_of_heap h1
 ·exact (h2.lt k (by cases p <;> simp_all [blk, Value.ownBlock])).2
def roomOf (a : Int) : Int := if a < 0 then 0 else if 2147483647 < a then 2147483647 else a
theorem newWriter_any (a : Int) (w : World) :
  Calls Tryz.prog 25 #[.int .i64 a] w fun e w' => e = .returned (.pointer (some ⟨w.heap.size, 0, none⟩)) ∧ IsW w' w.heap.size [w.heap.size] (roomOf a) [] 0 ∧ Frm [] w w' ∧ w'.heap.size = w.heap.size + 1 := by
 have fin : ∀ r : Int, roomOf a = r → (∀ W, W = w.alloc (.cells #[.int .i64 r, .slice none 0 0, .int .i64 0] 89) → IsW W w.heap.size [w.heap.size] (roomOf a) [] 0 ∧ Frm [] w W ∧ W.heap.size = w.heap.size + 1) := by
  intro r hr W hW; subst hW; subst hr
  exact ⟨⟨none, 0, heap_alloc_new _ _, Own.nil _ _, rfl, by simp [blk]⟩, (Frm.refl _ _).alloc _, by simp⟩
 go_enter Tryz.func25, Tryz.ntmps25
 by_cases h0 : a < 0
 ·go_wp2
  go_ret
  exact ⟨rfl, fin 0 (by unfold roomOf; rw [if_pos h0]) _ rfl⟩
 ·by_cases h1 : 2147483647 < a
  ·go_wp2
   go_ret
   exact ⟨rfl, fin _ (by unfold roomOf; rw [if_neg (by omega), if_pos h1]) _ rfl⟩
  ·go_wp2
   go_ret
   exact ⟨rfl, fin _ (by unfold roomOf; rw [if_neg (by omega), if_neg (by omega)]) _ rfl⟩
theorem number_any (n : Int) (k : Nat) (_hn : 0 ≤ n) (_hn2 : n < 18446744073709551616) (hk : k ≤ 8) (w : World) :
  Calls Tryz.prog 73 #[.int .u64 n, .int .i64 k] w fun e w' => e = .returned (.slice (some ⟨w.heap.size, 0, none⟩) k k) ∧ w'.heap[w.heap.size]? = some (.cells (bv (le n k)).toArray 5 (0, 0)) ∧ Frm [] w w' := by
 have hmk := run_make_row' (P := Tryz.prog) 24 5 (.int .u8 0) 1 Tryz.underlying24 infoE rfl .i64 .i64 k (by omega) (by omega)
 go_enter Tryz.func73, Tryz.ntmps73
 go_wp2
 go_loopw [11] (fun i wr => ∃ j : Nat, j ≤ k ∧ i = .int .i64 j ∧ Hid (wr.heap[w.heap.size]? = some (.cells (bv (le n j) ++ List.replicate (k - j) (Value.int .u8 0)).toArray 5 (0, 0))) ∧ Hid (Frm [] w wr)) (fun i _ => k - (intOf i).toNat)
 case atStart =>
  refine ⟨0, Nat.zero_le _, rfl, ?_, (Frm.refl _ _).alloc _⟩
  show _ = _
  rw [heap_alloc_new]
  congr 2
  apply Array.ext'
  simp [toList_madeCells_one, bv, le]
 case round =>
  obtain ⟨j, hj, rfl, hcur, hfr⟩ := hrel
  by_cases hlt : j < k
  ·have hc : wr.cell? ⟨w.heap.size, j, none⟩ = some (.int .u8 0) := by
    rw [cell_of_row wr _ j _ _ (0,0) hcur.out]
    have h := get_mid (bv (le n j)) (k - j) (Value.int .u8 0) (by omega)
    rw [bv_length, le_length] at h
    simpa using h
   have hf := fZ j hcur.out
   go_wp2
   go_roundw
   case rel =>
    refine ⟨j + 1, by omega, by go_num, ?_, hfr.out.setCell _ _ (by simp)⟩
    show _ = _
    rw [heap_setCell_same wr w.heap.size j _ _ _ hcur.out]
    congr 2
    apply Array.ext'
    have e1 : k - j = (k - (j + 1)) + 1 := by omega
    have h := set_mid (bv (le n j)) (k - (j + 1)) (Value.int .u8 0) (Value.int .u8 (n / 2 ^ (8 * j) % 256))
    rw [bv_length, le_length, ← e1] at h
    rw [le_succ, bv_append]
    simpa [bv] using h
   case measure => simp [intOf]; omega
  ·obtain rfl : j = k := by omega
   go_wp2
   go_ret
   exact ⟨rfl, by simpa using hcur.out, hfr.out⟩
theorem IsW.cells {w : World} {b : Nat} {fp : List Nat} {room err : Int} {zs : List Int} (h : IsW w b fp room zs err) : ∃ p c, b < w.heap.size ∧ fp = b :: blk p ∧ b ∉ blk p ∧ Own w 5 (.slice p zs.length c) zs ∧
  w.cell? ⟨b, 0, none⟩ = some (.int .i64 room) ∧ w.cell? ⟨b, 1, none⟩ = some (.slice p zs.length c) ∧ w.cell? ⟨b, 2, none⟩ = some (.int .i64 err) ∧
  w.frozen? ⟨b, 1, none⟩ = false ∧ w.frozen? ⟨b, 2, none⟩ = false ∧ Hid (w.heap[b]? = some (.cells #[.int .i64 room, .slice p zs.length c, .int .i64 err] 89 (0, 0))) := by
 obtain ⟨p, c, h1, h2, h3, h4⟩ := h
 exact ⟨p, c, lt_of_heap h1, h3, h4, h2, by rw [cell_of_row w _ _ _ _ _ h1]; rfl, by rw [cell_of_row w _ _ _ _ _ h1]; rfl, by rw [cell_of_row w _ _ _ _ _ h1]; rfl, fZ 1 h1, fZ 2 h1, h1⟩
def NowW (w : World) (b : Nat) (fp : List Nat) (room : Int) (zs : List Int) (err : Int) (w' : World) : Prop :=
 ∃ fp', IsW w' b fp' room zs err ∧ Frm fp w w' ∧ ∀ k ∈ fp', k ∈ fp ∨ w.heap.size ≤ k
def Gives (ns : List Int) (ev : Int) (w : World) (e : Ending) (w1 : World) : Prop :=
 ∃ p n c, e = .returned (.tuple #[.slice p n c, .int .i64 ev]) ∧ Frm [] w w1 ∧ (ev = 0 → n = ns.length ∧ (ns = [] → p = none → c = 0) ∧ Rd w1 p ns)
theorem NowW.same {w w' : World} {b : Nat} {fp : List Nat} {room err : Int} {zs : List Int} (h : IsW w b fp room zs err) (hf : Frm [] w w') : NowW w b fp room zs err w' :=
 ⟨fp, h.kept hf (by simp), hf.mono (by simp), fun _ hk => Or.inl hk⟩
theorem NowW.err {w w1 : World} {b : Nat} {fp : List Nat} {room err : Int} {zs : List Int} (h : IsW w b fp room zs err) (hf : Frm [] w w1) (ev : Int) : NowW w b fp room zs ev (w1.setCell ⟨b, 2, none⟩ (.int .i64 ev)) := by
 obtain ⟨p, c, h1, h2, rfl, h4⟩ := h
 have g := hf.heap h1 (by simp)
 have hF : Frm [b] w1 (w1.setCell ⟨b, 2, none⟩ (.int .i64 ev)) := (Frm.refl _ _).setCell _ _ (by simp)
 refine ⟨_, ⟨p, c, ?_, (h2.kept hf (by simp)).kept hF (by rw [own_blk]; intro k hk; simp; rintro rfl; exact h4 hk), rfl, h4⟩, (hf.mono (by simp)).trans hF (by simp), fun _ hk => Or.inl hk⟩
 rw [heap_setCell_same w1 b 2 _ _ _ g]; rfl
theorem NowW.app {w w1 w2 : World} {b : Nat} {fp : List Nat} {room : Int} {zs xs : List Int} {p p2 : Option Addr} {c c2 : Nat} (hh : w.heap[b]? = some (.cells #[.int .i64 room, .slice p zs.length c, .int .i64 0] 89 (0, 0)))
  (hfp : fp = b :: blk p) (hnb : b ∉ blk p) (hF : Frm [] w w1) (ho : Own w2 5 (.slice p2 xs.length c2) xs) (hF2 : Frm (blk p) w1 w2) (hfr : ∀ k ∈ blk p2, k ∈ blk p ∨ w1.heap.size ≤ k) :
  NowW w b fp room xs 0 (w2.setCell ⟨b, 1, none⟩ (.slice p2 xs.length c2)) := by
 subst hfp
 have hb := lt_of_heap hh
 have hb1 := Nat.lt_of_lt_of_le hb hF.size
 have g := hF2.heap (hF.heap hh (by simp)) hnb
 have hnb2 : b ∉ blk p2 := fun h => by rcases hfr b h with h | h; exact hnb h; omega
 have hF3 : Frm [b] w2 (w2.setCell ⟨b, 1, none⟩ (.slice p2 xs.length c2)) := (Frm.refl _ _).setCell _ _ (by simp)
 refine ⟨b :: blk p2, ⟨p2, c2, ?_, ho.kept hF3 (by rw [own_blk]; intro k hk; simp; rintro rfl; exact hnb2 hk), rfl, hnb2⟩, ?_, ?_⟩
 ·rw [heap_setCell_same w2 b 1 _ _ _ g]; rfl
 ·exact ((hF.mono (T := b :: blk p) (by simp)).trans hF2 (by intro i hi _; simp [hi])).trans hF3 (by simp)
 ·intro k hk
  simp at hk ⊢
  rcases hk with rfl | hk
  ·exact Or.inl (Or.inl rfl)
  ·rcases hfr k hk with h | h
   ·exact Or.inl (Or.inr h)
   ·exact Or.inr (Nat.le_trans hF.size h)
section
variable (b : Nat) (fp : List Nat) (room err : Int) (zs ns : List Int) (ev : Int) (f : FuncId) (cap : Array Value) (w : World)
theorem lay_stop (fn : Fn) (hw : IsW w b fp room zs err) (he : err ≠ 0) :
  Calls Tryz.prog 71 #[.pointer (some ⟨b, 0, none⟩), .func fn #[] cap] w fun e w' => e = .returned (.tuple #[]) ∧ NowW w b fp room zs err w' := by
 obtain ⟨p, c, _, _, _, _, c0, c1, c2, f1, f2, _⟩ := hw.cells
 have HE : Hid (err ≠ 0) := he
 have HW : Hid (IsW w b fp room zs err) := hw
 have hb : (err != 0) = true := by simpa using he
 clear he hw
 go_enter Tryz.func71, Tryz.ntmps71
 go_wp2_with fail
 go_returns
 exact ⟨rfl, NowW.same HW.out (Frm.refl _ _)⟩
theorem lay_err (hw : IsW w b fp room zs 0) (he : ev ≠ 0) (hcf : ∀ w, Sem.run Tryz.prog (callFunc f cap) w = .ok (.enter f cap) w)
  (hform : Calls Tryz.prog f cap w (Gives ns ev w)) :
  Calls Tryz.prog 71 #[.pointer (some ⟨b, 0, none⟩), .func (.func f) #[] cap] w fun e w' => e = .returned (.tuple #[]) ∧ NowW w b fp room zs ev w' := by
 obtain ⟨p, c, hlt, _, _, _, c0, c1, c2, f1, f2, _⟩ := hw.cells
 have HW : Hid (IsW w b fp room zs 0) := hw
 have hb : (ev != 0) = true := by simpa using he
 have hb2 : (ev == 0) = false := by simpa using he
 clear hw he
 go_enter Tryz.func71, Tryz.ntmps71
 go_wp2_with fail
 refine hform.mono ?_
 rintro e w1 ⟨p', n', c', rfl, hF, _⟩
 have k0 := (hF.cell (p := ⟨b, 0, none⟩) hlt (by simp)).trans c0
 have k1 := (hF.cell (p := ⟨b, 1, none⟩) hlt (by simp)).trans c1
 have k2 := (hF.cell (p := ⟨b, 2, none⟩) hlt (by simp)).trans c2
 have q2 := (hF.frozen (p := ⟨b, 2, none⟩) hlt (by simp)).trans f2
 go_wp2_with fail
 go_quiet (fail)
 go_wp2_with fail
 go_returns
 exact ⟨rfl, NowW.err HW.out (hF.drewN nq) ev⟩
theorem lay_full (hw : IsW w b fp room zs 0) (_hr0 : 0 ≤ room) (_hr1 : room ≤ 2147483647) (hz : (zs.length : Int) ≤ room) (hfull : room - zs.length < ns.length) (hm : ns.length ≤ 140737488355328) (hcf : ∀ w, Sem.run Tryz.prog (callFunc f cap) w = .ok (.enter f cap) w)
  (hform : Calls Tryz.prog f cap w (Gives ns 0 w)) :
  Calls Tryz.prog 71 #[.pointer (some ⟨b, 0, none⟩), .func (.func f) #[] cap] w fun e w' => e = .returned (.tuple #[]) ∧ NowW w b fp room zs 12 w' := by
 obtain ⟨p, c, hlt, _, _, _, c0, c1, c2, f1, f2, _⟩ := hw.cells
 have HW : Hid (IsW w b fp room zs 0) := hw
 clear hw
 go_enter Tryz.func71, Tryz.ntmps71
 go_wp2_with fail
 refine hform.mono ?_
 rintro e w1 ⟨p', n', c', rfl, hF, hG⟩
 obtain ⟨rfl, _, _⟩ := hG rfl
 have k0 := (hF.cell (p := ⟨b, 0, none⟩) hlt (by simp)).trans c0
 have k1 := (hF.cell (p := ⟨b, 1, none⟩) hlt (by simp)).trans c1
 have k2 := (hF.cell (p := ⟨b, 2, none⟩) hlt (by simp)).trans c2
 have q2 := (hF.frozen (p := ⟨b, 2, none⟩) hlt (by simp)).trans f2
 clear hG
 go_wp2_with fail
 go_quiet (fail)
 go_wp2_with fail
 go_returns
 exact ⟨rfl, NowW.err HW.out (hF.drewN nq) 12⟩
theorem lay_ok (hw : IsW w b fp room zs 0) (hr0 : 0 ≤ room) (hr1 : room ≤ 2147483647) (hz : (zs.length : Int) ≤ room) (hfull : ns.length ≤ room - zs.length) (hcf : ∀ w, Sem.run Tryz.prog (callFunc f cap) w = .ok (.enter f cap) w)
  (hform : Calls Tryz.prog f cap w (Gives ns 0 w)) :
  Calls Tryz.prog 71 #[.pointer (some ⟨b, 0, none⟩), .func (.func f) #[] cap] w fun e w' => e = .returned (.tuple #[]) ∧ NowW w b fp room (zs ++ ns) 0 w' := by
 obtain ⟨p, c, hlt, hfp, hnb, hown, c0, c1, c2, f1, f2, hh⟩ := hw.cells
 have HF : Hid (fp = b :: blk p) := hfp
 clear hw hfp
 go_enter Tryz.func71, Tryz.ntmps71
 go_wp2_with fail
 refine hform.mono ?_
 rintro e w1 ⟨p', n', c', rfl, hF, hG⟩
 obtain ⟨rfl, hpc, hrd⟩ := hG rfl
 have k0 := (hF.cell (p := ⟨b, 0, none⟩) hlt (by simp)).trans c0
 have k1 := (hF.cell (p := ⟨b, 1, none⟩) hlt (by simp)).trans c1
 have k2 := (hF.cell (p := ⟨b, 2, none⟩) hlt (by simp)).trans c2
 have hown1 := hown.kept hF (by simp)
 have hlt1 := Nat.lt_of_lt_of_le hlt hF.size
 clear hG
 go_wp2_with fail
 go_quiet (fail)
 have HP : Hid (ns = [] → p' = none → c' = 0) := hpc
 clear hpc
 go_wp2_with (at_builtin; refine wpList_appB rfl _ _ 24 rfl 5 Tryz.underlying24 infoE p _ c zs rfl rfl (hown1.kept ((Frm.refl [] _).drewN nq) (by simp)) p' ns.length c' ns rfl rfl HP.out (hrd.drewN nq) (by omega) ?_)
 intro xs p2 c2' w2 hxs ho hF2 hfresh
 have m1 := (hF2.out.cell (p := ⟨b, 1, none⟩) hlt1 hnb).trans k1
 have q1 := (hF2.out.frozen (p := ⟨b, 1, none⟩) hlt1 hnb).trans ((hF.frozen (p := ⟨b, 1, none⟩) hlt (by simp)).trans f1)
 have HR := hid (NowW.app hh.out HF.out hnb (hF.drewN nq) ho.out hF2.out hfresh.out)
 go_wp2_with fail
 go_returns
 have := HR.out
 rw [hxs.out] at this
 exact ⟨rfl, by rw [hxs.out]; exact this⟩
end
def stepW (room : Int) (s : List Int × Int) (g : List Int × Int) : List Int × Int :=
 if s.2 ≠ 0 then s else if g.2 ≠ 0 then (s.1, g.2) else if room - s.1.length < g.1.length then (s.1, 12) else (s.1 ++ g.1, 0)
theorem lay_any (b : Nat) (fp : List Nat) (room : Int) (s g : List Int × Int) (f : FuncId) (cap : Array Value) (w : World) (hw : IsW w b fp room s.1 s.2) (hr0 : 0 ≤ room) (hr1 : room ≤ 2147483647) (hz : (s.1.length : Int) ≤ room) (hm : g.1.length ≤ 140737488355328)
  (hcf : ∀ w, Sem.run Tryz.prog (callFunc f cap) w = .ok (.enter f cap) w) (hform : Calls Tryz.prog f cap w (Gives g.1 g.2 w)) :
  Calls Tryz.prog 71 #[.pointer (some ⟨b, 0, none⟩), .func (.func f) #[] cap] w fun e w' => e = .returned (.tuple #[]) ∧ NowW w b fp room (stepW room s g).1 (stepW room s g).2 w' := by
 obtain ⟨zs, err⟩ := s
 obtain ⟨ns, ev⟩ := g
 unfold stepW
 by_cases he : err = 0
 ·subst he
  by_cases hev : ev = 0
  ·subst hev
   by_cases hf : room - zs.length < ns.length
   ·simp only [ne_eq, not_true, if_false, if_pos hf]
    exact lay_full b fp room zs ns f cap w hw hr0 hr1 hz hf hm hcf hform
   ·simp only [ne_eq, not_true, if_false, if_neg hf]
    exact lay_ok b fp room zs ns f cap w hw hr0 hr1 hz (by omega) hcf hform
  ·simp only [ne_eq, not_true, if_false, hev, not_false_eq_true, if_true]
   exact lay_err b fp room zs ns ev f cap w hw hev hcf hform
 ·simp only [ne_eq, he, not_false_eq_true, if_true]
  exact lay_stop b fp room err zs cap w (.func f) hw he
theorem NowW.after {w w0 w' : World} {b : Nat} {fp : List Nat} {room err : Int} {zs : List Int} (hf : Frm [] w w0) (h : NowW w0 b fp room zs err w') : NowW w b fp room zs err w' := by
 obtain ⟨fp', h1, h2, h3⟩ := h
 exact ⟨fp', h1, (hf.mono (by simp)).trans h2 (fun i hi _ => hi), fun k hk => (h3 k hk).imp id (fun h => Nat.le_trans hf.size h)⟩
end
section
open Go.RowKit
def numF (n k : Int) : List Int × Int := if k < 1 ∨ 8 < k then ([], 1) else if k < 8 ∧ n / 2 ^ (8 * k.toNat) ≠ 0 then ([], 11) else (le n k.toNat, 0)
theorem callable {P : Program} {f : FuncId} {fn : Func} (h : P.funcs[f]? = some fn) (h1 : (fn.name == "runtime.NumGoroutine") = false) (h2 : fn.body.isNone = false) (cap : Array Value) (w : World) : Sem.run P (callFunc f cap) w = .ok (.enter f cap) w := by
 have e1 : ¬ (fn.name = "runtime.NumGoroutine") := by simpa using h1
 have e2 : ¬ fn.body = none := by intro h; simp [h] at h2
 simp [callFunc, h, e1, e2]
theorem gives_err {w w1 : World} {p : Option Addr} {n c : Nat} {ev : Int} (hf : Frm [] w w1) (hne : ev ≠ 0) : Gives [] ev w (.returned (.tuple #[.slice p n c, .int .i64 ev])) w1 := ⟨p, n, c, rfl, hf, fun h => absurd h hne⟩
theorem gives_ok {w w1 : World} {p : Option Addr} {n c : Nat} {ns : List Int} (hf : Frm [] w w1) (hn : n = ns.length) (hc : ns = [] → p = none → c = 0) (hrd : Rd w1 p ns) : Gives ns 0 w (.returned (.tuple #[.slice p n c, .int .i64 0])) w1 := ⟨p, n, c, rfl, hf, fun _ => ⟨hn, hc, hrd⟩⟩
theorem num1_any (x y : Nat) (n k : Int) (hn : 0 ≤ n) (hn2 : n < 18446744073709551616) (hk : -9223372036854775808 ≤ k) (hk2 : k ≤ 9223372036854775807) (w : World) (hx : w.cell? ⟨x, 0, none⟩ = some (.int .i64 k)) (hy : w.cell? ⟨y, 0, none⟩ = some (.int .u64 n)) :
  Calls Tryz.prog 72 #[.pointer (some ⟨x, 0, none⟩), .pointer (some ⟨y, 0, none⟩)] w (Gives (numF n k).1 (numF n k).2 w) := by
 by_cases h1 : k < 1 ∨ 8 < k
 ·rw [show numF n k = ([], 1) by simp [numF, h1]]
  by_cases h2 : k < 1
  ·go_enter Tryz.func72, Tryz.ntmps72
   go_wp2_with fail
   go_returns
   exact gives_err (Frm.refl _ _) (by decide)
  ·go_enter Tryz.func72, Tryz.ntmps72
   go_wp2_with fail
   go_returns
   exact gives_err (Frm.refl _ _) (by decide)
 ·obtain ⟨j, rfl⟩ : ∃ j : Nat, k = (j : Int) := ⟨k.toNat, by omega⟩
  have hj1 : 1 ≤ j := by omega
  have hj8 : j ≤ 8 := by omega
  have HN := hid (number_any n j hn hn2 hj8)
  clear hk hk2
  have hfin : ∀ w1 : World, w1.heap[w.heap.size]? = some (.cells (bv (le n j)).toArray 5 (0, 0)) → Frm [] w w1 → Gives (le n j) 0 w (.returned (.tuple #[.slice (some ⟨w.heap.size, 0, none⟩) j j, .int .i64 0])) w1 := by
   intro w1 hb hf
   have ho := own_of_block (zs := le n j) hb (by rw [le_length]; unfold maxLen; omega)
   exact gives_ok hf (le_length n j).symm (by simp) ho.rd
  have HFIN := hid hfin
  clear hfin
  by_cases h2 : j < 8
  ·by_cases h3 : n / 2 ^ (8 * j) = 0
   ·rw [show numF n j = (le n j, 0) by simp [numF, h1, h3]]
    have H3 : (n / 2 ^ (8 * j) != 0) = false := by simp [h3]
    have H4 : (n / 2 ^ (8 * j) == 0) = true := by simp [h3]
    clear h1 h3
    go_enter Tryz.func72, Tryz.ntmps72
    go_wp2_with fail
    refine (HN.out _).mono ?_
    rintro e w1 ⟨rfl, hb, hf⟩
    have HB := hid hb
    clear hb
    go_wp2_with fail
    go_returns
    exact HFIN.out w1 HB.out hf
   ·rw [show numF n j = ([], 11) by simp [numF, h1, h3]; omega]
    have H3 : (n / 2 ^ (8 * j) != 0) = true := by simp [h3]
    have H4 : (n / 2 ^ (8 * j) == 0) = false := by simp [h3]
    clear h1 h3
    go_enter Tryz.func72, Tryz.ntmps72
    go_wp2_with fail
    go_returns
    exact gives_err (Frm.refl _ _) (by decide)
  ·rw [show numF n j = (le n j, 0) by simp [numF, h1]; omega]
   clear h1
   go_enter Tryz.func72, Tryz.ntmps72
   go_wp2_with fail
   refine (HN.out _).mono ?_
   rintro e w1 ⟨rfl, hb, hf⟩
   have HB := hid hb
   clear hb
   go_wp2_with fail
   go_returns
   exact HFIN.out w1 HB.out hf
theorem num_any (b : Nat) (fp : List Nat) (room : Int) (s : List Int × Int) (n k : Int) (w : World) (hw : IsW w b fp room s.1 s.2) (hr0 : 0 ≤ room) (hr1 : room ≤ 2147483647) (hz : (s.1.length : Int) ≤ room)
  (hn : 0 ≤ n) (hn2 : n < 18446744073709551616) (hk : -9223372036854775808 ≤ k) (hk2 : k ≤ 9223372036854775807) :
  Calls Tryz.prog 27 #[.pointer (some ⟨b, 0, none⟩), .int .u64 n, .int .i64 k] w fun e w' => e = .returned (.tuple #[]) ∧ NowW w b fp room (stepW room s (numF n k)).1 (stepW room s (numF n k)).2 w' := by
 have hl : (numF n k).1.length ≤ 140737488355328 := by unfold numF; split; simp; split; simp; simp only [le_length]; omega
 have HW := hid hw
 go_enter Tryz.func27, Tryz.ntmps27
 go_wp2_with fail
 have hF : Frm [] w ((w.alloc (Obj.cells #[Value.int IntKind.u64 n] 27)).alloc (Obj.cells #[Value.int IntKind.i64 k] 3)) := ((Frm.refl _ _).alloc _).alloc _
 refine (lay_any b fp room s (numF n k) 72 _ _ (HW.out.kept hF (by simp)) hr0 hr1 hz hl (callable Tryz.func72 (by kernel_rfl) (by kernel_rfl) _) (num1_any _ _ n k hn hn2 hk hk2 _ (by simp) (by simp))).mono ?_
 rintro e w' ⟨rfl, hq⟩
 have HQ := hid (hq.after hF)
 clear hq
 go_wp2_with fail
 go_returns
 exact ⟨rfl, HQ.out⟩
theorem bytes1_any (x : Nat) (p : Option Addr) (ns : List Int) (c : Nat) (w : World) (hx : w.cell? ⟨x, 0, none⟩ = some (.slice p ns.length c)) (hc : ns = [] → p = none → c = 0) (hrd : Rd w p ns) :
  Calls Tryz.prog 74 #[.pointer (some ⟨x, 0, none⟩)] w (Gives ns 0 w) := by
 have HC := hid hc
 clear hc
 go_enter Tryz.func74, Tryz.ntmps74
 go_wp2_with fail
 go_returns
 exact gives_ok (Frm.refl _ _) rfl HC.out hrd
theorem bytes_any (b : Nat) (fp : List Nat) (room : Int) (s : List Int × Int) (p : Option Addr) (ns : List Int) (c : Nat) (w : World) (hw : IsW w b fp room s.1 s.2) (hr0 : 0 ≤ room) (hr1 : room ≤ 2147483647) (hz : (s.1.length : Int) ≤ room)
  (hl : ns.length ≤ 140737488355328) (hc : ns = [] → p = none → c = 0) (hrd : Rd w p ns) :
  Calls Tryz.prog 28 #[.pointer (some ⟨b, 0, none⟩), .slice p ns.length c] w fun e w' => e = .returned (.tuple #[]) ∧ NowW w b fp room (stepW room s (ns, 0)).1 (stepW room s (ns, 0)).2 w' := by
 have HW := hid hw
 have HC := hid hc
 clear hc
 go_enter Tryz.func28, Tryz.ntmps28
 go_wp2_with fail
 have hF : Frm [] w (w.alloc (Obj.cells #[Value.slice p ns.length c] 24)) := (Frm.refl _ _).alloc _
 refine (lay_any b fp room s (ns, 0) 74 _ _ (HW.out.kept hF (by simp)) hr0 hr1 hz hl (callable Tryz.func74 (by kernel_rfl) (by kernel_rfl) _) (bytes1_any _ p ns c _ (by simp) HC.out (hrd.alloc _))).mono ?_
 rintro e w' ⟨rfl, hq⟩
 have HQ := hid (hq.after hF)
 clear hq
 go_wp2_with fail
 go_returns
 exact ⟨rfl, HQ.out⟩
def textF (s : ByteArray) : List Int × Int := if 65535 < s.size then ([], 11) else (le s.size 2 ++ tx s, 0)
theorem text1_any (x : Nat) (s : ByteArray) (hs : s.size ≤ maxLen) (w : World) (hx : w.cell? ⟨x, 0, none⟩ = some (.string s)) :
  Calls Tryz.prog 112 #[.pointer (some ⟨x, 0, none⟩)] w (Gives (textF s).1 (textF s).2 w) := by
 unfold maxLen at hs
 by_cases h1 : 65535 < s.size
 ·rw [show textF s = ([], 11) by simp [textF, h1]]
  go_enter Tryz.func112, Tryz.ntmps112
  go_wp2_with fail
  go_returns
  exact gives_err (Frm.refl _ _) (by decide)
 ·rw [show textF s = (le s.size 2 ++ tx s, 0) by simp [textF, h1]]
  have hxl := World.block_lt_of_cell? w _ hx
  have hsz : s.size ≤ 65535 := by omega
  have HL := le_length (s.size : Int) 2
  have HM : (le (s.size : Int) 2).length ≤ maxLen := by rw [HL]; unfold maxLen; omega
  have HS : (le (s.size : Int) 2).length + s.size ≤ 140737488355328 := by rw [HL]; omega
  have HC : Hid (∀ w : World, Calls Tryz.prog 73 #[.int .u64 (IntKind.u64.wrap (s.size : Int)), .int .i64 2] w fun e w' => e = .returned (.slice (some ⟨w.heap.size, 0, none⟩) 2 2) ∧ w'.heap[w.heap.size]? = some (.cells (bv (le s.size 2)).toArray 5 (0, 0)) ∧ Frm [] w w') := by
   rw [IntWalk.u64_in _ (by omega)]
   exact number_any (s.size : Int) 2 (by omega) (by omega) (by omega)
  go_enter Tryz.func112, Tryz.ntmps112
  go_wp2_with fail
  go_region_held3 (fun w' => w'.cell? ⟨x, 0, none⟩ = some (.string s)) (first | go_keep | (exact q1) | (exact (hF2.out.cell (p := ⟨x, 0, none⟩) z1 z2).trans q1))
   (first | ((go_at_call 73; (with_reducible refine (HC.out _).mono ?_); rintro e w1 ⟨rfl, hb, hf⟩; replace hb := hid hb; have q1 := (hf.cell (p := ⟨x, 0, none⟩) hxl List.not_mem_nil).trans hx; have z1 := Nat.lt_of_lt_of_le hxl hf.size; have z2 : x ∉ blk (some (⟨w.heap.size, 0, none⟩ : Addr)) := fun h => Nat.ne_of_lt hxl (List.mem_singleton.1 h))) | ((refine step_appS (by rfl) _ _ 24 9 (by rfl) 5 Tryz.underlying24 Tryz.underlying9 infoE _ _ _ (le s.size 2) (by rfl) HL.symm (own_of_block' hb.out HM HL) s (by rfl) HS ?_; intro xs p2 c2 w2 hxs ho hF2 hfr)))
  go_wp2_with fail
  go_returns
  have hff : Frm [] w w1 := ((Frm.refl [] w).drew).trans hf (by simp)
  obtain ⟨p3, c3, he, _, hn, _⟩ := ho.out.shape
  simp only [Value.slice.injEq, true_and] at he
  obtain ⟨rfl, rfl⟩ := he
  rw [← hxs.out]
  exact gives_ok (hff.trans hF2.out (fun i hi hlt => absurd (List.mem_singleton.1 hi) (Nat.ne_of_lt hlt))) rfl (fun _ h => (hn h).2) ho.out.rd
theorem text_any (b : Nat) (fp : List Nat) (room : Int) (s : List Int × Int) (t : ByteArray) (w : World) (hw : IsW w b fp room s.1 s.2) (hr0 : 0 ≤ room) (hr1 : room ≤ 2147483647) (hz : (s.1.length : Int) ≤ room) (ht : t.size ≤ maxLen) :
  Calls Tryz.prog 92 #[.pointer (some ⟨b, 0, none⟩), .string t] w fun e w' => e = .returned (.tuple #[]) ∧ NowW w b fp room (stepW room s (textF t)).1 (stepW room s (textF t)).2 w' := by
 have hl : (textF t).1.length ≤ 140737488355328 := by unfold textF; split; simp; simp only [List.length_append, le_length, tx_length]; omega
 have HW := hid hw
 go_enter Tryz.func92, Tryz.ntmps92
 go_wp2_with fail
 have hF : Frm [] w (w.alloc (Obj.cells #[Value.string t] 9)) := (Frm.refl _ _).alloc _
 refine (lay_any b fp room s (textF t) 112 _ _ (HW.out.kept hF (by simp)) hr0 hr1 hz hl (callable Tryz.func112 (by kernel_rfl) (by kernel_rfl) _) (text1_any _ t ht _ (by simp))).mono ?_
 rintro e w' ⟨rfl, hq⟩
 have HQ := hid (hq.after hF)
 clear hq
 go_wp2_with fail
 go_returns
 exact ⟨rfl, HQ.out⟩
theorem doneW_ok (b : Nat) (fp : List Nat) (room : Int) (zs : List Int) (w : World) (hw : IsW w b fp room zs 0) (hr1 : room ≤ 2147483647) (hz : (zs.length : Int) ≤ room) :
  Calls Tryz.prog 26 #[.pointer (some ⟨b, 0, none⟩)] w fun e w' => ∃ g, e = .returned (.tuple #[.slice (some ⟨g, 0, none⟩) zs.length zs.length, .int .i64 0]) ∧ w'.heap[g]? = some (.cells (bv zs).toArray 5 (0, 0)) ∧ Frm [] w w' ∧ w.heap.size ≤ g := by
 obtain ⟨p, c, hlt, hfp, hnb, hown, c0, c1, c2, f1, f2, hh⟩ := hw.cells
 have hmk := run_make_row' (P := Tryz.prog) 24 5 (.int .u8 0) 1 Tryz.underlying24 infoE rfl .i64 .i64 zs.length (by omega) (by omega)
 clear hw hfp hnb hh
 go_enter Tryz.func26, Tryz.ntmps26
 go_wp2_with (refine wpList_copyB rfl _ _ 24 rfl 5 Tryz.underlying24 infoE w.heap.size zs.length zs.length _ rfl (heap_alloc_new _ _) (size_madeCells _ _) p zs.length c zs rfl rfl (hown.rd.alloc _) (Nat.le_refl _) ?_)
 intro w' hb hf
 go_wp2_with fail
 go_returns
 refine ⟨w.heap.size, rfl, ?_, ?_, Nat.le_refl _⟩
 ·simpa using hb
 ·exact ((Frm.refl [] w).alloc _).trans hf (by simp)
end
section
open Go.RowKit
def IsR (w : World) (b g : Nat) (bs : List Int) (pos : Nat) (err : Int) : Prop :=
 w.heap[b]? = some (.cells #[.slice (some ⟨g, 0, none⟩) bs.length bs.length, .int .i64 pos, .int .i64 err] 101 (0, 0)) ∧ w.heap[g]? = some (.cells (bv bs).toArray 5 (0, 0)) ∧ b ≠ g ∧ pos ≤ bs.length ∧ bs.length ≤ 140737488355328
theorem IsR.kept {w w' : World} {b g pos : Nat} {S : List Nat} {err : Int} {bs : List Int} (h : IsR w b g bs pos err) (hf : Frm S w w') (hb : b ∉ S) (hg : g ∉ S) : IsR w' b g bs pos err :=
 ⟨hf.heap h.1 hb, hf.heap h.2.1 hg, h.2.2⟩
theorem IsR.cells {w : World} {b g pos : Nat} {err : Int} {bs : List Int} (h : IsR w b g bs pos err) : b < w.heap.size ∧ g < w.heap.size ∧ b ≠ g ∧ pos ≤ bs.length ∧ bs.length ≤ 140737488355328 ∧
  w.cell? ⟨b, 0, none⟩ = some (.slice (some ⟨g, 0, none⟩) bs.length bs.length) ∧ w.cell? ⟨b, 1, none⟩ = some (.int .i64 pos) ∧ w.cell? ⟨b, 2, none⟩ = some (.int .i64 err) ∧
  w.frozen? ⟨b, 1, none⟩ = false ∧ w.frozen? ⟨b, 2, none⟩ = false ∧ Rd w (some ⟨g, 0, none⟩) bs := by
 obtain ⟨h1, h2, h3, h4, h5⟩ := h
 exact ⟨lt_of_heap h1, lt_of_heap h2, h3, h4, h5, by rw [cell_of_row w _ _ _ _ _ h1]; rfl, by rw [cell_of_row w _ _ _ _ _ h1]; rfl, by rw [cell_of_row w _ _ _ _ _ h1]; rfl, fZ 1 h1, fZ 2 h1,
  (own_of_block (E := 5) h2 (by unfold maxLen; omega)).rd⟩
theorem newReader_any (p : Option Addr) (c : Nat) (bs : List Int) (w : World) (hrd : Rd w p bs) (hl : bs.length ≤ 140737488355328) :
  Calls Tryz.prog 41 #[.slice p bs.length c] w fun e w' => ∃ b g, e = .returned (.pointer (some ⟨b, 0, none⟩)) ∧ IsR w' b g bs 0 0 ∧ Frm [] w w' ∧ w.heap.size ≤ b ∧ w.heap.size ≤ g := by
 have hmk := run_make_row' (P := Tryz.prog) 24 5 (.int .u8 0) 1 Tryz.underlying24 infoE rfl .i64 .i64 bs.length (by omega) (by omega)
 go_enter Tryz.func41, Tryz.ntmps41
 go_wp2_with (refine wpList_copyB rfl _ _ 24 rfl 5 Tryz.underlying24 infoE w.heap.size bs.length bs.length _ rfl (heap_alloc_new _ _) (size_madeCells _ _) p bs.length c bs rfl rfl (hrd.alloc _) (Nat.le_refl _) ?_)
 intro w' hb hf
 have HB := hid hb
 clear hb
 go_wp2_with fail
 go_returns
 have hl1 : w.heap.size < w'.heap.size := lt_of_heap HB.out
 have hF : Frm [] w w' := ((Frm.refl [] w).alloc _).trans hf (by simp)
 refine ⟨w'.heap.size, w.heap.size, rfl, ⟨heap_alloc_new _ _, ?_, by omega, Nat.zero_le _, hl⟩, hF.alloc _, hF.size, Nat.le_refl _⟩
 rw [Below.heap_alloc _ _ _ hl1]
 exact HB.out
theorem IsR.setPos {w : World} {b g pos : Nat} {err : Int} {bs : List Int} (h : IsR w b g bs pos err) {n : Nat} (hn : n ≤ bs.length) : IsR (w.setCell ⟨b, 1, none⟩ (.int .i64 n)) b g bs n err := by
 obtain ⟨h1, h2, h3, h4, h5⟩ := h
 refine ⟨?_, by rw [heap_setCell_other _ _ _ _ (Ne.symm h3)]; exact h2, h3, hn, h5⟩
 rw [heap_setCell_same w b 1 _ _ _ h1]; rfl
theorem IsR.setErr {w : World} {b g pos : Nat} {err : Int} {bs : List Int} (h : IsR w b g bs pos err) (ev : Int) : IsR (w.setCell ⟨b, 2, none⟩ (.int .i64 ev)) b g bs pos ev := by
 obtain ⟨h1, h2, h3, h4, h5⟩ := h
 refine ⟨?_, by rw [heap_setCell_other _ _ _ _ (Ne.symm h3)]; exact h2, h3, h4, h5⟩
 rw [heap_setCell_same w b 2 _ _ _ h1]; rfl
def GivesR (n : Nat) (ev : Int) (S : List Nat) (R : World → Prop) (w : World) (e : Ending) (w1 : World) : Prop := e = .returned (.tuple #[.int .i64 n, .int .i64 ev]) ∧ R w1 ∧ Frm S w w1
section
variable (b g pos n : Nat) (err ev : Int) (bs : List Int) (S : List Nat) (R : World → Prop) (f : FuncId) (cap : Array Value) (w : World)
theorem take_stop (fn : Fn) (hw : IsR w b g bs pos err) (he : err ≠ 0) :
  Calls Tryz.prog 86 #[.pointer (some ⟨b, 0, none⟩), .func fn #[] cap] w fun e w' => e = .returned (.tuple #[]) ∧ w = w' := by
 obtain ⟨hlt, hlg, hbg, hpos, hlen, c0, c1, c2, f1, f2, hrd⟩ := hw.cells
 have hb : (err != 0) = true := by simpa using he
 clear he hw hrd
 go_enter Tryz.func86, Tryz.ntmps86
 go_wp2_with fail
 go_returns
 exact ⟨rfl, rfl⟩
def TakeQ (b g pos n : Nat) (ev : Int) (bs : List Int) (S : List Nat) (R : World → Prop) (w : World) (w' : World) : Prop :=
 ∃ w1, R w1 ∧ Frm S w w1 ∧ Frm [b] w1 w' ∧ IsR w' b g bs (if ev = 0 then pos + n else pos) ev
theorem takeQ_ok {b g pos n : Nat} {bs : List Int} {S : List Nat} {R : World → Prop} {w w1 : World} (hw : IsR w b g bs pos 0) (hbS : b ∉ S) (hgS : g ∉ S) (hn : pos + n ≤ bs.length) (hR : R w1) (hS : Frm S w.drew w1) {k : Int} (hk : k = ((pos + n : Nat) : Int)) :
  TakeQ b g pos n 0 bs S R w (w1.setCell ⟨b, 1, none⟩ (.int .i64 k)) := by
 subst hk
 have hS' : Frm S w w1 := ((Frm.refl S w).drew).trans hS (fun i hi _ => hi)
 exact ⟨w1, hR, hS', (Frm.refl _ _).setCell _ _ (by simp), by rw [if_pos rfl]; exact (hw.kept hS' hbS hgS).setPos hn⟩
theorem takeQ_err {b g pos n : Nat} {ev : Int} {bs : List Int} {S : List Nat} {R : World → Prop} {w w1 : World} (hw : IsR w b g bs pos 0) (hbS : b ∉ S) (hgS : g ∉ S) (he : ev ≠ 0) (hR : R w1) (hS : Frm S w.drew w1) :
  TakeQ b g pos n ev bs S R w (w1.setCell ⟨b, 2, none⟩ (.int .i64 ev)) := by
 have hS' : Frm S w w1 := ((Frm.refl S w).drew).trans hS (fun i hi _ => hi)
 exact ⟨w1, hR, hS', (Frm.refl _ _).setCell _ _ (by simp), by rw [if_neg he]; exact (hw.kept hS' hbS hgS).setErr ev⟩
theorem take_end (hw : IsR w b g bs pos 0) (hc : pos = bs.length) (hbS : b ∉ S) (hgS : g ∉ S) (hn : ev = 0 → pos + n ≤ bs.length) (hcf : ∀ (l : Value) (w : World), Sem.run Tryz.prog (callFunc f (#[l] ++ cap)) w = .ok (.enter f (#[l] ++ cap)) w)
  (hform : Calls Tryz.prog f (#[.slice (some ⟨g, 0, none⟩) 0 0] ++ cap) w.drew (GivesR n ev S R w.drew)) :
  Calls Tryz.prog 86 #[.pointer (some ⟨b, 0, none⟩), .func (.func f) #[] cap] w fun e w' => e = .returned (.tuple #[]) ∧ TakeQ b g pos n ev bs S R w w' := by
 obtain ⟨hlt, hlg, hbg, hpos, hlen, c0, c1, c2, f1, f2, _⟩ := hw.cells
 have HW := hid hw
 have HN := hid hn
 have HF := hid hform
 clear hw hn hform
 subst hc
 by_cases he : ev = 0
 ·subst he
  have hn0 := HN.out rfl
  go_enter Tryz.func86, Tryz.ntmps86
  go_wp2_with fail
  go_region_with (((with_reducible refine HF.out.mono ?_); rintro e w1 ⟨rfl, hR, hS⟩))
  all_goals
   have k1 := (hS.cell (p := ⟨b, 1, none⟩) hlt hbS).trans c1
   have q1 := (hS.frozen (p := ⟨b, 1, none⟩) hlt hbS).trans f1
   go_wp2_with fail
   go_returns
   exact ⟨rfl, takeQ_ok HW.out hbS hgS hn0 hR hS (by omega)⟩
 ·have HE : Hid (ev ≠ 0) := he
  have hb : (ev != 0) = true := by simpa using he
  clear he
  go_enter Tryz.func86, Tryz.ntmps86
  go_wp2_with fail
  go_region_with (((with_reducible refine HF.out.mono ?_); rintro e w1 ⟨rfl, hR, hS⟩))
  all_goals
   have k1 := (hS.cell (p := ⟨b, 2, none⟩) hlt hbS).trans c2
   have q1 := (hS.frozen (p := ⟨b, 2, none⟩) hlt hbS).trans f2
   go_wp2_with fail
   go_returns
   exact ⟨rfl, takeQ_err HW.out hbS hgS HE.out hR hS⟩
theorem take_mid (hw : IsR w b g bs pos 0) (hc : pos < bs.length) (hbS : b ∉ S) (hgS : g ∉ S) (hn : ev = 0 → pos + n ≤ bs.length) (hcf : ∀ (l : Value) (w : World), Sem.run Tryz.prog (callFunc f (#[l] ++ cap)) w = .ok (.enter f (#[l] ++ cap)) w)
  (hform : Calls Tryz.prog f (#[.slice (some ⟨g, pos, none⟩) (bs.length - pos) (bs.length - pos)] ++ cap) w.drew (GivesR n ev S R w.drew)) :
  Calls Tryz.prog 86 #[.pointer (some ⟨b, 0, none⟩), .func (.func f) #[] cap] w fun e w' => e = .returned (.tuple #[]) ∧ TakeQ b g pos n ev bs S R w w' := by
 obtain ⟨hlt, hlg, hbg, hpos, hlen, c0, c1, c2, f1, f2, _⟩ := hw.cells
 have HW := hid hw
 have HN := hid hn
 have HF := hid hform
 clear hw hn hform
 have hc1 : ¬ bs.length = pos := by omega
 have hc2 : (pos : Int) ≤ (bs.length : Int) := by omega
 have hc3 : (0 : Int) ≤ (pos : Int) := by omega
 by_cases he : ev = 0
 ·subst he
  have hn0 := HN.out rfl
  go_enter Tryz.func86, Tryz.ntmps86
  go_wp2_with fail
  go_region_with (((with_reducible refine HF.out.mono ?_); rintro e w1 ⟨rfl, hR, hS⟩))
  all_goals
   have k1 := (hS.cell (p := ⟨b, 1, none⟩) hlt hbS).trans c1
   have q1 := (hS.frozen (p := ⟨b, 1, none⟩) hlt hbS).trans f1
   go_wp2_with fail
   go_returns
   exact ⟨rfl, takeQ_ok HW.out hbS hgS hn0 hR hS (by omega)⟩
 ·have HE : Hid (ev ≠ 0) := he
  have hb : (ev != 0) = true := by simpa using he
  clear he
  go_enter Tryz.func86, Tryz.ntmps86
  go_wp2_with fail
  go_region_with (((with_reducible refine HF.out.mono ?_); rintro e w1 ⟨rfl, hR, hS⟩))
  all_goals
   have k1 := (hS.cell (p := ⟨b, 2, none⟩) hlt hbS).trans c2
   have q1 := (hS.frozen (p := ⟨b, 2, none⟩) hlt hbS).trans f2
   go_wp2_with fail
   go_returns
   exact ⟨rfl, takeQ_err HW.out hbS hgS HE.out hR hS⟩
theorem take_both (hw : IsR w b g bs pos 0) (hbS : b ∉ S) (hgS : g ∉ S) (hn : pos + n ≤ bs.length) (hcf : ∀ (l : Value) (w : World), Sem.run Tryz.prog (callFunc f (#[l] ++ cap)) w = .ok (.enter f (#[l] ++ cap)) w)
  (hform : ∀ o c, (bs.drop pos).length ≤ c ∧ c ≤ 140737488355328 → Rd w.drew (some ⟨g, o, none⟩) (bs.drop pos) → Calls Tryz.prog f (#[.slice (some ⟨g, o, none⟩) (bs.drop pos).length c] ++ cap) w.drew (GivesR n ev S R w.drew)) :
  Calls Tryz.prog 86 #[.pointer (some ⟨b, 0, none⟩), .func (.func f) #[] cap] w fun e w' => e = .returned (.tuple #[]) ∧ TakeQ b g pos n ev bs S R w w' := by
 obtain ⟨_, _, _, hpos, hlen, _, _, _, _, _, hrd⟩ := hw.cells
 by_cases hc : pos = bs.length
 ·have h := hform 0 0 ⟨by simp; omega, by omega⟩ (Or.inl (by simp; omega))
  rw [show (bs.drop pos).length = 0 by simp; omega] at h
  exact take_end b g pos n ev bs S R f cap w hw hc hbS hgS (fun _ => hn) hcf h
 ·have h0 := hrd.drop pos
  rw [Nat.zero_add] at h0
  have h := hform pos (bs.length - pos) ⟨by simp, by omega⟩ h0
  rw [show (bs.drop pos).length = bs.length - pos by simp] at h
  exact take_mid b g pos n ev bs S R f cap w hw (by omega) hbS hgS (fun _ => hn) hcf h
end
end
section
open Go.RowKit
def leV : List Int → Int
 | [] => 0
 | z :: zs => z + 256 * leV zs
theorem leV_snoc (l : List Int) (z : Int) : leV (l ++ [z]) = leV l + z * 2 ^ (8 * l.length) := by
 induction l with
 | nil => simp [leV]
 | cons a l ih =>
  have e : (2 : Int) ^ (8 * (l.length + 1)) = 2 ^ (8 * l.length) * 256 := by rw [Nat.mul_add, Int.pow_add]; rfl
  simp only [List.cons_append, leV, ih, List.length_cons, e]
  generalize (2 : Int) ^ (8 * l.length) = q
  rw [Int.mul_add, ← Int.mul_assoc z q 256, Int.mul_comm (z * q) 256]
  omega
theorem leV_bd (l : List Int) (h : ∀ z ∈ l, 0 ≤ z ∧ z < 256) : 0 ≤ leV l ∧ leV l < 2 ^ (8 * l.length) := by
 induction l with
 | nil => simp [leV]
 | cons a l ih =>
  have e : (2 : Int) ^ (8 * (l.length + 1)) = 2 ^ (8 * l.length) * 256 := by rw [Nat.mul_add, Int.pow_add]; rfl
  have h1 := ih (fun z hz => h z (by simp [hz]))
  have h2 := h a (by simp)
  simp only [leV, List.length_cons, e]
  generalize (2 : Int) ^ (8 * l.length) = q at *
  omega
theorem or_shift (a x : Int) (j : Nat) (hj : j < 8) (h0 : 0 ≤ a) (ha : a < 2 ^ (8 * j)) (hx0 : 0 ≤ x) (hx : x < 256) :
  bits .or .u64 a (IntKind.u64.wrap (x * 2 ^ (8 * j))) = a + x * 2 ^ (8 * j) := by
 obtain ⟨n, rfl⟩ := Int.eq_ofNat_of_zero_le h0
 obtain ⟨y, rfl⟩ := Int.eq_ofNat_of_zero_le hx0
 have hq : (2 : Nat) ^ (8 * j) ≤ 2 ^ 56 := Nat.pow_le_pow_right (by decide) (by omega)
 have ec : ((2 : Int) ^ (8 * j)) = ((2 ^ (8 * j) : Nat) : Int) := by simp
 rw [ec] at ha ⊢
 have hn : n < 2 ^ (8 * j) := by omega
 have hm : y * 2 ^ (8 * j) ≤ 255 * 2 ^ 56 := Nat.mul_le_mul (by omega) hq
 have hp : ((y : Int) * ((2 ^ (8 * j) : Nat) : Int)) = ((y * 2 ^ (8 * j) : Nat) : Int) := by simp
 rw [hp, IntWalk.u64_in _ (by omega), u64_or_nat n _ (by omega) (by omega)]
 have := Nat.two_pow_add_eq_or_of_lt hn y
 rw [Nat.mul_comm y, Nat.or_comm, ← this]
 omega
theorem value_any (p : Option Addr) (c : Nat) (zs : List Int) (hz : ∀ z ∈ zs, 0 ≤ z ∧ z < 256) (hl : zs.length ≤ 8) (w : World) (hrd : Rd w p zs) :
  Calls Tryz.prog 88 #[.slice p zs.length c] w fun e w' => e = .returned (.int .u64 (leV zs)) ∧ Frm [] w w' := by
 go_enter Tryz.func88, Tryz.ntmps88
 go_wp2_with fail
 have HR : Hid (∀ i, i < zs.length → ∃ g o, p = some ⟨g, o, none⟩ ∧ w.cell? ⟨g, o + i, none⟩ = some (.int .u8 (zs.getD i 0))) := by
  intro i hi
  rcases hrd with h | ⟨g, o, h1, h2⟩
  ·subst h; simp at hi
  ·exact ⟨g, o, h1, h2 i hi⟩
 have HZ := hid hz
 clear hrd hz
 go_loopw [3, 8] (fun v i wr => ∃ j : Nat, j ≤ zs.length ∧ i = .int .i64 j ∧ v = .int .u64 (leV (zs.take j)) ∧ Hid (Frm [] w wr)) (fun _ i _ => zs.length - (intOf i).toNat)
 case atStart => exact ⟨0, Nat.zero_le _, rfl, rfl, Frm.refl _ _⟩
 case round =>
  obtain ⟨j, hj, rfl, rfl, hfr⟩ := hrel
  by_cases hlt : j < zs.length
  ·obtain ⟨g, o, rfl, hc⟩ := HR.out j hlt
   have hx := HZ.out (zs.getD j 0) (by simp [List.getD, hlt])
   generalize hzj : zs.getD j 0 = x at hc hx
   have HZJ := hid hzj
   clear hzj
   obtain ⟨hx0, hx1⟩ := hx
   have hc' := (hfr.out.cell (p := ⟨g, o + j, none⟩) (World.block_lt_of_cell? w _ hc) (by simp)).trans hc
   have HB := hid (leV_bd (zs.take j) (fun z hz => HZ.out z (List.mem_of_mem_take hz)))
   go_wp2_with fail
   go_roundw
   case rel =>
    refine ⟨j + 1, by omega, by go_num, ?_, hfr⟩
    have e1 : (zs.take j).length = j := by simp; omega
    have e2 := HB.out
    rw [e1] at e2
    rw [or_shift _ x j (by omega) e2.1 e2.2 hx0 hx1]
    have e3 : zs.take (j + 1) = zs.take j ++ [x] := by
     rw [List.take_succ_eq_append_getElem hlt, ← HZJ.out]; simp [List.getD, hlt]
    rw [e3, leV_snoc, e1]
   case measure => simp [intOf]; omega
  ·obtain rfl : j = zs.length := by omega
   go_wp2_with fail
   go_ret
   exact ⟨congrArg (fun l => Ending.returned (Value.int .u64 (leV l))) List.take_length, hfr.out⟩
end
section
open Go.RowKit
def Holds (y : Nat) (v : Value) (w : World) : Prop := w.cell? ⟨y, 0, none⟩ = some v
theorem holds_set {w : World} {y : Nat} {u : Value} (h : w.cell? ⟨y, 0, none⟩ = some u) (v : Value) : Holds y v (w.setCell ⟨y, 0, none⟩ v) := by
 exact World.cell?_setCell_same _ _ _ h
theorem Holds.kept {w w' : World} {y : Nat} {v : Value} {S : List Nat} (h : Holds y v w) (hf : Frm S w w') (hn : y ∉ S) : w'.cell? ⟨y, 0, none⟩ = some v :=
 (hf.cell (p := ⟨y, 0, none⟩) (World.block_lt_of_cell? w _ h) hn).trans h
def numT (ls : List Int) (k : Int) : Int × Nat × Int := if k < 1 ∨ 8 < k then (0, 0, 1) else if ls.length < k then (0, 0, 10) else (leV (ls.take k.toNat), k.toNat, 0)
theorem num1R_any (x y g o c : Nat) (k : Int) (ls : List Int) (hb : ∀ z ∈ ls, 0 ≤ z ∧ z < 256) (w : World) (hrd : Rd w (some ⟨g, o, none⟩) ls) (hc : ls.length ≤ c) (_hc2 : c ≤ 140737488355328) (hxy : x ≠ y)
  (hk : -9223372036854775808 ≤ k) (hk2 : k ≤ 9223372036854775807) (hx : w.cell? ⟨x, 0, none⟩ = some (.int .i64 k)) (hy : w.cell? ⟨y, 0, none⟩ = some (.int .u64 0)) (hyf : w.frozen? ⟨y, 0, none⟩ = false) :
  Calls Tryz.prog 87 #[.slice (some ⟨g, o, none⟩) ls.length c, .pointer (some ⟨x, 0, none⟩), .pointer (some ⟨y, 0, none⟩)] w (GivesR (numT ls k).2.1 (numT ls k).2.2 [y] (Holds y (.int .u64 (numT ls k).1)) w) := by
 by_cases h1 : k < 1 ∨ 8 < k
 ·rw [show numT ls k = (0, 0, 1) by unfold numT; rw [if_pos h1]]
  have HY := hid hy
  by_cases h2 : k < 1
  ·go_enter Tryz.func87, Tryz.ntmps87
   go_wp2_with fail
   go_returns
   exact ⟨rfl, HY.out, Frm.refl _ _⟩
  ·go_enter Tryz.func87, Tryz.ntmps87
   go_wp2_with fail
   go_returns
   exact ⟨rfl, HY.out, Frm.refl _ _⟩
 ·obtain ⟨j, rfl⟩ : ∃ j : Nat, k = (j : Int) := ⟨k.toNat, by omega⟩
  have hj1 : 1 ≤ j := by omega
  have hj8 : j ≤ 8 := by omega
  by_cases h2 : ls.length < j
  ·rw [show numT ls j = (0, 0, 10) by unfold numT; rw [if_neg h1, if_pos (by omega)]]
   have HY := hid hy
   clear h1
   go_enter Tryz.func87, Tryz.ntmps87
   go_wp2_with fail
   go_returns
   exact ⟨rfl, HY.out, Frm.refl _ _⟩
  ·rw [show numT ls j = (leV (ls.take j), j, 0) by unfold numT; rw [if_neg h1, if_neg (by omega)]; simp]
   have HV := hid (fun w' (h : Rd w' (some ⟨g, o, none⟩) ls) => value_any (some ⟨g, o, none⟩) c (ls.take j) (fun z hz => hb z (List.mem_of_mem_take hz)) (by simp; omega) w' (h.take j))
   rw [show (ls.take j).length = j by simp; omega] at HV
   have HB := hid hb
   have HRD := hid hrd
   have hyl := World.block_lt_of_cell? w _ hy
   have hxl := World.block_lt_of_cell? w _ hx
   clear h1 hb hrd
   go_enter Tryz.func87, Tryz.ntmps87
   go_wp2_with fail
   refine (HV.out w HRD.out).mono ?_
   rintro e w1 ⟨rfl, hf⟩
   have k1 := (hf.cell (p := ⟨x, 0, none⟩) hxl (by simp)).trans hx
   have k2 := (hf.cell (p := ⟨y, 0, none⟩) hyl (by simp)).trans hy
   have k3 := (hf.frozen (p := ⟨y, 0, none⟩) hyl (by simp)).trans hyf
   have HK := hid k2
   go_wp2_with fail
   go_returns
   refine ⟨rfl, ?_, (hf.mono (by simp)).trans ((Frm.refl _ _).setCell _ _ (by simp)) (fun i hi _ => hi)⟩
   exact holds_set HK.out _
def readS {α : Type} (z : α) (pos : Nat) (err : Int) (r : α × Nat × Int) : α × Nat × Int :=
 if err ≠ 0 then (z, pos, err) else if r.2.2 = 0 then (r.1, pos + r.2.1, 0) else (r.1, pos, r.2.2)
theorem readS_ok {α : Type} (z : α) (pos : Nat) (r : α × Nat × Int) : readS z pos 0 r = (r.1, (if r.2.2 = 0 then pos + r.2.1 else pos), r.2.2) := by
 unfold readS
 by_cases h : r.2.2 = 0
 ·simp [h]
 ·simp [h]
theorem two_steps {w W w1 w' : World} {b y : Nat} (hF : Frm [] w W) (h2 : Frm [y] W w1) (h3 : Frm [b] w1 w') (hy : w.heap.size ≤ y) : Frm [b] w w' :=
 ((hF.mono (T := [b]) (by simp)).trans h2 (by intro i hi hlt; simp at hi; omega)).trans h3 (fun i hi _ => hi)
theorem numT_len (ls : List Int) (k : Int) : (numT ls k).2.1 ≤ ls.length := by
 unfold numT
 split
 ·simp
 ·split
  ·simp
  ·simp; omega
theorem numR_any (b g pos : Nat) (bs : List Int) (hb : ∀ z ∈ bs, 0 ≤ z ∧ z < 256) (err k : Int) (w : World) (hw : IsR w b g bs pos err) (hk : -9223372036854775808 ≤ k) (hk2 : k ≤ 9223372036854775807) :
  Calls Tryz.prog 42 #[.pointer (some ⟨b, 0, none⟩), .int .i64 k] w fun e w' => e = .returned (.int .u64 (readS 0 pos err (numT (bs.drop pos) k)).1) ∧
   IsR w' b g bs (readS 0 pos err (numT (bs.drop pos) k)).2.1 (readS 0 pos err (numT (bs.drop pos) k)).2.2 ∧ Frm [b] w w' := by
 obtain ⟨hlt, hlg, hbg, hpos, hlen, _⟩ := hw.cells
 have HW := hid hw
 have HB := hid hb
 obtain ⟨r, hr⟩ := eX (numT (bs.drop pos) k)
 have HR := hid hr
 rw [hr]
 clear hw hb hr
 by_cases he : err = 0
 ·subst he
  go_enter Tryz.func42, Tryz.ntmps42
  go_wp2_with fail
  have hF : Frm [] w ((w.alloc (Obj.cells #[Value.int IntKind.i64 k] 3)).alloc (Obj.cells #[Value.int IntKind.u64 0] 27)) := ((Frm.refl _ _).alloc _).alloc _
  obtain ⟨W, hWd⟩ : ∃ W, W = ((w.alloc (Obj.cells #[Value.int IntKind.i64 k] 3)).alloc (Obj.cells #[Value.int IntKind.u64 0] 27)) := ⟨_, rfl⟩
  have hx : W.cell? ⟨w.heap.size, 0, none⟩ = some (.int .i64 k) := by subst hWd; simp
  have hy : W.cell? ⟨w.heap.size + 1, 0, none⟩ = some (.int .u64 0) := by subst hWd; simp
  have hyf : W.frozen? ⟨w.heap.size + 1, 0, none⟩ = false := by subst hWd; simp
  rw [← hWd] at hF ⊢
  have hW0 := HW.out.kept hF (by simp) (by simp)
  refine (take_both b g pos r.2.1 r.2.2 bs [w.heap.size + 1] (Holds (w.heap.size + 1) (.int .u64 r.1)) 87 _ W hW0 (by simp; omega) (by simp; omega) (by have := numT_len (bs.drop pos) k; rw [HR.out] at this; simp at this; omega) (fun l w => callable Tryz.func87 (by kernel_rfl) (by kernel_rfl) _ _) ?_).mono ?_
  ·intro o c hc hrd
   have := num1R_any w.heap.size (w.heap.size + 1) g o c k (bs.drop pos) (fun z hz => HB.out z (List.mem_of_mem_drop hz)) W.drew hrd hc.1 hc.2 (by omega) hk hk2 hx hy hyf
   rw [HR.out] at this
   exact this
  rintro e w' ⟨rfl, w1, h1, h2, h3, h4⟩
  have hv := h1.kept h3 (by simp; omega)
  go_wp2_with fail
  go_returns
  rw [readS_ok]
  exact ⟨rfl, h4, two_steps hF h2 h3 (by omega)⟩
 ·have HE : Hid (err ≠ 0) := he
  clear he
  go_enter Tryz.func42, Tryz.ntmps42
  go_wp2_with fail
  have hF : Frm [] w ((w.alloc (Obj.cells #[Value.int IntKind.i64 k] 3)).alloc (Obj.cells #[Value.int IntKind.u64 0] 27)) := ((Frm.refl _ _).alloc _).alloc _
  refine (take_stop b g pos err bs _ _ _ (HW.out.kept hF (by simp) (by simp)) HE.out).mono ?_
  rintro e w' ⟨rfl, rfl⟩
  go_wp2_with fail
  go_returns
  unfold readS
  rw [if_pos HE.out]
  exact ⟨rfl, HW.out.kept hF (by simp) (by simp), hF.mono (by simp)⟩
end
section
open Go.RowKit
def HoldsB (y : Nat) (zs : List Int) (m : Nat) (w1 : World) : Prop := ∃ p c, Holds y (.slice p zs.length c) w1 ∧ Own w1 5 (.slice p zs.length c) zs ∧ ∀ k ∈ blk p, m ≤ k
def bytesT (ls : List Int) (k : Int) : List Int × Nat × Int := if k < 0 then ([], 0, 1) else if ls.length < k then ([], 0, 10) else (ls.take k.toNat, k.toNat, 0)
theorem heap_alloc_at (w : World) (o : Obj) {k : Nat} (h : w.heap.size = k) : (w.alloc o).heap[k]? = some o := by subst h; exact heap_alloc_new _ _
theorem bytesT_len (ls : List Int) (k : Int) : (bytesT ls k).2.1 ≤ ls.length := by
 unfold bytesT
 split
 ·simp
 ·split
  ·simp
  ·simp; omega
theorem holdsB_nil {y m : Nat} {w : World} (h : Holds y (.slice none 0 0) w) : HoldsB y [] m w := ⟨none, 0, h, Own.nil _ _, by simp [blk]⟩
theorem bytes1R_any (x y g o c : Nat) (k : Int) (ls : List Int) (w : World) (hrd : Rd w (some ⟨g, o, none⟩) ls) (hc : ls.length ≤ c) (hc2 : c ≤ 140737488355328) (hxy : x ≠ y) (hyg : y ≠ g)
  (hk : -9223372036854775808 ≤ k) (hk2 : k ≤ 9223372036854775807) (hx : w.cell? ⟨x, 0, none⟩ = some (.int .i64 k)) (hy : w.cell? ⟨y, 0, none⟩ = some (.slice none 0 0)) (hyf : w.frozen? ⟨y, 0, none⟩ = false) :
  Calls Tryz.prog 118 #[.slice (some ⟨g, o, none⟩) ls.length c, .pointer (some ⟨x, 0, none⟩), .pointer (some ⟨y, 0, none⟩)] w (GivesR (bytesT ls k).2.1 (bytesT ls k).2.2 [y] (HoldsB y (bytesT ls k).1 w.heap.size) w) := by
 have HY := hid (holdsB_nil (m := w.heap.size) hy)
 by_cases h1 : k < 0
 ·rw [show bytesT ls k = ([], 0, 1) by unfold bytesT; rw [if_pos h1]]
  go_enter Tryz.func118, Tryz.ntmps118
  go_wp2_with fail
  go_returns
  exact ⟨rfl, HY.out, Frm.refl _ _⟩
 ·obtain ⟨j, rfl⟩ : ∃ j : Nat, k = (j : Int) := ⟨k.toNat, by omega⟩
  by_cases h2 : ls.length < j
  ·rw [show bytesT ls j = ([], 0, 10) by unfold bytesT; rw [if_neg h1, if_pos (by omega)]]
   go_enter Tryz.func118, Tryz.ntmps118
   go_wp2_with fail
   go_returns
   exact ⟨rfl, HY.out, Frm.refl _ _⟩
  ·rw [show bytesT ls j = (ls.take j, j, 0) by unfold bytesT; rw [if_neg h1, if_neg (by omega)]; simp]
   by_cases h3 : j = 0
   ·subst h3
    go_enter Tryz.func118, Tryz.ntmps118
    go_wp2_with fail
    go_returns
    exact ⟨rfl, HY.out, Frm.refl _ _⟩
   ·have hj : 0 < j := by omega
    have hmk := run_make_row' (P := Tryz.prog) 24 5 (.int .u8 0) 1 Tryz.underlying24 infoE rfl .i64 .i64 j (by omega) (by omega)
    have hyl := World.block_lt_of_cell? w _ hy
    have hxl := World.block_lt_of_cell? w _ hx
    have HRD := hid hrd
    clear h1 h3 hrd
    have HG : Frm [y] w ((w.setCell ⟨y, 0, none⟩ (.slice (some ⟨w.heap.size, 0, none⟩) j j)).alloc (.cells (madeCells #[Value.int IntKind.u8 0] j) 5)) := ((Frm.refl _ _).setCell _ _ (by simp)).alloc _
    have hrd2 := HRD.out.kept HG (by intro k hk; simp [blk] at hk ⊢; omega)
    have hh := heap_alloc_at (w.setCell ⟨y, 0, none⟩ (.slice (some ⟨w.heap.size, 0, none⟩) j j)) (.cells (madeCells #[Value.int IntKind.u8 0] j) 5) (World.size_setCell _ _ _)
    have HS := holds_set hy (.slice (some ⟨w.heap.size, 0, none⟩) j j)
    have HH := hid hh
    have HR2 := hid hrd2
    clear hh hrd2
    go_enter Tryz.func118, Tryz.ntmps118
    go_wp2_with (refine wpList_copyB rfl _ _ 24 rfl 5 Tryz.underlying24 infoE w.heap.size j j (madeCells #[Value.int IntKind.u8 0] j) rfl HH.out (size_madeCells _ _) (some ⟨g, o, none⟩) ls.length c ls rfl rfl HR2.out (by omega) ?_)
    intro w' hb hf
    have HB := hid hb
    clear hb
    have k1 := (hf.cell (p := ⟨x, 0, none⟩) (by simpa [World.setCell] using Nat.lt_succ_of_lt hxl) (by simp; omega)).trans ((HG.cell (p := ⟨x, 0, none⟩) hxl (by simp; omega)).trans hx)
    go_wp2_with fail
    go_returns
    have HS2 : Holds y (.slice (some ⟨w.heap.size, 0, none⟩) j j) ((w.setCell ⟨y, 0, none⟩ (.slice (some ⟨w.heap.size, 0, none⟩) j j)).alloc (.cells (madeCells #[Value.int IntKind.u8 0] j) 5)) := HS.kept ((Frm.refl [] _).alloc _) (by simp)
    have e1 : (ls.take j).length = j := by simp; omega
    refine ⟨rfl, ⟨some ⟨w.heap.size, 0, none⟩, j, ?_, own_of_block' HB.out (by rw [e1]; unfold maxLen; omega) e1, by simp [blk]⟩, HG.trans hf (by simp)⟩
    rw [e1]
    exact HS2.kept hf (by simp; omega)
theorem bytesR_any (b g pos : Nat) (bs : List Int) (err k : Int) (w : World) (hw : IsR w b g bs pos err) (hk : -9223372036854775808 ≤ k) (hk2 : k ≤ 9223372036854775807) :
  Calls Tryz.prog 100 #[.pointer (some ⟨b, 0, none⟩), .int .i64 k] w fun e w' => ∃ p n c, e = .returned (.slice p n c) ∧ n = (readS [] pos err (bytesT (bs.drop pos) k)).1.length ∧ Own w' 5 (.slice p n c) (readS [] pos err (bytesT (bs.drop pos) k)).1 ∧ (∀ k ∈ blk p, w.heap.size ≤ k) ∧
   IsR w' b g bs (readS [] pos err (bytesT (bs.drop pos) k)).2.1 (readS [] pos err (bytesT (bs.drop pos) k)).2.2 ∧ Frm [b] w w' := by
 obtain ⟨hlt, hlg, hbg, hpos, hlen, _⟩ := hw.cells
 have HW := hid hw
 obtain ⟨r, hr⟩ := eX (bytesT (bs.drop pos) k)
 have HR := hid hr
 rw [hr]
 clear hw hr
 by_cases he : err = 0
 ·subst he
  go_enter Tryz.func100, Tryz.ntmps100
  go_wp2_with fail
  have hF : Frm [] w ((w.alloc (Obj.cells #[Value.int IntKind.i64 k] 3)).alloc (Obj.cells #[Value.slice none 0 0] 24)) := ((Frm.refl _ _).alloc _).alloc _
  obtain ⟨W, hWd⟩ : ∃ W, W = ((w.alloc (Obj.cells #[Value.int IntKind.i64 k] 3)).alloc (Obj.cells #[Value.slice none 0 0] 24)) := ⟨_, rfl⟩
  have hx : W.cell? ⟨w.heap.size, 0, none⟩ = some (.int .i64 k) := by subst hWd; simp
  have hy : W.cell? ⟨w.heap.size + 1, 0, none⟩ = some (.slice none 0 0) := by subst hWd; simp
  have hyf : W.frozen? ⟨w.heap.size + 1, 0, none⟩ = false := by subst hWd; simp
  have hWs : w.heap.size ≤ W.heap.size := by subst hWd; simp; omega
  rw [← hWd] at hF ⊢
  have hW0 := HW.out.kept hF (by simp) (by simp)
  refine (take_both b g pos r.2.1 r.2.2 bs [w.heap.size + 1] (HoldsB (w.heap.size + 1) r.1 W.heap.size) 118 _ W hW0 (by simp; omega) (by simp; omega) (by have := bytesT_len (bs.drop pos) k; rw [HR.out] at this; simp at this; omega) (fun l w => callable Tryz.func118 (by kernel_rfl) (by kernel_rfl) _ _) ?_).mono ?_
  ·intro o c hc hrd
   have := bytes1R_any w.heap.size (w.heap.size + 1) g o c k (bs.drop pos) W.drew hrd hc.1 hc.2 (by omega) (by omega) hk hk2 hx hy hyf
   rw [HR.out] at this
   exact this
  rintro e w' ⟨rfl, w1, ⟨p, c, h1, ho, hfr⟩, h2, h3, h4⟩
  have hv := h1.kept h3 (by simp; omega)
  have hbp : ∀ k ∈ blk p, k ∉ [b] := by intro k hk; simp; have := hfr k hk; have := hF.size; omega
  have HO := hid (ho.kept h3 (by rw [own_blk]; exact hbp))
  have HFR := hid hfr
  clear hfr ho
  go_wp2_with fail
  go_returns
  rw [readS_ok]
  exact ⟨p, r.1.length, c, rfl, rfl, HO.out, fun k hk => Nat.le_trans hWs (HFR.out k hk), h4, two_steps hF h2 h3 (by omega)⟩
 ·have HE : Hid (err ≠ 0) := he
  clear he
  go_enter Tryz.func100, Tryz.ntmps100
  go_wp2_with fail
  have hF : Frm [] w ((w.alloc (Obj.cells #[Value.int IntKind.i64 k] 3)).alloc (Obj.cells #[Value.slice none 0 0] 24)) := ((Frm.refl _ _).alloc _).alloc _
  refine (take_stop b g pos err bs _ _ _ (HW.out.kept hF (by simp) (by simp)) HE.out).mono ?_
  rintro e w' ⟨rfl, rfl⟩
  go_wp2_with fail
  go_returns
  unfold readS
  rw [if_pos HE.out]
  exact ⟨none, 0, 0, rfl, rfl, Own.nil _ _, by simp [blk], HW.out.kept hF (by simp) (by simp), hF.mono (by simp)⟩
end
end Go.Proofs.YtajfjkfnmmfhmaaGreatDoor
