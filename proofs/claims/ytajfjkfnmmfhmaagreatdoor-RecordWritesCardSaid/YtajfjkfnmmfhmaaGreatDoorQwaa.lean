/- Words of our own for worlds, footprints and rows of bytes; small laws on them. Speaks of no program. Contracts of package code's writer: what each call does to the world. -/
import Derived.WalkKit
import Derived.WalkSpells
import Derived.WalkLawsBesides
import Derived.Handy
import Derived.Deep.OwnRows
import Derived.Laws.BytesArg
import Derived.Laws.CopyOwn
import Derived.Lib.AppendStr
import Derived.Test.YtajfjkfnmmfhmaaGreatDoorRows
import Derived.Deep.QuietTactic
import Derived.BigQuiet
namespace Go.Proofs.YtajfjkfnmmfhmaaGreatDoor
section
open Go.RowKit Go.Lib
theorem hid {p : Prop} (h : p) : Hid p := h
/-- Behind a step the world is as it was, but for the blocks of the list, and new ones. -/
structure Frm (S : List Nat) (w w' : World) : Prop where
  os : w'.os = w.os
  tape : w'.tape = w.tape
  output : w'.output = w.output
  size : w.heap.size ≤ w'.heap.size
  block : ∀ k, k < w.heap.size → k ∉ S → w'.heap[k]? = w.heap[k]?
theorem Frm.refl (S : List Nat) (w : World) : Frm S w w := ⟨rfl, rfl, rfl, Nat.le_refl _, fun _ _ _ => rfl⟩
theorem Frm.trans {S T : List Nat} {a b c : World} (h : Frm S a b) (k : Frm T b c) (hT : ∀ i ∈ T, i < a.heap.size → i ∈ S) : Frm S a c :=
  ⟨k.os.trans h.os, k.tape.trans h.tape, k.output.trans h.output, Nat.le_trans h.size k.size, fun i hi hn =>
    (k.block i (Nat.lt_of_lt_of_le hi h.size) (fun ht => hn (hT i ht hi))).trans (h.block i hi hn)⟩
theorem Frm.mono {S T : List Nat} {a b : World} (h : Frm S a b) (hT : ∀ i ∈ S, i < a.heap.size → i ∈ T) : Frm T a b :=
  ⟨h.os, h.tape, h.output, h.size, fun i hi hn => h.block i hi (fun hs => hn (hT i hs hi))⟩
theorem Frm.alloc {S : List Nat} {a w : World} (h : Frm S a w) (o : Obj) : Frm S a (w.alloc o) :=
  h.trans (T := []) ⟨rfl, rfl, rfl, by simp, fun k hk _ => Below.heap_alloc w o k hk⟩ (by simp)
theorem Frm.drew {S : List Nat} {a w : World} (h : Frm S a w) : Frm S a w.drew := ⟨h.os, h.tape, h.output, h.size, h.block⟩
theorem Frm.drewN {S : List Nat} {a w : World} (h : Frm S a w) (n : Nat) : Frm S a (w.drewN n) := ⟨h.os, h.tape, h.output, h.size, h.block⟩
theorem Frm.setCell {S : List Nat} {a w : World} (h : Frm S a w) (p : Addr) (u : Value) (hp : p.block < a.heap.size → p.block ∈ S) : Frm S a (w.setCell p u) :=
  h.trans (T := [p.block]) ⟨rfl, rfl, rfl, by simp [World.setCell], fun k _ hn => heap_setCell_other w p k u (by simpa using hn)⟩ (by simpa using hp)
theorem Frm.grown {S : List Nat} {a w w' : World} {row : Option Nat} (h : Frm S a w) (hg : w.grownBy w' row) (hr : ∀ k, row = some k → k < a.heap.size → k ∈ S) : Frm S a w' :=
  h.trans (T := row.toList) ⟨hg.os, hg.tape, hg.output, hg.size, fun k hk hn => hg.block k hk (fun e => hn (by rw [← e]; simp))⟩ (fun i hi hlt => hr i (by simpa using hi) hlt)
theorem Frm.below {S : List Nat} {B : Nat} {a w : World} (h : Frm S a w) (hB : B ≤ a.heap.size) (hS : ∀ i ∈ S, B ≤ i) : Below B a w :=
  ⟨h.os, h.tape, h.output, h.size, fun k hk => h.block k (by omega) (fun hs => by have := hS k hs; omega)⟩
theorem Frm.cell {S : List Nat} {a w : World} (h : Frm S a w) {p : Addr} (hp : p.block < a.heap.size) (hn : p.block ∉ S) : w.cell? p = a.cell? p :=
  World.cell?_of_block (h.block _ hp hn)
theorem Frm.frozen {S : List Nat} {a w : World} (h : Frm S a w) {p : Addr} (hp : p.block < a.heap.size) (hn : p.block ∉ S) : w.frozen? p = a.frozen? p :=
  World.frozen?_of_block (h.block _ hp hn)
theorem Frm.heap {S : List Nat} {a w : World} (h : Frm S a w) {k : Nat} {o : Obj} (hk : a.heap[k]? = some o) (hn : k ∉ S) : w.heap[k]? = some o :=
  (h.block k (Array.getElem?_eq_some_iff.1 hk).1 hn).trans hk
theorem lt_of_heap {w : World} {k : Nat} {o : Obj} (hk : w.heap[k]? = some o) : k < w.heap.size := (Array.getElem?_eq_some_iff.1 hk).1
/-- A row of bytes as cells. -/
def bv (zs : List Int) : List Value := zs.map (Value.int .u8)
theorem bv_length (zs : List Int) : (bv zs).length = zs.length := by simp [bv]
theorem bv_append (a b : List Int) : bv (a ++ b) = bv a ++ bv b := by simp [bv]
theorem bv_take (a : List Int) (n : Nat) : bv (a.take n) = (bv a).take n := by simp [bv, List.map_take]
theorem bv_one {zs : List Int} : ∀ u ∈ bv zs, u.oneCell' = true := by
  intro u hu; simp [bv] at hu; obtain ⟨z, _, rfl⟩ := hu; rfl
theorem bv_get {zs : List Int} {i : Nat} (h : i < zs.length) : (bv zs)[i]? = some (.int .u8 (zs.getD i 0)) := by
  simp [bv, h]
theorem get_mid {α : Type} (a : List α) (m : Nat) (v : α) (h : 0 < m) : (a ++ List.replicate m v)[a.length]? = some v := by
  rw [List.getElem?_append_right (Nat.le_refl _), Nat.sub_self]; cases m with
  | zero => omega
  | succ m => simp [List.replicate_succ]
theorem set_mid {α : Type} (a : List α) (m : Nat) (v u : α) : (a ++ List.replicate (m + 1) v).set a.length u = a ++ [u] ++ List.replicate m v := by
  rw [List.set_append_right _ _ (Nat.le_refl _)]; simp [List.replicate_succ]
/-- From a place on there stand these bytes (of none nothing is asked). -/
def Rd (w : World) (p : Option Addr) (zs : List Int) : Prop :=
  zs = [] ∨ ∃ g o, p = some ⟨g, o, none⟩ ∧ ∀ i, i < zs.length → w.cell? ⟨g, o + i, none⟩ = some (.int .u8 (zs.getD i 0))
theorem Rd.nil (w : World) (p : Option Addr) : Rd w p [] := Or.inl rfl
theorem Rd.drewN {w : World} {p : Option Addr} {zs : List Int} (h : Rd w p zs) (n : Nat) : Rd (w.drewN n) p zs := h
theorem Rd.drew {w : World} {p : Option Addr} {zs : List Int} (h : Rd w p zs) : Rd w.drew p zs := h
/-- Which block is read: below. -/
def blk (p : Option Addr) : List Nat := match p with | some a => [a.block] | none => []
theorem Rd.kept {S : List Nat} {w w' : World} {p : Option Addr} {zs : List Int} (h : Rd w p zs) (hf : Frm S w w') (hn : ∀ k ∈ blk p, k ∉ S) : Rd w' p zs := by
  rcases h with h | ⟨g, o, rfl, hc⟩
  · exact Or.inl h
  · refine Or.inr ⟨g, o, rfl, fun i hi => ?_⟩
    have hlt : g < w.heap.size := World.block_lt_of_cell? w _ (hc i hi)
    rw [hf.cell (p := ⟨g, o + i, none⟩) hlt (hn g (by simp [blk]))]
    exact hc i hi
theorem Rd.alloc {w : World} {p : Option Addr} {zs : List Int} (h : Rd w p zs) (o : Obj) : Rd (w.alloc o) p zs := h.kept (S := []) ((Frm.refl [] w).alloc o) (by simp)
theorem Rd.take {w : World} {p : Option Addr} {zs : List Int} (h : Rd w p zs) (n : Nat) : Rd w p (zs.take n) := by
  rcases h with rfl | ⟨g, o, rfl, hc⟩
  · exact Or.inl (by simp)
  · refine Or.inr ⟨g, o, rfl, fun i hi => ?_⟩
    simp at hi
    rw [hc i (by omega)]
    have h2 : i < zs.length := by omega
    simp [List.getD, hi, h2]
theorem Rd.drop {w : World} {g o : Nat} {zs : List Int} (h : Rd w (some ⟨g, o, none⟩) zs) (n : Nat) : Rd w (some ⟨g, o + n, none⟩) (zs.drop n) := by
  rcases h with rfl | ⟨g', o', he, hc⟩
  · exact Or.inl (by simp)
  · simp at he; obtain ⟨rfl, rfl⟩ := he
    refine Or.inr ⟨g, o + n, rfl, fun i hi => ?_⟩
    simp at hi
    rw [Nat.add_assoc, hc (n + i) (by omega)]
    simp [List.getD]
/-- A row of bytes of one's own: nil, or a block from its beginning on. -/
def Own (w : World) (E : TypeId) (v : Value) (zs : List Int) : Prop := w.ownsRow 0 E 1 v zs.length (bv zs)
theorem Own.nil (w : World) (E : TypeId) : Own w E (.slice none 0 0) [] := World.ownsRow_nil w 0 E 1
theorem Own.shape {w : World} {E : TypeId} {v : Value} {zs : List Int} (h : Own w E v zs) : ∃ p c, v = .slice p zs.length c ∧ zs.length ≤ c ∧ (p = none → zs = [] ∧ c = 0) ∧ (∀ a, p = some a → a.off = 0 ∧ a.spot = none ∧ a.block < w.heap.size) ∧ v.ownBlock.toList = blk p := by
  rcases h.2 with ⟨rfl, h0⟩ | ⟨g, c, cur, rfl, _, hg, hc, _⟩
  · exact ⟨none, 0, by rw [h0], by omega, fun _ => ⟨List.eq_nil_of_length_eq_zero h0, rfl⟩, by simp, rfl⟩
  · refine ⟨some ⟨g, 0, none⟩, c, rfl, hc, by simp, ?_, rfl⟩
    intro a ha; simp at ha; subst ha; exact ⟨rfl, rfl, lt_of_heap hg⟩
theorem Own.rd {w : World} {E : TypeId} {p : Option Addr} {n c : Nat} {zs : List Int} (h : Own w E (.slice p n c) zs) : Rd w p zs := by
  rcases h.2 with ⟨_, h0⟩ | ⟨g, c', cur, he, _, hg, hc, _, hs, ht⟩
  · exact Or.inl (List.eq_nil_of_length_eq_zero h0)
  · simp at he
    obtain ⟨rfl, _, _⟩ := he
    refine Or.inr ⟨g, 0, rfl, fun i hi => ?_⟩
    rw [Nat.zero_add, cell_of_row w g i cur E (0, 0) hg]
    have := congrArg (fun l => l[i]?) ht
    simp only [List.getElem?_take, bv_get hi] at this
    rw [if_pos (by omega)] at this
    simpa using this
theorem Own.kept {S : List Nat} {w w' : World} {E : TypeId} {v : Value} {zs : List Int} (h : Own w E v zs) (hf : Frm S w w') (hn : ∀ k ∈ v.ownBlock.toList, k ∉ S) : Own w' E v zs := by
  refine ⟨h.1, ?_⟩
  rcases h.2 with h0 | ⟨g, c, cur, rfl, hb, hg, r⟩
  · exact Or.inl h0
  · exact Or.inr ⟨g, c, cur, rfl, hb, hf.heap hg (hn g (by simp [Value.ownBlock])), r⟩
/-- A block that holds just these bytes is a row of one's own. -/
theorem own_of_block {w : World} {E : TypeId} {g : Nat} {zs : List Int} (hg : w.heap[g]? = some (.cells (bv zs).toArray E (0, 0))) (hm : zs.length ≤ maxLen) : Own w E (.slice (some ⟨g, 0, none⟩) zs.length zs.length) zs :=
  ⟨by simp [bv], Or.inr ⟨g, zs.length, _, rfl, Nat.zero_le _, hg, Nat.le_refl _, hm, by simp [bv], by simp [bv, List.take_of_length_le]⟩⟩
theorem own_of_block' {w : World} {E : TypeId} {g n : Nat} {zs : List Int} (hg : w.heap[g]? = some (.cells (bv zs).toArray E (0, 0))) (hm : zs.length ≤ maxLen) (hn : zs.length = n) : Own w E (.slice (some ⟨g, 0, none⟩) zs.length n) zs := by
  subst hn; exact own_of_block hg hm
/-- The bytes of a number, the lowest first. -/
def le (n : Int) (k : Nat) : List Int := (List.range k).map fun i => n / 2 ^ (8 * i) % 256
theorem le_length (n : Int) (k : Nat) : (le n k).length = k := by simp [le]
theorem le_succ (n : Int) (k : Nat) : le n (k + 1) = le n k ++ [n / 2 ^ (8 * k) % 256] := by simp [le, List.range_succ]
theorem own_blk {p : Option Addr} {n c : Nat} : (Value.slice p n c).ownBlock.toList = blk p := by cases p <;> rfl
section
variable {P : Program} {w : World}
theorem bytes_at {p : Option Addr} {ns : List Int} (hrd : Rd w p ns) (hne : ns ≠ []) : ∃ ad, p = some ad ∧ ∀ j u, (bv ns)[j]? = some u → w.cell? (ad.add j) = some u := by
  rcases hrd with h | ⟨g, o, rfl, hc⟩
  · exact absurd h hne
  · refine ⟨_, rfl, fun j u hu => ?_⟩
    have hj : j < ns.length := by have := (List.getElem?_eq_some_iff.1 hu).1; simpa [bv] using this
    rw [bv_get hj] at hu
    rw [show (⟨g, o, none⟩ : Addr).add j = ⟨g, o + j, none⟩ by unfold Addr.add; split <;> simp_all, hc j hj]
    exact hu
theorem oks {v v' : Value} {w1 w2 : World} (h : (Result.ok v w1 : Result Value) = .ok v' w2) : v = v' ∧ w1 = w2 := by cases h; exact ⟨rfl, rfl⟩
/-- append of bytes to a row of one's own: it stays in its block, or goes into a new one. -/
theorem run_appB (t ty E : TypeId) (ht : P.underlying t = some (.slice E)) (hI : (P.info? E).map (fun i => (i.zero, i.size, i.bytes)) = some (some (.int .u8 0), 1, 1))
    (v : Value) (zs : List Int) (hown : Own w E v zs) (p : Option Addr) (c : Nat) (ns : List Int) (hp : ns = [] → p = none → c = 0) (hrd : Rd w p ns) (hsz : zs.length + ns.length ≤ 140737488355328) :
    ∃ v' w', (Builtin.append_ #[t, t] ty #[v, .slice p ns.length c]).run P w = .ok v' w' ∧ Own w' E v' (zs ++ ns) ∧ Frm v.ownBlock.toList w w' ∧ (∀ k ∈ v'.ownBlock.toList, k ∈ v.ownBlock.toList ∨ w.heap.size ≤ k) := by
  obtain ⟨i, hi, hz, h1, h2⟩ := info_parts hI
  have hmax : zs.length + ns.length ≤ maxLen := by unfold maxLen; omega
  by_cases hne : ns = []
  · subst hne
    cases p with
    | none =>
      obtain rfl := hp rfl rfl
      have hr := run_append_owned_none (P := P) w 0 t ty E i 1 ht hi v zs.length (bv zs) hown
      exact ⟨v, w, hr, by simpa using hown, Frm.refl _ _, fun k hk => Or.inl hk⟩
    | some ad =>
      obtain ⟨v', w', hr, ho, hg, _⟩ := run_append_own (P := P) w 0 t ty E i (.int .u8 0) 1 1 ht hi hz h1 h2 rfl (by decide) v zs.length (bv zs) hown ad 0 c [] rfl (by simp) (by simp) (by simpa using hmax) (by simp at hsz; omega) (Nat.zero_le _)
      refine ⟨v', w', hr, by simpa [Own] using ho, (Frm.refl _ _).grown hg (fun k hk _ => by simp [hk]), ?_⟩
      rcases hown.2 with ⟨rfl, h0⟩ | ⟨g, cap, cur, rfl, _, hgg, hc, hcm, hcs, htk⟩
      · obtain rfl : zs = [] := List.eq_nil_of_length_eq_zero h0
        obtain ⟨v2, w2, hr2, ho2, _, _⟩ := run_append_own (P := P) w w.heap.size t ty E i (.int .u8 0) 1 1 ht hi hz h1 h2 rfl (by decide) (.slice none 0 0) 0 [] (World.ownsRow_nil w _ E 1) ad 0 c [] rfl (by simp) (by simp) (by simp) (by simp) (Nat.le_refl _)
        obtain ⟨rfl, rfl⟩ := oks (hr.symm.trans hr2)
        intro k hk; exact Or.inr (ho2.lt k (by simpa using hk)).1
      · have hr2 := run_append_room (P := P) w t ty E i ht hi g zs.length cap cur hgg ad 0 c [] (by simp) (by simp) (by simp) (by omega) (by simp [h1]; omega)
        obtain ⟨rfl, rfl⟩ := oks (hr.symm.trans hr2)
        intro k hk; exact Or.inl (by simpa [Value.ownBlock] using hk)
  · obtain ⟨ad, rfl, hnews⟩ := bytes_at hrd hne
    obtain ⟨v', w', hr, ho, hg, _⟩ := run_append_own (P := P) w 0 t ty E i (.int .u8 0) 1 1 ht hi hz h1 h2 rfl (by decide) v zs.length (bv zs) hown ad ns.length c (bv ns) (by simp [bv]) hnews bv_one hmax (by omega) (Nat.zero_le _)
    refine ⟨v', w', hr, by simpa [Own, bv_append] using ho, (Frm.refl _ _).grown hg (fun k hk _ => by simp [hk]), ?_⟩
    have hpos : 0 < ns.length := List.length_pos_iff.2 hne
    rcases hown.2 with ⟨rfl, h0⟩ | ⟨g, cap, cur, rfl, _, hgg, hc, hcm, hcs, htk⟩
    · obtain rfl : zs = [] := List.eq_nil_of_length_eq_zero h0
      have hr2 := run_append_nil (P := P) w t ty E i (.int .u8 0) ht hi hz ad ns.length c (bv ns) (by simp [bv, h1]) hnews hpos (by omega) (by rw [h2]; omega)
      obtain ⟨rfl, rfl⟩ := oks (hr.symm.trans hr2)
      intro k hk; simp [Value.ownBlock] at hk; exact Or.inr (by omega)
    · by_cases hroom : zs.length + ns.length ≤ cap
      · have hr2 := run_append_room (P := P) w t ty E i ht hi g zs.length cap cur hgg ad ns.length c (bv ns) (by simp [bv, h1]) hnews bv_one hroom (by simp [bv, h1]; omega)
        obtain ⟨rfl, rfl⟩ := oks (hr.symm.trans hr2)
        intro k hk; exact Or.inl (by simpa [Value.ownBlock] using hk)
      · have holds := World.ownsRow.cells (g := g) hown rfl
        have hr2 := run_append_grow (P := P) w t ty E i (.int .u8 0) ht hi hz ⟨g, 0, none⟩ zs.length cap (bv zs) (by simp [bv, h1]) holds ad ns.length c (bv ns) (by simp [bv, h1]) hnews (by omega) (by omega) (growslice_fits (by omega) (by rw [h2]; omega))
        obtain ⟨rfl, rfl⟩ := oks (hr.symm.trans hr2)
        intro k hk; simp [Value.ownBlock] at hk; exact Or.inr (by omega)
theorem wpList_appB {ops : Array Oper} {rest : List Oper} {o : Oper} {a : Act} {Q : Exit → Act → World → Prop} (hgd : o.guard = none) (s x : Operand) (t : TypeId)
    (ho : o.op = .call { callee := .builtin .append, args := #[s, x], argTypes := #[t, t] })
    (E : TypeId) (ht : P.underlying t = some (.slice E)) (hI : (P.info? E).map (fun i => (i.zero, i.size, i.bytes)) = some (some (.int .u8 0), 1, 1))
    (p0 : Option Addr) (n0 c0 : Nat) (zs : List Int) (hs : a.eval s = .slice p0 n0 c0) (hn0 : n0 = zs.length) (hown : Own w E (.slice p0 zs.length c0) zs)
    (p : Option Addr) (n c : Nat) (ns : List Int) (hx : a.eval x = .slice p n c) (hn : n = ns.length) (hp : ns = [] → p = none → c = 0) (hrd : Rd w p ns) (hsz : zs.length + ns.length ≤ 140737488355328)
    (h : ∀ xs p2 c2 w', Hid (xs = zs ++ ns) → Hid (Own w' E (.slice p2 xs.length c2) xs) → Hid (Frm (blk p0) w w') → Hid (∀ k ∈ blk p2, k ∈ blk p0 ∨ w.heap.size ≤ k) → wpList P ops Q rest (a.put o.dst (.slice p2 xs.length c2)) w') :
    wpList P ops Q (o :: rest) a w := by
  refine wpList_plain hgd fun K hK => ?_
  subst hn
  subst hn0
  obtain ⟨v', w', hrun, h1, h2, h3⟩ := run_appB (P := P) (w := w) t o.type E ht hI _ zs hown p c ns hp hrd hsz
  obtain ⟨xs, hxs⟩ : ∃ xs, xs = zs ++ ns := ⟨_, rfl⟩
  rw [← hxs] at h1
  obtain ⟨p2, c2, rfl, _, _, _, hb⟩ := h1.shape
  rw [hb, own_blk] at h3
  rw [own_blk] at h2
  unfold Oper.wp
  simp [execOp, ho, resolve, invoke, builtin, hs, hx, hrun, Result.andThen]
  exact hK _ _ (h xs p2 c2 w' hxs h1 h2 h3)
/-- copy over a whole block of one's own, from what is as long at least. -/
theorem wpList_copyB {ops : Array Oper} {rest : List Oper} {o : Oper} {a : Act} {Q : Exit → Act → World → Prop} (hgd : o.guard = none) (d s : Operand) (T : TypeId)
    (ho : o.op = .call { callee := .builtin .copy, args := #[d, s], argTypes := #[T, T] })
    (E : TypeId) (ht : P.underlying T = some (.slice E)) (hI : (P.info? E).map (fun i => (i.zero, i.size, i.bytes)) = some (some (.int .u8 0), 1, 1))
    (g n dc : Nat) (cur : Array Value) (hd : a.eval d = .slice (some ⟨g, 0, none⟩) n dc) (hg : w.heap[g]? = some (.cells cur E (0, 0))) (hcur : cur.size = n)
    (p : Option Addr) (m c : Nat) (ns : List Int) (hx : a.eval s = .slice p m c) (hm : m = ns.length) (hrd : Rd w p ns) (hle : n ≤ ns.length)
    (h : ∀ w', w'.heap[g]? = some (.cells (bv (ns.take n)).toArray E (0, 0)) → Frm [g] w w' → wpList P ops Q rest (a.put o.dst (goInt n)) w') :
    wpList P ops Q (o :: rest) a w := by
  obtain ⟨i, hi, hz, h1, h2⟩ := info_parts hI
  have hsz : (P.info? E).map (·.size) = some 1 := by simp [hi, h1]
  subst hm
  by_cases hn : n = 0
  · subst hn
    refine wpList_copy_nothing hgd d s T T ho E ht hsz (some ⟨g, 0, none⟩) p 0 dc ns.length c hd hx (by simp) ?_
    have hc0 : cur = #[] := Array.eq_empty_of_size_eq_zero hcur
    exact h w (by subst hc0; simpa [bv] using hg) (Frm.refl _ _)
  · have hne : ns ≠ [] := by intro e; subst e; simp at hle; omega
    obtain ⟨ad, rfl, hnews⟩ := bytes_at hrd hne
    have hl : (bv (ns.take n)).length = n := by simp [bv]; omega
    have hl' : n = (bv (ns.take n)).length := hl.symm
    refine wpList_copy_own hgd d s T T ho E ht hsz g 0 n dc ad ns.length c hd hx cur E hg (bv (ns.take n)) (by rw [hl]; simp [Nat.min_def]; omega) ?_ (by omega) bv_one ?_
    · intro j v hj
      have hjn : j < n := by have := (List.getElem?_eq_some_iff.1 hj).1; omega
      refine hnews j v ?_
      rw [bv_take, List.getElem?_take, if_pos hjn] at hj
      exact hj
    · rw [hl]
      refine h _ ?_ ⟨rfl, rfl, rfl, by simp, fun k _ hk => setRow_other w g k _ (by simpa using hk)⟩
      rw [setRow_heap w g cur _ E _ hg]
      congr 2
      have hd0 : cur.toList.drop (0 + n) = [] := List.drop_eq_nil_of_le (by simp [hcur])
      rw [hd0]; simp
/-- A text's bytes. -/
def tx (s : ByteArray) : List Int := s.data.toList.map fun u => (u.toNat : Int)
theorem tx_length (s : ByteArray) : (tx s).length = s.size := by simp [tx]
theorem strCells_tx (s : ByteArray) : strCells s = bv (tx s) := by simp [strCells, bv, tx]
/-- append of a text to a row of one's own. -/
theorem run_appS (t u ty E : TypeId) (ht : P.underlying t = some (.slice E)) (hu : P.underlying u = some .string) (hI : (P.info? E).map (fun i => (i.zero, i.size, i.bytes)) = some (some (.int .u8 0), 1, 1))
    (v : Value) (zs : List Int) (hown : Own w E v zs) (s : ByteArray) (hsz : zs.length + s.size ≤ 140737488355328) :
    ∃ v' w', (Builtin.append_ #[t, u] ty #[v, .string s]).run P w = .ok v' w' ∧ Own w' E v' (zs ++ tx s) ∧ Frm v.ownBlock.toList w w' ∧ (∀ k ∈ v'.ownBlock.toList, k ∈ v.ownBlock.toList ∨ w.heap.size ≤ k) := by
  obtain ⟨i, hi, hz, h1, h2⟩ := info_parts hI
  have hmax : zs.length + s.size ≤ maxLen := by unfold maxLen; omega
  obtain ⟨v', w', hr, ho, hg, _⟩ := run_append_own_string (P := P) w 0 t u ty E i ht hu hi hz h1 h2 v zs.length (bv zs) hown s hmax hsz (Nat.zero_le _)
  refine ⟨v', w', hr, by simpa [Own, bv_append, strCells_tx, tx_length] using ho, (Frm.refl _ _).grown hg (fun k hk _ => by simp [hk]), ?_⟩
  rcases hown.2 with ⟨rfl, h0⟩ | ⟨g, cap, cur, rfl, _, hgg, hc, hcm, hcs, htk⟩
  · obtain rfl : zs = [] := List.eq_nil_of_length_eq_zero h0
    obtain ⟨v2, w2, hr2, ho2, _, _⟩ := run_append_own_string (P := P) w w.heap.size t u ty E i ht hu hi hz h1 h2 (.slice none 0 0) 0 [] (World.ownsRow_nil w _ E 1) s (by simpa using hmax) (by simpa using hsz) (Nat.le_refl _)
    obtain ⟨rfl, rfl⟩ := oks (hr.symm.trans hr2)
    intro k hk; exact Or.inr (ho2.lt k (by simpa using hk)).1
  · by_cases hroom : zs.length + s.size ≤ cap
    · have hr2 := run_append_room_string (P := P) w t u ty E i ht hu hi h1 g zs.length cap cur hgg s hroom (by omega)
      obtain ⟨rfl, rfl⟩ := oks (hr.symm.trans hr2)
      intro k hk; exact Or.inl (by simpa [Value.ownBlock] using hk)
    · have holds := World.ownsRow.cells (g := g) hown rfl
      have hr2 := run_append_grow_string (P := P) w t u ty E i (.int .u8 0) ht hu hi hz ⟨g, 0, none⟩ zs.length cap (bv zs) (by simp [bv, h1]) holds s (by omega) (by omega) (growslice_fits (by omega) (by rw [h2]; omega))
      obtain ⟨rfl, rfl⟩ := oks (hr.symm.trans hr2)
      intro k hk; simp [Value.ownBlock] at hk; exact Or.inr (by omega)
theorem step_appS {ops : Array Oper} {o : Oper} {a : Act} {K : Act → World → Prop} {Q : Exit → Act → World → Prop} {Z : Prop} (hgd : o.guard = none) (sl x : Operand) (t u : TypeId)
    (ho : o.op = .call { callee := .builtin .append, args := #[sl, x], argTypes := #[t, u] })
    (E : TypeId) (ht : P.underlying t = some (.slice E)) (hu : P.underlying u = some .string) (hI : (P.info? E).map (fun i => (i.zero, i.size, i.bytes)) = some (some (.int .u8 0), 1, 1))
    (p0 : Option Addr) (n0 c0 : Nat) (zs : List Int) (hs : a.eval sl = .slice p0 n0 c0) (hn0 : n0 = zs.length) (hown : Own w E (.slice p0 zs.length c0) zs)
    (s : ByteArray) (hx : a.eval x = .string s) (hsz : zs.length + s.size ≤ 140737488355328)
    (h : ∀ xs p2 c2 w', Hid (xs = zs ++ tx s) → Hid (Own w' E (.slice p2 xs.length c2) xs) → Hid (Frm (blk p0) w w') → Hid (∀ k ∈ blk p2, k ∈ blk p0 ∨ w.heap.size ≤ k) → K (a.put o.dst (.slice p2 xs.length c2)) w') :
    if Region.wanted o (yielded ops a.tmps) = true then Oper.wp P o a w K Q else Z := by
  have hw : Region.wanted o (yielded ops a.tmps) = true := by simp [Region.wanted, hgd]
  rw [if_pos hw]
  subst hn0
  obtain ⟨v', w', hrun, h1, h2, h3⟩ := run_appS (P := P) (w := w) t u o.type E ht hu hI _ zs hown s hsz
  obtain ⟨xs, hxs⟩ : ∃ xs, xs = zs ++ tx s := ⟨_, rfl⟩
  rw [← hxs] at h1
  obtain ⟨p2, c2, rfl, _, _, _, hb⟩ := h1.shape
  rw [hb, own_blk] at h3
  rw [own_blk] at h2
  unfold Oper.wp
  simp [execOp, ho, resolve, invoke, builtin, hs, hx, hrun, Result.andThen]
  exact h xs p2 c2 w' hxs h1 h2 h3
end
end
section
open Go.RowKit
set_option maxRecDepth 100000
theorem infoE : (Tryz.prog.info? 5).map (fun i => (i.zero, i.size, i.bytes)) = some (some (.int .u8 0), 1, 1) := by kernel_rfl
/-- A writer at block b: its room, what was laid down, its error; fp: the blocks that are its own. -/
def IsW (w : World) (b : Nat) (fp : List Nat) (room : Int) (zs : List Int) (err : Int) : Prop :=
  ∃ p c, w.heap[b]? = some (.cells #[.int .i64 room, .slice p zs.length c, .int .i64 err] 89 (0, 0)) ∧ Own w 5 (.slice p zs.length c) zs ∧ fp = b :: blk p ∧ b ∉ blk p
theorem IsW.kept {w w' : World} {b : Nat} {fp S : List Nat} {room err : Int} {zs : List Int} (h : IsW w b fp room zs err) (hf : Frm S w w') (hn : ∀ k ∈ fp, k ∉ S) : IsW w' b fp room zs err := by
  obtain ⟨p, c, h1, h2, rfl, h4⟩ := h
  exact ⟨p, c, hf.heap h1 (hn b (by simp)), h2.kept hf (fun k hk => hn k (by rw [own_blk] at hk; simp [hk])), rfl, h4⟩
theorem IsW.lt {w : World} {b : Nat} {fp : List Nat} {room err : Int} {zs : List Int} (h : IsW w b fp room zs err) : ∀ k ∈ fp, k < w.heap.size := by
  obtain ⟨p, c, h1, h2, rfl, h4⟩ := h
  intro k hk
  simp at hk
  rcases hk with rfl | hk
  · exact lt_of_heap h1
  · exact (h2.lt k (by cases p <;> simp_all [blk, Value.ownBlock])).2
/-- What room a writer gets. -/
def roomOf (a : Int) : Int := if a < 0 then 0 else if 2147483647 < a then 2147483647 else a
set_option maxHeartbeats 400000 in
theorem newWriter_any (a : Int) (w : World) :
    Calls Tryz.prog 25 #[.int .i64 a] w fun e w' => e = .returned (.pointer (some ⟨w.heap.size, 0, none⟩)) ∧ IsW w' w.heap.size [w.heap.size] (roomOf a) [] 0 ∧ Frm [] w w' ∧ w'.heap.size = w.heap.size + 1 := by
  have fin : ∀ r : Int, roomOf a = r → (∀ W, W = w.alloc (.cells #[.int .i64 r, .slice none 0 0, .int .i64 0] 89) → IsW W w.heap.size [w.heap.size] (roomOf a) [] 0 ∧ Frm [] w W ∧ W.heap.size = w.heap.size + 1) := by
    intro r hr W hW; subst hW; subst hr
    exact ⟨⟨none, 0, heap_alloc_new _ _, Own.nil _ _, rfl, by simp [blk]⟩, (Frm.refl _ _).alloc _, by simp⟩
  go_enter Tryz.func25, Tryz.ntmps25
  by_cases h0 : a < 0
  · go_wp2
    go_ret
    exact ⟨rfl, fin 0 (by unfold roomOf; rw [if_pos h0]) _ rfl⟩
  · by_cases h1 : 2147483647 < a
    · go_wp2
      go_ret
      exact ⟨rfl, fin _ (by unfold roomOf; rw [if_neg (by omega), if_pos h1]) _ rfl⟩
    · go_wp2
      go_ret
      exact ⟨rfl, fin _ (by unfold roomOf; rw [if_neg (by omega), if_neg (by omega)]) _ rfl⟩
set_option maxHeartbeats 400000 in
theorem number_any (n : Int) (k : Nat) (_hn : 0 ≤ n) (_hn2 : n < 18446744073709551616) (hk : k ≤ 8) (w : World) :
    Calls Tryz.prog 73 #[.int .u64 n, .int .i64 k] w fun e w' => e = .returned (.slice (some ⟨w.heap.size, 0, none⟩) k k) ∧ w'.heap[w.heap.size]? = some (.cells (bv (le n k)).toArray 5 (0, 0)) ∧ Frm [] w w' := by
  have hmk := run_make_row' (P := Tryz.prog) 24 5 (.int .u8 0) 1 Tryz.underlying24 infoE rfl .i64 .i64 k (by omega) (by omega)
  go_enter Tryz.func73, Tryz.ntmps73
  go_wp2
  go_loopw [11] (fun i wr => ∃ j : Nat, j ≤ k ∧ i = .int .i64 j ∧ Hid (wr.heap[w.heap.size]? = some (.cells (bv (le n j) ++ List.replicate (k - j) (Value.int .u8 0)).toArray 5 (0, 0))) ∧ Hid (Frm [] w wr)) (fun i _ => k - (intOf i).toNat)
  case atStart =>
    refine ⟨0, Nat.zero_le _, rfl, ?_, (Frm.refl _ _).alloc _⟩
    show _ = _
    rw [heap_alloc_new]
    congr 2
    apply Array.ext'
    simp [toList_madeCells_one, bv, le]
  case round =>
    obtain ⟨j, hj, rfl, hcur, hfr⟩ := hrel
    by_cases hlt : j < k
    · have hc : wr.cell? ⟨w.heap.size, j, none⟩ = some (.int .u8 0) := by
        rw [cell_of_row wr _ j _ _ (0,0) hcur.out]
        have h := get_mid (bv (le n j)) (k - j) (Value.int .u8 0) (by omega)
        rw [bv_length, le_length] at h
        simpa using h
      have hf := frozen_of_row wr w.heap.size j _ _ hcur.out
      go_wp2
      go_roundw
      case rel =>
        refine ⟨j + 1, by omega, by go_num, ?_, hfr.out.setCell _ _ (by simp)⟩
        show _ = _
        rw [heap_setCell_same wr w.heap.size j _ _ _ hcur.out]
        congr 2
        apply Array.ext'
        have e1 : k - j = (k - (j + 1)) + 1 := by omega
        have h := set_mid (bv (le n j)) (k - (j + 1)) (Value.int .u8 0) (Value.int .u8 (n / 2 ^ (8 * j) % 256))
        rw [bv_length, le_length, ← e1] at h
        rw [le_succ, bv_append]
        simpa [bv] using h
      case measure => simp [intOf]; omega
    · obtain rfl : j = k := by omega
      go_wp2
      go_ret
      exact ⟨rfl, by simpa using hcur.out, hfr.out⟩
theorem IsW.cells {w : World} {b : Nat} {fp : List Nat} {room err : Int} {zs : List Int} (h : IsW w b fp room zs err) : ∃ p c, b < w.heap.size ∧ fp = b :: blk p ∧ b ∉ blk p ∧ Own w 5 (.slice p zs.length c) zs ∧
    w.cell? ⟨b, 0, none⟩ = some (.int .i64 room) ∧ w.cell? ⟨b, 1, none⟩ = some (.slice p zs.length c) ∧ w.cell? ⟨b, 2, none⟩ = some (.int .i64 err) ∧
    w.frozen? ⟨b, 1, none⟩ = false ∧ w.frozen? ⟨b, 2, none⟩ = false ∧ Hid (w.heap[b]? = some (.cells #[.int .i64 room, .slice p zs.length c, .int .i64 err] 89 (0, 0))) := by
  obtain ⟨p, c, h1, h2, h3, h4⟩ := h
  exact ⟨p, c, lt_of_heap h1, h3, h4, h2, by rw [cell_of_row w _ _ _ _ _ h1]; rfl, by rw [cell_of_row w _ _ _ _ _ h1]; rfl, by rw [cell_of_row w _ _ _ _ _ h1]; rfl, frozen_of_row w b 1 _ _ h1, frozen_of_row w b 2 _ _ h1, h1⟩
/-- What a writer is behind a call. -/
def NowW (w : World) (b : Nat) (fp : List Nat) (room : Int) (zs : List Int) (err : Int) (w' : World) : Prop :=
  ∃ fp', IsW w' b fp' room zs err ∧ Frm fp w w' ∧ ∀ k ∈ fp', k ∈ fp ∨ w.heap.size ≤ k
/-- What a form gives: an error, or bytes. -/
def Gives (ns : List Int) (ev : Int) (w : World) (e : Ending) (w1 : World) : Prop :=
  ∃ p n c, e = .returned (.tuple #[.slice p n c, .int .i64 ev]) ∧ Frm [] w w1 ∧ (ev = 0 → n = ns.length ∧ (ns = [] → p = none → c = 0) ∧ Rd w1 p ns)
theorem NowW.same {w w' : World} {b : Nat} {fp : List Nat} {room err : Int} {zs : List Int} (h : IsW w b fp room zs err) (hf : Frm [] w w') : NowW w b fp room zs err w' :=
  ⟨fp, h.kept hf (by simp), hf.mono (by simp), fun _ hk => Or.inl hk⟩
theorem NowW.err {w w1 : World} {b : Nat} {fp : List Nat} {room err : Int} {zs : List Int} (h : IsW w b fp room zs err) (hf : Frm [] w w1) (ev : Int) : NowW w b fp room zs ev (w1.setCell ⟨b, 2, none⟩ (.int .i64 ev)) := by
  obtain ⟨p, c, h1, h2, rfl, h4⟩ := h
  have g := hf.heap h1 (by simp)
  have hF : Frm [b] w1 (w1.setCell ⟨b, 2, none⟩ (.int .i64 ev)) := (Frm.refl _ _).setCell _ _ (by simp)
  refine ⟨_, ⟨p, c, ?_, (h2.kept hf (by simp)).kept hF (by rw [own_blk]; intro k hk; simp; rintro rfl; exact h4 hk), rfl, h4⟩, (hf.mono (by simp)).trans hF (by simp), fun _ hk => Or.inl hk⟩
  rw [heap_setCell_same w1 b 2 _ _ _ g]; rfl
theorem NowW.app {w w1 w2 : World} {b : Nat} {fp : List Nat} {room : Int} {zs xs : List Int} {p p2 : Option Addr} {c c2 : Nat} (hh : w.heap[b]? = some (.cells #[.int .i64 room, .slice p zs.length c, .int .i64 0] 89 (0, 0)))
    (hfp : fp = b :: blk p) (hnb : b ∉ blk p) (hF : Frm [] w w1) (ho : Own w2 5 (.slice p2 xs.length c2) xs) (hF2 : Frm (blk p) w1 w2) (hfr : ∀ k ∈ blk p2, k ∈ blk p ∨ w1.heap.size ≤ k) :
    NowW w b fp room xs 0 (w2.setCell ⟨b, 1, none⟩ (.slice p2 xs.length c2)) := by
  subst hfp
  have hb := lt_of_heap hh
  have hb1 := Nat.lt_of_lt_of_le hb hF.size
  have g := hF2.heap (hF.heap hh (by simp)) hnb
  have hnb2 : b ∉ blk p2 := fun h => by rcases hfr b h with h | h; exact hnb h; omega
  have hF3 : Frm [b] w2 (w2.setCell ⟨b, 1, none⟩ (.slice p2 xs.length c2)) := (Frm.refl _ _).setCell _ _ (by simp)
  refine ⟨b :: blk p2, ⟨p2, c2, ?_, ho.kept hF3 (by rw [own_blk]; intro k hk; simp; rintro rfl; exact hnb2 hk), rfl, hnb2⟩, ?_, ?_⟩
  · rw [heap_setCell_same w2 b 1 _ _ _ g]; rfl
  · exact ((hF.mono (T := b :: blk p) (by simp)).trans hF2 (by intro i hi _; simp [hi])).trans hF3 (by simp)
  · intro k hk
    simp at hk ⊢
    rcases hk with rfl | hk
    · exact Or.inl (Or.inl rfl)
    · rcases hfr k hk with h | h
      · exact Or.inl (Or.inr h)
      · exact Or.inr (Nat.le_trans hF.size h)
section
variable (b : Nat) (fp : List Nat) (room err : Int) (zs ns : List Int) (ev : Int) (f : FuncId) (cap : Array Value) (w : World)
set_option maxHeartbeats 400000 in
theorem lay_stop (fn : Fn) (hw : IsW w b fp room zs err) (he : err ≠ 0) :
    Calls Tryz.prog 71 #[.pointer (some ⟨b, 0, none⟩), .func fn #[] cap] w fun e w' => e = .returned (.tuple #[]) ∧ NowW w b fp room zs err w' := by
  obtain ⟨p, c, _, _, _, _, c0, c1, c2, f1, f2, _⟩ := hw.cells
  have HE : Hid (err ≠ 0) := he
  have HW : Hid (IsW w b fp room zs err) := hw
  have hb : (err != 0) = true := by simpa using he
  clear he hw
  go_enter Tryz.func71, Tryz.ntmps71
  go_wp2_with fail
  go_returns
  exact ⟨rfl, NowW.same HW.out (Frm.refl _ _)⟩
set_option maxHeartbeats 400000 in
theorem lay_err (hw : IsW w b fp room zs 0) (he : ev ≠ 0) (hcf : ∀ w, Sem.run Tryz.prog (callFunc f cap) w = .ok (.enter f cap) w)
    (hform : Calls Tryz.prog f cap w (Gives ns ev w)) :
    Calls Tryz.prog 71 #[.pointer (some ⟨b, 0, none⟩), .func (.func f) #[] cap] w fun e w' => e = .returned (.tuple #[]) ∧ NowW w b fp room zs ev w' := by
  obtain ⟨p, c, hlt, _, _, _, c0, c1, c2, f1, f2, _⟩ := hw.cells
  have HW : Hid (IsW w b fp room zs 0) := hw
  have hb : (ev != 0) = true := by simpa using he
  have hb2 : (ev == 0) = false := by simpa using he
  clear hw he
  go_enter Tryz.func71, Tryz.ntmps71
  go_wp2_with fail
  refine hform.mono ?_
  rintro e w1 ⟨p', n', c', rfl, hF, _⟩
  have k0 := (hF.cell (p := ⟨b, 0, none⟩) hlt (by simp)).trans c0
  have k1 := (hF.cell (p := ⟨b, 1, none⟩) hlt (by simp)).trans c1
  have k2 := (hF.cell (p := ⟨b, 2, none⟩) hlt (by simp)).trans c2
  have q2 := (hF.frozen (p := ⟨b, 2, none⟩) hlt (by simp)).trans f2
  go_wp2_with fail
  go_quiet (fail)
  go_wp2_with fail
  go_returns
  exact ⟨rfl, NowW.err HW.out (hF.drewN nq) ev⟩
set_option maxHeartbeats 400000 in
theorem lay_full (hw : IsW w b fp room zs 0) (_hr0 : 0 ≤ room) (_hr1 : room ≤ 2147483647) (hz : (zs.length : Int) ≤ room) (hfull : room - zs.length < ns.length) (hm : ns.length ≤ 140737488355328) (hcf : ∀ w, Sem.run Tryz.prog (callFunc f cap) w = .ok (.enter f cap) w)
    (hform : Calls Tryz.prog f cap w (Gives ns 0 w)) :
    Calls Tryz.prog 71 #[.pointer (some ⟨b, 0, none⟩), .func (.func f) #[] cap] w fun e w' => e = .returned (.tuple #[]) ∧ NowW w b fp room zs 12 w' := by
  obtain ⟨p, c, hlt, _, _, _, c0, c1, c2, f1, f2, _⟩ := hw.cells
  have HW : Hid (IsW w b fp room zs 0) := hw
  clear hw
  go_enter Tryz.func71, Tryz.ntmps71
  go_wp2_with fail
  refine hform.mono ?_
  rintro e w1 ⟨p', n', c', rfl, hF, hG⟩
  obtain ⟨rfl, _, _⟩ := hG rfl
  have k0 := (hF.cell (p := ⟨b, 0, none⟩) hlt (by simp)).trans c0
  have k1 := (hF.cell (p := ⟨b, 1, none⟩) hlt (by simp)).trans c1
  have k2 := (hF.cell (p := ⟨b, 2, none⟩) hlt (by simp)).trans c2
  have q2 := (hF.frozen (p := ⟨b, 2, none⟩) hlt (by simp)).trans f2
  clear hG
  go_wp2_with fail
  go_quiet (fail)
  go_wp2_with fail
  go_returns
  exact ⟨rfl, NowW.err HW.out (hF.drewN nq) 12⟩
set_option maxHeartbeats 400000 in
theorem lay_ok (hw : IsW w b fp room zs 0) (hr0 : 0 ≤ room) (hr1 : room ≤ 2147483647) (hz : (zs.length : Int) ≤ room) (hfull : ns.length ≤ room - zs.length) (hcf : ∀ w, Sem.run Tryz.prog (callFunc f cap) w = .ok (.enter f cap) w)
    (hform : Calls Tryz.prog f cap w (Gives ns 0 w)) :
    Calls Tryz.prog 71 #[.pointer (some ⟨b, 0, none⟩), .func (.func f) #[] cap] w fun e w' => e = .returned (.tuple #[]) ∧ NowW w b fp room (zs ++ ns) 0 w' := by
  obtain ⟨p, c, hlt, hfp, hnb, hown, c0, c1, c2, f1, f2, hh⟩ := hw.cells
  have HF : Hid (fp = b :: blk p) := hfp
  clear hw hfp
  go_enter Tryz.func71, Tryz.ntmps71
  go_wp2_with fail
  refine hform.mono ?_
  rintro e w1 ⟨p', n', c', rfl, hF, hG⟩
  obtain ⟨rfl, hpc, hrd⟩ := hG rfl
  have k0 := (hF.cell (p := ⟨b, 0, none⟩) hlt (by simp)).trans c0
  have k1 := (hF.cell (p := ⟨b, 1, none⟩) hlt (by simp)).trans c1
  have k2 := (hF.cell (p := ⟨b, 2, none⟩) hlt (by simp)).trans c2
  have hown1 := hown.kept hF (by simp)
  have hlt1 := Nat.lt_of_lt_of_le hlt hF.size
  clear hG
  go_wp2_with fail
  go_quiet (fail)
  have HP : Hid (ns = [] → p' = none → c' = 0) := hpc
  clear hpc
  go_wp2_with (at_builtin; refine wpList_appB rfl _ _ 24 rfl 5 Tryz.underlying24 infoE p _ c zs rfl rfl (hown1.kept ((Frm.refl [] _).drewN nq) (by simp)) p' ns.length c' ns rfl rfl HP.out (hrd.drewN nq) (by omega) ?_)
  intro xs p2 c2' w2 hxs ho hF2 hfresh
  have m1 := (hF2.out.cell (p := ⟨b, 1, none⟩) hlt1 hnb).trans k1
  have q1 := (hF2.out.frozen (p := ⟨b, 1, none⟩) hlt1 hnb).trans ((hF.frozen (p := ⟨b, 1, none⟩) hlt (by simp)).trans f1)
  have HR := hid (NowW.app hh.out HF.out hnb (hF.drewN nq) ho.out hF2.out hfresh.out)
  go_wp2_with fail
  go_returns
  have := HR.out
  rw [hxs.out] at this
  exact ⟨rfl, by rw [hxs.out]; exact this⟩
end
/-- What a call makes of a writer's state: what was laid down, and its error. -/
def stepW (room : Int) (s : List Int × Int) (g : List Int × Int) : List Int × Int :=
  if s.2 ≠ 0 then s else if g.2 ≠ 0 then (s.1, g.2) else if room - s.1.length < g.1.length then (s.1, 12) else (s.1 ++ g.1, 0)
theorem lay_any (b : Nat) (fp : List Nat) (room : Int) (s g : List Int × Int) (f : FuncId) (cap : Array Value) (w : World) (hw : IsW w b fp room s.1 s.2) (hr0 : 0 ≤ room) (hr1 : room ≤ 2147483647) (hz : (s.1.length : Int) ≤ room) (hm : g.1.length ≤ 140737488355328)
    (hcf : ∀ w, Sem.run Tryz.prog (callFunc f cap) w = .ok (.enter f cap) w) (hform : Calls Tryz.prog f cap w (Gives g.1 g.2 w)) :
    Calls Tryz.prog 71 #[.pointer (some ⟨b, 0, none⟩), .func (.func f) #[] cap] w fun e w' => e = .returned (.tuple #[]) ∧ NowW w b fp room (stepW room s g).1 (stepW room s g).2 w' := by
  obtain ⟨zs, err⟩ := s
  obtain ⟨ns, ev⟩ := g
  unfold stepW
  by_cases he : err = 0
  · subst he
    by_cases hev : ev = 0
    · subst hev
      by_cases hf : room - zs.length < ns.length
      · simp only [ne_eq, not_true, if_false, if_pos hf]
        exact lay_full b fp room zs ns f cap w hw hr0 hr1 hz hf hm hcf hform
      · simp only [ne_eq, not_true, if_false, if_neg hf]
        exact lay_ok b fp room zs ns f cap w hw hr0 hr1 hz (by omega) hcf hform
    · simp only [ne_eq, not_true, if_false, hev, not_false_eq_true, if_true]
      exact lay_err b fp room zs ns ev f cap w hw hev hcf hform
  · simp only [ne_eq, he, not_false_eq_true, if_true]
    exact lay_stop b fp room err zs cap w (.func f) hw he
theorem NowW.after {w w0 w' : World} {b : Nat} {fp : List Nat} {room err : Int} {zs : List Int} (hf : Frm [] w w0) (h : NowW w0 b fp room zs err w') : NowW w b fp room zs err w' := by
  obtain ⟨fp', h1, h2, h3⟩ := h
  exact ⟨fp', h1, (hf.mono (by simp)).trans h2 (fun i hi _ => hi), fun k hk => (h3 k hk).imp id (fun h => Nat.le_trans hf.size h)⟩
end
end Go.Proofs.YtajfjkfnmmfhmaaGreatDoor
