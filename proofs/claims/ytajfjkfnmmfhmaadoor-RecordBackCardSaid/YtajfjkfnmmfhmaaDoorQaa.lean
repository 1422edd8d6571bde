/- Words of our own for worlds, footprints and rows of bytes; small laws on them. Speaks of no program. Rows of cells of any kind: read, and laid behind a row of one's own. Speaks of no program. Laws of bytes for all packages: conversion to text, a copy into the midst of a block, one's own bytes set. -/
import Derived.WalkKit
import Derived.WalkSpells
import Derived.WalkLawsBesides
import Derived.Handy
import Derived.Deep.OwnRows
import Derived.Laws.BytesArg
import Derived.Laws.CopyOwn
import Derived.Lib.AppendStr
import Derived.Test.YtajfjkfnmmfhmaaDoorRows
import Derived.Laws.OwnMore
import Derived.Deep.QuietTactic
import Derived.BigQuiet
import Derived.Deep.RegionHeld3
namespace Go.Proofs.YtajfjkfnmmfhmaaDoor
section
open Go.RowKit Go.Lib

theorem hid {p : Prop} (h : p) : Hid p := h
/-- Behind a step the world is as it was, but for the blocks of the list, and new ones. -/
structure Frm (S : List Nat) (w w' : World) : Prop where
  os : w'.os = w.os
  tape : w'.tape = w.tape
  output : w'.output = w.output
  size : w.heap.size ≤ w'.heap.size
  block : ∀ k, k < w.heap.size → k ∉ S → w'.heap[k]? = w.heap[k]?

theorem Frm.refl (S : List Nat) (w : World) : Frm S w w := ⟨rfl, rfl, rfl, Nat.le_refl _, fun _ _ _ => rfl⟩
theorem Frm.trans {S T : List Nat} {a b c : World} (h : Frm S a b) (k : Frm T b c) (hT : ∀ i ∈ T, i < a.heap.size → i ∈ S) : Frm S a c :=
  ⟨k.os.trans h.os, k.tape.trans h.tape, k.output.trans h.output, Nat.le_trans h.size k.size, fun i hi hn =>
    (k.block i (Nat.lt_of_lt_of_le hi h.size) (fun ht => hn (hT i ht hi))).trans (h.block i hi hn)⟩
theorem Frm.mono {S T : List Nat} {a b : World} (h : Frm S a b) (hT : ∀ i ∈ S, i < a.heap.size → i ∈ T) : Frm T a b :=
  ⟨h.os, h.tape, h.output, h.size, fun i hi hn => h.block i hi (fun hs => hn (hT i hs hi))⟩
theorem Frm.alloc {S : List Nat} {a w : World} (h : Frm S a w) (o : Obj) : Frm S a (w.alloc o) :=
  h.trans (T := []) ⟨rfl, rfl, rfl, by simp, fun k hk _ => Below.heap_alloc w o k hk⟩ (by simp)
theorem Frm.drew {S : List Nat} {a w : World} (h : Frm S a w) : Frm S a w.drew := ⟨h.os, h.tape, h.output, h.size, h.block⟩
theorem Frm.drewN {S : List Nat} {a w : World} (h : Frm S a w) (n : Nat) : Frm S a (w.drewN n) := ⟨h.os, h.tape, h.output, h.size, h.block⟩
theorem Frm.setCell {S : List Nat} {a w : World} (h : Frm S a w) (p : Addr) (u : Value) (hp : p.block < a.heap.size → p.block ∈ S) : Frm S a (w.setCell p u) :=
  h.trans (T := [p.block]) ⟨rfl, rfl, rfl, by simp [World.setCell], fun k _ hn => heap_setCell_other w p k u (by simpa using hn)⟩ (by simpa using hp)
theorem Frm.grown {S : List Nat} {a w w' : World} {row : Option Nat} (h : Frm S a w) (hg : w.grownBy w' row) (hr : ∀ k, row = some k → k < a.heap.size → k ∈ S) : Frm S a w' :=
  h.trans (T := row.toList) ⟨hg.os, hg.tape, hg.output, hg.size, fun k hk hn => hg.block k hk (fun e => hn (by rw [← e]; simp))⟩ (fun i hi hlt => hr i (by simpa using hi) hlt)
theorem Frm.below {S : List Nat} {B : Nat} {a w : World} (h : Frm S a w) (hB : B ≤ a.heap.size) (hS : ∀ i ∈ S, B ≤ i) : Below B a w :=
  ⟨h.os, h.tape, h.output, h.size, fun k hk => h.block k (by omega) (fun hs => by have := hS k hs; omega)⟩
theorem Frm.cell {S : List Nat} {a w : World} (h : Frm S a w) {p : Addr} (hp : p.block < a.heap.size) (hn : p.block ∉ S) : w.cell? p = a.cell? p :=
  World.cell?_of_block (h.block _ hp hn)
theorem Frm.frozen {S : List Nat} {a w : World} (h : Frm S a w) {p : Addr} (hp : p.block < a.heap.size) (hn : p.block ∉ S) : w.frozen? p = a.frozen? p :=
  World.frozen?_of_block (h.block _ hp hn)
theorem Frm.heap {S : List Nat} {a w : World} (h : Frm S a w) {k : Nat} {o : Obj} (hk : a.heap[k]? = some o) (hn : k ∉ S) : w.heap[k]? = some o :=
  (h.block k (Array.getElem?_eq_some_iff.1 hk).1 hn).trans hk
theorem lt_of_heap {w : World} {k : Nat} {o : Obj} (hk : w.heap[k]? = some o) : k < w.heap.size := (Array.getElem?_eq_some_iff.1 hk).1

/-- A row of bytes as cells. -/
def bv (zs : List Int) : List Value := zs.map (Value.int .u8)
theorem bv_length (zs : List Int) : (bv zs).length = zs.length := by simp [bv]
theorem bv_append (a b : List Int) : bv (a ++ b) = bv a ++ bv b := by simp [bv]
theorem bv_take (a : List Int) (n : Nat) : bv (a.take n) = (bv a).take n := by simp [bv, List.map_take]
theorem bv_drop (a : List Int) (n : Nat) : bv (a.drop n) = (bv a).drop n := by simp [bv, List.map_drop]
theorem bv_one {zs : List Int} : ∀ u ∈ bv zs, u.oneCell' = true := by
  intro u hu; simp [bv] at hu; obtain ⟨z, _, rfl⟩ := hu; rfl
theorem bv_get {zs : List Int} {i : Nat} (h : i < zs.length) : (bv zs)[i]? = some (.int .u8 (zs.getD i 0)) := by
  simp [bv, h]

theorem get_mid {α : Type} (a : List α) (m : Nat) (v : α) (h : 0 < m) : (a ++ List.replicate m v)[a.length]? = some v := by
  rw [List.getElem?_append_right (Nat.le_refl _), Nat.sub_self]; cases m with
  | zero => omega
  | succ m => simp [List.replicate_succ]
theorem set_mid {α : Type} (a : List α) (m : Nat) (v u : α) : (a ++ List.replicate (m + 1) v).set a.length u = a ++ [u] ++ List.replicate m v := by
  rw [List.set_append_right _ _ (Nat.le_refl _)]; simp [List.replicate_succ]
/-- From a place on there stand these bytes (of none nothing is asked). -/
def Rd (w : World) (p : Option Addr) (zs : List Int) : Prop :=
  zs = [] ∨ ∃ g o, p = some ⟨g, o, none⟩ ∧ ∀ i, i < zs.length → w.cell? ⟨g, o + i, none⟩ = some (.int .u8 (zs.getD i 0))
theorem Rd.nil (w : World) (p : Option Addr) : Rd w p [] := Or.inl rfl
theorem Rd.drewN {w : World} {p : Option Addr} {zs : List Int} (h : Rd w p zs) (n : Nat) : Rd (w.drewN n) p zs := h
theorem Rd.drew {w : World} {p : Option Addr} {zs : List Int} (h : Rd w p zs) : Rd w.drew p zs := h
/-- Which block is read: below. -/
def blk (p : Option Addr) : List Nat := match p with | some a => [a.block] | none => []
theorem blk_some (a : Addr) : blk (some a) = [a.block] := rfl
theorem blk_none : blk none = [] := rfl
theorem Rd.kept {S : List Nat} {w w' : World} {p : Option Addr} {zs : List Int} (h : Rd w p zs) (hf : Frm S w w') (hn : ∀ k ∈ blk p, k ∉ S) : Rd w' p zs := by
  rcases h with h | ⟨g, o, rfl, hc⟩
  · exact Or.inl h
  · refine Or.inr ⟨g, o, rfl, fun i hi => ?_⟩
    have hlt : g < w.heap.size := World.block_lt_of_cell? w _ (hc i hi)
    rw [hf.cell (p := ⟨g, o + i, none⟩) hlt (hn g (by simp [blk]))]
    exact hc i hi
theorem Rd.alloc {w : World} {p : Option Addr} {zs : List Int} (h : Rd w p zs) (o : Obj) : Rd (w.alloc o) p zs := h.kept (S := []) ((Frm.refl [] w).alloc o) (by simp)
theorem Rd.take {w : World} {p : Option Addr} {zs : List Int} (h : Rd w p zs) (n : Nat) : Rd w p (zs.take n) := by
  rcases h with rfl | ⟨g, o, rfl, hc⟩
  · exact Or.inl (by simp)
  · refine Or.inr ⟨g, o, rfl, fun i hi => ?_⟩
    simp at hi
    rw [hc i (by omega)]
    have h2 : i < zs.length := by omega
    simp [List.getD, hi, h2]
theorem Rd.drop {w : World} {g o : Nat} {zs : List Int} (h : Rd w (some ⟨g, o, none⟩) zs) (n : Nat) : Rd w (some ⟨g, o + n, none⟩) (zs.drop n) := by
  rcases h with rfl | ⟨g', o', he, hc⟩
  · exact Or.inl (by simp)
  · simp at he; obtain ⟨rfl, rfl⟩ := he
    refine Or.inr ⟨g, o + n, rfl, fun i hi => ?_⟩
    simp at hi
    rw [Nat.add_assoc, hc (n + i) (by omega)]
    simp [List.getD]

/-- A row of bytes of one's own: nil, or a block from its beginning on. -/
def Own (w : World) (E : TypeId) (v : Value) (zs : List Int) : Prop := w.ownsRow 0 E 1 v zs.length (bv zs)
theorem Own.nil (w : World) (E : TypeId) : Own w E (.slice none 0 0) [] := World.ownsRow_nil w 0 E 1
theorem Own.shape {w : World} {E : TypeId} {v : Value} {zs : List Int} (h : Own w E v zs) : ∃ p c, v = .slice p zs.length c ∧ zs.length ≤ c ∧ (p = none → zs = [] ∧ c = 0) ∧ (∀ a, p = some a → a.off = 0 ∧ a.spot = none ∧ a.block < w.heap.size) ∧ v.ownBlock.toList = blk p := by
  rcases h.2 with ⟨rfl, h0⟩ | ⟨g, c, cur, rfl, _, hg, hc, _⟩
  · exact ⟨none, 0, by rw [h0], by omega, fun _ => ⟨List.eq_nil_of_length_eq_zero h0, rfl⟩, by simp, rfl⟩
  · refine ⟨some ⟨g, 0, none⟩, c, rfl, hc, by simp, ?_, rfl⟩
    intro a ha; simp at ha; subst ha; exact ⟨rfl, rfl, lt_of_heap hg⟩
theorem Own.rd {w : World} {E : TypeId} {p : Option Addr} {n c : Nat} {zs : List Int} (h : Own w E (.slice p n c) zs) : Rd w p zs := by
  rcases h.2 with ⟨_, h0⟩ | ⟨g, c', cur, he, _, hg, hc, _, hs, ht⟩
  · exact Or.inl (List.eq_nil_of_length_eq_zero h0)
  · simp at he
    obtain ⟨rfl, _, _⟩ := he
    refine Or.inr ⟨g, 0, rfl, fun i hi => ?_⟩
    rw [Nat.zero_add, cell_of_row w g i cur E (0, 0) hg]
    have := congrArg (fun l => l[i]?) ht
    simp only [List.getElem?_take, bv_get hi] at this
    rw [if_pos (by omega)] at this
    simpa using this
theorem Own.kept {S : List Nat} {w w' : World} {E : TypeId} {v : Value} {zs : List Int} (h : Own w E v zs) (hf : Frm S w w') (hn : ∀ k ∈ v.ownBlock.toList, k ∉ S) : Own w' E v zs := by
  refine ⟨h.1, ?_⟩
  rcases h.2 with h0 | ⟨g, c, cur, rfl, hb, hg, r⟩
  · exact Or.inl h0
  · exact Or.inr ⟨g, c, cur, rfl, hb, hf.heap hg (hn g (by simp [Value.ownBlock])), r⟩
/-- A block that holds just these bytes is a row of one's own. -/
theorem own_of_block {w : World} {E : TypeId} {g : Nat} {zs : List Int} (hg : w.heap[g]? = some (.cells (bv zs).toArray E (0, 0))) (hm : zs.length ≤ maxLen) : Own w E (.slice (some ⟨g, 0, none⟩) zs.length zs.length) zs :=
  ⟨by simp [bv], Or.inr ⟨g, zs.length, _, rfl, Nat.zero_le _, hg, Nat.le_refl _, hm, by simp [bv], by simp [bv, List.take_of_length_le]⟩⟩
theorem own_of_block' {w : World} {E : TypeId} {g n : Nat} {zs : List Int} (hg : w.heap[g]? = some (.cells (bv zs).toArray E (0, 0))) (hm : zs.length ≤ maxLen) (hn : zs.length = n) : Own w E (.slice (some ⟨g, 0, none⟩) zs.length n) zs := by
  subst hn; exact own_of_block hg hm

/-- The bytes of a number, the lowest first. -/
def le (n : Int) (k : Nat) : List Int := (List.range k).map fun i => n / 2 ^ (8 * i) % 256
theorem le_length (n : Int) (k : Nat) : (le n k).length = k := by simp [le]
theorem le_succ (n : Int) (k : Nat) : le n (k + 1) = le n k ++ [n / 2 ^ (8 * k) % 256] := by simp [le, List.range_succ]

theorem own_blk {p : Option Addr} {n c : Nat} : (Value.slice p n c).ownBlock.toList = blk p := by cases p <;> rfl
section
variable {P : Program} {w : World}
theorem bytes_at {p : Option Addr} {ns : List Int} (hrd : Rd w p ns) (hne : ns ≠ []) : ∃ ad, p = some ad ∧ ∀ j u, (bv ns)[j]? = some u → w.cell? (ad.add j) = some u := by
  rcases hrd with h | ⟨g, o, rfl, hc⟩
  · exact absurd h hne
  · refine ⟨_, rfl, fun j u hu => ?_⟩
    have hj : j < ns.length := by have := (List.getElem?_eq_some_iff.1 hu).1; simpa [bv] using this
    rw [bv_get hj] at hu
    rw [show (⟨g, o, none⟩ : Addr).add j = ⟨g, o + j, none⟩ by unfold Addr.add; split <;> simp_all, hc j hj]
    exact hu
theorem oks {v v' : Value} {w1 w2 : World} (h : (Result.ok v w1 : Result Value) = .ok v' w2) : v = v' ∧ w1 = w2 := by cases h; exact ⟨rfl, rfl⟩
/-- append of bytes to a row of one's own: it stays in its block, or goes into a new one. -/
theorem run_appB (t ty E : TypeId) (ht : P.underlying t = some (.slice E)) (hI : (P.info? E).map (fun i => (i.zero, i.size, i.bytes)) = some (some (.int .u8 0), 1, 1))
    (v : Value) (zs : List Int) (hown : Own w E v zs) (p : Option Addr) (c : Nat) (ns : List Int) (hp : ns = [] → p = none → c = 0) (hrd : Rd w p ns) (hsz : zs.length + ns.length ≤ 140737488355328) :
    ∃ v' w', (Builtin.append_ #[t, t] ty #[v, .slice p ns.length c]).run P w = .ok v' w' ∧ Own w' E v' (zs ++ ns) ∧ Frm v.ownBlock.toList w w' ∧ (∀ k ∈ v'.ownBlock.toList, k ∈ v.ownBlock.toList ∨ w.heap.size ≤ k) := by
  obtain ⟨i, hi, hz, h1, h2⟩ := info_parts hI
  have hmax : zs.length + ns.length ≤ maxLen := by unfold maxLen; omega
  by_cases hne : ns = []
  · subst hne
    cases p with
    | none =>
      obtain rfl := hp rfl rfl
      have hr := run_append_owned_none (P := P) w 0 t ty E i 1 ht hi v zs.length (bv zs) hown
      exact ⟨v, w, hr, by simpa using hown, Frm.refl _ _, fun k hk => Or.inl hk⟩
    | some ad =>
      obtain ⟨v', w', hr, ho, hg, _⟩ := run_append_own (P := P) w 0 t ty E i (.int .u8 0) 1 1 ht hi hz h1 h2 rfl (by decide) v zs.length (bv zs) hown ad 0 c [] rfl (by simp) (by simp) (by simpa using hmax) (by simp at hsz; omega) (Nat.zero_le _)
      refine ⟨v', w', hr, by simpa [Own] using ho, (Frm.refl _ _).grown hg (fun k hk _ => by simp [hk]), ?_⟩
      rcases hown.2 with ⟨rfl, h0⟩ | ⟨g, cap, cur, rfl, _, hgg, hc, hcm, hcs, htk⟩
      · obtain rfl : zs = [] := List.eq_nil_of_length_eq_zero h0
        obtain ⟨v2, w2, hr2, ho2, _, _⟩ := run_append_own (P := P) w w.heap.size t ty E i (.int .u8 0) 1 1 ht hi hz h1 h2 rfl (by decide) (.slice none 0 0) 0 [] (World.ownsRow_nil w _ E 1) ad 0 c [] rfl (by simp) (by simp) (by simp) (by simp) (Nat.le_refl _)
        obtain ⟨rfl, rfl⟩ := oks (hr.symm.trans hr2)
        intro k hk; exact Or.inr (ho2.lt k (by simpa using hk)).1
      · have hr2 := run_append_room (P := P) w t ty E i ht hi g zs.length cap cur hgg ad 0 c [] (by simp) (by simp) (by simp) (by omega) (by simp [h1]; omega)
        obtain ⟨rfl, rfl⟩ := oks (hr.symm.trans hr2)
        intro k hk; exact Or.inl (by simpa [Value.ownBlock] using hk)
  · obtain ⟨ad, rfl, hnews⟩ := bytes_at hrd hne
    obtain ⟨v', w', hr, ho, hg, _⟩ := run_append_own (P := P) w 0 t ty E i (.int .u8 0) 1 1 ht hi hz h1 h2 rfl (by decide) v zs.length (bv zs) hown ad ns.length c (bv ns) (by simp [bv]) hnews bv_one hmax (by omega) (Nat.zero_le _)
    refine ⟨v', w', hr, by simpa [Own, bv_append] using ho, (Frm.refl _ _).grown hg (fun k hk _ => by simp [hk]), ?_⟩
    have hpos : 0 < ns.length := List.length_pos_iff.2 hne
    rcases hown.2 with ⟨rfl, h0⟩ | ⟨g, cap, cur, rfl, _, hgg, hc, hcm, hcs, htk⟩
    · obtain rfl : zs = [] := List.eq_nil_of_length_eq_zero h0
      have hr2 := run_append_nil (P := P) w t ty E i (.int .u8 0) ht hi hz ad ns.length c (bv ns) (by simp [bv, h1]) hnews hpos (by omega) (by rw [h2]; omega)
      obtain ⟨rfl, rfl⟩ := oks (hr.symm.trans hr2)
      intro k hk; simp [Value.ownBlock] at hk; exact Or.inr (by omega)
    · by_cases hroom : zs.length + ns.length ≤ cap
      · have hr2 := run_append_room (P := P) w t ty E i ht hi g zs.length cap cur hgg ad ns.length c (bv ns) (by simp [bv, h1]) hnews bv_one hroom (by simp [bv, h1]; omega)
        obtain ⟨rfl, rfl⟩ := oks (hr.symm.trans hr2)
        intro k hk; exact Or.inl (by simpa [Value.ownBlock] using hk)
      · have holds := World.ownsRow.cells (g := g) hown rfl
        have hr2 := run_append_grow (P := P) w t ty E i (.int .u8 0) ht hi hz ⟨g, 0, none⟩ zs.length cap (bv zs) (by simp [bv, h1]) holds ad ns.length c (bv ns) (by simp [bv, h1]) hnews (by omega) (by omega) (growslice_fits (by omega) (by rw [h2]; omega))
        obtain ⟨rfl, rfl⟩ := oks (hr.symm.trans hr2)
        intro k hk; simp [Value.ownBlock] at hk; exact Or.inr (by omega)
theorem wpList_appB {ops : Array Oper} {rest : List Oper} {o : Oper} {a : Act} {Q : Exit → Act → World → Prop} (hgd : o.guard = none) (s x : Operand) (t : TypeId)
    (ho : o.op = .call { callee := .builtin .append, args := #[s, x], argTypes := #[t, t] })
    (E : TypeId) (ht : P.underlying t = some (.slice E)) (hI : (P.info? E).map (fun i => (i.zero, i.size, i.bytes)) = some (some (.int .u8 0), 1, 1))
    (p0 : Option Addr) (n0 c0 : Nat) (zs : List Int) (hs : a.eval s = .slice p0 n0 c0) (hn0 : n0 = zs.length) (hown : Own w E (.slice p0 zs.length c0) zs)
    (p : Option Addr) (n c : Nat) (ns : List Int) (hx : a.eval x = .slice p n c) (hn : n = ns.length) (hp : ns = [] → p = none → c = 0) (hrd : Rd w p ns) (hsz : zs.length + ns.length ≤ 140737488355328)
    (h : ∀ xs p2 c2 w', Hid (xs = zs ++ ns) → Hid (Own w' E (.slice p2 xs.length c2) xs) → Hid (Frm (blk p0) w w') → Hid (∀ k ∈ blk p2, k ∈ blk p0 ∨ w.heap.size ≤ k) → wpList P ops Q rest (a.put o.dst (.slice p2 xs.length c2)) w') :
    wpList P ops Q (o :: rest) a w := by
  refine wpList_plain hgd fun K hK => ?_
  subst hn
  subst hn0
  obtain ⟨v', w', hrun, h1, h2, h3⟩ := run_appB (P := P) (w := w) t o.type E ht hI _ zs hown p c ns hp hrd hsz
  obtain ⟨xs, hxs⟩ : ∃ xs, xs = zs ++ ns := ⟨_, rfl⟩
  rw [← hxs] at h1
  obtain ⟨p2, c2, rfl, _, _, _, hb⟩ := h1.shape
  rw [hb, own_blk] at h3
  rw [own_blk] at h2
  unfold Oper.wp
  simp [execOp, ho, resolve, invoke, builtin, hs, hx, hrun, Result.andThen]
  exact hK _ _ (h xs p2 c2 w' hxs h1 h2 h3)
/-- copy over a whole block of one's own, from what is as long at least. -/
theorem wpList_copyB {ops : Array Oper} {rest : List Oper} {o : Oper} {a : Act} {Q : Exit → Act → World → Prop} (hgd : o.guard = none) (d s : Operand) (T : TypeId)
    (ho : o.op = .call { callee := .builtin .copy, args := #[d, s], argTypes := #[T, T] })
    (E : TypeId) (ht : P.underlying T = some (.slice E)) (hI : (P.info? E).map (fun i => (i.zero, i.size, i.bytes)) = some (some (.int .u8 0), 1, 1))
    (g n dc : Nat) (cur : Array Value) (hd : a.eval d = .slice (some ⟨g, 0, none⟩) n dc) (hg : w.heap[g]? = some (.cells cur E (0, 0))) (hcur : cur.size = n)
    (p : Option Addr) (m c : Nat) (ns : List Int) (hx : a.eval s = .slice p m c) (hm : m = ns.length) (hrd : Rd w p ns) (hle : n ≤ ns.length)
    (h : ∀ w', w'.heap[g]? = some (.cells (bv (ns.take n)).toArray E (0, 0)) → Frm [g] w w' → wpList P ops Q rest (a.put o.dst (goInt n)) w') :
    wpList P ops Q (o :: rest) a w := by
  obtain ⟨i, hi, hz, h1, h2⟩ := info_parts hI
  have hsz : (P.info? E).map (·.size) = some 1 := by simp [hi, h1]
  subst hm
  by_cases hn : n = 0
  · subst hn
    refine wpList_copy_nothing hgd d s T T ho E ht hsz (some ⟨g, 0, none⟩) p 0 dc ns.length c hd hx (by simp) ?_
    have hc0 : cur = #[] := Array.eq_empty_of_size_eq_zero hcur
    exact h w (by subst hc0; simpa [bv] using hg) (Frm.refl _ _)
  · have hne : ns ≠ [] := by intro e; subst e; simp at hle; omega
    obtain ⟨ad, rfl, hnews⟩ := bytes_at hrd hne
    have hl : (bv (ns.take n)).length = n := by simp [bv]; omega
    have hl' : n = (bv (ns.take n)).length := hl.symm
    refine wpList_copy_own hgd d s T T ho E ht hsz g 0 n dc ad ns.length c hd hx cur E hg (bv (ns.take n)) (by rw [hl]; simp [Nat.min_def]; omega) ?_ (by omega) bv_one ?_
    · intro j v hj
      have hjn : j < n := by have := (List.getElem?_eq_some_iff.1 hj).1; omega
      refine hnews j v ?_
      rw [bv_take, List.getElem?_take, if_pos hjn] at hj
      exact hj
    · rw [hl]
      refine h _ ?_ ⟨rfl, rfl, rfl, by simp, fun k _ hk => setRow_other w g k _ (by simpa using hk)⟩
      rw [setRow_heap w g cur _ E _ hg]
      congr 2
      have hd0 : cur.toList.drop (0 + n) = [] := List.drop_eq_nil_of_le (by simp [hcur])
      rw [hd0]; simp
/-- A text's bytes. -/
def tx (s : ByteArray) : List Int := s.data.toList.map fun u => (u.toNat : Int)
theorem tx_length (s : ByteArray) : (tx s).length = s.size := by simp [tx]
theorem strCells_tx (s : ByteArray) : strCells s = bv (tx s) := by simp [strCells, bv, tx]
/-- append of a text to a row of one's own. -/
theorem run_appS (t u ty E : TypeId) (ht : P.underlying t = some (.slice E)) (hu : P.underlying u = some .string) (hI : (P.info? E).map (fun i => (i.zero, i.size, i.bytes)) = some (some (.int .u8 0), 1, 1))
    (v : Value) (zs : List Int) (hown : Own w E v zs) (s : ByteArray) (hsz : zs.length + s.size ≤ 140737488355328) :
    ∃ v' w', (Builtin.append_ #[t, u] ty #[v, .string s]).run P w = .ok v' w' ∧ Own w' E v' (zs ++ tx s) ∧ Frm v.ownBlock.toList w w' ∧ (∀ k ∈ v'.ownBlock.toList, k ∈ v.ownBlock.toList ∨ w.heap.size ≤ k) := by
  obtain ⟨i, hi, hz, h1, h2⟩ := info_parts hI
  have hmax : zs.length + s.size ≤ maxLen := by unfold maxLen; omega
  obtain ⟨v', w', hr, ho, hg, _⟩ := run_append_own_string (P := P) w 0 t u ty E i ht hu hi hz h1 h2 v zs.length (bv zs) hown s hmax hsz (Nat.zero_le _)
  refine ⟨v', w', hr, by simpa [Own, bv_append, strCells_tx, tx_length] using ho, (Frm.refl _ _).grown hg (fun k hk _ => by simp [hk]), ?_⟩
  rcases hown.2 with ⟨rfl, h0⟩ | ⟨g, cap, cur, rfl, _, hgg, hc, hcm, hcs, htk⟩
  · obtain rfl : zs = [] := List.eq_nil_of_length_eq_zero h0
    obtain ⟨v2, w2, hr2, ho2, _, _⟩ := run_append_own_string (P := P) w w.heap.size t u ty E i ht hu hi hz h1 h2 (.slice none 0 0) 0 [] (World.ownsRow_nil w _ E 1) s (by simpa using hmax) (by simpa using hsz) (Nat.le_refl _)
    obtain ⟨rfl, rfl⟩ := oks (hr.symm.trans hr2)
    intro k hk; exact Or.inr (ho2.lt k (by simpa using hk)).1
  · by_cases hroom : zs.length + s.size ≤ cap
    · have hr2 := run_append_room_string (P := P) w t u ty E i ht hu hi h1 g zs.length cap cur hgg s hroom (by omega)
      obtain ⟨rfl, rfl⟩ := oks (hr.symm.trans hr2)
      intro k hk; exact Or.inl (by simpa [Value.ownBlock] using hk)
    · have holds := World.ownsRow.cells (g := g) hown rfl
      have hr2 := run_append_grow_string (P := P) w t u ty E i (.int .u8 0) ht hu hi hz ⟨g, 0, none⟩ zs.length cap (bv zs) (by simp [bv, h1]) holds s (by omega) (by omega) (growslice_fits (by omega) (by rw [h2]; omega))
      obtain ⟨rfl, rfl⟩ := oks (hr.symm.trans hr2)
      intro k hk; simp [Value.ownBlock] at hk; exact Or.inr (by omega)
theorem step_appS {ops : Array Oper} {o : Oper} {a : Act} {K : Act → World → Prop} {Q : Exit → Act → World → Prop} {Z : Prop} (hgd : o.guard = none) (sl x : Operand) (t u : TypeId)
    (ho : o.op = .call { callee := .builtin .append, args := #[sl, x], argTypes := #[t, u] })
    (E : TypeId) (ht : P.underlying t = some (.slice E)) (hu : P.underlying u = some .string) (hI : (P.info? E).map (fun i => (i.zero, i.size, i.bytes)) = some (some (.int .u8 0), 1, 1))
    (p0 : Option Addr) (n0 c0 : Nat) (zs : List Int) (hs : a.eval sl = .slice p0 n0 c0) (hn0 : n0 = zs.length) (hown : Own w E (.slice p0 zs.length c0) zs)
    (s : ByteArray) (hx : a.eval x = .string s) (hsz : zs.length + s.size ≤ 140737488355328)
    (h : ∀ xs p2 c2 w', Hid (xs = zs ++ tx s) → Hid (Own w' E (.slice p2 xs.length c2) xs) → Hid (Frm (blk p0) w w') → Hid (∀ k ∈ blk p2, k ∈ blk p0 ∨ w.heap.size ≤ k) → K (a.put o.dst (.slice p2 xs.length c2)) w') :
    if Region.wanted o (yielded ops a.tmps) = true then Oper.wp P o a w K Q else Z := by
  have hw : Region.wanted o (yielded ops a.tmps) = true := by simp [Region.wanted, hgd]
  rw [if_pos hw]
  subst hn0
  obtain ⟨v', w', hrun, h1, h2, h3⟩ := run_appS (P := P) (w := w) t u o.type E ht hu hI _ zs hown s hsz
  obtain ⟨xs, hxs⟩ : ∃ xs, xs = zs ++ tx s := ⟨_, rfl⟩
  rw [← hxs] at h1
  obtain ⟨p2, c2, rfl, _, _, _, hb⟩ := h1.shape
  rw [hb, own_blk] at h3
  rw [own_blk] at h2
  unfold Oper.wp
  simp [execOp, ho, resolve, invoke, builtin, hs, hx, hrun, Result.andThen]
  exact h xs p2 c2 w' hxs h1 h2 h3
end
end
section
open Go.RowKit Go.Lib

/-- From a place on there stand these cells (of none nothing is asked). -/
def Rv (w : World) (p : Option Addr) (vs : List Value) : Prop :=
  vs = [] ∨ ∃ g o, p = some ⟨g, o, none⟩ ∧ ∀ i u, vs[i]? = some u → w.cell? ⟨g, o + i, none⟩ = some u
theorem Rv.kept {S : List Nat} {w w' : World} {p : Option Addr} {vs : List Value} (h : Rv w p vs) (hf : Frm S w w') (hn : ∀ k ∈ blk p, k ∉ S) : Rv w' p vs := by
  rcases h with h | ⟨g, o, rfl, hc⟩
  · exact Or.inl h
  · refine Or.inr ⟨g, o, rfl, fun i u hi => ?_⟩
    have hlt : g < w.heap.size := World.block_lt_of_cell? w _ (hc i u hi)
    rw [hf.cell (p := ⟨g, o + i, none⟩) hlt (hn g (by simp [blk]))]
    exact hc i u hi
theorem Rd.rv {w : World} {p : Option Addr} {zs : List Int} (h : Rd w p zs) : Rv w p (bv zs) := by
  rcases h with rfl | ⟨g, o, rfl, hc⟩
  · exact Or.inl rfl
  · refine Or.inr ⟨g, o, rfl, fun i u hu => ?_⟩
    have hj : i < zs.length := by have := (List.getElem?_eq_some_iff.1 hu).1; simpa [bv] using this
    rw [bv_get hj] at hu
    rw [hc i hj]
    exact hu
/-- A new block of cells is read whole. -/
theorem rv_block {w : World} {g : Nat} {cs : Array Value} {E : TypeId} (h : w.heap[g]? = some (.cells cs E (0, 0))) : Rv w (some ⟨g, 0, none⟩) cs.toList :=
  Or.inr ⟨g, 0, rfl, fun i u hu => by rw [Nat.zero_add, cell_of_row w g i cs E (0, 0) h]; simpa using hu⟩
section
variable {P : Program} {w : World}
theorem add_lit (g o j : Nat) : (⟨g, o, none⟩ : Addr).add j = ⟨g, o + j, none⟩ := by unfold Addr.add; split <;> simp_all
/-- append to a row of one's own: it stays in its block, or goes into a new one. -/
theorem run_appV (t ty E : TypeId) (sz bytes : Nat) (z : Value) (ht : P.underlying t = some (.slice E)) (hI : (P.info? E).map (fun i => (i.zero, i.size, i.bytes)) = some (some z, sz, bytes)) (hzs : z.cells.size = sz) (hsz : 0 < sz)
    (v : Value) (n : Nat) (xs : List Value) (hown : w.ownsRow 0 E sz v n xs) (p : Option Addr) (m c : Nat) (ns : List Value) (hnl : ns.length = m * sz) (hp : m = 0 → p = none → c = 0) (hrd : Rv w p ns) (h1 : ∀ u ∈ ns, u.oneCell' = true)
    (hmax : n + m ≤ maxLen) (hb : (n + m) * bytes ≤ 140737488355328) :
    ∃ v' w', (Builtin.append_ #[t, t] ty #[v, .slice p m c]).run P w = .ok v' w' ∧ w'.ownsRow 0 E sz v' (n + m) (xs ++ ns) ∧ Frm v.ownBlock.toList w w' ∧ (∀ k ∈ v'.ownBlock.toList, k ∈ v.ownBlock.toList ∨ w.heap.size ≤ k) := by
  obtain ⟨i, hi, hz, hs, hby⟩ := info_parts hI
  by_cases hm : m = 0
  · subst hm
    obtain rfl : ns = [] := List.eq_nil_of_length_eq_zero (by simpa using hnl)
    cases p with
    | none =>
      obtain rfl := hp rfl rfl
      have hr := run_append_owned_none (P := P) w 0 t ty E i sz ht hi v n xs hown
      exact ⟨v, w, hr, by simpa using hown, Frm.refl _ _, fun k hk => Or.inl hk⟩
    | some ad =>
      obtain ⟨v', w', hr, ho, hg, _⟩ := run_append_own (P := P) w 0 t ty E i z sz bytes ht hi hz hs hby hzs hsz v n xs hown ad 0 c [] (by simp) (by simp) (by simp) hmax hb (Nat.zero_le _)
      refine ⟨v', w', hr, ho, (Frm.refl _ _).grown hg (fun k hk _ => by simp [hk]), ?_⟩
      rcases hown.2 with ⟨rfl, rfl⟩ | ⟨g, cap, cur, rfl, _, hgg, hc, hcm, hcs, htk⟩
      · obtain rfl : xs = [] := List.eq_nil_of_length_eq_zero (by simpa using hown.1)
        obtain ⟨v2, w2, hr2, ho2, _, _⟩ := run_append_own (P := P) w w.heap.size t ty E i z sz bytes ht hi hz hs hby hzs hsz (.slice none 0 0) 0 [] (World.ownsRow_nil w _ E sz) ad 0 c [] (by simp) (by simp) (by simp) hmax hb (Nat.le_refl _)
        obtain ⟨rfl, rfl⟩ := oks (hr.symm.trans hr2)
        intro k hk; exact Or.inr (ho2.lt k (by simpa using hk)).1
      · have hr2 := run_append_room (P := P) w t ty E i ht hi g n cap cur hgg ad 0 c [] (by simp) (by simp) (by simp) (by omega) (by simp [hs, hcs]; exact Nat.mul_le_mul_right _ hc)
        obtain ⟨rfl, rfl⟩ := oks (hr.symm.trans hr2)
        intro k hk; exact Or.inl (by simpa [Value.ownBlock] using hk)
  · have hne : ns ≠ [] := by
      intro h; subst h
      have h0 : m * sz = 0 := by simpa using hnl.symm
      rcases Nat.mul_eq_zero.1 h0 with h | h
      · exact hm h
      · omega
    obtain ⟨g0, o0, rfl, hc0⟩ : ∃ g o, p = some ⟨g, o, none⟩ ∧ ∀ i u, ns[i]? = some u → w.cell? ⟨g, o + i, none⟩ = some u := by
      rcases hrd with h | h
      · exact absurd h hne
      · exact h
    have hnews : ∀ j u, ns[j]? = some u → w.cell? ((⟨g0, o0, none⟩ : Addr).add j) = some u := by
      intro j u hu; rw [add_lit]; exact hc0 j u hu
    obtain ⟨v', w', hr, ho, hg, _⟩ := run_append_own (P := P) w 0 t ty E i z sz bytes ht hi hz hs hby hzs hsz v n xs hown ⟨g0, o0, none⟩ m c ns hnl hnews h1 hmax hb (Nat.zero_le _)
    refine ⟨v', w', hr, ho, (Frm.refl _ _).grown hg (fun k hk _ => by simp [hk]), ?_⟩
    have hpos : 0 < m := by omega
    have hm63 : n + m ≤ 9223372036854775807 := by unfold maxLen at hmax; omega
    rcases hown.2 with ⟨rfl, rfl⟩ | ⟨g, cap, cur, rfl, _, hgg, hc, hcm, hcs, htk⟩
    · have hr2 := run_append_nil (P := P) w t ty E i z ht hi hz ⟨g0, o0, none⟩ m c ns (by rw [hs]; exact hnl) hnews hpos (by omega) (by rw [hby]; rw [Nat.zero_add] at hb; omega)
      obtain ⟨rfl, rfl⟩ := oks (hr.symm.trans hr2)
      intro k hk; simp [Value.ownBlock] at hk; exact Or.inr (by omega)
    · by_cases hroom : n + m ≤ cap
      · have hr2 := run_append_room (P := P) w t ty E i ht hi g n cap cur hgg ⟨g0, o0, none⟩ m c ns (by rw [hs]; exact hnl) hnews h1 hroom (by rw [hnl, hs, hcs, ← Nat.add_mul]; exact Nat.mul_le_mul_right _ hroom)
        obtain ⟨rfl, rfl⟩ := oks (hr.symm.trans hr2)
        intro k hk; exact Or.inl (by simpa [Value.ownBlock] using hk)
      · have holds := World.ownsRow.cells (g := g) hown rfl
        have hr2 := run_append_grow (P := P) w t ty E i z ht hi hz ⟨g, 0, none⟩ n cap xs (by rw [hs]; exact hown.1) holds ⟨g0, o0, none⟩ m c ns (by rw [hs]; exact hnl) hnews (by omega) (by omega) (growslice_fits (by omega) (by rw [hby]; exact hb))
        obtain ⟨rfl, rfl⟩ := oks (hr.symm.trans hr2)
        intro k hk; simp [Value.ownBlock] at hk; exact Or.inr (by omega)
theorem ownsRow_shape {E : TypeId} {sz n : Nat} {v : Value} {xs : List Value} (h : w.ownsRow 0 E sz v n xs) : ∃ p c, v = .slice p n c := by
  rcases h.2 with ⟨rfl, rfl⟩ | ⟨g, c, cur, rfl, _⟩
  · exact ⟨none, 0, rfl⟩
  · exact ⟨_, c, rfl⟩
theorem wpList_appV {ops : Array Oper} {rest : List Oper} {o : Oper} {a : Act} {Q : Exit → Act → World → Prop} (hgd : o.guard = none) (s x : Operand) (t : TypeId)
    (ho : o.op = .call { callee := .builtin .append, args := #[s, x], argTypes := #[t, t] })
    (E : TypeId) (sz bytes : Nat) (z : Value) (ht : P.underlying t = some (.slice E)) (hI : (P.info? E).map (fun i => (i.zero, i.size, i.bytes)) = some (some z, sz, bytes)) (hzs : z.cells.size = sz) (hsz : 0 < sz)
    (p0 : Option Addr) (n c0 : Nat) (xs : List Value) (hs : a.eval s = .slice p0 n c0) (hown : w.ownsRow 0 E sz (.slice p0 n c0) n xs)
    (p : Option Addr) (m c : Nat) (ns : List Value) (hx : a.eval x = .slice p m c) (hnl : ns.length = m * sz) (hp : m = 0 → p = none → c = 0) (hrd : Rv w p ns) (h1 : ∀ u ∈ ns, u.oneCell' = true)
    (hmax : n + m ≤ maxLen) (hb : (n + m) * bytes ≤ 140737488355328)
    (h : ∀ p2 c2 w', Hid (w'.ownsRow 0 E sz (.slice p2 (n + m) c2) (n + m) (xs ++ ns)) → Hid (Frm (blk p0) w w') → Hid (∀ k ∈ blk p2, k ∈ blk p0 ∨ w.heap.size ≤ k) → wpList P ops Q rest (a.put o.dst (.slice p2 (n + m) c2)) w') :
    wpList P ops Q (o :: rest) a w := by
  refine wpList_plain hgd fun K hK => ?_
  obtain ⟨v', w', hrun, h2, h3, h4⟩ := run_appV (P := P) (w := w) t o.type E sz bytes z ht hI hzs hsz _ n xs hown p m c ns hnl hp hrd h1 hmax hb
  obtain ⟨p2, c2, rfl⟩ := ownsRow_shape h2
  rw [own_blk] at h4
  rw [own_blk] at h3 h4
  unfold Oper.wp
  simp [execOp, ho, resolve, invoke, builtin, hs, hx, hrun, Result.andThen]
  exact hK _ _ (h p2 c2 w' h2 h3 h4)
theorem ownsRow_kept {S : List Nat} {w' : World} {E : TypeId} {sz n : Nat} {p : Option Addr} {c : Nat} {xs : List Value} (h : w.ownsRow 0 E sz (.slice p n c) n xs) (hf : Frm S w w') (hn : ∀ k ∈ blk p, k ∉ S) : w'.ownsRow 0 E sz (.slice p n c) n xs := by
  refine ⟨h.1, ?_⟩
  rcases h.2 with h0 | ⟨g, c, cur, he, hb, hg, r⟩
  · exact Or.inl h0
  · simp only [Value.slice.injEq] at he
    obtain ⟨rfl, _, rfl⟩ := he
    exact Or.inr ⟨g, _, cur, rfl, hb, hf.heap hg (hn g (by simp [blk])), r⟩
theorem ownsRow_low {E : TypeId} {sz n : Nat} {p : Option Addr} {c : Nat} {xs : List Value} (h : w.ownsRow 0 E sz (.slice p n c) n xs) : ∀ k ∈ blk p, k < w.heap.size := by
  intro k hk
  exact (h.lt k (by cases p <;> simp_all [blk, Value.ownBlock])).2
end
end
section
open Go.RowKit Go.Lib
set_option maxRecDepth 100000

theorem infoB : (Tryd.prog.info? 5).map (fun i => (i.zero, i.size, i.bytes)) = some (some (.int .u8 0), 1, 1) := by kernel_rfl
theorem cv_any {P : Program} {w : World} (src e dst : TypeId) (hs : P.underlying src = some (.slice e)) (he : P.underlying e = some (.int .u8)) (hd : P.underlying dst = some .string) {p : Option Addr} {n : Nat} {zs : List Int} (hrd : Rd w p zs) (cap : Nat) (hn : zs.length = n) :
    Sem.run P (convert src dst (.slice p n cap)) w = .ok (.string (strOfNums zs)) w := by
  rcases hrd with rfl | ⟨g, o, rfl, hc⟩
  · simp at hn
    subst hn
    cases p with
    | none => exact run_convert_bytes_nil (P := P) (w := w) src e hs he 0 cap dst hd
    | some a =>
      rw [run_convert_bytes_string w src dst e _ _ _ hs he hd, run_bytesToString w a 0 cap [] (by simp [loadCells, loadCellsFrom])]
      rfl
  · exact run_convert_bytes_arg (P := P) (w := w) src e hs he g o n cap zs hn (fun i hi => hc i (by omega)) dst hd
/-- Bytes with others in their midst. -/
def splice (bs : List Int) (at_ : Nat) (zs : List Int) : List Int := bs.take at_ ++ zs ++ bs.drop (at_ + zs.length)
theorem splice_length {bs zs : List Int} {i : Nat} (h : i + zs.length ≤ bs.length) : (splice bs i zs).length = bs.length := by
  simp [splice]; omega
theorem splice_nil (bs : List Int) (i : Nat) : splice bs i [] = bs := by simp [splice]
theorem splice_splice {bs zs ys : List Int} {i : Nat} (h : i + zs.length + ys.length ≤ bs.length) : splice (splice bs i zs) (i + zs.length) ys = splice bs i (zs ++ ys) := by
  obtain ⟨A, hA⟩ : ∃ A, bs.take i ++ zs = A := ⟨_, rfl⟩
  have e1 : A.length = i + zs.length := by rw [← hA]; simp; omega
  have e2 : splice bs i zs = A ++ bs.drop (i + zs.length) := by unfold splice; rw [hA]
  have e3 : splice bs i (zs ++ ys) = A ++ ys ++ bs.drop (i + zs.length + ys.length) := by
    unfold splice
    rw [← hA, List.length_append]
    simp [Nat.add_assoc]
  rw [e2, e3]
  unfold splice
  rw [← e1, List.take_left, ← List.drop_drop, List.drop_left, List.drop_drop]
theorem bv_toList (zs : List Int) : (bv zs).toArray.toList = bv zs := by simp
section
variable {P : Program} {w : World}
/-- copy into the midst of a block. -/
theorem run_copyS (T ty : TypeId) (E : TypeId) (B : TypeId) (ht : P.underlying T = some (.slice E)) (hI : (P.info? E).map (fun i => (i.zero, i.size, i.bytes)) = some (some (.int .u8 0), 1, 1))
    (dp : Option Addr) (dn dc : Nat) (g off : Nat) (bs : List Int) (hg : w.heap[g]? = some (.cells (bv bs).toArray B (0, 0))) (hdp : 0 < dn → dp = some ⟨g, off, none⟩) (hdn : off + dn ≤ bs.length)
    (p : Option Addr) (c : Nat) (ns : List Int) (hrd : Rd w p ns) (k : Nat) (hk : k = min ns.length dn) :
    ∃ w', (Builtin.copy_ #[T, T] ty #[.slice dp dn dc, .slice p ns.length c]).run P w = .ok (.int .i64 (k : Int)) w' ∧ w'.heap[g]? = some (.cells (bv (splice bs off (ns.take k))).toArray B (0, 0)) ∧ Frm [g] w w' := by
  obtain ⟨i, hi, hz, h1, h2⟩ := info_parts hI
  have hsz : (P.info? E).map (·.size) = some 1 := by simp [hi, h1]
  by_cases hn : k = 0
  · have hrun := run_copy_none (P := P) w T T ty E dp p dn dc ns.length c ht hsz (by show min ns.length dn = 0; omega)
    refine ⟨w, by rw [hn]; exact hrun, by rw [hn]; simpa [splice] using hg, Frm.refl _ _⟩
  · have hne : ns ≠ [] := by intro e; subst e; simp at hk; omega
    obtain ⟨ad, rfl, hnews⟩ := bytes_at hrd hne
    have hdn0 : 0 < dn := by omega
    have hkl : k ≤ ns.length ∧ k ≤ dn := by omega
    have hl : (bv (ns.take k)).length = k := by simp [bv]; omega
    obtain rfl := hdp hdn0
    have hrun := run_copy_row (P := P) w T T ty E g off dn dc ad ns.length c _ B (bv (ns.take k)) ht hsz hg (by rw [hl]; exact hk) (by
      intro j v hj
      have hjn : j < k := by have := (List.getElem?_eq_some_iff.1 hj).1; omega
      refine hnews j v ?_
      rw [bv_take, List.getElem?_take, if_pos hjn] at hj
      exact hj) (by rw [hl]; simp [bv]; omega) bv_one
    rw [hl] at hrun
    refine ⟨_, hrun, ?_, ⟨rfl, rfl, rfl, by simp, fun j _ hj => setRow_other w g j _ (by simpa using hj)⟩⟩
    rw [setRow_heap w g _ _ B _ hg]
    congr 2
    apply Array.ext'
    have e1 : (ns.take k).length = k := by simp; omega
    unfold splice
    rw [e1]
    simp [bv, List.map_take, List.map_drop]
theorem wpList_copyS {ops : Array Oper} {rest : List Oper} {o : Oper} {a : Act} {Q : Exit → Act → World → Prop} (hgd : o.guard = none) (d s : Operand) (T : TypeId)
    (ho : o.op = .call { callee := .builtin .copy, args := #[d, s], argTypes := #[T, T] })
    (E B : TypeId) (ht : P.underlying T = some (.slice E)) (hI : (P.info? E).map (fun i => (i.zero, i.size, i.bytes)) = some (some (.int .u8 0), 1, 1))
    (dp : Option Addr) (dn dc : Nat) (hd : a.eval d = .slice dp dn dc) (g off : Nat) (bs : List Int) (hg : w.heap[g]? = some (.cells (bv bs).toArray B (0, 0))) (hdp : 0 < dn → dp = some ⟨g, off, none⟩) (hdn : off + dn ≤ bs.length)
    (p : Option Addr) (m c : Nat) (ns : List Int) (hx : a.eval s = .slice p m c) (hm : m = ns.length) (hrd : Rd w p ns)
    (h : ∀ w' k, Hid (k = min m dn) → Hid (w'.heap[g]? = some (.cells (bv (splice bs off (ns.take k))).toArray B (0, 0))) → Hid (Frm [g] w w') → wpList P ops Q rest (a.put o.dst (.int .i64 (k : Int))) w') :
    wpList P ops Q (o :: rest) a w := by
  refine wpList_plain hgd fun K hK => ?_
  subst hm
  obtain ⟨w', hrun, h1, h2⟩ := run_copyS (P := P) (w := w) T o.type E B ht hI dp dn dc g off bs hg hdp hdn p c ns hrd _ rfl
  unfold Oper.wp
  simp only [execOp, ho, resolve, invoke, builtin, Sem.run_bind, Sem.run_pure, Result.andThen_ok, List.map_toArray, List.map_cons, List.map_nil, hd, hx, hrun]
  exact hK _ _ (h w' _ rfl h1 h2)
theorem step_copyS {ops : Array Oper} {o : Oper} {a : Act} {K : Act → World → Prop} {Q : Exit → Act → World → Prop} {Z : Prop} (hgd : o.guard = none) (d s : Operand) (T : TypeId)
    (ho : o.op = .call { callee := .builtin .copy, args := #[d, s], argTypes := #[T, T] })
    (E B : TypeId) (ht : P.underlying T = some (.slice E)) (hI : (P.info? E).map (fun i => (i.zero, i.size, i.bytes)) = some (some (.int .u8 0), 1, 1))
    (dp : Option Addr) (dn dc : Nat) (hd : a.eval d = .slice dp dn dc) (g off : Nat) (bs : List Int) (hg : w.heap[g]? = some (.cells (bv bs).toArray B (0, 0))) (hdp : 0 < dn → dp = some ⟨g, off, none⟩) (hdn : off + dn ≤ bs.length)
    (p : Option Addr) (m c : Nat) (ns : List Int) (hx : a.eval s = .slice p m c) (hm : m = ns.length) (hrd : Rd w p ns)
    (h : ∀ w' k, Hid (k = min m dn) → Hid (w'.heap[g]? = some (.cells (bv (splice bs off (ns.take k))).toArray B (0, 0))) → Hid (Frm [g] w w') → K (a.put o.dst (.int .i64 (k : Int))) w') :
    if Region.wanted o (yielded ops a.tmps) = true then Oper.wp P o a w K Q else Z := by
  have hw : Region.wanted o (yielded ops a.tmps) = true := by simp [Region.wanted, hgd]
  rw [if_pos hw]
  subst hm
  obtain ⟨w', hrun, h1, h2⟩ := run_copyS (P := P) (w := w) T o.type E B ht hI dp dn dc g off bs hg hdp hdn p c ns hrd _ rfl
  unfold Oper.wp
  simp only [execOp, ho, resolve, invoke, builtin, Sem.run_bind, Sem.run_pure, Result.andThen_ok, List.map_toArray, List.map_cons, List.map_nil, hd, hx, hrun]
  exact h w' _ rfl h1 h2
end
theorem Own.lows {w : World} {E : TypeId} {p : Option Addr} {n c : Nat} {zs : List Int} (h : Own w E (.slice p n c) zs) : ∀ k ∈ blk p, k < w.heap.size := by
  obtain ⟨p', c', he, _, _, hh, _⟩ := h.shape
  simp only [Value.slice.injEq] at he
  obtain ⟨rfl, _, rfl⟩ := he
  intro k hk
  cases p with
  | none => simp [blk] at hk
  | some a => simp [blk] at hk; subst hk; exact (hh a rfl).2.2
theorem Rd.lows {w : World} {p : Option Addr} {zs : List Int} (h : Rd w p zs) (hne : zs ≠ []) : ∀ k ∈ blk p, k < w.heap.size := by
  rcases h with h | ⟨g, o, rfl, hc⟩
  · exact absurd h hne
  · intro k hk
    simp [blk] at hk
    subst hk
    exact World.block_lt_of_cell? w _ (hc 0 (by cases zs with | nil => exact absurd rfl hne | cons _ _ => simp))
/-- Bytes stand where they stood, if none of their blocks was touched that was there. -/
theorem Rd.keptS {S : List Nat} {w w' : World} {p : Option Addr} {zs : List Int} (h : Rd w p zs) (hf : Frm S w w') (hS : ∀ k ∈ blk p, k < w.heap.size → k ∉ S) : Rd w' p zs := by
  by_cases hne : zs = []
  · exact Or.inl hne
  · exact h.kept hf (fun k hk => hS k hk (h.lows hne k hk))
theorem Own.setAt {w : World} {E : TypeId} {p : Option Addr} {n c i : Nat} {ys : List Int} (h : Own w E (.slice p n c) ys) (hn : ys.length = n) (hi : i < n) :
    ∃ g, p = some ⟨g, 0, none⟩ ∧ g < w.heap.size ∧ w.cell? ⟨g, i, none⟩ = some (.int .u8 (ys.getD i 0)) ∧ w.frozen? ⟨g, i, none⟩ = false ∧ ∀ z, Own (w.setCell ⟨g, i, none⟩ (.int .u8 z)) E (.slice p n c) (ys.set i z) := by
  subst hn
  obtain ⟨p', c', he, _, hnn, hh, _⟩ := h.shape
  simp only [Value.slice.injEq, true_and] at he
  obtain ⟨rfl, rfl⟩ := he
  cases p with
  | none => obtain ⟨h0, _⟩ := hnn rfl; subst h0; simp at hi
  | some a =>
    obtain ⟨h1, h2, h3⟩ := hh a rfl
    obtain ⟨g, o, sp⟩ := a
    simp only at h1 h2 h3
    subst h1 h2
    refine ⟨g, rfl, h3, ?_, World.ownsRow.frozenAt h i, fun z => ?_⟩
    · rw [World.ownsRow.cellAt h i (by omega), bv_get hi]
    · have := (World.ownsRow.stored h i (.int .u8 z)).1
      unfold Own
      rw [List.length_set]
      simpa [bv, List.map_set] using this
theorem boolE {a c : Bool} (h : a = c) : Ending.returned (.bool a) = Ending.returned (.bool c) := by rw [h]
theorem intE {a c : Int} (h : a = c) : Ending.returned (.int .i64 a) = Ending.returned (.int .i64 c) := by rw [h]
theorem heap_alloc_to (w : World) (o : Obj) {k : Nat} (h : w.heap.size = k) : (w.alloc o).heap[k]? = some o := by subst h; exact heap_alloc_new _ _
end
end Go.Proofs.YtajfjkfnmmfhmaaDoor
