/- A list of pieces that came in: the statement SumPieces' argument. -/
import Derived.Test.YtcnochabdhdlnaaDoorSumO
import Derived.Test.YtcnochabdhdlnaaDoorSumAn
namespace Go.Proofs.YtcnochabdhdlnaaDoor
set_option maxRecDepth 100000
open Go.ChangeShapes Go.WideShapes Go.ChangeAt Go.RowKit Go.Deep

/-- One piece: its slice, what it shows, whether it comes at a copy. -/
structure PiD where
  p : Option Addr
  bl : Nat
  bc : Nat
  ns : List Int
  cp : Bool
instance : Inhabited PiD := ⟨⟨none, 0, 0, [], false⟩⟩
structure PiAt (w : World) (g o : Nat) (d : PiD) : Prop where
  c0 : w.cell? ⟨g, o, none⟩ = some (.slice d.p d.bl d.bc)
  c1 : w.cell? ⟨g, o + 1, none⟩ = some (.bool d.cp)
  len : d.ns.length = d.bl
  rd : Rd w d.p d.ns
  by_ : ∀ z ∈ d.ns, 0 ≤ z ∧ z < 256
  no : d.ns = [] → d.p = none → d.bc = 0
  le : d.bl ≤ d.bc
  mx : d.bc ≤ 9223372036854775807
theorem PiAt.kept {w w' : World} {g o : Nat} {d : PiD} (h : PiAt w g o d) (hf : Frm [] w w') : PiAt w' g o d := by
  have hl := World.block_lt_of_cell? w _ h.c0
  exact ⟨(hf.cell (p := ⟨g, o, none⟩) hl (by simp)).trans h.c0, (hf.cell (p := ⟨g, o + 1, none⟩) hl (by simp)).trans h.c1, h.len, h.rd.kept hf (by simp), h.by_, h.no, h.le, h.mx⟩
/-- How many bytes from piece j on. -/
def restP (ds : List PiD) (j : Nat) : Nat := ((ds.drop j).map (·.bl)).sum
theorem restP_step (ds : List PiD) (j : Nat) (h : j < ds.length) : restP ds j = (ds.getD j default).bl + restP ds (j + 1) := by
  unfold restP
  rw [List.drop_eq_getElem_cons h, List.map_cons, List.sum_cons, List.getD_eq_getElem?_getD, List.getElem?_eq_getElem h]
  rfl
/-- A list of pieces that came in, of so many bytes at most. -/
def CameP (w : World) (p : Option Addr) (len cap tot : Nat) : Prop :=
  len ≤ cap ∧ cap ≤ 9223372036854775807 ∧ ∃ ds : List PiD, ds.length = len ∧ restP ds 0 ≤ tot ∧ (len = 0 ∨ ∃ g o, p = some ⟨g, o, none⟩ ∧ ∀ i, i < len → PiAt w g (o + i * 2) (ds.getD i default))
theorem list_each {α : Type} [Inhabited α] (P : Nat → α → Prop) : ∀ n, (∀ i, i < n → ∃ a, P i a) → ∃ l : List α, l.length = n ∧ ∀ i, i < n → P i (l.getD i default)
  | 0, _ => ⟨[], rfl, fun i hi => by omega⟩
  | n + 1, h => by
    obtain ⟨l, hl, hp⟩ := list_each P n (fun i hi => h i (by omega))
    obtain ⟨a, ha⟩ := h n (by omega)
    refine ⟨l ++ [a], by simp [hl], fun i hi => ?_⟩
    by_cases hin : i < n
    · have := hp i hin
      rw [List.getD_eq_getElem?_getD, List.getElem?_append_left (by omega), ← List.getD_eq_getElem?_getD]
      exact this
    · obtain rfl : i = n := by omega
      rw [List.getD_eq_getElem?_getD, List.getElem?_append_right (by omega), hl, Nat.sub_self]
      exact ha
theorem sum_le_range (f : Nat → Nat) : ∀ (n : Nat) (l : List Nat), l.length = n → (∀ i, i < n → l.getD i 0 ≤ f i) → l.sum ≤ ((List.range n).map f).sum
  | 0, l, hl, _ => by rw [List.length_eq_zero_iff.1 hl]; simp
  | n + 1, l, hl, h => by
    have h1 : l = l.take n ++ [l.getD n 0] := by
      have h2 := List.take_append_drop n l
      rw [List.drop_eq_getElem_cons (by omega), List.drop_eq_nil_of_le (by omega)] at h2
      rw [List.getD_eq_getElem?_getD, List.getElem?_eq_getElem (by omega)]
      exact h2.symm
    have ih := sum_le_range f n (l.take n) (by rw [List.length_take]; omega) (fun i hi => by
      have := h i (by omega)
      rw [List.getD_eq_getElem?_getD] at this ⊢
      rwa [List.getElem?_take_of_lt hi])
    have hn := h n (by omega)
    rw [h1, List.sum_append, List.range_succ, List.map_append, List.sum_append]
    simp only [List.map_cons, List.map_nil, List.sum_cons, List.sum_nil, Nat.add_zero]
    omega
section
variable {H : Type} {enc : TypeId × Value → H} {W : World}
theorem cellsPiece : Tryd.prog.cellsOf 41 = 2 := by kernel_rfl
theorem cellsBool : Tryd.prog.cellsOf 4 = 1 := by kernel_rfl
theorem bulk_map (D : Nat → DataW H) : ∀ n, Rows.uptoBulkAll ((List.range n).map D) = ((List.range n).map (fun i => Rows.uptoBulk (D i))).sum
  | n => by
    have : ∀ l : List Nat, Rows.uptoBulkAll (l.map D) = (l.map (fun i => Rows.uptoBulk (D i))).sum := fun l => by
      induction l with
      | nil => rfl
      | cons x l ih => rw [List.map_cons, List.map_cons, Rows.uptoBulkAll, ih, List.sum_cons]
    exact this _
/-- The bulk of bytes is at least their number. -/
theorem bulk_bytes {fuel : Nat} {cs : List Value} {x : DataW H × List MemPlace} (h : DataW.trod enc Tryd.prog W 0 (fun _ => true) true fuel 22 cs = some x) (p : Option Addr) (len cap : Nat) (he : cs = [.slice p len cap]) : len ≤ Rows.uptoBulk x.1 := by
  rcases open_ints Tryd.underlying22 Tryd.underlying5 (by kernel_rfl) h with ⟨hcs, _⟩ | ⟨a, l, c, zs, hcs, _, hl, hm, hz, hxx, _, _⟩
  · rw [hcs] at he
    simp at he
    omega
  · rw [hcs] at he
    simp only [List.cons.injEq, Value.slice.injEq, and_true] at he
    obtain ⟨_, rfl, _⟩ := he
    rw [hxx]
    simp only [if_true] at hz
    simp only [Rows.uptoBulk, bulk_lits, List.length_take]
    omega
theorem piece_cells {fuel : Nat} {cs : List Value} {x : DataW H × List MemPlace} (h : DataW.trod enc Tryd.prog W 0 (fun _ => true) true fuel 41 cs = some x) (hlen : cs.length = 2) :
    ∃ d : PiD, cs = [.slice d.p d.bl d.bc, .bool d.cp] ∧ d.ns.length = d.bl ∧ Rd W d.p d.ns ∧ (∀ z ∈ d.ns, 0 ≤ z ∧ z < 256) ∧ (d.ns = [] → d.p = none → d.bc = 0) ∧ d.bl ≤ d.bc ∧ d.bc ≤ 9223372036854775807 ∧ d.bl ≤ Rows.uptoBulk x.1 := by
  obtain ⟨xs, k, _, hxe, _, hxl, hf⟩ := DataW.trod_struct Tryd.underlying41 h
  match cs, hlen with
  | [c0, c1], _ =>
    match xs, hxl with
    | [y0, y1], _ =>
      have f0 := hf 0 _ rfl
      have f1 := hf 1 _ rfl
      simp [cellsBool, cellsB] at f0 f1
      obtain ⟨p, bl, bc, e0, w0⟩ := came_cells f0
      have hbk := bulk_bytes f0 p bl bc e0
      obtain ⟨b, e1, _⟩ := DataW.trod_bool Tryd.underlying4 f1
      simp only [List.cons.injEq, and_true] at e0 e1
      subst e0 e1
      obtain ⟨ns, h1, h2, h3, h4, h5, h6⟩ := w0
      refine ⟨⟨p, bl, bc, ns, b⟩, rfl, h1, h2, h3, h4, h5, h6, ?_⟩
      rw [(Prod.mk.inj hxe).1]
      simp only [Rows.uptoBulk, Rows.uptoBulkAll, List.map_cons, List.map_nil]
      omega
theorem cameP_cells {fuel : Nat} {cs : List Value} {x : DataW H × List MemPlace} (h : DataW.trod enc Tryd.prog W 0 (fun _ => true) true fuel 37 cs = some x) :
    ∃ p len cap, cs = [.slice p len cap] ∧ CameP W p len cap (Rows.uptoBulk x.1) := by
  rcases open_slice Tryd.underlying37 h with ⟨hcs, _⟩ | ⟨a, len, cap, m, n, D, Pl, rfl, hb, hl, hm, hmm, rfl, hx⟩
  · exact ⟨none, 0, 0, hcs, by omega, by omega, [], rfl, by simp [restP], Or.inl rfl⟩
  · simp only [if_true] at hmm
    subst hmm
    have each : ∀ i, i < len → ∃ d : PiD, (W.cell? ((a.add (i * 2)).add 0) = some (.slice d.p d.bl d.bc) ∧ W.cell? ((a.add (i * 2)).add 1) = some (.bool d.cp) ∧ d.ns.length = d.bl ∧ Rd W d.p d.ns ∧ (∀ z ∈ d.ns, 0 ≤ z ∧ z < 256) ∧ (d.ns = [] → d.p = none → d.bc = 0) ∧ d.bl ≤ d.bc ∧ d.bc ≤ 9223372036854775807) ∧ d.bl ≤ Rows.uptoBulk (D i) := by
      intro i hi
      obtain ⟨cs', h1, h2⟩ := hx i (by omega)
      rw [cellsPiece] at h1
      obtain ⟨_, hlen, hcell⟩ := World.cells?_some h1
      obtain ⟨d, rfl, k1, k2, k3, k4, k5, k6, k7⟩ := piece_cells h2 hlen
      exact ⟨d, ⟨hcell 0 (by omega), hcell 1 (by omega), k1, k2, k3, k4, k5, k6⟩, k7⟩
    obtain ⟨ds, hdl, hds⟩ := list_each _ len each
    refine ⟨some a, len, _, rfl, hl, by unfold maxLen at hm; omega, ds, hdl, ?_, ?_⟩
    · have hs := sum_le_range (fun i => Rows.uptoBulk (D i)) len (ds.map (·.bl)) (by simp [hdl]) (fun i hi => by
        have := (hds i hi).2
        rw [List.getD_eq_getElem?_getD, List.getElem?_eq_getElem (by omega)] at this
        rw [List.getD_eq_getElem?_getD, List.getElem?_map, List.getElem?_eq_getElem (by omega)]
        exact this)
      simp only [restP, List.drop_zero, Rows.uptoBulk, bulk_map]
      omega
    · by_cases h0 : len = 0
      · exact Or.inl h0
      · have hs : a.spot = none := spot_of_cell (by have := (hds 0 (by omega)).1.1; simpa [Addr.add] using this)
        refine Or.inr ⟨a.block, a.off, by obtain ⟨g, o, sp⟩ := a; simp only at hs; subst hs; rfl, fun i hi => ?_⟩
        obtain ⟨⟨k0, k1, k2, k3, k4, k5, k6, k7⟩, _⟩ := hds i hi
        rw [add_of hs, add_of rfl] at k0 k1
        exact ⟨by simpa using k0, by simpa [Nat.add_assoc] using k1, k2, k3, k4, k5, k6, k7⟩
end
end Go.Proofs.YtcnochabdhdlnaaDoor
