/- Opening the arguments of layer 9's statements: lists of calls. -/
import Derived.Test.YtbgochkmplacaaaRhK
import Derived.Test.YtbgochkmplacaaaRowR
namespace Go.Proofs.Ytbgochkmplacaaa
set_option maxRecDepth 100000
open Go.ChangeShapes Go.WideShapes Go.ChangeAt Go.RowKit Go.Joins Go.Deep
section
variable {H : Type} {enc : TypeId × Value → H} {W : World}
theorem cellsO9 : Try.prog.cellsOf 33 = 3 := by kernel_rfl
theorem o9_cells {fuel : Nat} {cs : List Value} {x : DataW H × List MemPlace} (h : DataW.trod enc Try.prog W 0 (fun _ => true) true fuel 33 cs = some x) (hlen : cs.length = 3) :
    ∃ (k : Int) (y : Sp), cs = [.int .i64 k, .int .i64 y.a, .int .i64 y.m] ∧ y.In := by
  obtain ⟨xs, k, _, hxe, _, hxl, hf⟩ := DataW.trod_struct Try.underlying33 h
  match cs, hlen with
  | [c0, c1, c2], _ =>
    match xs, hxl with
    | [y0, y1], _ =>
      have f0 := hf 0 _ rfl
      have f1 := hf 1 _ rfl
      simp [cellsI, cellsSp] at f0 f1
      obtain ⟨a, e0, _, w0⟩ := DataW.trod_int Try.underlying3 f0
      obtain ⟨y, e1, hy⟩ := spS_cells f1 rfl
      simp only [List.cons.injEq, and_true] at e0 e1
      obtain ⟨e1, e2⟩ := e1
      subst e0 e1 e2
      exact ⟨a, y, rfl, hy⟩
theorem cameO_cells {fuel : Nat} {cs : List Value} {x : DataW H × List MemPlace} (h : DataW.trod enc Try.prog W 0 (fun _ => true) true fuel 22 cs = some x) :
    ∃ p len cap, cs = [.slice p len cap] ∧ CameO W p len cap := by
  rcases open_slice Try.underlying22 h with ⟨hcs, _⟩ | ⟨a, len, cap, m, n, D, Pl, rfl, hb0, hl, hm, hmm, rfl, hx⟩
  · exact ⟨none, 0, 0, hcs, by omega, by omega, Or.inl rfl⟩
  · simp only [if_true] at hmm
    refine ⟨some a, len, cap, rfl, hl, by unfold maxLen at hm; omega, ?_⟩
    by_cases h0 : len = 0
    · exact Or.inl h0
    · have each : ∀ i, i < len → ∃ (k : Int) (y : Sp), (∀ j v, [Value.int .i64 k, .int .i64 y.a, .int .i64 y.m][j]? = some v → W.cell? ((a.add (i * 3)).add j) = some v) ∧ y.In := by
        intro i hi
        obtain ⟨cs', h1, h2⟩ := hx i (by omega)
        rw [cellsO9] at h1
        obtain ⟨_, hlen, hcell⟩ := World.cells?_some h1
        obtain ⟨k, y, rfl, hok⟩ := o9_cells h2 hlen
        refine ⟨k, y, fun j v hv => ?_, hok⟩
        have hk : j < 3 := by have := (List.getElem?_eq_some_iff.1 hv).1; simpa using this
        rw [hcell j hk]
        exact hv
      have hs : a.spot = none := by
        obtain ⟨k, y, h1, _⟩ := each 0 (by omega)
        exact spot_of_cell (by have := h1 0 _ rfl; simpa [Addr.add] using this)
      refine Or.inr ⟨a.block, a.off, by obtain ⟨g, o, sp⟩ := a; simp only at hs; subst hs; rfl, fun i hi => ?_⟩
      obtain ⟨k, y, h1, h2⟩ := each i hi
      have q0 := h1 0 _ rfl
      have q1 := h1 1 _ rfl
      have q2 := h1 2 _ rfl
      rw [add_of hs, add_of rfl] at q0 q1 q2
      exact ⟨k, y, h2, by simpa [Nat.add_assoc] using q0, by simpa [Nat.add_assoc] using q1, by simpa [Nat.add_assoc] using q2⟩
end
end Go.Proofs.Ytbgochkmplacaaa
