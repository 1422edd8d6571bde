/- Opening the arguments of the statements: lists of bytes. -/
import Derived.Test.YtiefgfbeemlnjaaRowG
namespace Go.Proofs.Ytiefgfbeemlnjaa
set_option maxRecDepth 100000
open Go.ChangeShapes Go.WideShapes Go.ChangeAt Go.RowKit Go.Deep
section
variable {H : Type} {enc : TypeId × Value → H} {W : World}
/-- A list of bytes that came in. -/
def CameB (w : World) (p : Option Addr) (len cap : Nat) : Prop :=
  len ≤ cap ∧ cap ≤ 9223372036854775807 ∧ ((len = 0 ∧ (p = none → cap = 0)) ∨ ∃ g o, p = some ⟨g, o, none⟩ ∧ ∀ i, i < len → ∃ q n c, w.cell? ⟨g, o + i, none⟩ = some (.slice q n c) ∧ Came w q n c ∧ n ≤ 140737488351232)
theorem cameB_cells {fuel : Nat} {cs : List Value} {x : DataW H × List MemPlace} (h : DataW.trod enc Try.prog W 0 (fun _ => true) true fuel 25 cs = some x) (hw : ∀ n ∈ x.1.weights Try.prog 25, n ≤ reachBytes) :
    ∃ p len cap, cs = [.slice p len cap] ∧ CameB W p len cap := by
  rcases open_slice Try.underlying25 h with ⟨hcs, _⟩ | ⟨a, len, cap, m, n, D, Pl, rfl, hb, hl, hm, hmm, rfl, hx⟩
  · exact ⟨none, 0, 0, hcs, by omega, by omega, Or.inl ⟨rfl, fun _ => rfl⟩⟩
  · refine ⟨some a, len, cap, rfl, hl, by unfold maxLen at hm; omega, ?_⟩
    simp only [if_true] at hmm
    subst hmm
    by_cases h0 : len = 0
    · exact Or.inl ⟨h0, by simp⟩
    · have each : ∀ i, i < len → ∃ q n c, W.cell? (a.add i) = some (.slice q n c) ∧ Came W q n c ∧ n ≤ 140737488351232 := by
        intro i hi
        obtain ⟨cs', h1, h2⟩ := hx i (by omega)
        have hwi : ∀ n ∈ (D i).weights Try.prog 22, n ≤ reachBytes := by
          intro n hn
          refine hw n ?_
          simp only [DataW.weights, Try.underlying25, List.mem_cons, List.mem_append]
          exact Or.inr (Or.inl (mem_all (List.mem_map.2 ⟨i, List.mem_range.2 hi, rfl⟩) hn))
        rw [cellsB, Nat.mul_one] at h1
        obtain ⟨_, hlen, hcell⟩ := World.cells?_some h1
        obtain ⟨q, n, c, rfl, hc⟩ := came_cells h2
        have h3 := came_len h2 hwi q n c rfl
        refine ⟨q, n, c, ?_, hc, h3⟩
        have := hcell 0 (by omega)
        simpa [Addr.add] using this
      have hs : a.spot = none := by
        obtain ⟨q, n, c, h1, _⟩ := each 0 (by omega)
        exact spot_of_cell (by simpa [Addr.add] using h1)
      refine Or.inr ⟨a.block, a.off, by obtain ⟨g, o, sp⟩ := a; simp only at hs; subst hs; rfl, fun i hi => ?_⟩
      obtain ⟨q, n, c, h1, h2⟩ := each i hi
      rw [add_of hs] at h1
      exact ⟨q, n, c, h1, h2⟩
end
theorem CameB.kept {w w' : World} {p : Option Addr} {len cap : Nat} (h : CameB w p len cap) (hf : Frm [] w w') : CameB w' p len cap := by
  refine ⟨h.1, h.2.1, ?_⟩
  rcases h.2.2 with h' | ⟨g, o, rfl, h'⟩
  · exact Or.inl h'
  · refine Or.inr ⟨g, o, rfl, fun i hi => ?_⟩
    obtain ⟨q, n, c, h1, h2, h3⟩ := h' i hi
    exact ⟨q, n, c, (hf.cell (p := ⟨g, o + i, none⟩) (World.block_lt_of_cell? w _ h1) (by simp)).trans h1, h2.kept hf, h3⟩
end Go.Proofs.Ytiefgfbeemlnjaa
