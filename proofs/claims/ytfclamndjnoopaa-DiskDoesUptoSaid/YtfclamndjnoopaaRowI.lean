/- Opening the arguments of the statements: lists of numbers. -/
import Derived.Test.YtfclamndjnoopaaRowC
namespace Go.Proofs.Ytfclamndjnoopaa
set_option maxRecDepth 100000
open Go.ChangeShapes Go.WideShapes Go.ChangeAt Go.RowKit Go.Deep

/-- A list of numbers that came in. -/
def CameI (w : World) (p : Option Addr) (len cap : Nat) : Prop := len ≤ cap ∧ cap ≤ 9223372036854775807 ∧ ∃ ns : List Int, ns.length = len ∧ (∀ z ∈ ns, -9223372036854775808 ≤ z ∧ z ≤ 9223372036854775807) ∧ (len = 0 ∨ ∃ g o, p = some ⟨g, o, none⟩ ∧ ∀ i, i < len → w.cell? ⟨g, o + i, none⟩ = some (.int .i64 (ns.getD i 0)))
section
variable {H : Type} {enc : TypeId × Value → H} {W : World}
theorem cameI_cells {fuel : Nat} {cs : List Value} {x : DataW H × List MemPlace} (h : DataW.trod enc Try.prog W 0 (fun _ => true) true fuel 45 cs = some x) (_hw : ∀ n ∈ x.1.weights Try.prog 45, n ≤ reachBytes) :
    ∃ p len cap, cs = [.slice p len cap] ∧ CameI W p len cap := by
  rcases open_ints Try.underlying45 Try.underlying3 (by kernel_rfl) h with ⟨hcs, _⟩ | ⟨x, l, c, zs, hcs, _, hl, hm, hz, _, hcell, hwz⟩
  · exact ⟨none, 0, 0, hcs, by omega, by omega, [], rfl, by simp, Or.inl rfl⟩
  · simp only [if_true] at hz
    refine ⟨some x, l, c, hcs, hl, by unfold maxLen at hm; omega, zs.take l, by simp; omega, fun z hz' => i64_bd (hwz z (List.mem_of_mem_take hz')), ?_⟩
    by_cases h0 : l = 0
    · exact Or.inl h0
    · have hs : x.spot = none := spot_of_cell (by have := hcell 0 (by omega); simpa [Addr.add] using this)
      refine Or.inr ⟨x.block, x.off, by obtain ⟨g, o, sp⟩ := x; simp only at hs; subst hs; rfl, fun i hi => ?_⟩
      have h1 := hcell i (by omega)
      rw [add_of hs] at h1
      have h2 : i < zs.length := by omega
      rw [h1]; simp [List.getD, hi, h2]
end
end Go.Proofs.Ytfclamndjnoopaa
