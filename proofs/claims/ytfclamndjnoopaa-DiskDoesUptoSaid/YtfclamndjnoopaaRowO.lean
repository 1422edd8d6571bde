/- Opening the arguments of the statements: lists of bools. -/
import Derived.Test.YtfclamndjnoopaaRowC
import Derived.Test.YtfclamndjnoopaaGen
import Derived.Deep.Grids
namespace Go.Proofs.Ytfclamndjnoopaa
set_option maxRecDepth 100000
open Go.ChangeShapes Go.WideShapes Go.ChangeAt Go.RowKit Go.Deep

/-- A list of bools that came in. -/
def CameT (w : World) (p : Option Addr) (len cap : Nat) : Prop := len ≤ cap ∧ len ≤ 140737488351232 ∧ ∃ bs : List Bool, bs.length = len ∧ Rv w p (bs.map Value.bool)
theorem bytesT : Try.prog.bytesOf 4 = 1 := by kernel_rfl
section
variable {H : Type} {enc : TypeId × Value → H} {W : World}
theorem cameT_cells {fuel : Nat} {cs : List Value} {x : DataW H × List MemPlace} (h : DataW.trod enc Try.prog W 0 (fun _ => true) true fuel 39 cs = some x) (hw : ∀ n ∈ x.1.weights Try.prog 39, n ≤ reachBytes) :
    ∃ p len cap, cs = [.slice p len cap] ∧ CameT W p len cap := by
  rcases open_bools Try.underlying39 Try.underlying4 (by kernel_rfl) h with ⟨hcs, _⟩ | ⟨x, l, c, B, hcs, _, hl, hm, _, hcell⟩
  · exact ⟨none, 0, 0, hcs, by omega, by omega, [], rfl, Or.inl rfl⟩
  · have hroom := slice_room Try.underlying39 h hw (some x) l c hcs
    rw [bytesT] at hroom
    refine ⟨some x, l, c, hcs, hl, by omega, (List.range l).map B, by simp, ?_⟩
    by_cases h0 : l = 0
    · exact Or.inl (by simp [h0])
    · have hs : x.spot = none := spot_of_cell (by have := hcell 0 (by omega); simpa [Addr.add] using this)
      refine Or.inr ⟨x.block, x.off, by obtain ⟨g, o, sp⟩ := x; simp only at hs; subst hs; rfl, fun i u hu => ?_⟩
      have hi : i < l := by have := (List.getElem?_eq_some_iff.1 hu).1; simpa using this
      have h1 := hcell i (by omega)
      rw [add_of hs] at h1
      rw [h1]
      simpa [hi] using hu
end
end Go.Proofs.Ytfclamndjnoopaa
