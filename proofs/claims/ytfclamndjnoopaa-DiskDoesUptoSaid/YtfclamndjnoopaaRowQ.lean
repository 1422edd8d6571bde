/- Opening the arguments of layer 3's statements: lists of numbers, where what comes in is of a bounded bulk. -/
import Derived.Test.YtfclamndjnoopaaRowP
import Derived.Test.YtfclamndjnoopaaRowI
namespace Go.Proofs.Ytfclamndjnoopaa
set_option maxRecDepth 100000
open Go.ChangeShapes Go.WideShapes Go.ChangeAt Go.RowKit Go.Deep
section
variable {H : Type} {enc : TypeId × Value → H} {W : World}
theorem cameI_bulk {fuel : Nat} {cs : List Value} {x : DataW H × List MemPlace} {M : Nat} (h : DataW.trod enc Try.prog W 0 (fun _ => true) true fuel 45 cs = some x) (hb : Rows.uptoBulk x.1 ≤ M) : ∃ p len cap, cs = [.slice p len cap] ∧ CameI W p len cap ∧ len ≤ M := by
  have hI : ∃ p len cap, cs = [.slice p len cap] ∧ CameI W p len cap := by
    rcases open_ints Try.underlying45 Try.underlying3 (by kernel_rfl) h with ⟨hcs, _⟩ | ⟨x, l, c, zs, hcs, _, hl, hm, hz, _, hcell, hwz⟩
    · exact ⟨none, 0, 0, hcs, by omega, by omega, [], rfl, by simp, Or.inl rfl⟩
    · simp only [if_true] at hz
      refine ⟨some x, l, c, hcs, hl, by unfold maxLen at hm; omega, zs.take l, by simp; omega, fun z hz' => i64_bd (hwz z (List.mem_of_mem_take hz')), ?_⟩
      by_cases h0 : l = 0
      · exact Or.inl h0
      · have hs : x.spot = none := spot_of_cell (by have := hcell 0 (by omega); simpa [Addr.add] using this)
        refine Or.inr ⟨x.block, x.off, by obtain ⟨g, o, sp⟩ := x; simp only at hs; subst hs; rfl, fun i hi => ?_⟩
        have h1 := hcell i (by omega)
        rw [add_of hs] at h1
        have h2 : i < zs.length := by omega
        rw [h1]; simp [List.getD, hi, h2]
  obtain ⟨p, len, cap, hcs, hc⟩ := hI
  refine ⟨p, len, cap, hcs, hc, ?_⟩
  rcases open_ints Try.underlying45 Try.underlying3 (by kernel_rfl) h with ⟨hcs2, _⟩ | ⟨a, l, c, zs, hcs2, _, hl, hm, hz, hx, hcell, hwz⟩
  · rw [hcs] at hcs2
    simp only [List.cons.injEq, Value.slice.injEq] at hcs2
    omega
  · simp only [if_true] at hz
    rw [hcs] at hcs2
    simp only [List.cons.injEq, Value.slice.injEq] at hcs2
    have e := congrArg Prod.fst hx
    simp only at e
    rw [e, Rows.uptoBulk] at hb
    have := bulk_len (lits .i64 (zs.take l) : List (DataW H))
    rw [lits_length, List.length_take] at this
    omega
end
end Go.Proofs.Ytfclamndjnoopaa
