/- A list of operations that came in: no slice in it is longer than what a row may hold. -/
import Derived.Test.YthifchkeapbfdaaVolAd
namespace Go.Proofs.Ythifchkeapbfdaa
set_option maxRecDepth 100000
open Go.ChangeShapes Go.WideShapes Go.ChangeAt Go.RowKit Go.Deep

section
variable {H : Type} {enc : TypeId × Value → H} {W : World}
theorem bigO_of {fuel : Nat} {cs : List Value} {x : DataW H × List MemPlace} (h : DataW.trod enc Try.prog W 0 (fun _ => true) true fuel 22 cs = some x) (hw : ∀ n ∈ x.1.weights Try.prog 22, n ≤ reachBytes) (p : Option Addr) (len cap : Nat) (he : cs = [.slice p len cap]) :
    BigO W p len := by
  rcases open_slice Try.underlying22 h with ⟨hcs, _⟩ | ⟨a, l, c, m, n, D, Pl, rfl, hb, hl, hm, hmm, rfl, hx⟩
  · rw [hcs] at he
    simp only [List.cons.injEq, Value.slice.injEq, and_true] at he
    obtain ⟨rfl, _, _⟩ := he
    intro g o d i hp
    cases hp
  · simp only [List.cons.injEq, Value.slice.injEq, and_true] at he
    obtain ⟨rfl, rfl, rfl⟩ := he
    intro g o d i hp hi hat
    simp only [Option.some.injEq] at hp
    subst hp
    simp only [if_true] at hmm
    obtain ⟨cs', h1, h2⟩ := hx i (by omega)
    have hwi : ∀ n ∈ (D i).weights Try.prog 55, n ≤ reachBytes := by
      intro n hn
      refine hw n ?_
      simp only [DataW.weights, Try.underlying22, List.mem_cons, List.mem_append]
      exact Or.inr (Or.inl (mem_all (List.mem_map.2 ⟨i, List.mem_range.2 hi, rfl⟩) hn))
    rw [cellsOp] at h1
    obtain ⟨_, hlen, hcell⟩ := World.cells?_some h1
    obtain ⟨xs, k, _, hxe, _, hxl, hf⟩ := DataW.trod_struct Try.underlying55 h2
    match cs', hlen with
    | [c0, c1, c2, c3], _ =>
      match xs, hxl with
      | [y0, y1, y2, y3], _ =>
        have f3 := hf 3 _ rfl
        simp [cellsB] at f3
        refine came_len f3 (fun n hn => hwi n ?_) d.p d.bl d.bc ?_
        · rw [(Prod.mk.inj hxe).1]
          simp only [DataW.weights, Try.underlying55]
          exact DataW.weights_mem_each (j := 3) rfl rfl n hn
        · have e1 := hcell 3 (by omega)
          have e2 := hat.2.2.2
          rw [add_of (x := ⟨g, o, none⟩) rfl, add_of (x := ⟨g, o + i * 4, none⟩) rfl] at e1
          have e3 := e1.symm.trans (by simpa [Nat.add_assoc] using e2)
          simpa using e3
end
end Go.Proofs.Ythifchkeapbfdaa
