/- A list of calls that came in: no slice in it is longer than what a row may hold. -/
import Derived.Test.YtdfefeljnfcngaaRowK
import Derived.SizedLaws
namespace Go.Proofs.Ytdfefeljnfcngaa
set_option maxRecDepth 100000
open Go.ChangeShapes Go.WideShapes Go.ChangeAt Go.RowKit Go.Deep

theorem bytesU : Try.prog.bytesOf 5 = 1 := by kernel_rfl
section
variable {H : Type} {enc : TypeId × Value → H} {W : World}
theorem mem_all {P : Program} {e : TypeId} {l : List (DataW H)} {d : DataW H} (hd : d ∈ l) {n : Nat} (hn : n ∈ d.weights P e) : n ∈ DataW.weightsAll P e l := by
  induction l with
  | nil => cases hd
  | cons a l ih =>
    simp only [DataW.weightsAll, List.mem_append]
    rcases List.mem_cons.1 hd with rfl | h
    · exact Or.inl hn
    · exact Or.inr (ih h)
theorem came_len {fuel : Nat} {cs : List Value} {x : DataW H × List MemPlace} (h : DataW.trod enc Try.prog W 0 (fun _ => true) true fuel 22 cs = some x) (hw : ∀ n ∈ x.1.weights Try.prog 22, n ≤ reachBytes) (p : Option Addr) (len cap : Nat) (he : cs = [.slice p len cap]) : len ≤ 140737488351232 := by
  rcases open_ints Try.underlying22 Try.underlying5 (by kernel_rfl) h with ⟨hcs, _⟩ | ⟨a, l, c, zs, hcs, _, hl, hm, hz, hxx, _, _⟩
  · rw [hcs] at he
    simp at he
    omega
  · rw [hcs] at he
    simp only [List.cons.injEq, Value.slice.injEq, and_true] at he
    obtain ⟨_, rfl, _⟩ := he
    have := hw ((zs.take l).length + (zs.drop l).length) (by
      rw [hxx]
      simp [DataW.weights, Try.underlying22, bytesU, lits])
    simp only [List.length_take, List.length_drop, reachBytes] at this
    simp only [if_true] at hz
    omega
theorem cameL_big {fuel : Nat} {cs : List Value} {x : DataW H × List MemPlace} (h : DataW.trod enc Try.prog W 0 (fun _ => true) true fuel 23 cs = some x) (hw : ∀ n ∈ x.1.weights Try.prog 23, n ≤ reachBytes) (p : Option Addr) (len cap : Nat) (he : cs = [.slice p len cap]) :
    ∀ g o d i, p = some ⟨g, o, none⟩ → i < len → CallAt W g (o + i * 5) d → d.bl ≤ 140737488351232 := by
  rcases open_slice Try.underlying23 h with ⟨hcs, _⟩ | ⟨a, l, c, m, n, D, Pl, rfl, hb, hl, hm, hmm, rfl, hx⟩
  · rw [hcs] at he
    simp only [List.cons.injEq, Value.slice.injEq, and_true] at he
    obtain ⟨rfl, _, _⟩ := he
    intro g o d i hp
    cases hp
  · simp only [List.cons.injEq, Value.slice.injEq, and_true] at he
    obtain ⟨rfl, rfl, rfl⟩ := he
    intro g o d i hp hi hat
    simp only [Option.some.injEq] at hp
    subst hp
    simp only [if_true] at hmm
    obtain ⟨cs', h1, h2⟩ := hx i (by omega)
    have hwi : ∀ n ∈ (D i).weights Try.prog 32, n ≤ reachBytes := by
      intro n hn
      refine hw n ?_
      simp only [DataW.weights, Try.underlying23, List.mem_cons, List.mem_append]
      exact Or.inr (Or.inl (mem_all (List.mem_map.2 ⟨i, List.mem_range.2 hi, rfl⟩) hn))
    rw [cellsCall] at h1
    obtain ⟨_, hlen, hcell⟩ := World.cells?_some h1
    obtain ⟨xs, k, _, hxe, _, hxl, hf⟩ := DataW.trod_struct Try.underlying32 h2
    match cs', hlen with
    | [c0, c1, c2, c3, c4], _ =>
      match xs, hxl with
      | [y0, y1, y2, y3, y4], _ =>
        have f3 := hf 3 _ rfl
        simp [cellsB] at f3
        refine came_len f3 (fun n hn => hwi n ?_) d.p d.bl d.bc ?_
        · rw [(Prod.mk.inj hxe).1]
          simp only [DataW.weights, Try.underlying32]
          exact DataW.weights_mem_each (j := 3) rfl rfl n hn
        · have e1 := hcell 3 (by omega)
          have e2 := hat.2.2.2.1
          rw [add_of (x := ⟨g, o, none⟩) rfl, add_of (x := ⟨g, o + i * 5, none⟩) rfl] at e1
          have e3 := e1.symm.trans (by simpa [Nat.add_assoc] using e2)
          simpa using e3
end
end Go.Proofs.Ytdfefeljnfcngaa
