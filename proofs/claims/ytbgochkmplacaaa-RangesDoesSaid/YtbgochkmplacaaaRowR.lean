/- Opening the arguments of layer 9's statements: spans, and lists of them. -/
import Derived.Test.YtbgochkmplacaaaRgP
import Derived.Test.YtbgochkmplacaaaRowC
import Derived.Deep.MidRow
import Derived.Lib.SmallJoins
namespace Go.Proofs.Ytbgochkmplacaaa
set_option maxRecDepth 100000
open Go.ChangeShapes Go.WideShapes Go.ChangeAt Go.RowKit Go.Joins Go.Deep
section
variable {H : Type} {enc : TypeId × Value → H} {W : World}
theorem cellsSp : Try.prog.cellsOf 31 = 2 := by kernel_rfl
theorem spS_cells {fuel : Nat} {cs : List Value} {x : DataW H × List MemPlace} (h : DataW.trod enc Try.prog W 0 (fun _ => true) true fuel 31 cs = some x) (hlen : cs.length = 2) :
    ∃ y : Sp, cs = [.int .i64 y.a, .int .i64 y.m] ∧ y.In := by
  obtain ⟨xs, k, _, hxe, _, hxl, hf⟩ := DataW.trod_struct Try.underlying31 h
  match cs, hlen with
  | [c0, c1], _ =>
    match xs, hxl with
    | [y0, y1], _ =>
      have f0 := hf 0 _ rfl
      have f1 := hf 1 _ rfl
      simp [cellsI] at f0 f1
      obtain ⟨a, e0, _, w0⟩ := DataW.trod_int Try.underlying3 f0
      obtain ⟨m, e1, _, w1⟩ := DataW.trod_int Try.underlying3 f1
      simp only [List.cons.injEq, and_true] at e0 e1
      subst e0 e1
      exact ⟨⟨a, m⟩, rfl, i64_bd w0, i64_bd w1⟩
theorem cameS_cells {fuel : Nat} {cs : List Value} {x : DataW H × List MemPlace} (h : DataW.trod enc Try.prog W 0 (fun _ => true) true fuel 27 cs = some x) :
    ∃ p len cap, cs = [.slice p len cap] ∧ CameS W p len cap := by
  rcases open_slice Try.underlying27 h with ⟨hcs, _⟩ | ⟨a, len, cap, m, n, D, Pl, rfl, hb0, hl, hm, hmm, rfl, hx⟩
  · exact ⟨none, 0, 0, hcs, by omega, by omega, [], rfl, by simp, Or.inl rfl⟩
  · simp only [if_true] at hmm
    have each : ∀ i, i < len → ∃ y : Sp, (∀ k v, [Value.int .i64 y.a, .int .i64 y.m][k]? = some v → W.cell? ((a.add (i * 2)).add k) = some v) ∧ y.In := by
      intro i hi
      obtain ⟨cs', h1, h2⟩ := hx i (by omega)
      rw [cellsSp] at h1
      obtain ⟨_, hlen, hcell⟩ := World.cells?_some h1
      obtain ⟨y, rfl, hok⟩ := spS_cells h2 hlen
      refine ⟨y, fun k v hv => ?_, hok⟩
      have hk : k < 2 := by have := (List.getElem?_eq_some_iff.1 hv).1; simpa using this
      rw [hcell k hk]
      exact hv
    obtain ⟨f, hf⟩ : ∃ f : Nat → Sp, ∀ i, i < len → (∀ k v, [Value.int .i64 (f i).a, .int .i64 (f i).m][k]? = some v → W.cell? ((a.add (i * 2)).add k) = some v) ∧ (f i).In :=
      ⟨fun i => if h : i < len then (each i h).choose else ⟨0, 0⟩, fun i hi => by simp only [dif_pos hi]; exact (each i hi).choose_spec⟩
    refine ⟨some a, len, cap, rfl, hl, by unfold maxLen at hm; omega, (List.range len).map f, by simp, fun y hy => ?_, ?_⟩
    · obtain ⟨i, hi, rfl⟩ := List.mem_map.1 hy
      exact (hf i (List.mem_range.1 hi)).2
    · by_cases h0 : len = 0
      · exact Or.inl h0
      · have hs : a.spot = none := by
          have := (hf 0 (by omega)).1 0 _ rfl
          exact spot_of_cell (by simpa [Addr.add] using this)
        refine Or.inr ⟨a.block, a.off, by obtain ⟨g, o, sp⟩ := a; simp only at hs; subst hs; rfl, fun i y hy => ?_⟩
        have hi : i < len := by have := (List.getElem?_eq_some_iff.1 hy).1; simpa using this
        have e : y = f i := by simpa [hi] using hy.symm
        subst e
        have h1 := (hf i hi).1 0 _ rfl
        have h2 := (hf i hi).1 1 _ rfl
        rw [add_of hs, add_of rfl] at h1 h2
        exact ⟨by simpa [Nat.add_assoc] using h1, by simpa [Nat.add_assoc] using h2⟩
theorem span_came {base : Nat} {spare : Nat → Bool} {held : Bool} {r : Reach} {b0 : Nat} {v : Value} {d : DataW H} {q : List MemPlace} (hv : Value.okWide Try.prog W r b0 31 v) (h : DataW.Trod enc Try.prog W base spare held 31 v d q) : ∃ y : Sp, v = .agg #[.int .i64 y.a, .int .i64 y.m] ∧ y.In := by
  obtain ⟨cs, rfl, hsz⟩ := okWide_struct Try.underlying31 hv
  rw [cellsSp] at hsz
  obtain ⟨fuel, hf⟩ := h
  obtain ⟨xs, n, _, _, _, hxl, hF⟩ := DataW.trod_struct Try.underlying31 hf
  obtain ⟨l⟩ := cs
  match l, hsz with
  | [c0, c1], _ =>
    match xs, hxl with
    | [y0, y1], _ =>
      have f0 := hF 0 _ rfl
      have f1 := hF 1 _ rfl
      simp [Value.cells, cellsI] at f0 f1
      obtain ⟨a, e0, _, w0⟩ := DataW.trod_int Try.underlying3 f0
      obtain ⟨m, e1, _, w1⟩ := DataW.trod_int Try.underlying3 f1
      simp only [List.cons.injEq, and_true] at e0 e1
      subst e0 e1
      exact ⟨⟨a, m⟩, rfl, i64_bd w0, i64_bd w1⟩
end
end Go.Proofs.Ytbgochkmplacaaa
