/- Opening the arguments of layer 10's statements: lists of entries. -/
import Derived.Test.YtkbppkimpefilaaSpF
import Derived.Test.YtkbppkimpefilaaRowC
import Derived.Deep.MidRow
import Derived.Lib.SmallJoins
namespace Go.Proofs.Ytkbppkimpefilaa
set_option maxRecDepth 100000
open Go.ChangeShapes Go.WideShapes Go.ChangeAt Go.RowKit Go.Joins Go.Deep
section
variable {H : Type} {enc : TypeId × Value → H} {W : World}
theorem cellsSpT : Try.prog.cellsOf 39 = 2 := by kernel_rfl
theorem cellsBT : Try.prog.cellsOf 4 = 1 := by kernel_rfl
theorem cellsSq : Try.prog.cellsOf 41 = 3 := by kernel_rfl
theorem spT_cells {fuel : Nat} {cs : List Value} {x : DataW H × List MemPlace} (h : DataW.trod enc Try.prog W 0 (fun _ => true) true fuel 39 cs = some x) (hlen : cs.length = 2) :
    ∃ y : Sp, cs = [.int .i64 y.a, .int .i64 y.m] ∧ y.In := by
  obtain ⟨xs, k, _, hxe, _, hxl, hf⟩ := DataW.trod_struct Try.underlying39 h
  match cs, hlen with
  | [c0, c1], _ =>
    match xs, hxl with
    | [y0, y1], _ =>
      have f0 := hf 0 _ rfl
      have f1 := hf 1 _ rfl
      simp [cellsI] at f0 f1
      obtain ⟨a, e0, _, w0⟩ := DataW.trod_int Try.underlying3 f0
      obtain ⟨m, e1, _, w1⟩ := DataW.trod_int Try.underlying3 f1
      simp only [List.cons.injEq, and_true] at e0 e1
      subst e0 e1
      exact ⟨⟨a, m⟩, rfl, i64_bd w0, i64_bd w1⟩
theorem sqT_cells {fuel : Nat} {cs : List Value} {x : DataW H × List MemPlace} (h : DataW.trod enc Try.prog W 0 (fun _ => true) true fuel 41 cs = some x) (hlen : cs.length = 3) :
    ∃ y : Sq, cs = [.bool y.f, .int .i64 y.s.a, .int .i64 y.s.m] ∧ y.s.In := by
  obtain ⟨xs, k, _, hxe, _, hxl, hf⟩ := DataW.trod_struct Try.underlying41 h
  match cs, hlen with
  | [c0, c1, c2], _ =>
    match xs, hxl with
    | [y0, y1], _ =>
      have f0 := hf 0 _ rfl
      have f1 := hf 1 _ rfl
      simp [cellsBT, cellsSpT] at f0 f1
      obtain ⟨a, e0, _⟩ := DataW.trod_bool Try.underlying4 f0
      obtain ⟨y, e1, hy⟩ := spT_cells f1 rfl
      simp only [List.cons.injEq, and_true] at e0 e1
      obtain ⟨e1, e2⟩ := e1
      subst e0 e1 e2
      exact ⟨⟨a, y⟩, rfl, hy⟩
theorem cameE_cells {fuel : Nat} {cs : List Value} {x : DataW H × List MemPlace} (h : DataW.trod enc Try.prog W 0 (fun _ => true) true fuel 22 cs = some x) :
    ∃ p len cap es, cs = [.slice p len cap] ∧ CameE W p len cap es := by
  rcases open_slice Try.underlying22 h with ⟨hcs, _⟩ | ⟨a, len, cap, m, n, D, Pl, rfl, hb0, hl, hm, hmm, rfl, hx⟩
  · exact ⟨none, 0, 0, [], hcs, Or.inl rfl, rfl, fun y hy => by simp at hy, by omega, by omega, fun _ => rfl⟩
  · simp only [if_true] at hmm
    have each : ∀ i, i < len → ∃ y : Sq, (∀ k v, [Value.bool y.f, .int .i64 y.s.a, .int .i64 y.s.m][k]? = some v → W.cell? ((a.add (i * 3)).add k) = some v) ∧ y.s.In := by
      intro i hi
      obtain ⟨cs', h1, h2⟩ := hx i (by omega)
      rw [cellsSq] at h1
      obtain ⟨_, hlen, hcell⟩ := World.cells?_some h1
      obtain ⟨y, rfl, hok⟩ := sqT_cells h2 hlen
      refine ⟨y, fun k v hv => ?_, hok⟩
      have hk : k < 3 := by have := (List.getElem?_eq_some_iff.1 hv).1; simpa using this
      rw [hcell k hk]
      exact hv
    obtain ⟨f, hf⟩ : ∃ f : Nat → Sq, ∀ i, i < len → (∀ k v, [Value.bool (f i).f, .int .i64 (f i).s.a, .int .i64 (f i).s.m][k]? = some v → W.cell? ((a.add (i * 3)).add k) = some v) ∧ (f i).s.In :=
      ⟨fun i => if h : i < len then (each i h).choose else ⟨false, ⟨0, 0⟩⟩, fun i hi => by simp only [dif_pos hi]; exact (each i hi).choose_spec⟩
    have hrv : ∀ k, k ≤ len → a.spot = none → ∀ t u, (rowE ((List.range k).map f))[t]? = some u → W.cell? ⟨a.block, a.off + t, none⟩ = some u := by
      intro k
      induction k with
      | zero => intro _ _ t u hu; simp [rowE] at hu
      | succ k ih =>
        intro hk hs t u hu
        rw [List.range_succ, List.map_append, rowE_app] at hu
        have hl3 : (rowE ((List.range k).map f)).length = k * 3 := by rw [rowE_len]; simp
        by_cases ht : t < k * 3
        · rw [List.getElem?_append_left (by omega)] at hu
          exact ih (by omega) hs t u hu
        · rw [List.getElem?_append_right (by omega), hl3] at hu
          have h1 := (hf k (by omega)).1 (t - k * 3) u (by simpa [rowE] using hu)
          rw [add_of hs, add_of rfl] at h1
          simpa [show a.off + k * 3 + (t - k * 3) = a.off + t by omega] using h1
    refine ⟨some a, len, cap, (List.range len).map f, rfl, ?_, by simp, fun y hy => ?_, hl, by unfold maxLen at hm; omega, fun h => by cases h⟩
    · by_cases h0 : len = 0
      · subst h0; exact Or.inl (by simp [rowE])
      · have hs : a.spot = none := by
          have := (hf 0 (by omega)).1 0 _ rfl
          exact spot_of_cell (by simpa [Addr.add] using this)
        exact Or.inr ⟨a.block, a.off, by obtain ⟨g, o, sp⟩ := a; simp only at hs; subst hs; rfl, hrv len (Nat.le_refl _) hs⟩
    · obtain ⟨i, hi, rfl⟩ := List.mem_map.1 hy
      exact (hf i (List.mem_range.1 hi)).2
end
end Go.Proofs.Ytkbppkimpefilaa
