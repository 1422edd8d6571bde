/- Contracts of package ptr: Check of a pointer, the program's and the document's. -/
import Derived.Test.YtdnnbinmippkdaaDoorPtrA
namespace Go.Proofs.YtdnnbinmippkdaaDoor
open Go.RowKit
set_option maxRecDepth 100000

set_option maxHeartbeats 6400000 in
theorem check9_any (p : P9) (w : World) :
    Calls Tryd.prog 13 #[.agg p.arr] w fun e w' => e = .returned (.int .i64 (checkP p)) ∧ Frm [] w w' := by
  obtain ⟨C, hC⟩ : ∃ C, checkP p = C := ⟨_, rfl⟩
  rw [hC]
  obtain ⟨a0, a1, a2, a3, a4, a5, a6, a7, a8⟩ := p
  have HC : Hid (((a0 = 0 ∧ a1 = 0 ∧ a2 = 0 ∧ a3 = 0 ∧ a4 = 0 ∧ a5 = 0 ∧ a6 = 0 ∧ a7 = 0 ∧ a8 = 0) ∧ C = 0) ∨ (¬ (a0 = 0 ∧ a1 = 0 ∧ a2 = 0 ∧ a3 = 0 ∧ a4 = 0 ∧ a5 = 0 ∧ a6 = 0 ∧ a7 = 0 ∧ a8 = 0) ∧ (0 ≤ a0 ∧ a0 < 4 ∧ 0 ≤ a1 ∧ a1 < 40960 ∧ 1 ≤ a2 ∧ a2 ≤ 1024 ∧ 1 ≤ a3 ∧ a3 ≤ 281474976710656 ∧ (a4 = 1 ∨ a4 = 2)) ∧ C = 0) ∨ (¬ (a0 = 0 ∧ a1 = 0 ∧ a2 = 0 ∧ a3 = 0 ∧ a4 = 0 ∧ a5 = 0 ∧ a6 = 0 ∧ a7 = 0 ∧ a8 = 0) ∧ ¬ (0 ≤ a0 ∧ a0 < 4 ∧ 0 ≤ a1 ∧ a1 < 40960 ∧ 1 ≤ a2 ∧ a2 ≤ 1024 ∧ 1 ≤ a3 ∧ a3 ≤ 281474976710656 ∧ (a4 = 1 ∨ a4 = 2)) ∧ C = 40)) := hid (by
    rw [← hC]
    exact checkP_cases ⟨a0, a1, a2, a3, a4, a5, a6, a7, a8⟩)
  unfold P9.arr
  clear hC
  go_enter Tryd.func13, Tryd.ntmps13
  go_wp2_with fail
  all_goals (go_returns; refine ⟨?_, (Frm.refl _ _).alloc _⟩; have h := HC.out; (try simp only [Bool.not_eq_true', Bool.not_eq_false', beq_iff_eq, beq_eq_false_iff_ne, ne_eq] at *); first | ((have hc : C = 0 := (by omega)); rw [hc]; rfl) | ((have hc : C = 40 := (by omega)); rw [hc]; rfl))
set_option maxHeartbeats 6400000 in
theorem refCheck9_any (p : P9) (w : World) :
    Calls Tryd.prog 14 #[.agg p.arr] w fun e w' => e = .returned (.int .i64 (checkP p)) ∧ Frm [] w w' := by
  obtain ⟨C, hC⟩ : ∃ C, checkP p = C := ⟨_, rfl⟩
  rw [hC]
  obtain ⟨a0, a1, a2, a3, a4, a5, a6, a7, a8⟩ := p
  have HC : Hid (((a0 = 0 ∧ a1 = 0 ∧ a2 = 0 ∧ a3 = 0 ∧ a4 = 0 ∧ a5 = 0 ∧ a6 = 0 ∧ a7 = 0 ∧ a8 = 0) ∧ C = 0) ∨ (¬ (a0 = 0 ∧ a1 = 0 ∧ a2 = 0 ∧ a3 = 0 ∧ a4 = 0 ∧ a5 = 0 ∧ a6 = 0 ∧ a7 = 0 ∧ a8 = 0) ∧ (0 ≤ a0 ∧ a0 < 4 ∧ 0 ≤ a1 ∧ a1 < 40960 ∧ 1 ≤ a2 ∧ a2 ≤ 1024 ∧ 1 ≤ a3 ∧ a3 ≤ 281474976710656 ∧ (a4 = 1 ∨ a4 = 2)) ∧ C = 0) ∨ (¬ (a0 = 0 ∧ a1 = 0 ∧ a2 = 0 ∧ a3 = 0 ∧ a4 = 0 ∧ a5 = 0 ∧ a6 = 0 ∧ a7 = 0 ∧ a8 = 0) ∧ ¬ (0 ≤ a0 ∧ a0 < 4 ∧ 0 ≤ a1 ∧ a1 < 40960 ∧ 1 ≤ a2 ∧ a2 ≤ 1024 ∧ 1 ≤ a3 ∧ a3 ≤ 281474976710656 ∧ (a4 = 1 ∨ a4 = 2)) ∧ C = 40)) := hid (by
    rw [← hC]
    exact checkP_cases ⟨a0, a1, a2, a3, a4, a5, a6, a7, a8⟩)
  unfold P9.arr
  clear hC
  go_enter Tryd.func14, Tryd.ntmps14
  go_wp2_with fail
  all_goals (go_returns; refine ⟨?_, (Frm.refl _ _).alloc _⟩; have h := HC.out; first | ((have hc : C = 0 := (by omega)); rw [hc]; rfl) | ((have hc : C = 40 := (by omega)); rw [hc]; rfl))
end Go.Proofs.YtdnnbinmippkdaaDoor
