/- Contracts of package sum: the fourth byte of a word. -/
import Derived.Test.YtcnochabdhdlnaaDoorSumD
import Derived.Test.YtcnochabdhdlnaaDoorHeldT
namespace Go.Proofs.YtcnochabdhdlnaaDoor
open Go.RowKit
set_option maxRecDepth 100000

theorem RowR.cells {W : World} {r : Nat} {s : S4} {x0 x1 x2 x3 m : Int} (h : RowR W r s x0 x1 x2 x3 m) :
    W.cell? ⟨r, 0, none⟩ = some (.int .u64 s.a) ∧ W.cell? ⟨r, 1, none⟩ = some (.int .u64 s.b) ∧ W.cell? ⟨r, 2, none⟩ = some (.int .u64 s.c) ∧ W.cell? ⟨r, 3, none⟩ = some (.int .u64 s.d) ∧ W.cell? ⟨r, 4, none⟩ = some (.int .u8 x0) ∧ W.cell? ⟨r, 5, none⟩ = some (.int .u8 x1) ∧ W.cell? ⟨r, 6, none⟩ = some (.int .u8 x2) ∧ W.cell? ⟨r, 7, none⟩ = some (.int .u8 x3) ∧ W.cell? ⟨r, 8, none⟩ = some (.int .i64 m) := by
  refine ⟨?_, ?_, ?_, ?_, ?_, ?_, ?_, ?_, ?_⟩ <;> (rw [cell_of_row W _ _ _ _ _ h]; rfl)
theorem RowR.froz {W : World} {r : Nat} {s : S4} {x0 x1 x2 x3 m : Int} (h : RowR W r s x0 x1 x2 x3 m) (k : Nat) : W.frozen? ⟨r, k, none⟩ = false := frozen_of_row W _ k _ _ h
set_option maxHeartbeats 4000000 in
theorem one_3 (r : Nat) (s : S4) (x0 x1 x2 x3 : Int) (g o n c : Nat) (z : Int) (w : World) (hr : RowR w r s x0 x1 x2 x3 3) (hn : 0 < n) (hnb : n ≤ 9223372036854775807) (hz : w.cell? ⟨g, o, none⟩ = some (.int .u8 z)) (pp : Option Addr) (hsl : ∀ W : World, (Instr.sliceAt 22 (.slice (some ⟨g, o, none⟩) n c) (some (.int .i64 1)) none none).run Tryd.prog W = .ok (.slice pp (n - 1) (c - 1)) W) (h0 : 0 ≤ x0 ∧ x0 < 256) (h1 : 0 ≤ x1 ∧ x1 < 256) (h2 : 0 ≤ x2 ∧ x2 < 256) (h3 : 0 ≤ z ∧ z < 256) :
    Calls Tryd.prog 29 #[.pointer (some ⟨r, 0, none⟩), .slice (some ⟨g, o, none⟩) n c] w fun e w' => e = .returned (.slice pp (n - 1) (c - 1)) ∧ RowR w' r (wordS s (lowW x0 x1 x2 z)) 0 0 0 0 0 ∧ Frm [r] w w' := by
  have HR := hid hr
  have c8 : w.cell? ⟨r, 8, none⟩ = some (.int .i64 3) := by rw [cell_of_row w _ _ _ _ _ hr]; rfl
  have cm : w.cell? ⟨r, 7, none⟩ = some (.int .u8 x3) := by rw [cell_of_row w _ _ _ _ _ hr]; rfl
  have fm : w.frozen? ⟨r, 7, none⟩ = false := frozen_of_row w _ 7 _ _ hr
  have f8 : w.frozen? ⟨r, 8, none⟩ = false := frozen_of_row w _ 8 _ _ hr
  have b0 : (0 : Int) < (n : Int) := by omega
  have HB := hid (And.intro h0 (And.intro h1 (And.intro h2 h3)))
  clear hr h0 h1 h2 h3
  go_enter Tryd.func29, Tryd.ntmps29
  go_wp2_with fail
  go_still_tail 11, (by kernel_rfl)
  change wpList _ _ _ _ _ w.drew
  clear c8 cm fm f8
  obtain ⟨w4, hw4⟩ : ∃ w4, w.drew = w4 := ⟨_, rfl⟩
  have HR4 : Hid (RowR w4 r s x0 x1 x2 x3 3) := hid (by rw [← hw4]; exact HR.out)
  have HF4 : Hid (Frm [r] w w4) := hid (by rw [← hw4]; exact (Frm.refl _ _).drew)
  rw [hw4]
  have c8 : w4.cell? ⟨r, 8, none⟩ = some (.int .i64 3) := by rw [cell_of_row w4 _ _ _ _ _ HR4.out]; rfl
  have cm : w4.cell? ⟨r, 7, none⟩ = some (.int .u8 x3) := by rw [cell_of_row w4 _ _ _ _ _ HR4.out]; rfl
  have fm : w4.frozen? ⟨r, 7, none⟩ = false := frozen_of_row w4 _ 7 _ _ HR4.out
  have f8 : w4.frozen? ⟨r, 8, none⟩ = false := frozen_of_row w4 _ 8 _ _ HR4.out
  have HR5 : Hid (RowR ((w4.setCell ⟨r, 7, none⟩ (.int .u8 z)).setCell ⟨r, 8, none⟩ (.int .i64 4)) r s x0 x1 x2 z 4) := hid (by
    have h1 : (w4.setCell ⟨r, 7, none⟩ (.int .u8 z)).heap[r]? = some (.cells #[.int .u64 s.a, .int .u64 s.b, .int .u64 s.c, .int .u64 s.d, .int .u8 x0, .int .u8 x1, .int .u8 x2, .int .u8 z, .int .i64 3] 51 (0, 0)) := by rw [heap_setCell_same _ _ 7 _ _ _ HR4.out]; rfl
    unfold RowR
    rw [heap_setCell_same _ _ 8 _ _ _ h1]
    rfl)
  have HF5 : Hid (Frm [r] w ((w4.setCell ⟨r, 7, none⟩ (.int .u8 z)).setCell ⟨r, 8, none⟩ (.int .i64 4))) := hid ((HF4.out.setCell _ _ (by simp)).setCell _ _ (by simp))
  go_wp2_with fail
  obtain ⟨w5, hw5⟩ : ∃ w5, (w4.setCell ⟨r, 7, none⟩ (.int .u8 z)).setCell ⟨r, 8, none⟩ (.int .i64 4) = w5 := ⟨_, rfl⟩
  rw [hw5] at HR5 HF5 ⊢
  clear hw5 c8 cm fm f8 hz
  have HLO := hid (low_any x0 x1 x2 z w5.drew HB.out.1 HB.out.2.1 HB.out.2.2.1 HB.out.2.2.2)
  have hwo := word_any s (lowW x0 x1 x2 z) w5.drew (lowW_bd _ _ _ _)
  unfold S4.arr at hwo
  obtain ⟨L, hL⟩ : ∃ L, lowW x0 x1 x2 z = L := ⟨_, rfl⟩
  rw [hL] at hwo HLO
  have HWO := hid hwo
  have HLE := hid hL
  clear hwo hL
  have HSD : Hid (RowR w5.drew r s x0 x1 x2 z 4 ∧ Frm [] w5 w5.drew) := hid ⟨HR5.out, (Frm.refl _ _).drew⟩
  refine wp_region_tail (S := fun W => RowR W r s x0 x1 x2 z 4 ∧ Frm [] w5 W) 29 30 rfl (by kernel_rfl) (by kernel_rfl) ?_
  refine wpAnyHT_take (i := 0) (oi := _) (v := ?_) (by kernel_rfl) rfl (by kernel_rfl) (by kernel_rfl) (by kernel_rfl) (by kernel_rfl) (fun _ _ _ h => h) (Or.inl ⟨by rfl, ?_⟩) HSD.out ?_
  rotate_left 1
  · (intro W hSw; obtain ⟨q0, q1, q2, q3, q4, q5, q6, q7, q8⟩ := hSw.1.cells; clear hSw; (try simp only [List.getElem_toArray, List.getElem_cons_zero]); go_simp; try with_reducible rfl)
  simp only [List.getElem_toArray, List.getElem_cons_zero, Act.put, List.setIfInBounds_toArray, List.set_cons_zero, List.set_cons_succ]
  refine wpAnyHT_take (i := 1) (oi := _) (v := ?_) (by kernel_rfl) rfl (by kernel_rfl) (by kernel_rfl) (by kernel_rfl) (by kernel_rfl) (fun _ _ _ h => h) (Or.inl ⟨by rfl, ?_⟩) HSD.out ?_
  rotate_left 1
  · (intro W hSw; obtain ⟨q0, q1, q2, q3, q4, q5, q6, q7, q8⟩ := hSw.1.cells; clear hSw; (try simp only [List.getElem_toArray, List.getElem_cons_succ, List.getElem_cons_zero]); go_simp; try with_reducible rfl)
  simp only [List.getElem_toArray, List.getElem_cons_succ, List.getElem_cons_zero, Act.put, List.setIfInBounds_toArray, List.set_cons_zero, List.set_cons_succ]
  refine wpAnyHT_take (i := 2) (oi := _) (v := ?_) (by kernel_rfl) rfl (by kernel_rfl) (by kernel_rfl) (by kernel_rfl) (by kernel_rfl) (fun _ _ _ h => h) (Or.inl ⟨by rfl, ?_⟩) HSD.out ?_
  rotate_left 1
  · (intro W hSw; obtain ⟨q0, q1, q2, q3, q4, q5, q6, q7, q8⟩ := hSw.1.cells; clear hSw; (try simp only [List.getElem_toArray, List.getElem_cons_succ, List.getElem_cons_zero]); go_simp; try with_reducible rfl)
  simp only [List.getElem_toArray, List.getElem_cons_succ, List.getElem_cons_zero, Act.put, List.setIfInBounds_toArray, List.set_cons_zero, List.set_cons_succ]
  refine wpAnyHT_take (i := 3) (oi := _) (v := ?_) (by kernel_rfl) rfl (by kernel_rfl) (by kernel_rfl) (by kernel_rfl) (by kernel_rfl) (fun _ _ _ h => h) (Or.inl ⟨by rfl, ?_⟩) HSD.out ?_
  rotate_left 1
  · (intro W hSw; obtain ⟨q0, q1, q2, q3, q4, q5, q6, q7, q8⟩ := hSw.1.cells; clear hSw; (try simp only [List.getElem_toArray, List.getElem_cons_succ, List.getElem_cons_zero]); go_simp; try with_reducible rfl)
  simp only [List.getElem_toArray, List.getElem_cons_succ, List.getElem_cons_zero, Act.put, List.setIfInBounds_toArray, List.set_cons_zero, List.set_cons_succ]
  refine wpAnyHT_take (i := 4) (oi := _) (v := ?_) (by kernel_rfl) rfl (by kernel_rfl) (by kernel_rfl) (by kernel_rfl) (by kernel_rfl) (fun _ _ _ h => h) (Or.inl ⟨by rfl, ?_⟩) HSD.out ?_
  rotate_left 1
  · (intro W hSw; obtain ⟨q0, q1, q2, q3, q4, q5, q6, q7, q8⟩ := hSw.1.cells; clear hSw; (try simp only [List.getElem_toArray, List.getElem_cons_succ, List.getElem_cons_zero]); go_simp; try with_reducible rfl)
  simp only [List.getElem_toArray, List.getElem_cons_succ, List.getElem_cons_zero, Act.put, List.setIfInBounds_toArray, List.set_cons_zero, List.set_cons_succ]
  refine wpAnyHT_take (i := 5) (oi := _) (v := ?_) (by kernel_rfl) rfl (by kernel_rfl) (by kernel_rfl) (by kernel_rfl) (by kernel_rfl) (fun _ _ _ h => h) (Or.inl ⟨by rfl, ?_⟩) HSD.out ?_
  rotate_left 1
  · (intro W hSw; obtain ⟨q0, q1, q2, q3, q4, q5, q6, q7, q8⟩ := hSw.1.cells; clear hSw; (try simp only [List.getElem_toArray, List.getElem_cons_succ, List.getElem_cons_zero]); go_simp; try with_reducible rfl)
  simp only [List.getElem_toArray, List.getElem_cons_succ, List.getElem_cons_zero, Act.put, List.setIfInBounds_toArray, List.set_cons_zero, List.set_cons_succ]
  refine wpAnyHT_take (i := 6) (oi := _) (v := ?_) (by kernel_rfl) rfl (by kernel_rfl) (by kernel_rfl) (by kernel_rfl) (by kernel_rfl) (fun _ _ _ h => h) (Or.inl ⟨by rfl, ?_⟩) HSD.out ?_
  rotate_left 1
  · (intro W hSw; obtain ⟨q0, q1, q2, q3, q4, q5, q6, q7, q8⟩ := hSw.1.cells; clear hSw; (try simp only [List.getElem_toArray, List.getElem_cons_succ, List.getElem_cons_zero]); go_simp; try with_reducible rfl)
  simp only [List.getElem_toArray, List.getElem_cons_succ, List.getElem_cons_zero, Act.put, List.setIfInBounds_toArray, List.set_cons_zero, List.set_cons_succ]
  refine wpAnyHT_take (i := 7) (oi := _) (v := ?_) (by kernel_rfl) rfl (by kernel_rfl) (by kernel_rfl) (by kernel_rfl) (by kernel_rfl) (fun _ _ _ h => h) (Or.inl ⟨by rfl, ?_⟩) HSD.out ?_
  rotate_left 1
  · (intro W hSw; obtain ⟨q0, q1, q2, q3, q4, q5, q6, q7, q8⟩ := hSw.1.cells; clear hSw; (try simp only [List.getElem_toArray, List.getElem_cons_succ, List.getElem_cons_zero]); go_simp; try with_reducible rfl)
  simp only [List.getElem_toArray, List.getElem_cons_succ, List.getElem_cons_zero, Act.put, List.setIfInBounds_toArray, List.set_cons_zero, List.set_cons_succ]
  refine wpAnyHT_take (i := 8) (oi := _) (v := ?_) (by kernel_rfl) rfl (by kernel_rfl) (by kernel_rfl) (by kernel_rfl) (by kernel_rfl) (fun _ _ _ h => h) (Or.inl ⟨by rfl, ?_⟩) HSD.out ?_
  rotate_left 1
  · (intro W hSw; obtain ⟨q0, q1, q2, q3, q4, q5, q6, q7, q8⟩ := hSw.1.cells; clear hSw; (try simp only [List.getElem_toArray, List.getElem_cons_succ, List.getElem_cons_zero]); go_simp; try with_reducible rfl)
  simp only [List.getElem_toArray, List.getElem_cons_succ, List.getElem_cons_zero, Act.put, List.setIfInBounds_toArray, List.set_cons_zero, List.set_cons_succ]
  refine wpAnyHT_take (i := 9) (oi := _) (v := ?_) (by kernel_rfl) rfl (by kernel_rfl) (by kernel_rfl) (by kernel_rfl) (by kernel_rfl) (fun _ _ _ h => h) (Or.inl ⟨by rfl, ?_⟩) HSD.out ?_
  rotate_left 1
  · (intro W hSw; obtain ⟨q0, q1, q2, q3, q4, q5, q6, q7, q8⟩ := hSw.1.cells; clear hSw; (try simp only [List.getElem_toArray, List.getElem_cons_succ, List.getElem_cons_zero]); go_simp; try with_reducible rfl)
  simp only [List.getElem_toArray, List.getElem_cons_succ, List.getElem_cons_zero, Act.put, List.setIfInBounds_toArray, List.set_cons_zero, List.set_cons_succ]
  refine wpAnyHT_take (i := 10) (oi := _) (v := ?_) (by kernel_rfl) rfl (by kernel_rfl) (by kernel_rfl) (by kernel_rfl) (by kernel_rfl) (fun _ _ _ h => h) (Or.inl ⟨by rfl, ?_⟩) HSD.out ?_
  rotate_left 1
  · (intro W hSw; obtain ⟨q0, q1, q2, q3, q4, q5, q6, q7, q8⟩ := hSw.1.cells; clear hSw; (try simp only [List.getElem_toArray, List.getElem_cons_succ, List.getElem_cons_zero]); go_simp; try with_reducible rfl)
  simp only [List.getElem_toArray, List.getElem_cons_succ, List.getElem_cons_zero, Act.put, List.setIfInBounds_toArray, List.set_cons_zero, List.set_cons_succ]
  refine wpAnyHT_take (i := 11) (oi := _) (v := ?_) (by kernel_rfl) rfl (by kernel_rfl) (by kernel_rfl) (by kernel_rfl) (by kernel_rfl) (fun _ _ _ h => h) (Or.inl ⟨by rfl, ?_⟩) HSD.out ?_
  rotate_left 1
  · (intro W hSw; obtain ⟨q0, q1, q2, q3, q4, q5, q6, q7, q8⟩ := hSw.1.cells; clear hSw; (try simp only [List.getElem_toArray, List.getElem_cons_succ, List.getElem_cons_zero]); go_simp; try with_reducible rfl)
  simp only [List.getElem_toArray, List.getElem_cons_succ, List.getElem_cons_zero, Act.put, List.setIfInBounds_toArray, List.set_cons_zero, List.set_cons_succ]
  refine wpAnyHT_take (i := 12) (oi := _) (v := ?_) (by kernel_rfl) rfl (by kernel_rfl) (by kernel_rfl) (by kernel_rfl) (by kernel_rfl) (fun _ _ _ h => h) (Or.inl ⟨by rfl, ?_⟩) HSD.out ?_
  rotate_left 1
  · (intro W hSw; obtain ⟨q0, q1, q2, q3, q4, q5, q6, q7, q8⟩ := hSw.1.cells; clear hSw; (try simp only [List.getElem_toArray, List.getElem_cons_succ, List.getElem_cons_zero]); go_simp; try with_reducible rfl)
  simp only [List.getElem_toArray, List.getElem_cons_succ, List.getElem_cons_zero, Act.put, List.setIfInBounds_toArray, List.set_cons_zero, List.set_cons_succ]
  refine wpAnyHT_take (i := 13) (oi := _) (v := ?_) (by kernel_rfl) rfl (by kernel_rfl) (by kernel_rfl) (by kernel_rfl) (by kernel_rfl) (fun _ _ _ h => h) (Or.inl ⟨by rfl, ?_⟩) HSD.out ?_
  rotate_left 1
  · (intro W hSw; obtain ⟨q0, q1, q2, q3, q4, q5, q6, q7, q8⟩ := hSw.1.cells; clear hSw; (try simp only [List.getElem_toArray, List.getElem_cons_succ, List.getElem_cons_zero]); go_simp; try with_reducible rfl)
  simp only [List.getElem_toArray, List.getElem_cons_succ, List.getElem_cons_zero, Act.put, List.setIfInBounds_toArray, List.set_cons_zero, List.set_cons_succ]
  refine wpAnyHT_take (i := 14) (oi := _) (v := ?_) (by kernel_rfl) rfl (by kernel_rfl) (by kernel_rfl) (by kernel_rfl) (by kernel_rfl) (fun _ _ _ h => h) (Or.inl ⟨by rfl, ?_⟩) HSD.out ?_
  rotate_left 1
  · (intro W hSw; obtain ⟨q0, q1, q2, q3, q4, q5, q6, q7, q8⟩ := hSw.1.cells; clear hSw; (try simp only [List.getElem_toArray, List.getElem_cons_succ, List.getElem_cons_zero]); go_simp; try with_reducible rfl)
  simp only [List.getElem_toArray, List.getElem_cons_succ, List.getElem_cons_zero, Act.put, List.setIfInBounds_toArray, List.set_cons_zero, List.set_cons_succ]
  refine wpAnyHT_take (i := 15) (oi := _) (v := ?_) (by kernel_rfl) rfl (by kernel_rfl) (by kernel_rfl) (by kernel_rfl) (by kernel_rfl) (fun _ _ _ h => h) (Or.inl ⟨by rfl, ?_⟩) HSD.out ?_
  rotate_left 1
  · (intro W hSw; obtain ⟨q0, q1, q2, q3, q4, q5, q6, q7, q8⟩ := hSw.1.cells; clear hSw; (try simp only [List.getElem_toArray, List.getElem_cons_succ, List.getElem_cons_zero]); go_simp; try with_reducible rfl)
  simp only [List.getElem_toArray, List.getElem_cons_succ, List.getElem_cons_zero, Act.put, List.setIfInBounds_toArray, List.set_cons_zero, List.set_cons_succ]
  refine wpAnyHT_take (i := 16) (oi := _) (v := ?_) (by kernel_rfl) rfl (by kernel_rfl) (by kernel_rfl) (by kernel_rfl) (by kernel_rfl) (fun _ _ _ h => h) (Or.inl ⟨by rfl, ?_⟩) HSD.out ?_
  rotate_left 1
  · (intro W hSw; obtain ⟨q0, q1, q2, q3, q4, q5, q6, q7, q8⟩ := hSw.1.cells; clear hSw; (try simp only [List.getElem_toArray, List.getElem_cons_succ, List.getElem_cons_zero]); go_simp; try with_reducible rfl)
  simp only [List.getElem_toArray, List.getElem_cons_succ, List.getElem_cons_zero, Act.put, List.setIfInBounds_toArray, List.set_cons_zero, List.set_cons_succ]
  refine wpAnyHT_take (i := 17) (oi := _) (v := ?_) (by kernel_rfl) rfl (by kernel_rfl) (by kernel_rfl) (by kernel_rfl) (by kernel_rfl) (fun _ _ _ h => h) (Or.inl ⟨by rfl, ?_⟩) HSD.out ?_
  rotate_left 1
  · (intro W hSw; obtain ⟨q0, q1, q2, q3, q4, q5, q6, q7, q8⟩ := hSw.1.cells; clear hSw; (try simp only [List.getElem_toArray, List.getElem_cons_succ, List.getElem_cons_zero]); go_simp; try with_reducible rfl)
  simp only [List.getElem_toArray, List.getElem_cons_succ, List.getElem_cons_zero, Act.put, List.setIfInBounds_toArray, List.set_cons_zero, List.set_cons_succ]
  refine wpAnyHT_take (i := 18) (oi := _) (v := ?_) (by kernel_rfl) rfl (by kernel_rfl) (by kernel_rfl) (by kernel_rfl) (by kernel_rfl) (fun _ _ _ h => h) (Or.inl ⟨by rfl, ?_⟩) HSD.out ?_
  rotate_left 1
  · (intro W hSw; obtain ⟨q0, q1, q2, q3, q4, q5, q6, q7, q8⟩ := hSw.1.cells; clear hSw; (try simp only [List.getElem_toArray, List.getElem_cons_succ, List.getElem_cons_zero]); go_simp; try with_reducible rfl)
  simp only [List.getElem_toArray, List.getElem_cons_succ, List.getElem_cons_zero, Act.put, List.setIfInBounds_toArray, List.set_cons_zero, List.set_cons_succ]
  refine wpAnyHT_take (i := 19) (oi := _) (v := ?_) (by kernel_rfl) rfl (by kernel_rfl) (by kernel_rfl) (by kernel_rfl) (by kernel_rfl) (fun _ _ _ h => h) (Or.inl ⟨by rfl, ?_⟩) HSD.out ?_
  rotate_left 1
  · (intro W hSw; obtain ⟨q0, q1, q2, q3, q4, q5, q6, q7, q8⟩ := hSw.1.cells; clear hSw; (try simp only [List.getElem_toArray, List.getElem_cons_succ, List.getElem_cons_zero]); go_simp; try with_reducible rfl)
  simp only [List.getElem_toArray, List.getElem_cons_succ, List.getElem_cons_zero, Act.put, List.setIfInBounds_toArray, List.set_cons_zero, List.set_cons_succ]
  refine wpAnyHT_take (i := 20) (oi := _) (v := ?_) (by kernel_rfl) rfl (by kernel_rfl) (by kernel_rfl) (by kernel_rfl) (by kernel_rfl) (fun _ _ _ h => h) (Or.inl ⟨by rfl, ?_⟩) HSD.out ?_
  rotate_left 1
  · (intro W hSw; obtain ⟨q0, q1, q2, q3, q4, q5, q6, q7, q8⟩ := hSw.1.cells; clear hSw; (try simp only [List.getElem_toArray, List.getElem_cons_succ, List.getElem_cons_zero]); go_simp; try with_reducible rfl)
  simp only [List.getElem_toArray, List.getElem_cons_succ, List.getElem_cons_zero, Act.put, List.setIfInBounds_toArray, List.set_cons_zero, List.set_cons_succ]
  refine wpAnyHT_take (i := 21) (oi := _) (v := ?_) (by kernel_rfl) rfl (by kernel_rfl) (by kernel_rfl) (by kernel_rfl) (by kernel_rfl) (fun _ _ _ h => h) (Or.inl ⟨by rfl, ?_⟩) HSD.out ?_
  rotate_left 1
  · (intro W hSw; obtain ⟨q0, q1, q2, q3, q4, q5, q6, q7, q8⟩ := hSw.1.cells; clear hSw; (try simp only [List.getElem_toArray, List.getElem_cons_succ, List.getElem_cons_zero]); go_simp; try with_reducible rfl)
  simp only [List.getElem_toArray, List.getElem_cons_succ, List.getElem_cons_zero, Act.put, List.setIfInBounds_toArray, List.set_cons_zero, List.set_cons_succ]
  refine wpAnyHT_take (i := 22) (oi := _) (v := ?_) (by kernel_rfl) rfl (by kernel_rfl) (by kernel_rfl) (by kernel_rfl) (by kernel_rfl) (fun _ _ _ h => h) (Or.inl ⟨by rfl, ?_⟩) HSD.out ?_
  rotate_left 1
  · (intro W hSw; obtain ⟨q0, q1, q2, q3, q4, q5, q6, q7, q8⟩ := hSw.1.cells; clear hSw; (try simp only [List.getElem_toArray, List.getElem_cons_succ, List.getElem_cons_zero]); go_simp; try with_reducible rfl)
  simp only [List.getElem_toArray, List.getElem_cons_succ, List.getElem_cons_zero, Act.put, List.setIfInBounds_toArray, List.set_cons_zero, List.set_cons_succ]
  refine wpAnyHT_take (i := 23) (oi := _) (v := ?_) (by kernel_rfl) rfl (by kernel_rfl) (by kernel_rfl) (by kernel_rfl) (by kernel_rfl) (fun _ _ _ h => h) (Or.inl ⟨by rfl, ?_⟩) HSD.out ?_
  rotate_left 1
  · (intro W hSw; obtain ⟨q0, q1, q2, q3, q4, q5, q6, q7, q8⟩ := hSw.1.cells; clear hSw; (try simp only [List.getElem_toArray, List.getElem_cons_succ, List.getElem_cons_zero]); go_simp; try with_reducible rfl)
  simp only [List.getElem_toArray, List.getElem_cons_succ, List.getElem_cons_zero, Act.put, List.setIfInBounds_toArray, List.set_cons_zero, List.set_cons_succ]
  refine wpAnyHT_take (i := 24) (oi := _) (v := ?_) (by kernel_rfl) rfl (by kernel_rfl) (by kernel_rfl) (by kernel_rfl) (by kernel_rfl) (fun _ _ _ h => h) (Or.inl ⟨by rfl, ?_⟩) HSD.out ?_
  rotate_left 1
  · (intro W hSw; obtain ⟨q0, q1, q2, q3, q4, q5, q6, q7, q8⟩ := hSw.1.cells; clear hSw; (try simp only [List.getElem_toArray, List.getElem_cons_succ, List.getElem_cons_zero]); go_simp; try with_reducible rfl)
  simp only [List.getElem_toArray, List.getElem_cons_succ, List.getElem_cons_zero, Act.put, List.setIfInBounds_toArray, List.set_cons_zero, List.set_cons_succ]
  refine wpAnyHT_one (i := 25) rfl (by kernel_rfl) (by kernel_rfl) (fun K hK => ?_)
  try simp only [List.getElem_toArray, List.getElem_cons_succ, List.getElem_cons_zero]
  go_simp
  refine HLO.out.mono ?_
  rintro e w1 ⟨rfl, rfl⟩
  refine hK _ _ HSD.out ?_
  clear hK K
  try simp only [List.getElem_toArray, List.getElem_cons_succ, List.getElem_cons_zero, Act.put, List.setIfInBounds_toArray, List.set_cons_zero, List.set_cons_succ]
  refine wpAnyHT_one (i := 26) rfl (by kernel_rfl) (by kernel_rfl) (fun K hK => ?_)
  try simp only [List.getElem_toArray, List.getElem_cons_succ, List.getElem_cons_zero]
  go_simp
  refine HWO.out.mono ?_
  rintro e w6 ⟨rfl, hf6⟩
  have HS6 : Hid (RowR w6 r s x0 x1 x2 z 4 ∧ Frm [] w5 w6) := hid ⟨hf6.heap HSD.out.1 (by simp), HSD.out.2.trans hf6 (by simp)⟩
  refine hK _ _ HS6.out ?_
  clear hK K hf6
  try simp only [List.getElem_toArray, List.getElem_cons_succ, List.getElem_cons_zero, Act.put, List.setIfInBounds_toArray, List.set_cons_zero, List.set_cons_succ]
  refine wpAnyHT_take (i := 27) (oi := _) (v := ?_) (by kernel_rfl) rfl (by kernel_rfl) (by kernel_rfl) (by kernel_rfl) (by kernel_rfl) (fun _ _ _ h => h) (Or.inl ⟨by rfl, ?_⟩) HS6.out ?_
  rotate_left 1
  · (intro W hSw; obtain ⟨q0, q1, q2, q3, q4, q5, q6, q7, q8⟩ := hSw.1.cells; clear hSw; (try simp only [List.getElem_toArray, List.getElem_cons_succ, List.getElem_cons_zero]); go_simp; try with_reducible rfl)
  try simp only [List.getElem_toArray, List.getElem_cons_succ, List.getElem_cons_zero, Act.put, List.setIfInBounds_toArray, List.set_cons_zero, List.set_cons_succ]
  refine wpAnyHT_take (i := 28) (oi := _) (v := ?_) (by kernel_rfl) rfl (by kernel_rfl) (by kernel_rfl) (by kernel_rfl) (by kernel_rfl) (fun _ _ _ h => h) (Or.inl ⟨by rfl, ?_⟩) HS6.out ?_
  rotate_left 1
  · (intro W hSw; obtain ⟨q0, q1, q2, q3, q4, q5, q6, q7, q8⟩ := hSw.1.cells; clear hSw; (try simp only [List.getElem_toArray, List.getElem_cons_succ, List.getElem_cons_zero]); go_simp; try with_reducible rfl)
  try simp only [List.getElem_toArray, List.getElem_cons_succ, List.getElem_cons_zero, Act.put, List.setIfInBounds_toArray, List.set_cons_zero, List.set_cons_succ]
  refine wpAnyHT_end (by kernel_rfl) ?_
  simp only [List.drop_succ_cons, List.drop_zero]
  obtain ⟨p0, p1, p2, p3, p4, p5, p6, p7, p8⟩ := HS6.out.1.cells
  have z0 := HS6.out.1.froz 0
  have z1 := HS6.out.1.froz 1
  have z2 := HS6.out.1.froz 2
  have z3 := HS6.out.1.froz 3
  have z4 := HS6.out.1.froz 4
  have z5 := HS6.out.1.froz 5
  have z6 := HS6.out.1.froz 6
  have z7 := HS6.out.1.froz 7
  have z8 := HS6.out.1.froz 8
  go_wp2_with fail
  go_returns
  rw [HLE.out]
  have HF6 : Frm [r] w w6 := HF5.out.trans HS6.out.2 (by simp)
  have k0 : (w6.setCell ⟨r, 0, none⟩ (.int .u64 (wordS s L).a)).heap[r]? = some (.cells #[.int .u64 (wordS s L).a, .int .u64 s.b, .int .u64 s.c, .int .u64 s.d, .int .u8 x0, .int .u8 x1, .int .u8 x2, .int .u8 z, .int .i64 4] 51 (0, 0)) := by rw [heap_setCell_same _ _ 0 _ _ _ HS6.out.1]; rfl
  have k1 : ((w6.setCell ⟨r, 0, none⟩ (.int .u64 (wordS s L).a)).setCell ⟨r, 1, none⟩ (.int .u64 (wordS s L).b)).heap[r]? = some (.cells #[.int .u64 (wordS s L).a, .int .u64 (wordS s L).b, .int .u64 s.c, .int .u64 s.d, .int .u8 x0, .int .u8 x1, .int .u8 x2, .int .u8 z, .int .i64 4] 51 (0, 0)) := by rw [heap_setCell_same _ _ 1 _ _ _ k0]; rfl
  have k2 : (((w6.setCell ⟨r, 0, none⟩ (.int .u64 (wordS s L).a)).setCell ⟨r, 1, none⟩ (.int .u64 (wordS s L).b)).setCell ⟨r, 2, none⟩ (.int .u64 (wordS s L).c)).heap[r]? = some (.cells #[.int .u64 (wordS s L).a, .int .u64 (wordS s L).b, .int .u64 (wordS s L).c, .int .u64 s.d, .int .u8 x0, .int .u8 x1, .int .u8 x2, .int .u8 z, .int .i64 4] 51 (0, 0)) := by rw [heap_setCell_same _ _ 2 _ _ _ k1]; rfl
  have k3 : ((((w6.setCell ⟨r, 0, none⟩ (.int .u64 (wordS s L).a)).setCell ⟨r, 1, none⟩ (.int .u64 (wordS s L).b)).setCell ⟨r, 2, none⟩ (.int .u64 (wordS s L).c)).setCell ⟨r, 3, none⟩ (.int .u64 (wordS s L).d)).heap[r]? = some (.cells #[.int .u64 (wordS s L).a, .int .u64 (wordS s L).b, .int .u64 (wordS s L).c, .int .u64 (wordS s L).d, .int .u8 x0, .int .u8 x1, .int .u8 x2, .int .u8 z, .int .i64 4] 51 (0, 0)) := by rw [heap_setCell_same _ _ 3 _ _ _ k2]; rfl
  have k4 : (((((w6.setCell ⟨r, 0, none⟩ (.int .u64 (wordS s L).a)).setCell ⟨r, 1, none⟩ (.int .u64 (wordS s L).b)).setCell ⟨r, 2, none⟩ (.int .u64 (wordS s L).c)).setCell ⟨r, 3, none⟩ (.int .u64 (wordS s L).d)).setCell ⟨r, 4, none⟩ (.int .u8 0)).heap[r]? = some (.cells #[.int .u64 (wordS s L).a, .int .u64 (wordS s L).b, .int .u64 (wordS s L).c, .int .u64 (wordS s L).d, .int .u8 0, .int .u8 x1, .int .u8 x2, .int .u8 z, .int .i64 4] 51 (0, 0)) := by rw [heap_setCell_same _ _ 4 _ _ _ k3]; rfl
  have k5 : ((((((w6.setCell ⟨r, 0, none⟩ (.int .u64 (wordS s L).a)).setCell ⟨r, 1, none⟩ (.int .u64 (wordS s L).b)).setCell ⟨r, 2, none⟩ (.int .u64 (wordS s L).c)).setCell ⟨r, 3, none⟩ (.int .u64 (wordS s L).d)).setCell ⟨r, 4, none⟩ (.int .u8 0)).setCell ⟨r, 5, none⟩ (.int .u8 0)).heap[r]? = some (.cells #[.int .u64 (wordS s L).a, .int .u64 (wordS s L).b, .int .u64 (wordS s L).c, .int .u64 (wordS s L).d, .int .u8 0, .int .u8 0, .int .u8 x2, .int .u8 z, .int .i64 4] 51 (0, 0)) := by rw [heap_setCell_same _ _ 5 _ _ _ k4]; rfl
  have k6 : (((((((w6.setCell ⟨r, 0, none⟩ (.int .u64 (wordS s L).a)).setCell ⟨r, 1, none⟩ (.int .u64 (wordS s L).b)).setCell ⟨r, 2, none⟩ (.int .u64 (wordS s L).c)).setCell ⟨r, 3, none⟩ (.int .u64 (wordS s L).d)).setCell ⟨r, 4, none⟩ (.int .u8 0)).setCell ⟨r, 5, none⟩ (.int .u8 0)).setCell ⟨r, 6, none⟩ (.int .u8 0)).heap[r]? = some (.cells #[.int .u64 (wordS s L).a, .int .u64 (wordS s L).b, .int .u64 (wordS s L).c, .int .u64 (wordS s L).d, .int .u8 0, .int .u8 0, .int .u8 0, .int .u8 z, .int .i64 4] 51 (0, 0)) := by rw [heap_setCell_same _ _ 6 _ _ _ k5]; rfl
  have k7 : ((((((((w6.setCell ⟨r, 0, none⟩ (.int .u64 (wordS s L).a)).setCell ⟨r, 1, none⟩ (.int .u64 (wordS s L).b)).setCell ⟨r, 2, none⟩ (.int .u64 (wordS s L).c)).setCell ⟨r, 3, none⟩ (.int .u64 (wordS s L).d)).setCell ⟨r, 4, none⟩ (.int .u8 0)).setCell ⟨r, 5, none⟩ (.int .u8 0)).setCell ⟨r, 6, none⟩ (.int .u8 0)).setCell ⟨r, 7, none⟩ (.int .u8 0)).heap[r]? = some (.cells #[.int .u64 (wordS s L).a, .int .u64 (wordS s L).b, .int .u64 (wordS s L).c, .int .u64 (wordS s L).d, .int .u8 0, .int .u8 0, .int .u8 0, .int .u8 0, .int .i64 4] 51 (0, 0)) := by rw [heap_setCell_same _ _ 7 _ _ _ k6]; rfl
  have k8 : (((((((((w6.setCell ⟨r, 0, none⟩ (.int .u64 (wordS s L).a)).setCell ⟨r, 1, none⟩ (.int .u64 (wordS s L).b)).setCell ⟨r, 2, none⟩ (.int .u64 (wordS s L).c)).setCell ⟨r, 3, none⟩ (.int .u64 (wordS s L).d)).setCell ⟨r, 4, none⟩ (.int .u8 0)).setCell ⟨r, 5, none⟩ (.int .u8 0)).setCell ⟨r, 6, none⟩ (.int .u8 0)).setCell ⟨r, 7, none⟩ (.int .u8 0)).setCell ⟨r, 8, none⟩ (.int .i64 0)).heap[r]? = some (.cells #[.int .u64 (wordS s L).a, .int .u64 (wordS s L).b, .int .u64 (wordS s L).c, .int .u64 (wordS s L).d, .int .u8 0, .int .u8 0, .int .u8 0, .int .u8 0, .int .i64 0] 51 (0, 0)) := by rw [heap_setCell_same _ _ 8 _ _ _ k7]; rfl
  exact ⟨rfl, k8, (((((((((HF6.setCell _ _ (by simp)).setCell _ _ (by simp)).setCell _ _ (by simp)).setCell _ _ (by simp)).setCell _ _ (by simp)).setCell _ _ (by simp)).setCell _ _ (by simp)).setCell _ _ (by simp)).setCell _ _ (by simp))⟩
end Go.Proofs.YtcnochabdhdlnaaDoor
