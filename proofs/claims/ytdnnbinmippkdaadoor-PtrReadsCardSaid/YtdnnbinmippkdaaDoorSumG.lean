/- Contracts of package sum: Value, Of. -/
import Derived.Test.YtdnnbinmippkdaaDoorSumF
namespace Go.Proofs.YtdnnbinmippkdaaDoor
open Go.RowKit
set_option maxRecDepth 100000

def Z4 : S4 := ⟨0, 0, 0, 0⟩
set_option maxHeartbeats 800000 in
theorem value_0 (r : Nat) (s : S4) (x0 x1 x2 x3 : Int) (w : World) (hr : RowR w r s x0 x1 x2 x3 0) :
    Calls Tryd.prog 74 #[.pointer (some ⟨r, 0, none⟩)] w fun e w' => e = .returned (.agg s.arr) ∧ Frm [] w w' := by
  have hfa : Frm [] w (w.alloc (.cells #[.int .u64 0, .int .u64 0, .int .u64 0, .int .u64 0] 24)) := (Frm.refl _ _).alloc _
  have hra := hfa.heap hr (by simp)
  have q0 : (w.alloc (.cells #[.int .u64 0, .int .u64 0, .int .u64 0, .int .u64 0] 24)).cell? ⟨r, 0, none⟩ = some (.int .u64 s.a) := by rw [cell_of_row _ _ _ _ _ _ hra]; rfl
  have q1 : (w.alloc (.cells #[.int .u64 0, .int .u64 0, .int .u64 0, .int .u64 0] 24)).cell? ⟨r, 1, none⟩ = some (.int .u64 s.b) := by rw [cell_of_row _ _ _ _ _ _ hra]; rfl
  have q2 : (w.alloc (.cells #[.int .u64 0, .int .u64 0, .int .u64 0, .int .u64 0] 24)).cell? ⟨r, 2, none⟩ = some (.int .u64 s.c) := by rw [cell_of_row _ _ _ _ _ _ hra]; rfl
  have q3 : (w.alloc (.cells #[.int .u64 0, .int .u64 0, .int .u64 0, .int .u64 0] 24)).cell? ⟨r, 3, none⟩ = some (.int .u64 s.d) := by rw [cell_of_row _ _ _ _ _ _ hra]; rfl
  have q4 : (w.alloc (.cells #[.int .u64 0, .int .u64 0, .int .u64 0, .int .u64 0] 24)).cell? ⟨r, 4, none⟩ = some (.int .u8 x0) := by rw [cell_of_row _ _ _ _ _ _ hra]; rfl
  have q5 : (w.alloc (.cells #[.int .u64 0, .int .u64 0, .int .u64 0, .int .u64 0] 24)).cell? ⟨r, 5, none⟩ = some (.int .u8 x1) := by rw [cell_of_row _ _ _ _ _ _ hra]; rfl
  have q6 : (w.alloc (.cells #[.int .u64 0, .int .u64 0, .int .u64 0, .int .u64 0] 24)).cell? ⟨r, 6, none⟩ = some (.int .u8 x2) := by rw [cell_of_row _ _ _ _ _ _ hra]; rfl
  have q7 : (w.alloc (.cells #[.int .u64 0, .int .u64 0, .int .u64 0, .int .u64 0] 24)).cell? ⟨r, 7, none⟩ = some (.int .u8 x3) := by rw [cell_of_row _ _ _ _ _ _ hra]; rfl
  have q8 : (w.alloc (.cells #[.int .u64 0, .int .u64 0, .int .u64 0, .int .u64 0] 24)).cell? ⟨r, 8, none⟩ = some (.int .i64 0) := by rw [cell_of_row _ _ _ _ _ _ hra]; rfl
  unfold S4.arr
  clear hr hra hfa
  go_enter Tryd.func74, Tryd.ntmps74
  go_wp2_with fail
  go_returns
  exact ⟨rfl, (Frm.refl _ _).alloc _⟩
set_option maxHeartbeats 1600000 in
theorem value_m (r : Nat) (s : S4) (x0 x1 x2 x3 m : Int) (w : World) (hr : RowR w r s x0 x1 x2 x3 m) (hm : m ≠ 0) (h0 : 0 ≤ x0 ∧ x0 < 256) (h1 : 0 ≤ x1 ∧ x1 < 256) (h2 : 0 ≤ x2 ∧ x2 < 256) (h3 : 0 ≤ x3 ∧ x3 < 256) :
    Calls Tryd.prog 74 #[.pointer (some ⟨r, 0, none⟩)] w fun e w' => e = .returned (.agg (wordS s (lowW x0 x1 x2 x3)).arr) ∧ Frm [] w w' := by
  have hfa : Frm [] w (w.alloc (.cells #[.int .u64 0, .int .u64 0, .int .u64 0, .int .u64 0] 24)) := (Frm.refl _ _).alloc _
  have hra := hfa.heap hr (by simp)
  have q0 : (w.alloc (.cells #[.int .u64 0, .int .u64 0, .int .u64 0, .int .u64 0] 24)).cell? ⟨r, 0, none⟩ = some (.int .u64 s.a) := by rw [cell_of_row _ _ _ _ _ _ hra]; rfl
  have q1 : (w.alloc (.cells #[.int .u64 0, .int .u64 0, .int .u64 0, .int .u64 0] 24)).cell? ⟨r, 1, none⟩ = some (.int .u64 s.b) := by rw [cell_of_row _ _ _ _ _ _ hra]; rfl
  have q2 : (w.alloc (.cells #[.int .u64 0, .int .u64 0, .int .u64 0, .int .u64 0] 24)).cell? ⟨r, 2, none⟩ = some (.int .u64 s.c) := by rw [cell_of_row _ _ _ _ _ _ hra]; rfl
  have q3 : (w.alloc (.cells #[.int .u64 0, .int .u64 0, .int .u64 0, .int .u64 0] 24)).cell? ⟨r, 3, none⟩ = some (.int .u64 s.d) := by rw [cell_of_row _ _ _ _ _ _ hra]; rfl
  have q4 : (w.alloc (.cells #[.int .u64 0, .int .u64 0, .int .u64 0, .int .u64 0] 24)).cell? ⟨r, 4, none⟩ = some (.int .u8 x0) := by rw [cell_of_row _ _ _ _ _ _ hra]; rfl
  have q5 : (w.alloc (.cells #[.int .u64 0, .int .u64 0, .int .u64 0, .int .u64 0] 24)).cell? ⟨r, 5, none⟩ = some (.int .u8 x1) := by rw [cell_of_row _ _ _ _ _ _ hra]; rfl
  have q6 : (w.alloc (.cells #[.int .u64 0, .int .u64 0, .int .u64 0, .int .u64 0] 24)).cell? ⟨r, 6, none⟩ = some (.int .u8 x2) := by rw [cell_of_row _ _ _ _ _ _ hra]; rfl
  have q7 : (w.alloc (.cells #[.int .u64 0, .int .u64 0, .int .u64 0, .int .u64 0] 24)).cell? ⟨r, 7, none⟩ = some (.int .u8 x3) := by rw [cell_of_row _ _ _ _ _ _ hra]; rfl
  have q8 : (w.alloc (.cells #[.int .u64 0, .int .u64 0, .int .u64 0, .int .u64 0] 24)).cell? ⟨r, 8, none⟩ = some (.int .i64 m) := by rw [cell_of_row _ _ _ _ _ _ hra]; rfl
  have hmb : (m == 0) = false := by simp; omega
  have HA : Hid ((w.alloc (.cells #[.int .u64 0, .int .u64 0, .int .u64 0, .int .u64 0] 24)).heap[w.heap.size]? = some (.cells #[.int .u64 0, .int .u64 0, .int .u64 0, .int .u64 0] 24 (0, 0))) := hid (heap_alloc_new _ _)
  have HFA := hid hfa
  have HLO := hid (low_any x0 x1 x2 x3 (w.alloc (.cells #[.int .u64 0, .int .u64 0, .int .u64 0, .int .u64 0] 24)).drew h0 h1 h2 h3)
  have hwo := fun w' => word_any s (lowW x0 x1 x2 x3) w' (lowW_bd _ _ _ _)
  obtain ⟨L, hL⟩ : ∃ L, lowW x0 x1 x2 x3 = L := ⟨_, rfl⟩
  rw [hL] at hwo HLO ⊢
  unfold S4.arr at hwo ⊢
  have HWO := hid hwo
  clear hr hra hfa h0 h1 h2 h3 hwo hL
  go_enter Tryd.func74, Tryd.ntmps74
  go_wp2_with fail
  obtain ⟨wa, hwa⟩ : ∃ wa, w.alloc (.cells #[.int .u64 0, .int .u64 0, .int .u64 0, .int .u64 0] 24) = wa := ⟨_, rfl⟩
  rw [hwa] at q0 q1 q2 q3 q4 q5 q6 q7 q8 HLO HA HFA ⊢
  clear hwa
  go_still_tail 25, (by kernel_rfl)
  refine wpStill_step (fun K hK => ?_)
  go_simp
  refine ⟨_, HLO.out, hK _ ?_⟩
  clear hK K
  repeat still_step
  refine wpStill_nil ?_
  change wpList _ _ _ _ _ wa.drew
  have hfd : Frm [] w wa.drew := HFA.out.drew
  have ha5 : wa.drew.heap[w.heap.size]? = some (.cells #[.int .u64 0, .int .u64 0, .int .u64 0, .int .u64 0] 24 (0, 0)) := HA.out
  obtain ⟨w5, hw5⟩ : ∃ w5, wa.drew = w5 := ⟨_, rfl⟩
  rw [hw5] at hfd ha5 ⊢
  clear hw5 q0 q1 q2 q3 q4 q5 q6 q7 q8 HLO HA HFA
  go_wp2_with fail
  refine (HWO.out w5).mono ?_
  rintro e w6 ⟨rfl, hf6⟩
  have hF6 := hfd.trans hf6 (by simp)
  have hco := hf6.heap ha5 (by simp)
  obtain ⟨sb, hsb⟩ : ∃ sb, w.heap.size = sb := ⟨_, rfl⟩
  rw [hsb] at hco ⊢
  have e0 : w6.cell? ⟨sb, 0, none⟩ = some (.int .u64 0) := by rw [cell_of_row w6 _ _ _ _ _ hco]; rfl
  have e1 : w6.cell? ⟨sb, 1, none⟩ = some (.int .u64 0) := by rw [cell_of_row w6 _ _ _ _ _ hco]; rfl
  have e2 : w6.cell? ⟨sb, 2, none⟩ = some (.int .u64 0) := by rw [cell_of_row w6 _ _ _ _ _ hco]; rfl
  have e3 : w6.cell? ⟨sb, 3, none⟩ = some (.int .u64 0) := by rw [cell_of_row w6 _ _ _ _ _ hco]; rfl
  have z0 : w6.frozen? ⟨sb, 0, none⟩ = false := frozen_of_row w6 _ 0 _ _ hco
  have z1 : w6.frozen? ⟨sb, 1, none⟩ = false := frozen_of_row w6 _ 1 _ _ hco
  have z2 : w6.frozen? ⟨sb, 2, none⟩ = false := frozen_of_row w6 _ 2 _ _ hco
  have z3 : w6.frozen? ⟨sb, 3, none⟩ = false := frozen_of_row w6 _ 3 _ _ hco
  have HS4 := hid (set4 (y0 := .int .u64 (wordS s L).a) (y1 := .int .u64 (wordS s L).b) (y2 := .int .u64 (wordS s L).c) (y3 := .int .u64 (wordS s L).d) hco)
  have HF6 := hid hF6
  have HSB := hid hsb
  clear hco hF6 hf6 hfd ha5 hsb
  go_wp2_with fail
  obtain ⟨h4, f4⟩ := HS4.out
  obtain ⟨wz, hwz⟩ : ∃ wz, (((w6.setCell ⟨sb, 0, none⟩ (.int .u64 (wordS s L).a)).setCell ⟨sb, 1, none⟩ (.int .u64 (wordS s L).b)).setCell ⟨sb, 2, none⟩ (.int .u64 (wordS s L).c)).setCell ⟨sb, 3, none⟩ (.int .u64 (wordS s L).d) = wz := ⟨_, rfl⟩
  rw [hwz] at h4 f4 ⊢
  have g0 : wz.cell? ⟨sb, 0, none⟩ = some (.int .u64 (wordS s L).a) := by rw [cell_of_row wz _ _ _ _ _ h4]; rfl
  have g1 : wz.cell? ⟨sb, 1, none⟩ = some (.int .u64 (wordS s L).b) := by rw [cell_of_row wz _ _ _ _ _ h4]; rfl
  have g2 : wz.cell? ⟨sb, 2, none⟩ = some (.int .u64 (wordS s L).c) := by rw [cell_of_row wz _ _ _ _ _ h4]; rfl
  have g3 : wz.cell? ⟨sb, 3, none⟩ = some (.int .u64 (wordS s L).d) := by rw [cell_of_row wz _ _ _ _ _ h4]; rfl
  refine bodyPost_ret (v := .agg #[.int .u64 (wordS s L).a, .int .u64 (wordS s L).b, .int .u64 (wordS s L).c, .int .u64 (wordS s L).d]) (by simp [results, Tryd.results74, go_sem, g0, g1, g2, g3]) rfl ⟨rfl, HF6.out.trans f4 (fun i hi hl => by simp at hi; have := HSB.out; omega)⟩
/-- Fletcher's sum. -/
def fletch (zs : List Int) : S4 := if zs.length % 4 = 0 then flW Z4 zs (zs.length / 4) else wordS (flW Z4 zs (zs.length / 4)) (lowW (zA zs (4 * (zs.length / 4))) (zA zs (4 * (zs.length / 4) + 1)) (zA zs (4 * (zs.length / 4) + 2)) 0)
theorem zA_bd {zs : List Int} (hb : ∀ z ∈ zs, 0 ≤ z ∧ z < 256) (i : Nat) : 0 ≤ zA zs i ∧ zA zs i < 256 := by
  unfold zA
  rw [List.getD_eq_getElem?_getD]
  by_cases hi : i < zs.length
  · rw [List.getElem?_eq_getElem hi]
    exact hb _ (List.getElem_mem hi)
  · rw [List.getElem?_eq_none (by omega)]
    simp
set_option maxHeartbeats 1600000 in
theorem of_fl (p : Option Addr) (n c : Nat) (zs : List Int) (w : World) (hn : zs.length = n) (hnc : n ≤ c) (hnb : n ≤ 9223372036854775807) (hrd : Rd w p zs) (hb : ∀ z ∈ zs, 0 ≤ z ∧ z < 256) :
    Calls Tryd.prog 60 #[.int .i64 1, .slice p n c] w fun e w' => e = .returned (.tuple #[.agg (fletch zs).arr, .int .i64 0]) ∧ Frm [] w w' := by
  have HRD := hid hrd
  have HB := hid hb
  have HN := hid hn
  clear hrd hb hn
  go_enter Tryd.func60, Tryd.ntmps60
  go_wp2_with fail
  have hfa : Frm [] w (w.alloc (.cells #[.int .u64 0, .int .u64 0, .int .u64 0, .int .u64 0] 24)) := (Frm.refl _ _).alloc _
  have hfb : Frm [] (w.alloc (.cells #[.int .u64 0, .int .u64 0, .int .u64 0, .int .u64 0] 24)) ((w.alloc (.cells #[.int .u64 0, .int .u64 0, .int .u64 0, .int .u64 0] 24)).alloc (.cells #[.int .u64 0, .int .u64 0, .int .u64 0, .int .u64 0, .int .u8 0, .int .u8 0, .int .u8 0, .int .u8 0, .int .i64 0] 109)) := (Frm.refl _ _).alloc _
  have hrow : RowR ((w.alloc (.cells #[.int .u64 0, .int .u64 0, .int .u64 0, .int .u64 0] 24)).alloc (.cells #[.int .u64 0, .int .u64 0, .int .u64 0, .int .u64 0, .int .u8 0, .int .u8 0, .int .u8 0, .int .u8 0, .int .i64 0] 109)) (w.heap.size + 1) Z4 0 0 0 0 0 := heap_alloc_to _ _ (by simp)
  have hres := hfb.heap (heap_alloc_new w (.cells #[.int .u64 0, .int .u64 0, .int .u64 0, .int .u64 0] 24)) (by simp)
  have hab := hfa.trans hfb (by simp)
  obtain ⟨w2, hw2⟩ : ∃ w2, (w.alloc (.cells #[.int .u64 0, .int .u64 0, .int .u64 0, .int .u64 0] 24)).alloc (.cells #[.int .u64 0, .int .u64 0, .int .u64 0, .int .u64 0, .int .u8 0, .int .u8 0, .int .u8 0, .int .u8 0, .int .i64 0] 109) = w2 := ⟨_, rfl⟩
  rw [hw2] at hrow hres hab ⊢
  refine (add_fresh (w.heap.size + 1) Z4 p n c zs w2 hrow HN.out hnc hnb (HRD.out.kept hab (by simp)) HB.out (fun hz hk => by have := HRD.out.lows hz _ hk; omega)).mono ?_
  rintro e w3 ⟨rfl, hr3, hf3⟩
  have hF3 : Frm [] w w3 := hab.trans hf3 (fun i hi hl => by simp at hi; omega)
  have hco := hf3.heap hres (by simp)
  have HVAL : Hid (Calls Tryd.prog 74 #[.pointer (some ⟨w.heap.size + 1, 0, none⟩)] w3 fun e w' => e = .returned (.agg (fletch zs).arr) ∧ Frm [] w3 w') := hid (by
    unfold fletch
    rw [HN.out]
    by_cases hm : n % 4 = 0
    · rw [if_pos hm]
      rw [hm] at hr3
      exact value_0 _ _ _ _ _ _ w3 hr3
    · rw [if_neg hm]
      exact value_m _ _ _ _ _ _ _ w3 hr3 (by omega) (zA_bd HB.out _) (zA_bd HB.out _) (zA_bd HB.out _) (by omega))
  have HF3 := hid hF3
  have HCO := hid hco
  clear hfa hfb hw2 hrow hres hab hr3 hf3 hF3 hco
  go_wp2_with fail
  refine HVAL.out.mono ?_
  rintro e w6 ⟨rfl, hf6⟩
  have hco := hf6.heap HCO.out (by simp)
  obtain ⟨S, hS⟩ : ∃ S, fletch zs = S := ⟨_, rfl⟩
  rw [hS]
  have HS := hid hS
  unfold S4.arr
  obtain ⟨sb, hsb⟩ : ∃ sb, w.heap.size = sb := ⟨_, rfl⟩
  have HSB := hid hsb
  rw [hsb] at hco ⊢
  have e0 : w6.cell? ⟨sb, 0, none⟩ = some (.int .u64 0) := by rw [cell_of_row w6 _ _ _ _ _ hco]; rfl
  have z0 : w6.frozen? ⟨sb, 0, none⟩ = false := frozen_of_row w6 _ 0 _ _ hco
  have e1 : w6.cell? ⟨sb, 1, none⟩ = some (.int .u64 0) := by rw [cell_of_row w6 _ _ _ _ _ hco]; rfl
  have z1 : w6.frozen? ⟨sb, 1, none⟩ = false := frozen_of_row w6 _ 1 _ _ hco
  have e2 : w6.cell? ⟨sb, 2, none⟩ = some (.int .u64 0) := by rw [cell_of_row w6 _ _ _ _ _ hco]; rfl
  have z2 : w6.frozen? ⟨sb, 2, none⟩ = false := frozen_of_row w6 _ 2 _ _ hco
  have e3 : w6.cell? ⟨sb, 3, none⟩ = some (.int .u64 0) := by rw [cell_of_row w6 _ _ _ _ _ hco]; rfl
  have z3 : w6.frozen? ⟨sb, 3, none⟩ = false := frozen_of_row w6 _ 3 _ _ hco
  have HS4 := hid (set4 (y0 := .int .u64 S.a) (y1 := .int .u64 S.b) (y2 := .int .u64 S.c) (y3 := .int .u64 S.d) hco)
  have HF6 := hid hf6
  clear hco hf6 hS hsb
  go_wp2_with fail
  obtain ⟨h4, f4⟩ := HS4.out
  obtain ⟨wz, hwz⟩ : ∃ wz, (((w6.setCell ⟨sb, 0, none⟩ (.int .u64 S.a)).setCell ⟨sb, 1, none⟩ (.int .u64 S.b)).setCell ⟨sb, 2, none⟩ (.int .u64 S.c)).setCell ⟨sb, 3, none⟩ (.int .u64 S.d) = wz := ⟨_, rfl⟩
  rw [hwz] at h4 f4 ⊢
  have g0 : wz.cell? ⟨sb, 0, none⟩ = some (.int .u64 S.a) := by rw [cell_of_row wz _ _ _ _ _ h4]; rfl
  have g1 : wz.cell? ⟨sb, 1, none⟩ = some (.int .u64 S.b) := by rw [cell_of_row wz _ _ _ _ _ h4]; rfl
  have g2 : wz.cell? ⟨sb, 2, none⟩ = some (.int .u64 S.c) := by rw [cell_of_row wz _ _ _ _ _ h4]; rfl
  have g3 : wz.cell? ⟨sb, 3, none⟩ = some (.int .u64 S.d) := by rw [cell_of_row wz _ _ _ _ _ h4]; rfl
  refine bodyPost_ret (v := .tuple #[.agg #[.int .u64 S.a, .int .u64 S.b, .int .u64 S.c, .int .u64 S.d], .int .i64 0]) (by simp [results, Tryd.results60, go_sem, g0, g1, g2, g3]) rfl ⟨by rw [HS.out]; rfl, (HF3.out.trans HF6.out (by simp)).trans f4 (fun i hi hl => by simp at hi; have := HSB.out; omega)⟩
end Go.Proofs.YtdnnbinmippkdaaDoor
