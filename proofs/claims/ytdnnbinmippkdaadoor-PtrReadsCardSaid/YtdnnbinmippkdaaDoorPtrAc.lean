/- Contracts of the law: awake. -/
import Derived.Test.YtdnnbinmippkdaaDoorPtrAa
import Derived.BigQuiet
namespace Go.Proofs.YtdnnbinmippkdaaDoor
open Go.RowKit
set_option maxRecDepth 100000

theorem cP {W : World} {b : Nat} (h : W.heap[b]? = some (.cells #[.int .i64 1, .int .i64 258, .int .i64 5, .int .u64 7, .int .i64 1, .int .u64 9, .int .u64 0, .int .u64 0, .int .u64 0] 26 (0, 0))) : W.cell? ⟨b, 0, none⟩ = some (.int .i64 1) ∧ W.cell? ⟨b, 1, none⟩ = some (.int .i64 258) ∧ W.cell? ⟨b, 2, none⟩ = some (.int .i64 5) ∧ W.cell? ⟨b, 3, none⟩ = some (.int .u64 7) ∧ W.cell? ⟨b, 4, none⟩ = some (.int .i64 1) ∧ W.cell? ⟨b, 5, none⟩ = some (.int .u64 9) ∧ W.cell? ⟨b, 6, none⟩ = some (.int .u64 0) ∧ W.cell? ⟨b, 7, none⟩ = some (.int .u64 0) ∧ W.cell? ⟨b, 8, none⟩ = some (.int .u64 0) := by
  refine ⟨?_, ?_, ?_, ?_, ?_, ?_, ?_, ?_, ?_⟩ <;> (rw [cell_of_row W _ _ _ _ _ h]; rfl)
theorem cU {W : World} {b : Nat} (h : W.heap[b]? = some (.cells #[.int .u64 5, .int .u64 8, .int .u64 3, .int .i64 1, .int .i64 258, .int .i64 5, .int .u64 7, .int .i64 1, .int .u64 9, .int .u64 0, .int .u64 0, .int .u64 0] 45 (0, 0))) : W.cell? ⟨b, 0, none⟩ = some (.int .u64 5) ∧ W.cell? ⟨b, 1, none⟩ = some (.int .u64 8) ∧ W.cell? ⟨b, 2, none⟩ = some (.int .u64 3) ∧ W.cell? ⟨b, 3, none⟩ = some (.int .i64 1) ∧ W.cell? ⟨b, 4, none⟩ = some (.int .i64 258) ∧ W.cell? ⟨b, 5, none⟩ = some (.int .i64 5) ∧ W.cell? ⟨b, 6, none⟩ = some (.int .u64 7) ∧ W.cell? ⟨b, 7, none⟩ = some (.int .i64 1) ∧ W.cell? ⟨b, 8, none⟩ = some (.int .u64 9) ∧ W.cell? ⟨b, 9, none⟩ = some (.int .u64 0) ∧ W.cell? ⟨b, 10, none⟩ = some (.int .u64 0) ∧ W.cell? ⟨b, 11, none⟩ = some (.int .u64 0) := by
  refine ⟨?_, ?_, ?_, ?_, ?_, ?_, ?_, ?_, ?_, ?_, ?_, ?_⟩ <;> (rw [cell_of_row W _ _ _ _ _ h]; rfl)
theorem cL {W : World} {b tk : Nat} (h : W.heap[b]? = some (.cells #[.int .u64 5, .slice (some ⟨tk, 0, none⟩) 1 1, .int .i64 0, .int .i64 1] 37 (0, 0))) : W.cell? ⟨b, 0, none⟩ = some (.int .u64 5) ∧ W.cell? ⟨b, 1, none⟩ = some (.slice (some ⟨tk, 0, none⟩) 1 1) ∧ W.cell? ⟨b, 2, none⟩ = some (.int .i64 0) ∧ W.cell? ⟨b, 3, none⟩ = some (.int .i64 1) := by
  refine ⟨?_, ?_, ?_, ?_⟩ <;> (rw [cell_of_row W _ _ _ _ _ h]; rfl)

set_option maxHeartbeats 3200000 in
theorem awake4_any (w : World) : Calls Tryd.prog 9 #[] w fun e w' => e = .returned (.bool true) ∧ Frm [] w w' := by
  have HEP := hid encP_A
  have HDP := hid decP_A
  have HEL := hid encL_A
  have HDL := hid decL_A
  have HEU := hid encU_A
  have HDU := hid decU_A
  go_enter Tryd.func9, Tryd.ntmps9
  go_wp2_with fail
  have hfa : Frm [] w (w.alloc (.cells #[.int .i64 1, .int .i64 258, .int .i64 5, .int .u64 7, .int .i64 1, .int .u64 9, .int .u64 0, .int .u64 0, .int .u64 0] 26)) := (Frm.refl _ _).alloc _
  have hra := heap_alloc_new w (.cells #[.int .i64 1, .int .i64 258, .int .i64 5, .int .u64 7, .int .i64 1, .int .u64 9, .int .u64 0, .int .u64 0, .int .u64 0] 26)
  obtain ⟨p1, hp1⟩ : ∃ p1, w.heap.size = p1 := ⟨_, rfl⟩
  obtain ⟨w1, hw1⟩ : ∃ w1, w.alloc (.cells #[.int .i64 1, .int .i64 258, .int .i64 5, .int .u64 7, .int .i64 1, .int .u64 9, .int .u64 0, .int .u64 0, .int .u64 0] 26) = w1 := ⟨_, rfl⟩
  rw [hw1] at hfa
  rw [hw1, hp1] at hra
  have HR1 := hid hra
  have HF1 := hid hfa
  rw [hw1, hp1]
  clear hfa hra hw1 hp1
  refine (HEP.out w1).mono ?_
  rintro e w2 ⟨g, rfl, hg, hf2⟩
  have HG := hid hg
  have HR2 := hid (hf2.heap HR1.out (by simp))
  have HF2 := hid (HF1.out.trans hf2 (by simp))
  clear hg hf2 HR1 HF1
  go_wp2_with fail
  refine (HDP.out g w2 HG.out).mono ?_
  rintro e w3 ⟨rfl, hf3⟩
  have HR3 := hid (hf3.heap HR2.out (by simp))
  have HF3 := hid (HF2.out.trans hf3 (by simp))
  clear hf3 HR2 HF2 HG
  go_wp2_with fail
  have hfa : Frm [] w3 (w3.alloc (.cells #[.int .i64 1, .int .i64 258, .int .i64 5, .int .u64 7, .int .i64 1, .int .u64 9, .int .u64 0, .int .u64 0, .int .u64 0] 26)) := (Frm.refl _ _).alloc _
  have hra := heap_alloc_new w3 (.cells #[.int .i64 1, .int .i64 258, .int .i64 5, .int .u64 7, .int .i64 1, .int .u64 9, .int .u64 0, .int .u64 0, .int .u64 0] 26)
  obtain ⟨p4, hp4⟩ : ∃ p4, w3.heap.size = p4 := ⟨_, rfl⟩
  obtain ⟨w4, hw4⟩ : ∃ w4, w3.alloc (.cells #[.int .i64 1, .int .i64 258, .int .i64 5, .int .u64 7, .int .i64 1, .int .u64 9, .int .u64 0, .int .u64 0, .int .u64 0] 26) = w4 := ⟨_, rfl⟩
  rw [hw4] at hfa
  rw [hw4, hp4] at hra
  have HA4 := hid hra
  have HR4 := hid (hfa.heap HR3.out (by simp))
  have HF4 := hid (HF3.out.trans hfa (by simp))
  clear hfa hra HR3 HF3
  have hfa : Frm [] w4 (w4.alloc (.cells #[.int .i64 2, .int .i64 2, .int .i64 324] 39)) := (Frm.refl _ _).alloc _
  have hra := heap_alloc_new w4 (.cells #[.int .i64 2, .int .i64 2, .int .i64 324] 39)
  obtain ⟨tk, htk'⟩ : ∃ tk, p4 + 1 = tk := ⟨_, rfl⟩
  have htk : w4.heap.size = tk := by rw [← htk', ← hp4]; first | (rw [← hw4]; simp; done) | (rw [← hw5, ← hw4]; simp; done)
  obtain ⟨w5, hw5⟩ : ∃ w5, w4.alloc (.cells #[.int .i64 2, .int .i64 2, .int .i64 324] 39) = w5 := ⟨_, rfl⟩
  rw [hw5] at hfa
  rw [hw5, htk] at hra
  have HK5 := hid hra
  have HA5 := hid (hfa.heap HA4.out (by simp))
  have HR5 := hid (hfa.heap HR4.out (by simp))
  have HF5 := hid (HF4.out.trans hfa (by simp))
  clear hfa hra HR4 HF4 HA4
  have hfa : Frm [] w5 (w5.alloc (.cells #[.int .u64 5, .slice (some ⟨tk, 0, none⟩) 1 1, .int .i64 0, .int .i64 1] 37)) := (Frm.refl _ _).alloc _
  have hra := heap_alloc_new w5 (.cells #[.int .u64 5, .slice (some ⟨tk, 0, none⟩) 1 1, .int .i64 0, .int .i64 1] 37)
  obtain ⟨t6, ht6'⟩ : ∃ t6, p4 + 2 = t6 := ⟨_, rfl⟩
  have ht6 : w5.heap.size = t6 := by rw [← ht6', ← hp4]; first | (rw [← hw4]; simp; done) | (rw [← hw5, ← hw4]; simp; done)
  obtain ⟨w6, hw6⟩ : ∃ w6, w5.alloc (.cells #[.int .u64 5, .slice (some ⟨tk, 0, none⟩) 1 1, .int .i64 0, .int .i64 1] 37) = w6 := ⟨_, rfl⟩
  rw [hw6] at hfa
  rw [hw6, ht6] at hra
  have HL6 := hid hra
  have HK6 := hid (hfa.heap HK5.out (by simp))
  have HA6 := hid (hfa.heap HA5.out (by simp))
  have HR6 := hid (hfa.heap HR5.out (by simp))
  have HF6 := hid (HF5.out.trans hfa (by simp))
  rw [hw4, hp4, htk', hw5, hw6]
  first | rw [ht6'] | rw [show tk + 1 = t6 by omega] | rw [ht6]
  clear hfa hra HR5 HF5 HA5 HK5
  clear hw4 hw5 hw6 hp4 htk ht6 htk' ht6'
  refine (HEL.out tk w6 HK6.out).mono ?_
  rintro e w7 ⟨gl, rfl, hg, hf7⟩
  have HG := hid hg
  have HL7 := hid (hf7.heap HL6.out (by simp))
  have HK7 := hid (hf7.heap HK6.out (by simp))
  have HA7 := hid (hf7.heap HA6.out (by simp))
  have HR7 := hid (hf7.heap HR6.out (by simp))
  have HF7 := hid (HF6.out.trans hf7 (by simp))
  clear hg hf7 HL6 HK6 HA6 HR6 HF6
  go_wp2_with fail
  refine (HDL.out gl tk w7 HG.out).mono ?_
  rintro e w8 ⟨l, rfl, hlo, hls, hf8⟩
  have HLO8 := hid hlo
  have HLS := hid hls
  have HL8 := hid (hf8.heap HL7.out (by simp))
  have HK8 := hid (hf8.heap HK7.out (by simp))
  have HA8 := hid (hf8.heap HA7.out (by simp))
  have HR8 := hid (hf8.heap HR7.out (by simp))
  have HF8 := hid (HF7.out.trans hf8 (by simp))
  unfold LabV.arr
  clear hlo hls hf8 HL7 HK7 HA7 HR7 HF7 HG
  obtain ⟨a0, a1, a2, a3, a4, a5, a6, a7, a8⟩ := cP HR8.out
  have hlt := lt_of_heap HR8.out
  go_wp2_with fail
  clear a0 a1 a2 a3 a4 a5 a6 a7 a8 hlt
  have hfa : Frm [] w8 (w8.alloc (.cells #[.int .u64 l.pool, .slice l.p l.n l.c, .int .i64 l.top, .int .i64 l.place] 37)) := (Frm.refl _ _).alloc _
  have hra := heap_alloc_new w8 (.cells #[.int .u64 l.pool, .slice l.p l.n l.c, .int .i64 l.top, .int .i64 l.place] 37)
  obtain ⟨t9, ht9⟩ : ∃ t9, w8.heap.size = t9 := ⟨_, rfl⟩
  obtain ⟨w9, hw9⟩ : ∃ w9, w8.alloc (.cells #[.int .u64 l.pool, .slice l.p l.n l.c, .int .i64 l.top, .int .i64 l.place] 37) = w9 := ⟨_, rfl⟩
  rw [hw9] at hfa
  rw [hw9, ht9] at hra
  have hf2 : Frm [] w9 (w9.alloc (.cells #[.int .u64 5, .int .u64 8, .int .u64 3, .int .i64 1, .int .i64 258, .int .i64 5, .int .u64 7, .int .i64 1, .int .u64 9, .int .u64 0, .int .u64 0, .int .u64 0] 45)) := (Frm.refl _ _).alloc _
  have hr2 := heap_alloc_new w9 (.cells #[.int .u64 5, .int .u64 8, .int .u64 3, .int .i64 1, .int .i64 258, .int .i64 5, .int .u64 7, .int .i64 1, .int .u64 9, .int .u64 0, .int .u64 0, .int .u64 0] 45)
  have e11 : w9.heap.size = t9 + 1 := by rw [← ht9, ← hw9]; simp
  obtain ⟨wa, hwa⟩ : ∃ wa, w9.alloc (.cells #[.int .u64 5, .int .u64 8, .int .u64 3, .int .i64 1, .int .i64 258, .int .i64 5, .int .u64 7, .int .i64 1, .int .u64 9, .int .u64 0, .int .u64 0, .int .u64 0] 45) = wa := ⟨_, rfl⟩
  rw [hwa] at hf2
  rw [hwa, e11] at hr2
  have hfx := hfa.trans hf2 (by simp)
  have HUa := hid hr2
  have H9a := hid (hf2.heap hra (by simp))
  have HLOa := hid (HLO8.out.kept hfx)
  have HLa := hid (hfx.heap HL8.out (by simp))
  have HKa := hid (hfx.heap HK8.out (by simp))
  have HAa := hid (hfx.heap HA8.out (by simp))
  have HRa := hid (hfx.heap HR8.out (by simp))
  have HFa := hid (HF8.out.trans hfx (by simp))
  rw [hw9, ht9, hwa]
  clear hfa hra hf2 hr2 hfx hw9 ht9 hwa e11 HLO8 HL8 HK8 HA8 HR8 HF8
  refine (HEU.out wa).mono ?_
  rintro e wb ⟨gu, rfl, hg, hf⟩
  have HG := hid hg
  have HUb := hid (hf.heap HUa.out (by simp))
  have H9b := hid (hf.heap H9a.out (by simp))
  have HLOb := hid (HLOa.out.kept hf)
  have HLb := hid (hf.heap HLa.out (by simp))
  have HKb := hid (hf.heap HKa.out (by simp))
  have HAb := hid (hf.heap HAa.out (by simp))
  have HRb := hid (hf.heap HRa.out (by simp))
  have HFb := hid (HFa.out.trans hf (by simp))
  clear hg hf HUa H9a HLOa HLa HKa HAa HRa HFa
  go_wp2_with fail
  refine (HDU.out gu wb HG.out).mono ?_
  rintro e wc ⟨rfl, hf⟩
  have HUc := hid (hf.heap HUb.out (by simp))
  have H9c := hid (hf.heap H9b.out (by simp))
  have HLOc := hid (HLOb.out.kept hf)
  have HLc := hid (hf.heap HLb.out (by simp))
  have HKc := hid (hf.heap HKb.out (by simp))
  have HAc := hid (hf.heap HAb.out (by simp))
  have HRc := hid (hf.heap HRb.out (by simp))
  have HFc := hid (HFb.out.trans hf (by simp))
  clear hf HUb H9b HLOb HLb HKb HAb HRb HFb HG
  obtain ⟨a0, a1, a2, a3⟩ := cL HLc.out
  obtain ⟨b0, b1, b2, b3⟩ := lb_row (l := l) H9c.out
  have hlt1 := lt_of_heap HLc.out
  have hlt2 := lt_of_heap H9c.out
  go_wp2_with fail
  clear a0 a1 a2 a3 b0 b1 b2 b3 hlt1 hlt2
  have hfa : Frm [] wc (wc.alloc (.cells #[.int .u64 5, .int .u64 8, .int .u64 3, .int .i64 1, .int .i64 258, .int .i64 5, .int .u64 7, .int .i64 1, .int .u64 9, .int .u64 0, .int .u64 0, .int .u64 0] 45)) := (Frm.refl _ _).alloc _
  have hra := heap_alloc_new wc (.cells #[.int .u64 5, .int .u64 8, .int .u64 3, .int .i64 1, .int .i64 258, .int .i64 5, .int .u64 7, .int .i64 1, .int .u64 9, .int .u64 0, .int .u64 0, .int .u64 0] 45)
  obtain ⟨td, htd⟩ : ∃ td, wc.heap.size = td := ⟨_, rfl⟩
  obtain ⟨wd, hwd⟩ : ∃ wd, wc.alloc (.cells #[.int .u64 5, .int .u64 8, .int .u64 3, .int .i64 1, .int .i64 258, .int .i64 5, .int .u64 7, .int .i64 1, .int .u64 9, .int .u64 0, .int .u64 0, .int .u64 0] 45) = wd := ⟨_, rfl⟩
  rw [hwd] at hfa
  rw [hwd, htd] at hra
  rw [hwd, htd]
  have HSM := same_any (lA (some ⟨tk, 0, none⟩)) l wd (lA_ok (hfa.heap HKc.out (by simp))) (HLOc.out.kept hfa) HLS.out
  refine HSM.mono ?_
  rintro e we ⟨rfl, hf⟩
  have hfx := hfa.trans hf (by simp)
  have hru := hfx.heap HUc.out (by simp)
  have hrd := hf.heap hra (by simp)
  have hrp := hfx.heap HRc.out (by simp)
  have hra4 := hfx.heap HAc.out (by simp)
  have HFe := hid (HFc.out.trans hfx (by simp))
  obtain ⟨a0, a1, a2, a3, a4, a5, a6, a7, a8⟩ := cP hrp
  obtain ⟨b0, b1, b2, b3, b4, b5, b6, b7, b8⟩ := cP hra4
  obtain ⟨c0, c1, c2, c3, c4, c5, c6, c7, c8, c9, c10, c11⟩ := cU hru
  obtain ⟨d0, d1, d2, d3, d4, d5, d6, d7, d8, d9, d10, d11⟩ := cU hrd
  clear HSM hfa hra hwd htd hf hfx hru hrd hrp hra4 HUc H9c HLOc HLc HKc HAc HRc HFc
  have HK1 := hid (fun W => check9_any ⟨0, 0, 1, 0, 0, 0, 0, 0, 0⟩ W)
  have HK2 := hid (fun W => checkL_any zeroL W (zeroL_ok W))
  have HK3 := hid (fun W => checkU_any zero12 W)
  rw [show checkP ⟨0, 0, 1, 0, 0, 0, 0, 0, 0⟩ = 40 by kernel_rfl] at HK1
  rw [show checkL zeroL = 42 by kernel_rfl] at HK2
  rw [show checkU zero12 = 44 by kernel_rfl] at HK3
  go_wp2_with fail
  refine (HK1.out _).mono ?_
  rintro e wf ⟨rfl, hf⟩
  have HFf := hid (HFe.out.trans hf (by simp))
  clear hf HFe
  go_wp2_with fail
  refine (HK2.out _).mono ?_
  rintro e wg ⟨rfl, hf⟩
  have HFg := hid (HFf.out.trans hf (by simp))
  clear hf HFf
  go_wp2_with fail
  refine (HK3.out _).mono ?_
  rintro e wh ⟨rfl, hf⟩
  have HFh := hid (HFg.out.trans hf (by simp))
  clear hf HFg
  go_wp2_with fail
  go_returns
  exact ⟨rfl, HFh.out⟩
end Go.Proofs.YtdnnbinmippkdaaDoor
