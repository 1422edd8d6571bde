/- The document's ReadReply. -/
import Derived.Test.YtignoocdeghiaaaDoorQbm
import Derived.Test.YtignoocdeghiaaaDoorQbn
import Derived.Test.YtignoocdeghiaaaDoorQbd
namespace Go.Proofs.YtignoocdeghiaaaDoor
section
open Go.RowKit Go.Lib
set_option maxRecDepth 100000

set_option maxHeartbeats 51200000 in
theorem refReadReply_any (p : Option Addr) (n c : Nat) (bs : List Int) (w : World) (hn : bs.length = n) (hnc : n ≤ c) (hc : c ≤ 9223372036854775807) (hrd : Rd w p bs) (hb : ∀ z ∈ bs, 0 ≤ z ∧ z < 256) (hv : Vars w) :
    Calls Tryd.prog 37 #[.slice p n c] w (ReadAA w bs) := by
  obtain ⟨PO, hPO⟩ : ∃ PO : Ending → World → Prop, ReadAA w bs = PO := ⟨_, rfl⟩
  rw [hPO]
  have HP := hid (show ∀ e w', ReadAA w bs e w' → PO e w' from fun e w' h => by rw [← hPO]; exact h)
  obtain ⟨w1, hw1⟩ : ∃ z, w.alloc (.cells #[.int .i64 0, .int .i64 0, .int .i64 0, .int .i64 0, .string ⟨#[]⟩, .slice none 0 0, .slice none 0 0] 32) = z := ⟨_, rfl⟩
  have hrow1 := heap_alloc_new w (.cells #[.int .i64 0, .int .i64 0, .int .i64 0, .int .i64 0, .string ⟨#[]⟩, .slice none 0 0, .slice none 0 0] 32)
  have hf1 : Frm [] w w1 := by rw [← hw1]; exact (Frm.refl _ _).alloc _
  obtain ⟨rb, hrb⟩ : ∃ z, w.heap.size = z := ⟨_, rfl⟩
  rw [hw1, hrb] at hrow1
  have HBO := hid (body_any p n c bs 2 w1 hn hnc hc (hrd.kept hf1 (by simp)) hb (hv.kept hf1))
  have HRB : Hid (∀ V, Frm [] w1 V → V.heap[rb]? = some (.cells #[.int .i64 0, .int .i64 0, .int .i64 0, .int .i64 0, .string ⟨#[]⟩, .slice none 0 0, .slice none 0 0] 32 (0, 0))) := hid (fun V hf => hf.heap hrow1 (by simp))
  have HF1 := hid hf1
  have HRS : Hid (w.heap.size = rb) := hid hrb
  have HRL : Hid (rb < w1.heap.size) := hid (lt_of_heap hrow1)
  have HB := hid hb
  have HW1 := hid hw1
  have HBAD : Hid (∀ E V V', raE bs = E → E ≠ 0 → Frm [] w1 V → Frm [rb] V V' → PO (.returned (.tuple #[.agg #[.int .i64 0, .int .i64 0, .int .i64 0, .int .i64 0, .string ⟨#[]⟩, .slice none 0 0, .slice none 0 0], .int .i64 E])) V') := hid (fun E V V' h1 h2 h3 h4 => HP.out _ _ (ReadAA.bad h1 h2 ((HF1.out.trans h3 (by simp)).trans h4 (fun i hi hl => by rw [List.mem_singleton] at hi; have := HRS.out; omega))))
  clear hn hnc hc hrd hb hv hPO hw1 hrow1 hf1 hrb
  go_enter Tryd.func37, Tryd.ntmps37
  go_upto_region 1 with fail
  first | rw [HW1.out] | skip
  first | rw [HRS.out] | skip
  go_wp2_with fail
  refine HBO.out.mono ?_
  rintro e w2 ⟨hf2, ⟨he, rfl⟩ | ⟨he, b, q, d, rfl, hq⟩⟩
  case inl =>
    have HE := hid (bod_a he)
    have HF2 := hid hf2
    obtain ⟨E, hE⟩ : ∃ E, bodE bs 2 = E := ⟨_, rfl⟩
    rw [hE] at he HE
    rw [hE]
    have be : (E != 0) = true := by rw [bne_iff_ne]; exact he
    have hrr := HRB.out w2 HF2.out
    have HNZ := hid he
    clear he hf2 hE
    have v0' : w2.cell? ⟨rb, 0, none⟩ = some (.int .i64 0) := by rw [cell_of_row _ _ _ _ _ _ hrr]; rfl
    have y0' := frozen_of_row w2 rb 0 _ _ hrr
    have v1' : w2.cell? ⟨rb, 1, none⟩ = some (.int .i64 0) := by rw [cell_of_row _ _ _ _ _ _ hrr]; rfl
    have y1' := frozen_of_row w2 rb 1 _ _ hrr
    have v2' : w2.cell? ⟨rb, 2, none⟩ = some (.int .i64 0) := by rw [cell_of_row _ _ _ _ _ _ hrr]; rfl
    have y2' := frozen_of_row w2 rb 2 _ _ hrr
    have v3' : w2.cell? ⟨rb, 3, none⟩ = some (.int .i64 0) := by rw [cell_of_row _ _ _ _ _ _ hrr]; rfl
    have y3' := frozen_of_row w2 rb 3 _ _ hrr
    have v4' : w2.cell? ⟨rb, 4, none⟩ = some (.string ⟨#[]⟩) := by rw [cell_of_row _ _ _ _ _ _ hrr]; rfl
    have y4' := frozen_of_row w2 rb 4 _ _ hrr
    have v5' : w2.cell? ⟨rb, 5, none⟩ = some (.slice none 0 0) := by rw [cell_of_row _ _ _ _ _ _ hrr]; rfl
    have y5' := frozen_of_row w2 rb 5 _ _ hrr
    have v6' : w2.cell? ⟨rb, 6, none⟩ = some (.slice none 0 0) := by rw [cell_of_row _ _ _ _ _ _ hrr]; rfl
    have y6' := frozen_of_row w2 rb 6 _ _ hrr
    go_wp2_with fail
    obtain ⟨h5, f5⟩ := sets_rowF rb 32 [(0, .int .i64 0), (1, .int .i64 0), (2, .int .i64 0), (3, .int .i64 0), (4, .string ⟨#[]⟩), (5, .slice none 0 0), (6, .slice none 0 0)] w2 _ hrr
    simp only [List.foldl, List.setIfInBounds_toArray, List.set_cons_zero, List.set_cons_succ] at h5
    obtain ⟨Wz, hWz⟩ : ∃ z, setsF w2 rb [(0, .int .i64 0), (1, .int .i64 0), (2, .int .i64 0), (3, .int .i64 0), (4, .string ⟨#[]⟩), (5, .slice none 0 0), (6, .slice none 0 0)] = z := ⟨_, rfl⟩
    rw [hWz] at h5 f5
    have hwz : (((((((w2.setCell ⟨rb, 0, none⟩ (.int .i64 0)).setCell ⟨rb, 1, none⟩ (.int .i64 0)).setCell ⟨rb, 2, none⟩ (.int .i64 0)).setCell ⟨rb, 3, none⟩ (.int .i64 0)).setCell ⟨rb, 4, none⟩ (.string ⟨#[]⟩)).setCell ⟨rb, 5, none⟩ (.slice none 0 0)).setCell ⟨rb, 6, none⟩ (.slice none 0 0)) = Wz := hWz
    rw [hwz]
    have u0 : Wz.cell? ⟨rb, 0, none⟩ = some (.int .i64 0) := by rw [cell_of_row _ _ _ _ _ _ h5]; rfl
    have u1 : Wz.cell? ⟨rb, 1, none⟩ = some (.int .i64 0) := by rw [cell_of_row _ _ _ _ _ _ h5]; rfl
    have u2 : Wz.cell? ⟨rb, 2, none⟩ = some (.int .i64 0) := by rw [cell_of_row _ _ _ _ _ _ h5]; rfl
    have u3 : Wz.cell? ⟨rb, 3, none⟩ = some (.int .i64 0) := by rw [cell_of_row _ _ _ _ _ _ h5]; rfl
    have u4 : Wz.cell? ⟨rb, 4, none⟩ = some (.string ⟨#[]⟩) := by rw [cell_of_row _ _ _ _ _ _ h5]; rfl
    have u5 : Wz.cell? ⟨rb, 5, none⟩ = some (.slice none 0 0) := by rw [cell_of_row _ _ _ _ _ _ h5]; rfl
    have u6 : Wz.cell? ⟨rb, 6, none⟩ = some (.slice none 0 0) := by rw [cell_of_row _ _ _ _ _ _ h5]; rfl
    refine bodyPost_ret (v := .tuple #[.agg #[.int .i64 0, .int .i64 0, .int .i64 0, .int .i64 0, .string ⟨#[]⟩, .slice none 0 0, .slice none 0 0], .int .i64 E]) (by simp [results, Tryd.results37, go_sem, u0, u1, u2, u3, u4, u5, u6]) rfl ?_
    exact HBAD.out E w2 Wz HE.out HNZ.out HF2.out f5
  have HBE := hid he
  have HF2 := hid hf2
  have HQ2 := hid hq
  have HMB : Hid (∀ z ∈ (midF bs).drop 1, 0 ≤ z ∧ z < 256) := hid (fun z hz => midF_bd HB.out z (List.mem_of_mem_drop hz))
  have HDOC := hid (doc_a HB.out HBE.out)
  obtain ⟨M, hM⟩ : ∃ M, (midF bs).drop 1 = M := ⟨_, rfl⟩
  rw [hM] at HQ2 HMB HDOC
  have HML : Hid (M.length ≤ 65536) := hid (by rw [← hM, List.length_drop]; unfold midF; rw [List.length_take]; have := (bodE_ok HBE.out).2.1; omega)
  obtain ⟨w3, hw3⟩ : ∃ z, w2.alloc (.cells #[.int .i64 0, .int .i64 0, .int .i64 0, .int .i64 0, .string ⟨#[]⟩, .slice none 0 0, .slice none 0 0] 32) = z := ⟨_, rfl⟩
  have hrow3 := heap_alloc_new w2 (.cells #[.int .i64 0, .int .i64 0, .int .i64 0, .int .i64 0, .string ⟨#[]⟩, .slice none 0 0, .slice none 0 0] 32)
  have hf3 : Frm [] w2 w3 := by rw [← hw3]; exact (Frm.refl _ _).alloc _
  obtain ⟨qb, hqb⟩ : ∃ z, w2.heap.size = z := ⟨_, rfl⟩
  rw [hw3, hqb] at hrow3
  have HNE : Hid (qb ≠ b ∧ qb ∉ blk q ∧ w1.heap.size ≤ qb) := hid ⟨by have := lt_of_heap hq.1.1; omega, fun hm => by have := own_lowF hq.1.2.1 qb hm; omega, by have := hf2.size; omega⟩
  have HQ0 := hid hrow3
  have HR0 : Hid (FrQ w1 w3 b q d M (0, 0)) := hid (HQ2.out.k0 hf3)
  have HW3 := hid hw3
  have HQB := hid hqb
  have HI := hid (fun (k : Int) (hk0 : 0 ≤ k) (hk : k ≤ 7) (t : Rst) W (hW : FrQ w1 W b q d M t) => refNum_anyQ w1 W b d q M HMB.out t k hk0 hk hW)
  have HT := hid (fun (m : Int) (hm0 : 0 ≤ m) (hm : m ≤ 100000) (t : Rst) W (hW : FrQ w1 W b q d M t) => (qtext_any b d t.1 q M HMB.out t.2 m W hW.1 (by omega) (by omega)).mono (fun e w' h => (show e = .returned (.string (strOfNums (txM M t m).1)) ∧ FrQ w1 w' b q d M (txM M t m).2 ∧ Frm [b] W w' from ⟨h.1, hW.next h.2.1 h.2.2, h.2.2⟩)))
  have HY := hid (fun (k : Int) (hk0 : 0 ≤ k) (hk : k ≤ 72057594037927936) (t : Rst) W (hW : FrQ w1 W b q d M t) => (qbytes_any b d t.1 q M t.2 k W hW.1 (by omega) (by omega)).mono (fun e w' h => by
    obtain ⟨p', n', c', h1, h2, h3, h4, h5, h6⟩ := h
    exact (show ∃ p' n' c', e = .returned (.slice p' n' c') ∧ n' = (byS M t k).1.length ∧ Own w' 5 (.slice p' n' c') (byS M t k).1 ∧ (∀ x ∈ blk p', W.heap.size ≤ x) ∧ FrQ w1 w' b q d M (byS M t k).2 ∧ Frm [b] W w' from ⟨p', n', c', h1, h2, h3, h4, hW.next h5 h6, h6⟩)))
  have HNB := hid (fun (t : Rst) => nuS_bd HMB.out t 2 (by omega))
  have be : ((0 : Int) != 0) = false := rfl
  clear he hf2 hq hM hw3 hrow3 hf3 hqb HBO HQ2
  go_upto_region 5 with fail
  first | rw [HQB.out] | skip
  first | rw [HW3.out] | skip
  clear HQB HW3 be
  obtain ⟨v1, hv1⟩ : ∃ v, g1 M = v := ⟨_, rfl⟩
  have HV1 := hid hv1
  have hc := HI.out 1 (by omega) (by omega) _ _ HR0.out
  have ee : nuS M (0, 0) 1 = v1 := by exact hv1
  rw [ee] at hc
  have HC := hid hc
  clear hc ee hv1
  go_wp2_with fail
  refine HC.out.mono ?_
  rintro e x1 ⟨rfl, hr, hf⟩
  have HRX := hid hr
  have hrow := hf.heap HQ0.out (by simpa using HNE.out.1)
  have z : x1.cell? ⟨qb, 0, none⟩ = some (.int .i64 0) := by rw [cell_of_row _ _ _ _ _ _ hrow]; rfl
  have y := frozen_of_row x1 qb 0 _ _ hrow
  go_upto_region 6 with fail
  obtain ⟨h4, f4⟩ := sets_rowF qb 32 [(0, .int .i64 v1.1)] x1 _ hrow
  simp only [List.foldl, List.setIfInBounds_toArray, List.set_cons_zero] at h4
  obtain ⟨W1, hW1⟩ : ∃ z, setsF x1 qb [(0, .int .i64 v1.1)] = z := ⟨_, rfl⟩
  rw [hW1] at h4 f4
  have hwz : x1.setCell ⟨qb, 0, none⟩ (.int .i64 v1.1) = W1 := hW1
  rw [hwz]
  have HQ1 := hid h4
  have HR1 : Hid (FrQ w1 W1 b q d M v1.2) := hid (frQ_set HRX.out f4 HNE.out.1 HNE.out.2.1 HNE.out.2.2)
  clear h4 f4 hwz hW1 hrow hr hf z y HRX HC HQ0 HR0
  obtain ⟨v2, hv2⟩ : ∃ v, g2 M = v := ⟨_, rfl⟩
  have HV2 := hid hv2
  have hc := HI.out 4 (by omega) (by omega) _ _ HR1.out
  have ee : nuS M v1.2 4 = v2 := by rw [← HV1.out]; exact hv2
  rw [ee] at hc
  have HC := hid hc
  clear hc ee hv2
  go_wp2_with fail
  refine HC.out.mono ?_
  rintro e x2 ⟨rfl, hr, hf⟩
  have HRX := hid hr
  have hrow := hf.heap HQ1.out (by simpa using HNE.out.1)
  have z : x2.cell? ⟨qb, 1, none⟩ = some (.int .i64 0) := by rw [cell_of_row _ _ _ _ _ _ hrow]; rfl
  have y := frozen_of_row x2 qb 1 _ _ hrow
  go_upto_region 7 with fail
  obtain ⟨h4, f4⟩ := sets_rowF qb 32 [(1, .int .i64 v2.1)] x2 _ hrow
  simp only [List.foldl, List.setIfInBounds_toArray, List.set_cons_zero, List.set_cons_succ] at h4
  obtain ⟨W2, hW2⟩ : ∃ z, setsF x2 qb [(1, .int .i64 v2.1)] = z := ⟨_, rfl⟩
  rw [hW2] at h4 f4
  have hwz : x2.setCell ⟨qb, 1, none⟩ (.int .i64 v2.1) = W2 := hW2
  rw [hwz]
  have HQ2 := hid h4
  have HR2 : Hid (FrQ w1 W2 b q d M v2.2) := hid (frQ_set HRX.out f4 HNE.out.1 HNE.out.2.1 HNE.out.2.2)
  clear h4 f4 hwz hW2 hrow hr hf z y HRX HC HQ1 HR1
  obtain ⟨v3, hv3⟩ : ∃ v, g3 M = v := ⟨_, rfl⟩
  have HV3 := hid hv3
  have hc := HI.out 2 (by omega) (by omega) _ _ HR2.out
  have ee : nuS M v2.2 2 = v3 := by rw [← HV2.out]; exact hv3
  rw [ee] at hc
  have HC := hid hc
  clear hc ee hv3
  go_wp2_with fail
  refine HC.out.mono ?_
  rintro e x3 ⟨rfl, hr, hf⟩
  have HRX := hid hr
  have hrow := hf.heap HQ2.out (by simpa using HNE.out.1)
  have z : x3.cell? ⟨qb, 2, none⟩ = some (.int .i64 0) := by rw [cell_of_row _ _ _ _ _ _ hrow]; rfl
  have y := frozen_of_row x3 qb 2 _ _ hrow
  go_upto_region 9 with fail
  obtain ⟨h4, f4⟩ := sets_rowF qb 32 [(2, .int .i64 v3.1)] x3 _ hrow
  simp only [List.foldl, List.setIfInBounds_toArray, List.set_cons_zero, List.set_cons_succ] at h4
  obtain ⟨W3, hW3⟩ : ∃ z, setsF x3 qb [(2, .int .i64 v3.1)] = z := ⟨_, rfl⟩
  rw [hW3] at h4 f4
  have hwz : x3.setCell ⟨qb, 2, none⟩ (.int .i64 v3.1) = W3 := hW3
  rw [hwz]
  have HQ3 := hid h4
  have HR3 : Hid (FrQ w1 W3 b q d M v3.2) := hid (frQ_set HRX.out f4 HNE.out.1 HNE.out.2.1 HNE.out.2.2)
  clear h4 f4 hwz hW3 hrow hr hf z y HRX HC HQ2 HR2
  obtain ⟨v4, hv4⟩ : ∃ v, g4 M = v := ⟨_, rfl⟩
  have HV4 := hid hv4
  have hc := HI.out 6 (by omega) (by omega) _ _ HR3.out
  have ee : nuS M v3.2 6 = v4 := by rw [← HV3.out]; exact hv4
  rw [ee] at hc
  have HC := hid hc
  clear hc ee hv4
  go_wp2_with fail
  refine HC.out.mono ?_
  rintro e x4 ⟨rfl, hr, hf⟩
  have HRX := hid hr
  have hrow := hf.heap HQ3.out (by simpa using HNE.out.1)
  have z : x4.cell? ⟨qb, 3, none⟩ = some (.int .i64 0) := by rw [cell_of_row _ _ _ _ _ _ hrow]; rfl
  have y := frozen_of_row x4 qb 3 _ _ hrow
  go_upto_region 10 with fail
  obtain ⟨h4, f4⟩ := sets_rowF qb 32 [(3, .int .i64 v4.1)] x4 _ hrow
  simp only [List.foldl, List.setIfInBounds_toArray, List.set_cons_zero, List.set_cons_succ] at h4
  obtain ⟨W4, hW4⟩ : ∃ z, setsF x4 qb [(3, .int .i64 v4.1)] = z := ⟨_, rfl⟩
  rw [hW4] at h4 f4
  have hwz : x4.setCell ⟨qb, 3, none⟩ (.int .i64 v4.1) = W4 := hW4
  rw [hwz]
  have HQ4 := hid h4
  have HR4 : Hid (FrQ w1 W4 b q d M v4.2) := hid (frQ_set HRX.out f4 HNE.out.1 HNE.out.2.1 HNE.out.2.2)
  clear h4 f4 hwz hW4 hrow hr hf z y HRX HC HQ3 HR3
  obtain ⟨v5, hv5⟩ : ∃ v, g5 M = v := ⟨_, rfl⟩
  have HV5 := hid hv5
  have hc := HT.out 2048 (by omega) (by omega) _ _ HR4.out
  have ee : txM M v4.2 2048 = v5 := by rw [← HV4.out]; exact hv5
  rw [ee] at hc
  have HC := hid hc
  clear hc ee hv5
  go_wp2_with fail
  refine HC.out.mono ?_
  rintro e x5 ⟨rfl, hr, hf⟩
  have HRX := hid hr
  have hrow := hf.heap HQ4.out (by simpa using HNE.out.1)
  have z : x5.cell? ⟨qb, 4, none⟩ = some (.string ⟨#[]⟩) := by rw [cell_of_row _ _ _ _ _ _ hrow]; rfl
  have y := frozen_of_row x5 qb 4 _ _ hrow
  go_upto_region 11 with fail
  obtain ⟨h4, f4⟩ := sets_rowF qb 32 [(4, .string (strOfNums v5.1))] x5 _ hrow
  simp only [List.foldl, List.setIfInBounds_toArray, List.set_cons_zero, List.set_cons_succ] at h4
  obtain ⟨W5, hW5⟩ : ∃ z, setsF x5 qb [(4, .string (strOfNums v5.1))] = z := ⟨_, rfl⟩
  rw [hW5] at h4 f4
  have hwz : x5.setCell ⟨qb, 4, none⟩ (.string (strOfNums v5.1)) = W5 := hW5
  rw [hwz]
  have HQ5 := hid h4
  have HR5 : Hid (FrQ w1 W5 b q d M v5.2) := hid (frQ_set HRX.out f4 HNE.out.1 HNE.out.2.1 HNE.out.2.2)
  clear h4 f4 hwz hW5 hrow hr hf z y HRX HC HQ4 HR4
  obtain ⟨v6, hv6⟩ : ∃ v, g6 M = v := ⟨_, rfl⟩
  have HV6 := hid hv6
  have hc := HI.out 2 (by omega) (by omega) _ _ HR5.out
  have ee : nuS M v5.2 2 = v6 := by rw [← HV5.out]; exact hv6
  rw [ee] at hc
  have HC := hid hc
  clear hc ee hv6
  go_wp2_with fail
  refine HC.out.mono ?_
  rintro e x6 ⟨rfl, hr, hf⟩
  have HRX := hid hr
  have hrow := hf.heap HQ5.out (by simpa using HNE.out.1)
  have HQ6 := hid hrow
  have HR6 := hid hr
  clear hrow hr hf HRX HC HQ5 HR5
  obtain ⟨K, hKK⟩ : ∃ K, gK M = K := ⟨_, rfl⟩
  have HKV := hid hKK
  have hb6 : 0 ≤ v6.1 ∧ v6.1 < 72057594037927936 := by rw [← HV6.out]; exact HNB.out _
  have hKb : K ≤ 241 ∧ (K : Int) ≤ v6.1 ∧ ((K : Int) = v6.1 ∨ K = 241) := by rw [← hKK]; unfold gK; rw [HV6.out]; omega
  obtain ⟨hKb1, hKb2, hKb3⟩ := hKb
  have HK3 := hid hKb3
  have HL0 : Hid (LisD w1 x6 b q d qb M (fun lp t lc => #[.int .i64 v1.1, .int .i64 v2.1, .int .i64 v3.1, .int .i64 v4.1, .string (strOfNums v5.1), .slice lp t lc, .slice none 0 0]) none 0 0 (ldS M v6.2 0).1 (ldS M v6.2 0).2) := hid ⟨HR6.out, HQ6.out, ⟨rfl, Or.inl ⟨rfl, rfl⟩⟩, by simp [blk]⟩
  clear hKK hKb3 HQ6 HR6
  go_wp2_with fail
  go_loopw [9] (fun i wr => ∃ (t : Nat) (lp : Option Addr) (lc : Nat), t ≤ K ∧ i = .int .i64 (t : Int) ∧ Hid (LisD w1 wr b q d qb M (fun lp t lc => #[.int .i64 v1.1, .int .i64 v2.1, .int .i64 v3.1, .int .i64 v4.1, .string (strOfNums v5.1), .slice lp t lc, .slice none 0 0]) lp t lc (ldS M v6.2 t).1 (ldS M v6.2 t).2)) (fun i _ => K - (intOf i).toNat)
  case atStart => exact ⟨0, none, 0, Nat.zero_le _, rfl, HL0⟩
  case round =>
    clear HL0
    obtain ⟨t, lp, lc, ht, rfl, hin⟩ := hrel
    have HIN := hid hin.out
    clear hin
    by_cases hlt : t < K
    case pos =>
      have t1 : (t : Int) < v6.1 := by omega
      have t2 : (t : Int) < 241 := by omega
      have HSU : Hid (ldS M v6.2 (t + 1) = ((ldS M v6.2 t).1 ++ [strOfNums (txM M (ldS M v6.2 t).2 240).1], (txM M (ldS M v6.2 t).2 240).2)) := hid rfl
      obtain ⟨LL, hLL⟩ : ∃ z, ldS M v6.2 t = z := ⟨_, rfl⟩
      rw [hLL] at HIN HSU
      have hc := HT.out 240 (by omega) (by omega) _ _ HIN.out.rd
      obtain ⟨tv, htv⟩ : ∃ z, txM M LL.2 240 = z := ⟨_, rfl⟩
      rw [htv] at hc HSU
      have HC := hid hc
      clear hLL htv hc
      go_wp2_with fail
      refine HC.out.mono ?_
      rintro e x7 ⟨rfl, hr, hf⟩
      have hrow7 := hf.heap HIN.out.rw_ (by simpa using HNE.out.1)
      have z5 : x7.cell? ⟨qb, 5, none⟩ = some (.slice lp t lc) := by rw [cell_of_row _ _ _ _ _ _ hrow7]; rfl
      have HR7 := hid hr
      have HF7 := hid hf
      have HROW7 := hid hrow7
      have HA := hid ((Frm.refl [] x7).alloc (.cells #[.string (strOfNums tv.1)] 9))
      have HRV := hid (rv_block (heap_alloc_new x7 (.cells #[.string (strOfNums tv.1)] 9)))
      have HOW := hid (ownsRow_kept (ownsRow_kept HIN.out.ow hf (fun k hk hm => by rw [List.mem_singleton] at hm; exact (HIN.out.nw k hk).2.2.1 hm)) HA.out (by simp))
      clear hr hf hrow7 HC
      go_wp2_with (at_builtin; refine wpList_appV rfl _ _ 30 rfl 9 1 16 _ Tryd.underlying30 infoStr rfl (by decide) lp t lc (LL.1.map Value.string) rfl HOW.out (some ⟨x7.heap.size, 0, none⟩) 1 1 [.string (strOfNums tv.1)] rfl rfl (by simp) HRV.out (by intro u hu; simp at hu; subst hu; rfl) (by unfold maxLen; omega) (by omega) ?_)
      intro p8 c8 w8 ho8 hf8 hb8
      have hfa : Frm (blk lp) x7 w8 := (HA.out.mono (by simp)).trans hf8.out (fun i hi _ => hi)
      have hrow8 := hfa.heap HROW7.out (fun hm => (HIN.out.nw qb hm).2.1 rfl)
      have z6 : w8.cell? ⟨qb, 5, none⟩ = some (.slice lp t lc) := by rw [cell_of_row _ _ _ _ _ _ hrow8]; rfl
      have y6 := frozen_of_row w8 qb 5 _ _ hrow8
      have HNX : Hid (LisD w1 (w8.setCell ⟨qb, 5, none⟩ (.slice p8 (t + 1) c8)) b q d qb M (fun lp t lc => #[.int .i64 v1.1, .int .i64 v2.1, .int .i64 v3.1, .int .i64 v4.1, .string (strOfNums v5.1), .slice lp t lc, .slice none 0 0]) p8 (t + 1) c8 (ldS M v6.2 (t + 1)).1 (ldS M v6.2 (t + 1)).2) := hid (by
        have hfs : Frm [qb] w8 (w8.setCell ⟨qb, 5, none⟩ (.slice p8 (t + 1) c8)) := (Frm.refl _ _).setCell _ _ (by simp)
        have hq7 := HR7.out
        have s1 := lt_of_heap HROW7.out
        have s2 := lt_of_heap hq7.1.1
        have s3 := hq7.2.1.size
        have hnw : ∀ k ∈ blk p8, w1.heap.size ≤ k ∧ k ≠ qb ∧ k ≠ b ∧ k ∉ blk q := fun k hk => by
          rcases hb8.out k hk with h | h
          · exact HIN.out.nw k h
          · have e1 : (x7.alloc (.cells #[.string (strOfNums tv.1)] 9)).heap.size = x7.heap.size + 1 := by simp
            exact ⟨by omega, by omega, by omega, fun hm => by have := own_lowF hq7.1.2.1 k hm; omega⟩
        rw [HSU.out]
        refine ⟨?_, ?_, ?_, hnw⟩
        · have h8 : FrQ w1 w8 b q d M tv.2 := ⟨hq7.1.kept hfa (fun hm => (HIN.out.nw b hm).2.2.1 rfl) (fun k hk hm => (HIN.out.nw k hm).2.2.2 hk), hq7.2.1.trans hfa (fun i hi hl => by have := (HIN.out.nw i hi).1; omega), hq7.2.2⟩
          exact frQ_set h8 hfs HNE.out.1 HNE.out.2.1 HNE.out.2.2
        · rw [heap_setCell_same _ _ 5 _ _ _ hrow8]
          rfl
        · have h := ownsRow_kept ho8.out hfs (fun k hk hm => by rw [List.mem_singleton] at hm; exact (hnw k hk).2.1 hm)
          show World.ownsRow _ 0 _ 1 _ (t + 1) (List.map Value.string (LL.1 ++ [strOfNums tv.1]))
          rw [List.map_append]
          exact h)
      clear ho8 hf8 hb8 hfa hrow8 HOW HRV HA HROW7 z5
      go_wp2_with fail
      go_roundw
      case rel => exact ⟨t + 1, p8, c8, by omega, by go_num, HNX⟩
      case measure => first | (simp [intOf]; done) | (simp [intOf]; omega)
    obtain rfl : t = K := by omega
    have HV7 : Hid (g7 M = ldS M v6.2 t) := hid (by unfold g7; rw [HV6.out, HKV.out])
    obtain ⟨LL, hLL⟩ : ∃ z, ldS M v6.2 t = z := ⟨_, rfl⟩
    have hLn : LL.1.length = t := by rw [← hLL]; exact ldS_len _ _ _
    rw [hLL] at HIN HV7
    have HLN := hid hLn
    have HR7 := hid HIN.out.rd
    have HQ7 := hid HIN.out.rw_
    have HOL7 := hid HIN.out.ow
    have HNL := hid HIN.out.nw
    obtain ⟨v7, hv7⟩ : ∃ v, LL.2 = v := ⟨_, rfl⟩
    obtain ⟨v8, hv8⟩ : ∃ v, g8 M = v := ⟨_, rfl⟩
    have HV8 := hid hv8
    have hc := HI.out 2 (by omega) (by omega) _ _ HR7.out
    have ee : nuS M LL.2 2 = v8 := by rw [← hv8]; unfold g8; rw [HV7.out]
    rw [ee] at hc
    have HC := hid hc
    clear hc ee hv8 hv7 hLL hLn hlt HIN
    by_cases hcd : (t : Int) < v6.1
    case pos =>
      have hcd2 : ¬ (t : Int) < 241 := by have := HK3.out; omega
      go_wp2_with fail
      refine HC.out.mono ?_
      rintro e x8 ⟨rfl, hr, hf⟩
      have HR8 := hid hr
      have HQ8 := hid (hf.heap HQ7.out (by simpa using HNE.out.1))
      have HOL8 : Hid (x8.ownsRow 0 9 1 (.slice lp t lc) t (LL.1.map Value.string)) := hid (ownsRow_kept HOL7.out hf (fun k hk hm => by rw [List.mem_singleton] at hm; exact (HNL.out k hk).2.2.1 hm))
      clear hr hf HC HQ7 HR7 HOL7
      obtain ⟨v9, hv9⟩ : ∃ v, g9 M = v := ⟨_, rfl⟩
      have HV9 := hid hv9
      have hb8 : 0 ≤ v8.1 ∧ v8.1 < 72057594037927936 := by rw [← HV8.out]; exact HNB.out _
      have hc := HY.out v8.1 (by omega) (by omega) _ _ HR8.out
      have ee : byS M v8.2 v8.1 = v9 := by rw [← HV8.out]; exact hv9
      rw [ee] at hc
      have HC := hid hc
      clear hc ee hv9
      go_wp2_with fail
      refine HC.out.mono ?_
      rintro e x9 ⟨p1, n1, c1, rfl, hn1, ho1, hw1', hr, hf⟩
      have hrow := hf.heap HQ8.out (by simpa using HNE.out.1)
      have z : x9.cell? ⟨qb, 6, none⟩ = some (.slice none 0 0) := by rw [cell_of_row _ _ _ _ _ _ hrow]; rfl
      have y := frozen_of_row x9 qb 6 _ _ hrow
      have HRX := hid hr
      have HOX := hid ho1
      have HN1 := hid hn1
      have HNP : Hid (∀ k ∈ blk p1, w1.heap.size ≤ k ∧ k ≠ qb) := hid (fun k hk => by have h1 := hw1' k hk; have h2 := HR8.out.2.1.size; have h3 := lt_of_heap HQ8.out; omega)
      have HOL9 : Hid (x9.ownsRow 0 9 1 (.slice lp t lc) t (LL.1.map Value.string)) := hid (ownsRow_kept HOL8.out hf (fun k hk hm => by rw [List.mem_singleton] at hm; exact (HNL.out k hk).2.2.1 hm))
      clear hn1 hw1' ho1
      go_upto_region 19 with fail
      obtain ⟨h4, f4⟩ := sets_rowF qb 32 [(6, .slice p1 n1 c1)] x9 _ hrow
      simp only [List.foldl, List.setIfInBounds_toArray, List.set_cons_zero, List.set_cons_succ] at h4
      obtain ⟨W9, hW9⟩ : ∃ z, setsF x9 qb [(6, .slice p1 n1 c1)] = z := ⟨_, rfl⟩
      rw [hW9] at h4 f4
      have hwz : x9.setCell ⟨qb, 6, none⟩ (.slice p1 n1 c1) = W9 := hW9
      rw [hwz]
      have HQ9 := hid h4
      have HR9 : Hid (FrQ w1 W9 b q d M v9.2) := hid (frQ_set HRX.out f4 HNE.out.1 HNE.out.2.1 HNE.out.2.2)
      have HO9 : Hid (Own W9 5 (.slice p1 n1 c1) v9.1) := hid (HOX.out.kept f4 (by rw [own_blk]; exact fun k hk hm => by rw [List.mem_singleton] at hm; exact (HNP.out k hk).2 hm))
      have HLR : Hid (RdL W9 lp LL.1) := hid (rv_of1 (ownsRow_kept HOL9.out f4 (fun k hk hm => by rw [List.mem_singleton] at hm; exact (HNL.out k hk).2.1 hm)) (by rw [List.length_map]; exact HLN.out))
      clear h4 f4 hwz hW9 hrow hr hf z y HRX HOX HC HQ8 HR8 HOL9 HOL8
      have HDN := hid (qdone_any b d v9.2.1 q M v9.2.2 W9 HR9.out.1)
      obtain ⟨DN, hDN⟩ : ∃ z, doneS M.length v9.2.1 v9.2.2 = z := ⟨_, rfl⟩
      rw [hDN] at HDN
      have HDE := hid hDN
      clear hDN
      have HMQ := hid (fun V (hf : Frm [] W9 V) => answers_any (repD M lp t lc p1 n1 c1) LL.1 V HLN.out (HLR.out.kept hf (by simp)) (by show t ≤ _; omega))
      have HOKI : Hid (okA M ↔ DN = 0 ∧ MayA (repD M lp t lc p1 n1 c1) LL.1) := hid (by unfold okA; rw [HV9.out, HDE.out, ← HN1.out, HKV.out, HV7.out]; exact Iff.rfl)
      have HAR : Hid ((repD M lp t lc p1 n1 c1).arr = #[.int .i64 v1.1, .int .i64 v2.1, .int .i64 v3.1, .int .i64 v4.1, .string (strOfNums v5.1), .slice lp t lc, .slice p1 n1 c1]) := hid (by unfold repD; rw [HV1.out, HV2.out, HV3.out, HV4.out, HV5.out]; rfl)
      rw [HAR.out] at HMQ
      have z0 : W9.cell? ⟨qb, 0, none⟩ = some (.int .i64 v1.1) := by rw [cell_of_row _ _ _ _ _ _ HQ9.out]; rfl
      have z1 : W9.cell? ⟨qb, 1, none⟩ = some (.int .i64 v2.1) := by rw [cell_of_row _ _ _ _ _ _ HQ9.out]; rfl
      have z2 : W9.cell? ⟨qb, 2, none⟩ = some (.int .i64 v3.1) := by rw [cell_of_row _ _ _ _ _ _ HQ9.out]; rfl
      have z3 : W9.cell? ⟨qb, 3, none⟩ = some (.int .i64 v4.1) := by rw [cell_of_row _ _ _ _ _ _ HQ9.out]; rfl
      have z4 : W9.cell? ⟨qb, 4, none⟩ = some (.string (strOfNums v5.1)) := by rw [cell_of_row _ _ _ _ _ _ HQ9.out]; rfl
      have z5 : W9.cell? ⟨qb, 5, none⟩ = some (.slice lp t lc) := by rw [cell_of_row _ _ _ _ _ _ HQ9.out]; rfl
      have z6 : W9.cell? ⟨qb, 6, none⟩ = some (.slice p1 n1 c1) := by rw [cell_of_row _ _ _ _ _ _ HQ9.out]; rfl
      go_wp2_with fail
      refine HDN.out.mono ?_
      rintro e w10 ⟨rfl, k10, hk10⟩
      subst hk10
      go_wp2_with fail
      refine (HMQ.out _ ((Frm.refl [] W9).drewN _)).mono ?_
      rintro e w11 ⟨rfl, hf11⟩
      have HF11 : Hid (Frm [] w1 w11) := hid ((HR9.out.2.1.trans ((Frm.refl [] W9).drewN k10) (by simp)).trans hf11 (by simp))
      have HQ11 := hid (hf11.heap (((Frm.refl [] W9).drewN k10).heap HQ9.out (by simp)) (by simp))
      have HO11 : Hid (Own w11 5 (.slice p1 n1 c1) v9.1) := hid ((HO9.out.kept ((Frm.refl [] W9).drewN k10) (by simp)).kept hf11 (by simp))
      have HLR11 : Hid (RdL w11 lp LL.1) := hid ((HLR.out.kept ((Frm.refl [] W9).drewN k10) (by simp)).kept hf11 (by simp))
      clear hf11 z0 z1 z2 z3 z4 z5 z6 HDN HMQ
      have hrr := HRB.out w11 HF11.out
      by_cases hok : okA M
      case neg =>
        have HE := hid (HDOC.out.2 hok)
        by_cases hd0 : DN = 0
        case pos =>
          have hmy : ¬ MayA (repD M lp t lc p1 n1 c1) LL.1 := fun h => hok (HOKI.out.2 ⟨hd0, h⟩)
          subst hd0
          rw [decide_eq_false hmy]
          clear hmy hok
          have v0' : w11.cell? ⟨rb, 0, none⟩ = some (.int .i64 0) := by rw [cell_of_row _ _ _ _ _ _ hrr]; rfl
          have y0' := frozen_of_row w11 rb 0 _ _ hrr
          have v1' : w11.cell? ⟨rb, 1, none⟩ = some (.int .i64 0) := by rw [cell_of_row _ _ _ _ _ _ hrr]; rfl
          have y1' := frozen_of_row w11 rb 1 _ _ hrr
          have v2' : w11.cell? ⟨rb, 2, none⟩ = some (.int .i64 0) := by rw [cell_of_row _ _ _ _ _ _ hrr]; rfl
          have y2' := frozen_of_row w11 rb 2 _ _ hrr
          have v3' : w11.cell? ⟨rb, 3, none⟩ = some (.int .i64 0) := by rw [cell_of_row _ _ _ _ _ _ hrr]; rfl
          have y3' := frozen_of_row w11 rb 3 _ _ hrr
          have v4' : w11.cell? ⟨rb, 4, none⟩ = some (.string ⟨#[]⟩) := by rw [cell_of_row _ _ _ _ _ _ hrr]; rfl
          have y4' := frozen_of_row w11 rb 4 _ _ hrr
          have v5' : w11.cell? ⟨rb, 5, none⟩ = some (.slice none 0 0) := by rw [cell_of_row _ _ _ _ _ _ hrr]; rfl
          have y5' := frozen_of_row w11 rb 5 _ _ hrr
          have v6' : w11.cell? ⟨rb, 6, none⟩ = some (.slice none 0 0) := by rw [cell_of_row _ _ _ _ _ _ hrr]; rfl
          have y6' := frozen_of_row w11 rb 6 _ _ hrr
          go_wp2_with fail
          obtain ⟨h5, f5⟩ := sets_rowF rb 32 [(0, .int .i64 0), (1, .int .i64 0), (2, .int .i64 0), (3, .int .i64 0), (4, .string ⟨#[]⟩), (5, .slice none 0 0), (6, .slice none 0 0)] w11 _ hrr
          simp only [List.foldl, List.setIfInBounds_toArray, List.set_cons_zero, List.set_cons_succ] at h5
          obtain ⟨Wz, hWz⟩ : ∃ z, setsF w11 rb [(0, .int .i64 0), (1, .int .i64 0), (2, .int .i64 0), (3, .int .i64 0), (4, .string ⟨#[]⟩), (5, .slice none 0 0), (6, .slice none 0 0)] = z := ⟨_, rfl⟩
          rw [hWz] at h5 f5
          have hwz : (((((((w11.setCell ⟨rb, 0, none⟩ (.int .i64 0)).setCell ⟨rb, 1, none⟩ (.int .i64 0)).setCell ⟨rb, 2, none⟩ (.int .i64 0)).setCell ⟨rb, 3, none⟩ (.int .i64 0)).setCell ⟨rb, 4, none⟩ (.string ⟨#[]⟩)).setCell ⟨rb, 5, none⟩ (.slice none 0 0)).setCell ⟨rb, 6, none⟩ (.slice none 0 0)) = Wz := hWz
          rw [hwz]
          have u0 : Wz.cell? ⟨rb, 0, none⟩ = some (.int .i64 0) := by rw [cell_of_row _ _ _ _ _ _ h5]; rfl
          have u1 : Wz.cell? ⟨rb, 1, none⟩ = some (.int .i64 0) := by rw [cell_of_row _ _ _ _ _ _ h5]; rfl
          have u2 : Wz.cell? ⟨rb, 2, none⟩ = some (.int .i64 0) := by rw [cell_of_row _ _ _ _ _ _ h5]; rfl
          have u3 : Wz.cell? ⟨rb, 3, none⟩ = some (.int .i64 0) := by rw [cell_of_row _ _ _ _ _ _ h5]; rfl
          have u4 : Wz.cell? ⟨rb, 4, none⟩ = some (.string ⟨#[]⟩) := by rw [cell_of_row _ _ _ _ _ _ h5]; rfl
          have u5 : Wz.cell? ⟨rb, 5, none⟩ = some (.slice none 0 0) := by rw [cell_of_row _ _ _ _ _ _ h5]; rfl
          have u6 : Wz.cell? ⟨rb, 6, none⟩ = some (.slice none 0 0) := by rw [cell_of_row _ _ _ _ _ _ h5]; rfl
          refine bodyPost_ret (v := .tuple #[.agg #[.int .i64 0, .int .i64 0, .int .i64 0, .int .i64 0, .string ⟨#[]⟩, .slice none 0 0, .slice none 0 0], .int .i64 230]) (by simp [results, Tryd.results37, go_sem, u0, u1, u2, u3, u4, u5, u6]) rfl ?_
          exact HBAD.out 230 w11 Wz HE.out (by decide) HF11.out f5
        have bd : (DN != 0) = true := by rw [bne_iff_ne]; exact hd0
        generalize decide (MayA (repD M lp t lc p1 n1 c1) LL.1) = DM at *
        clear hok
        have v0' : w11.cell? ⟨rb, 0, none⟩ = some (.int .i64 0) := by rw [cell_of_row _ _ _ _ _ _ hrr]; rfl
        have y0' := frozen_of_row w11 rb 0 _ _ hrr
        have v1' : w11.cell? ⟨rb, 1, none⟩ = some (.int .i64 0) := by rw [cell_of_row _ _ _ _ _ _ hrr]; rfl
        have y1' := frozen_of_row w11 rb 1 _ _ hrr
        have v2' : w11.cell? ⟨rb, 2, none⟩ = some (.int .i64 0) := by rw [cell_of_row _ _ _ _ _ _ hrr]; rfl
        have y2' := frozen_of_row w11 rb 2 _ _ hrr
        have v3' : w11.cell? ⟨rb, 3, none⟩ = some (.int .i64 0) := by rw [cell_of_row _ _ _ _ _ _ hrr]; rfl
        have y3' := frozen_of_row w11 rb 3 _ _ hrr
        have v4' : w11.cell? ⟨rb, 4, none⟩ = some (.string ⟨#[]⟩) := by rw [cell_of_row _ _ _ _ _ _ hrr]; rfl
        have y4' := frozen_of_row w11 rb 4 _ _ hrr
        have v5' : w11.cell? ⟨rb, 5, none⟩ = some (.slice none 0 0) := by rw [cell_of_row _ _ _ _ _ _ hrr]; rfl
        have y5' := frozen_of_row w11 rb 5 _ _ hrr
        have v6' : w11.cell? ⟨rb, 6, none⟩ = some (.slice none 0 0) := by rw [cell_of_row _ _ _ _ _ _ hrr]; rfl
        have y6' := frozen_of_row w11 rb 6 _ _ hrr
        go_wp2_with fail
        obtain ⟨h5, f5⟩ := sets_rowF rb 32 [(0, .int .i64 0), (1, .int .i64 0), (2, .int .i64 0), (3, .int .i64 0), (4, .string ⟨#[]⟩), (5, .slice none 0 0), (6, .slice none 0 0)] w11 _ hrr
        simp only [List.foldl, List.setIfInBounds_toArray, List.set_cons_zero, List.set_cons_succ] at h5
        obtain ⟨Wz, hWz⟩ : ∃ z, setsF w11 rb [(0, .int .i64 0), (1, .int .i64 0), (2, .int .i64 0), (3, .int .i64 0), (4, .string ⟨#[]⟩), (5, .slice none 0 0), (6, .slice none 0 0)] = z := ⟨_, rfl⟩
        rw [hWz] at h5 f5
        have hwz : (((((((w11.setCell ⟨rb, 0, none⟩ (.int .i64 0)).setCell ⟨rb, 1, none⟩ (.int .i64 0)).setCell ⟨rb, 2, none⟩ (.int .i64 0)).setCell ⟨rb, 3, none⟩ (.int .i64 0)).setCell ⟨rb, 4, none⟩ (.string ⟨#[]⟩)).setCell ⟨rb, 5, none⟩ (.slice none 0 0)).setCell ⟨rb, 6, none⟩ (.slice none 0 0)) = Wz := hWz
        rw [hwz]
        have u0 : Wz.cell? ⟨rb, 0, none⟩ = some (.int .i64 0) := by rw [cell_of_row _ _ _ _ _ _ h5]; rfl
        have u1 : Wz.cell? ⟨rb, 1, none⟩ = some (.int .i64 0) := by rw [cell_of_row _ _ _ _ _ _ h5]; rfl
        have u2 : Wz.cell? ⟨rb, 2, none⟩ = some (.int .i64 0) := by rw [cell_of_row _ _ _ _ _ _ h5]; rfl
        have u3 : Wz.cell? ⟨rb, 3, none⟩ = some (.int .i64 0) := by rw [cell_of_row _ _ _ _ _ _ h5]; rfl
        have u4 : Wz.cell? ⟨rb, 4, none⟩ = some (.string ⟨#[]⟩) := by rw [cell_of_row _ _ _ _ _ _ h5]; rfl
        have u5 : Wz.cell? ⟨rb, 5, none⟩ = some (.slice none 0 0) := by rw [cell_of_row _ _ _ _ _ _ h5]; rfl
        have u6 : Wz.cell? ⟨rb, 6, none⟩ = some (.slice none 0 0) := by rw [cell_of_row _ _ _ _ _ _ h5]; rfl
        refine bodyPost_ret (v := .tuple #[.agg #[.int .i64 0, .int .i64 0, .int .i64 0, .int .i64 0, .string ⟨#[]⟩, .slice none 0 0, .slice none 0 0], .int .i64 230]) (by simp [results, Tryd.results37, go_sem, u0, u1, u2, u3, u4, u5, u6]) rfl ?_
        exact HBAD.out 230 w11 Wz HE.out (by decide) HF11.out f5
      obtain ⟨hd0, hmy⟩ := HOKI.out.1 hok
      subst hd0
      rw [decide_eq_true hmy]
      obtain ⟨hE0, hL0, hD0, hG0⟩ := HDOC.out.1 hok
      have HE := hid hE0
      have HLX : Hid (raL bs = LL.1) := hid (by rw [hL0, HV7.out])
      have HDX : Hid (raD bs = v9.1) := hid (by rw [hD0, HV9.out])
      have HGX := hid hG0
      clear hE0 hL0 hD0 hG0 hmy hok
      have t0 : w11.cell? ⟨qb, 0, none⟩ = some (.int .i64 v1.1) := by rw [cell_of_row _ _ _ _ _ _ HQ11.out]; rfl
      have t1 : w11.cell? ⟨qb, 1, none⟩ = some (.int .i64 v2.1) := by rw [cell_of_row _ _ _ _ _ _ HQ11.out]; rfl
      have t2 : w11.cell? ⟨qb, 2, none⟩ = some (.int .i64 v3.1) := by rw [cell_of_row _ _ _ _ _ _ HQ11.out]; rfl
      have t3 : w11.cell? ⟨qb, 3, none⟩ = some (.int .i64 v4.1) := by rw [cell_of_row _ _ _ _ _ _ HQ11.out]; rfl
      have t4 : w11.cell? ⟨qb, 4, none⟩ = some (.string (strOfNums v5.1)) := by rw [cell_of_row _ _ _ _ _ _ HQ11.out]; rfl
      have t5 : w11.cell? ⟨qb, 5, none⟩ = some (.slice lp t lc) := by rw [cell_of_row _ _ _ _ _ _ HQ11.out]; rfl
      have t6 : w11.cell? ⟨qb, 6, none⟩ = some (.slice p1 n1 c1) := by rw [cell_of_row _ _ _ _ _ _ HQ11.out]; rfl
      have v0' : w11.cell? ⟨rb, 0, none⟩ = some (.int .i64 0) := by rw [cell_of_row _ _ _ _ _ _ hrr]; rfl
      have y0' := frozen_of_row w11 rb 0 _ _ hrr
      have v1' : w11.cell? ⟨rb, 1, none⟩ = some (.int .i64 0) := by rw [cell_of_row _ _ _ _ _ _ hrr]; rfl
      have y1' := frozen_of_row w11 rb 1 _ _ hrr
      have v2' : w11.cell? ⟨rb, 2, none⟩ = some (.int .i64 0) := by rw [cell_of_row _ _ _ _ _ _ hrr]; rfl
      have y2' := frozen_of_row w11 rb 2 _ _ hrr
      have v3' : w11.cell? ⟨rb, 3, none⟩ = some (.int .i64 0) := by rw [cell_of_row _ _ _ _ _ _ hrr]; rfl
      have y3' := frozen_of_row w11 rb 3 _ _ hrr
      have v4' : w11.cell? ⟨rb, 4, none⟩ = some (.string ⟨#[]⟩) := by rw [cell_of_row _ _ _ _ _ _ hrr]; rfl
      have y4' := frozen_of_row w11 rb 4 _ _ hrr
      have v5' : w11.cell? ⟨rb, 5, none⟩ = some (.slice none 0 0) := by rw [cell_of_row _ _ _ _ _ _ hrr]; rfl
      have y5' := frozen_of_row w11 rb 5 _ _ hrr
      have v6' : w11.cell? ⟨rb, 6, none⟩ = some (.slice none 0 0) := by rw [cell_of_row _ _ _ _ _ _ hrr]; rfl
      have y6' := frozen_of_row w11 rb 6 _ _ hrr
      go_wp2_with fail
      obtain ⟨h5, f5⟩ := sets_rowF rb 32 [(0, .int .i64 v1.1), (1, .int .i64 v2.1), (2, .int .i64 v3.1), (3, .int .i64 v4.1), (4, .string (strOfNums v5.1)), (5, .slice lp t lc), (6, .slice p1 n1 c1)] w11 _ hrr
      simp only [List.foldl, List.setIfInBounds_toArray, List.set_cons_zero, List.set_cons_succ] at h5
      obtain ⟨Wz, hWz⟩ : ∃ z, setsF w11 rb [(0, .int .i64 v1.1), (1, .int .i64 v2.1), (2, .int .i64 v3.1), (3, .int .i64 v4.1), (4, .string (strOfNums v5.1)), (5, .slice lp t lc), (6, .slice p1 n1 c1)] = z := ⟨_, rfl⟩
      rw [hWz] at h5 f5
      have hwz : (((((((w11.setCell ⟨rb, 0, none⟩ (.int .i64 v1.1)).setCell ⟨rb, 1, none⟩ (.int .i64 v2.1)).setCell ⟨rb, 2, none⟩ (.int .i64 v3.1)).setCell ⟨rb, 3, none⟩ (.int .i64 v4.1)).setCell ⟨rb, 4, none⟩ (.string (strOfNums v5.1))).setCell ⟨rb, 5, none⟩ (.slice lp t lc)).setCell ⟨rb, 6, none⟩ (.slice p1 n1 c1)) = Wz := hWz
      rw [hwz]
      have u0 : Wz.cell? ⟨rb, 0, none⟩ = some (.int .i64 v1.1) := by rw [cell_of_row _ _ _ _ _ _ h5]; rfl
      have u1 : Wz.cell? ⟨rb, 1, none⟩ = some (.int .i64 v2.1) := by rw [cell_of_row _ _ _ _ _ _ h5]; rfl
      have u2 : Wz.cell? ⟨rb, 2, none⟩ = some (.int .i64 v3.1) := by rw [cell_of_row _ _ _ _ _ _ h5]; rfl
      have u3 : Wz.cell? ⟨rb, 3, none⟩ = some (.int .i64 v4.1) := by rw [cell_of_row _ _ _ _ _ _ h5]; rfl
      have u4 : Wz.cell? ⟨rb, 4, none⟩ = some (.string (strOfNums v5.1)) := by rw [cell_of_row _ _ _ _ _ _ h5]; rfl
      have u5 : Wz.cell? ⟨rb, 5, none⟩ = some (.slice lp t lc) := by rw [cell_of_row _ _ _ _ _ _ h5]; rfl
      have u6 : Wz.cell? ⟨rb, 6, none⟩ = some (.slice p1 n1 c1) := by rw [cell_of_row _ _ _ _ _ _ h5]; rfl
      refine bodyPost_ret (v := .tuple #[.agg #[.int .i64 v1.1, .int .i64 v2.1, .int .i64 v3.1, .int .i64 v4.1, .string (strOfNums v5.1), .slice lp t lc, .slice p1 n1 c1], .int .i64 0]) (by simp [results, Tryd.results37, go_sem, u0, u1, u2, u3, u4, u5, u6]) rfl ?_
      exact HP.out _ _ ⟨lp, t, lc, p1, n1, c1, by rw [HGX.out, HE.out, HAR.out], by rw [HDX.out]; exact HN1.out, by rw [HDX.out]; exact HO11.out.kept f5 (by rw [own_blk]; exact fun k hk hm => by rw [List.mem_singleton] at hm; have := (HNP.out k hk).1; have := HRL.out; omega), fun k hk => by have := (HNP.out k hk).1; have := HF1.out.size; omega, by rw [HLX.out]; exact HLN.out.symm, by rw [HLX.out]; exact HLR11.out.kept f5 (fun k hk hm => by rw [List.mem_singleton] at hm; have := (HNL.out k hk).1; have := HRL.out; omega), fun k hk => by have := (HNL.out k hk).1; have := HF1.out.size; omega, (HF1.out.trans HF11.out (by simp)).trans f5 (fun i hi hl => by rw [List.mem_singleton] at hi; have := HRS.out; omega)⟩
    go_wp2_with fail
    refine HC.out.mono ?_
    rintro e x8 ⟨rfl, hr, hf⟩
    have HR8 := hid hr
    have HQ8 := hid (hf.heap HQ7.out (by simpa using HNE.out.1))
    have HOL8 : Hid (x8.ownsRow 0 9 1 (.slice lp t lc) t (LL.1.map Value.string)) := hid (ownsRow_kept HOL7.out hf (fun k hk hm => by rw [List.mem_singleton] at hm; exact (HNL.out k hk).2.2.1 hm))
    clear hr hf HC HQ7 HR7 HOL7
    obtain ⟨v9, hv9⟩ : ∃ v, g9 M = v := ⟨_, rfl⟩
    have HV9 := hid hv9
    have hb8 : 0 ≤ v8.1 ∧ v8.1 < 72057594037927936 := by rw [← HV8.out]; exact HNB.out _
    have hc := HY.out v8.1 (by omega) (by omega) _ _ HR8.out
    have ee : byS M v8.2 v8.1 = v9 := by rw [← HV8.out]; exact hv9
    rw [ee] at hc
    have HC := hid hc
    clear hc ee hv9
    go_wp2_with fail
    refine HC.out.mono ?_
    rintro e x9 ⟨p1, n1, c1, rfl, hn1, ho1, hw1', hr, hf⟩
    have hrow := hf.heap HQ8.out (by simpa using HNE.out.1)
    have z : x9.cell? ⟨qb, 6, none⟩ = some (.slice none 0 0) := by rw [cell_of_row _ _ _ _ _ _ hrow]; rfl
    have y := frozen_of_row x9 qb 6 _ _ hrow
    have HRX := hid hr
    have HOX := hid ho1
    have HN1 := hid hn1
    have HNP : Hid (∀ k ∈ blk p1, w1.heap.size ≤ k ∧ k ≠ qb) := hid (fun k hk => by have h1 := hw1' k hk; have h2 := HR8.out.2.1.size; have h3 := lt_of_heap HQ8.out; omega)
    have HOL9 : Hid (x9.ownsRow 0 9 1 (.slice lp t lc) t (LL.1.map Value.string)) := hid (ownsRow_kept HOL8.out hf (fun k hk hm => by rw [List.mem_singleton] at hm; exact (HNL.out k hk).2.2.1 hm))
    clear hn1 hw1' ho1
    go_upto_region 19 with fail
    obtain ⟨h4, f4⟩ := sets_rowF qb 32 [(6, .slice p1 n1 c1)] x9 _ hrow
    simp only [List.foldl, List.setIfInBounds_toArray, List.set_cons_zero, List.set_cons_succ] at h4
    obtain ⟨W9, hW9⟩ : ∃ z, setsF x9 qb [(6, .slice p1 n1 c1)] = z := ⟨_, rfl⟩
    rw [hW9] at h4 f4
    have hwz : x9.setCell ⟨qb, 6, none⟩ (.slice p1 n1 c1) = W9 := hW9
    rw [hwz]
    have HQ9 := hid h4
    have HR9 : Hid (FrQ w1 W9 b q d M v9.2) := hid (frQ_set HRX.out f4 HNE.out.1 HNE.out.2.1 HNE.out.2.2)
    have HO9 : Hid (Own W9 5 (.slice p1 n1 c1) v9.1) := hid (HOX.out.kept f4 (by rw [own_blk]; exact fun k hk hm => by rw [List.mem_singleton] at hm; exact (HNP.out k hk).2 hm))
    have HLR : Hid (RdL W9 lp LL.1) := hid (rv_of1 (ownsRow_kept HOL9.out f4 (fun k hk hm => by rw [List.mem_singleton] at hm; exact (HNL.out k hk).2.1 hm)) (by rw [List.length_map]; exact HLN.out))
    clear h4 f4 hwz hW9 hrow hr hf z y HRX HOX HC HQ8 HR8 HOL9 HOL8
    have HDN := hid (qdone_any b d v9.2.1 q M v9.2.2 W9 HR9.out.1)
    obtain ⟨DN, hDN⟩ : ∃ z, doneS M.length v9.2.1 v9.2.2 = z := ⟨_, rfl⟩
    rw [hDN] at HDN
    have HDE := hid hDN
    clear hDN
    have HMQ := hid (fun V (hf : Frm [] W9 V) => answers_any (repD M lp t lc p1 n1 c1) LL.1 V HLN.out (HLR.out.kept hf (by simp)) (by show t ≤ _; omega))
    have HOKI : Hid (okA M ↔ DN = 0 ∧ MayA (repD M lp t lc p1 n1 c1) LL.1) := hid (by unfold okA; rw [HV9.out, HDE.out, ← HN1.out, HKV.out, HV7.out]; exact Iff.rfl)
    have HAR : Hid ((repD M lp t lc p1 n1 c1).arr = #[.int .i64 v1.1, .int .i64 v2.1, .int .i64 v3.1, .int .i64 v4.1, .string (strOfNums v5.1), .slice lp t lc, .slice p1 n1 c1]) := hid (by unfold repD; rw [HV1.out, HV2.out, HV3.out, HV4.out, HV5.out]; rfl)
    rw [HAR.out] at HMQ
    have z0 : W9.cell? ⟨qb, 0, none⟩ = some (.int .i64 v1.1) := by rw [cell_of_row _ _ _ _ _ _ HQ9.out]; rfl
    have z1 : W9.cell? ⟨qb, 1, none⟩ = some (.int .i64 v2.1) := by rw [cell_of_row _ _ _ _ _ _ HQ9.out]; rfl
    have z2 : W9.cell? ⟨qb, 2, none⟩ = some (.int .i64 v3.1) := by rw [cell_of_row _ _ _ _ _ _ HQ9.out]; rfl
    have z3 : W9.cell? ⟨qb, 3, none⟩ = some (.int .i64 v4.1) := by rw [cell_of_row _ _ _ _ _ _ HQ9.out]; rfl
    have z4 : W9.cell? ⟨qb, 4, none⟩ = some (.string (strOfNums v5.1)) := by rw [cell_of_row _ _ _ _ _ _ HQ9.out]; rfl
    have z5 : W9.cell? ⟨qb, 5, none⟩ = some (.slice lp t lc) := by rw [cell_of_row _ _ _ _ _ _ HQ9.out]; rfl
    have z6 : W9.cell? ⟨qb, 6, none⟩ = some (.slice p1 n1 c1) := by rw [cell_of_row _ _ _ _ _ _ HQ9.out]; rfl
    go_wp2_with fail
    refine HDN.out.mono ?_
    rintro e w10 ⟨rfl, k10, hk10⟩
    subst hk10
    go_wp2_with fail
    refine (HMQ.out _ ((Frm.refl [] W9).drewN _)).mono ?_
    rintro e w11 ⟨rfl, hf11⟩
    have HF11 : Hid (Frm [] w1 w11) := hid ((HR9.out.2.1.trans ((Frm.refl [] W9).drewN k10) (by simp)).trans hf11 (by simp))
    have HQ11 := hid (hf11.heap (((Frm.refl [] W9).drewN k10).heap HQ9.out (by simp)) (by simp))
    have HO11 : Hid (Own w11 5 (.slice p1 n1 c1) v9.1) := hid ((HO9.out.kept ((Frm.refl [] W9).drewN k10) (by simp)).kept hf11 (by simp))
    have HLR11 : Hid (RdL w11 lp LL.1) := hid ((HLR.out.kept ((Frm.refl [] W9).drewN k10) (by simp)).kept hf11 (by simp))
    clear hf11 z0 z1 z2 z3 z4 z5 z6 HDN HMQ
    have hrr := HRB.out w11 HF11.out
    by_cases hok : okA M
    case neg =>
      have HE := hid (HDOC.out.2 hok)
      by_cases hd0 : DN = 0
      case pos =>
        have hmy : ¬ MayA (repD M lp t lc p1 n1 c1) LL.1 := fun h => hok (HOKI.out.2 ⟨hd0, h⟩)
        subst hd0
        rw [decide_eq_false hmy]
        clear hmy hok
        have v0' : w11.cell? ⟨rb, 0, none⟩ = some (.int .i64 0) := by rw [cell_of_row _ _ _ _ _ _ hrr]; rfl
        have y0' := frozen_of_row w11 rb 0 _ _ hrr
        have v1' : w11.cell? ⟨rb, 1, none⟩ = some (.int .i64 0) := by rw [cell_of_row _ _ _ _ _ _ hrr]; rfl
        have y1' := frozen_of_row w11 rb 1 _ _ hrr
        have v2' : w11.cell? ⟨rb, 2, none⟩ = some (.int .i64 0) := by rw [cell_of_row _ _ _ _ _ _ hrr]; rfl
        have y2' := frozen_of_row w11 rb 2 _ _ hrr
        have v3' : w11.cell? ⟨rb, 3, none⟩ = some (.int .i64 0) := by rw [cell_of_row _ _ _ _ _ _ hrr]; rfl
        have y3' := frozen_of_row w11 rb 3 _ _ hrr
        have v4' : w11.cell? ⟨rb, 4, none⟩ = some (.string ⟨#[]⟩) := by rw [cell_of_row _ _ _ _ _ _ hrr]; rfl
        have y4' := frozen_of_row w11 rb 4 _ _ hrr
        have v5' : w11.cell? ⟨rb, 5, none⟩ = some (.slice none 0 0) := by rw [cell_of_row _ _ _ _ _ _ hrr]; rfl
        have y5' := frozen_of_row w11 rb 5 _ _ hrr
        have v6' : w11.cell? ⟨rb, 6, none⟩ = some (.slice none 0 0) := by rw [cell_of_row _ _ _ _ _ _ hrr]; rfl
        have y6' := frozen_of_row w11 rb 6 _ _ hrr
        go_wp2_with fail
        obtain ⟨h5, f5⟩ := sets_rowF rb 32 [(0, .int .i64 0), (1, .int .i64 0), (2, .int .i64 0), (3, .int .i64 0), (4, .string ⟨#[]⟩), (5, .slice none 0 0), (6, .slice none 0 0)] w11 _ hrr
        simp only [List.foldl, List.setIfInBounds_toArray, List.set_cons_zero, List.set_cons_succ] at h5
        obtain ⟨Wz, hWz⟩ : ∃ z, setsF w11 rb [(0, .int .i64 0), (1, .int .i64 0), (2, .int .i64 0), (3, .int .i64 0), (4, .string ⟨#[]⟩), (5, .slice none 0 0), (6, .slice none 0 0)] = z := ⟨_, rfl⟩
        rw [hWz] at h5 f5
        have hwz : (((((((w11.setCell ⟨rb, 0, none⟩ (.int .i64 0)).setCell ⟨rb, 1, none⟩ (.int .i64 0)).setCell ⟨rb, 2, none⟩ (.int .i64 0)).setCell ⟨rb, 3, none⟩ (.int .i64 0)).setCell ⟨rb, 4, none⟩ (.string ⟨#[]⟩)).setCell ⟨rb, 5, none⟩ (.slice none 0 0)).setCell ⟨rb, 6, none⟩ (.slice none 0 0)) = Wz := hWz
        rw [hwz]
        have u0 : Wz.cell? ⟨rb, 0, none⟩ = some (.int .i64 0) := by rw [cell_of_row _ _ _ _ _ _ h5]; rfl
        have u1 : Wz.cell? ⟨rb, 1, none⟩ = some (.int .i64 0) := by rw [cell_of_row _ _ _ _ _ _ h5]; rfl
        have u2 : Wz.cell? ⟨rb, 2, none⟩ = some (.int .i64 0) := by rw [cell_of_row _ _ _ _ _ _ h5]; rfl
        have u3 : Wz.cell? ⟨rb, 3, none⟩ = some (.int .i64 0) := by rw [cell_of_row _ _ _ _ _ _ h5]; rfl
        have u4 : Wz.cell? ⟨rb, 4, none⟩ = some (.string ⟨#[]⟩) := by rw [cell_of_row _ _ _ _ _ _ h5]; rfl
        have u5 : Wz.cell? ⟨rb, 5, none⟩ = some (.slice none 0 0) := by rw [cell_of_row _ _ _ _ _ _ h5]; rfl
        have u6 : Wz.cell? ⟨rb, 6, none⟩ = some (.slice none 0 0) := by rw [cell_of_row _ _ _ _ _ _ h5]; rfl
        refine bodyPost_ret (v := .tuple #[.agg #[.int .i64 0, .int .i64 0, .int .i64 0, .int .i64 0, .string ⟨#[]⟩, .slice none 0 0, .slice none 0 0], .int .i64 230]) (by simp [results, Tryd.results37, go_sem, u0, u1, u2, u3, u4, u5, u6]) rfl ?_
        exact HBAD.out 230 w11 Wz HE.out (by decide) HF11.out f5
      have bd : (DN != 0) = true := by rw [bne_iff_ne]; exact hd0
      generalize decide (MayA (repD M lp t lc p1 n1 c1) LL.1) = DM at *
      clear hok
      have v0' : w11.cell? ⟨rb, 0, none⟩ = some (.int .i64 0) := by rw [cell_of_row _ _ _ _ _ _ hrr]; rfl
      have y0' := frozen_of_row w11 rb 0 _ _ hrr
      have v1' : w11.cell? ⟨rb, 1, none⟩ = some (.int .i64 0) := by rw [cell_of_row _ _ _ _ _ _ hrr]; rfl
      have y1' := frozen_of_row w11 rb 1 _ _ hrr
      have v2' : w11.cell? ⟨rb, 2, none⟩ = some (.int .i64 0) := by rw [cell_of_row _ _ _ _ _ _ hrr]; rfl
      have y2' := frozen_of_row w11 rb 2 _ _ hrr
      have v3' : w11.cell? ⟨rb, 3, none⟩ = some (.int .i64 0) := by rw [cell_of_row _ _ _ _ _ _ hrr]; rfl
      have y3' := frozen_of_row w11 rb 3 _ _ hrr
      have v4' : w11.cell? ⟨rb, 4, none⟩ = some (.string ⟨#[]⟩) := by rw [cell_of_row _ _ _ _ _ _ hrr]; rfl
      have y4' := frozen_of_row w11 rb 4 _ _ hrr
      have v5' : w11.cell? ⟨rb, 5, none⟩ = some (.slice none 0 0) := by rw [cell_of_row _ _ _ _ _ _ hrr]; rfl
      have y5' := frozen_of_row w11 rb 5 _ _ hrr
      have v6' : w11.cell? ⟨rb, 6, none⟩ = some (.slice none 0 0) := by rw [cell_of_row _ _ _ _ _ _ hrr]; rfl
      have y6' := frozen_of_row w11 rb 6 _ _ hrr
      go_wp2_with fail
      obtain ⟨h5, f5⟩ := sets_rowF rb 32 [(0, .int .i64 0), (1, .int .i64 0), (2, .int .i64 0), (3, .int .i64 0), (4, .string ⟨#[]⟩), (5, .slice none 0 0), (6, .slice none 0 0)] w11 _ hrr
      simp only [List.foldl, List.setIfInBounds_toArray, List.set_cons_zero, List.set_cons_succ] at h5
      obtain ⟨Wz, hWz⟩ : ∃ z, setsF w11 rb [(0, .int .i64 0), (1, .int .i64 0), (2, .int .i64 0), (3, .int .i64 0), (4, .string ⟨#[]⟩), (5, .slice none 0 0), (6, .slice none 0 0)] = z := ⟨_, rfl⟩
      rw [hWz] at h5 f5
      have hwz : (((((((w11.setCell ⟨rb, 0, none⟩ (.int .i64 0)).setCell ⟨rb, 1, none⟩ (.int .i64 0)).setCell ⟨rb, 2, none⟩ (.int .i64 0)).setCell ⟨rb, 3, none⟩ (.int .i64 0)).setCell ⟨rb, 4, none⟩ (.string ⟨#[]⟩)).setCell ⟨rb, 5, none⟩ (.slice none 0 0)).setCell ⟨rb, 6, none⟩ (.slice none 0 0)) = Wz := hWz
      rw [hwz]
      have u0 : Wz.cell? ⟨rb, 0, none⟩ = some (.int .i64 0) := by rw [cell_of_row _ _ _ _ _ _ h5]; rfl
      have u1 : Wz.cell? ⟨rb, 1, none⟩ = some (.int .i64 0) := by rw [cell_of_row _ _ _ _ _ _ h5]; rfl
      have u2 : Wz.cell? ⟨rb, 2, none⟩ = some (.int .i64 0) := by rw [cell_of_row _ _ _ _ _ _ h5]; rfl
      have u3 : Wz.cell? ⟨rb, 3, none⟩ = some (.int .i64 0) := by rw [cell_of_row _ _ _ _ _ _ h5]; rfl
      have u4 : Wz.cell? ⟨rb, 4, none⟩ = some (.string ⟨#[]⟩) := by rw [cell_of_row _ _ _ _ _ _ h5]; rfl
      have u5 : Wz.cell? ⟨rb, 5, none⟩ = some (.slice none 0 0) := by rw [cell_of_row _ _ _ _ _ _ h5]; rfl
      have u6 : Wz.cell? ⟨rb, 6, none⟩ = some (.slice none 0 0) := by rw [cell_of_row _ _ _ _ _ _ h5]; rfl
      refine bodyPost_ret (v := .tuple #[.agg #[.int .i64 0, .int .i64 0, .int .i64 0, .int .i64 0, .string ⟨#[]⟩, .slice none 0 0, .slice none 0 0], .int .i64 230]) (by simp [results, Tryd.results37, go_sem, u0, u1, u2, u3, u4, u5, u6]) rfl ?_
      exact HBAD.out 230 w11 Wz HE.out (by decide) HF11.out f5
    obtain ⟨hd0, hmy⟩ := HOKI.out.1 hok
    subst hd0
    rw [decide_eq_true hmy]
    obtain ⟨hE0, hL0, hD0, hG0⟩ := HDOC.out.1 hok
    have HE := hid hE0
    have HLX : Hid (raL bs = LL.1) := hid (by rw [hL0, HV7.out])
    have HDX : Hid (raD bs = v9.1) := hid (by rw [hD0, HV9.out])
    have HGX := hid hG0
    clear hE0 hL0 hD0 hG0 hmy hok
    have t0 : w11.cell? ⟨qb, 0, none⟩ = some (.int .i64 v1.1) := by rw [cell_of_row _ _ _ _ _ _ HQ11.out]; rfl
    have t1 : w11.cell? ⟨qb, 1, none⟩ = some (.int .i64 v2.1) := by rw [cell_of_row _ _ _ _ _ _ HQ11.out]; rfl
    have t2 : w11.cell? ⟨qb, 2, none⟩ = some (.int .i64 v3.1) := by rw [cell_of_row _ _ _ _ _ _ HQ11.out]; rfl
    have t3 : w11.cell? ⟨qb, 3, none⟩ = some (.int .i64 v4.1) := by rw [cell_of_row _ _ _ _ _ _ HQ11.out]; rfl
    have t4 : w11.cell? ⟨qb, 4, none⟩ = some (.string (strOfNums v5.1)) := by rw [cell_of_row _ _ _ _ _ _ HQ11.out]; rfl
    have t5 : w11.cell? ⟨qb, 5, none⟩ = some (.slice lp t lc) := by rw [cell_of_row _ _ _ _ _ _ HQ11.out]; rfl
    have t6 : w11.cell? ⟨qb, 6, none⟩ = some (.slice p1 n1 c1) := by rw [cell_of_row _ _ _ _ _ _ HQ11.out]; rfl
    have v0' : w11.cell? ⟨rb, 0, none⟩ = some (.int .i64 0) := by rw [cell_of_row _ _ _ _ _ _ hrr]; rfl
    have y0' := frozen_of_row w11 rb 0 _ _ hrr
    have v1' : w11.cell? ⟨rb, 1, none⟩ = some (.int .i64 0) := by rw [cell_of_row _ _ _ _ _ _ hrr]; rfl
    have y1' := frozen_of_row w11 rb 1 _ _ hrr
    have v2' : w11.cell? ⟨rb, 2, none⟩ = some (.int .i64 0) := by rw [cell_of_row _ _ _ _ _ _ hrr]; rfl
    have y2' := frozen_of_row w11 rb 2 _ _ hrr
    have v3' : w11.cell? ⟨rb, 3, none⟩ = some (.int .i64 0) := by rw [cell_of_row _ _ _ _ _ _ hrr]; rfl
    have y3' := frozen_of_row w11 rb 3 _ _ hrr
    have v4' : w11.cell? ⟨rb, 4, none⟩ = some (.string ⟨#[]⟩) := by rw [cell_of_row _ _ _ _ _ _ hrr]; rfl
    have y4' := frozen_of_row w11 rb 4 _ _ hrr
    have v5' : w11.cell? ⟨rb, 5, none⟩ = some (.slice none 0 0) := by rw [cell_of_row _ _ _ _ _ _ hrr]; rfl
    have y5' := frozen_of_row w11 rb 5 _ _ hrr
    have v6' : w11.cell? ⟨rb, 6, none⟩ = some (.slice none 0 0) := by rw [cell_of_row _ _ _ _ _ _ hrr]; rfl
    have y6' := frozen_of_row w11 rb 6 _ _ hrr
    go_wp2_with fail
    obtain ⟨h5, f5⟩ := sets_rowF rb 32 [(0, .int .i64 v1.1), (1, .int .i64 v2.1), (2, .int .i64 v3.1), (3, .int .i64 v4.1), (4, .string (strOfNums v5.1)), (5, .slice lp t lc), (6, .slice p1 n1 c1)] w11 _ hrr
    simp only [List.foldl, List.setIfInBounds_toArray, List.set_cons_zero, List.set_cons_succ] at h5
    obtain ⟨Wz, hWz⟩ : ∃ z, setsF w11 rb [(0, .int .i64 v1.1), (1, .int .i64 v2.1), (2, .int .i64 v3.1), (3, .int .i64 v4.1), (4, .string (strOfNums v5.1)), (5, .slice lp t lc), (6, .slice p1 n1 c1)] = z := ⟨_, rfl⟩
    rw [hWz] at h5 f5
    have hwz : (((((((w11.setCell ⟨rb, 0, none⟩ (.int .i64 v1.1)).setCell ⟨rb, 1, none⟩ (.int .i64 v2.1)).setCell ⟨rb, 2, none⟩ (.int .i64 v3.1)).setCell ⟨rb, 3, none⟩ (.int .i64 v4.1)).setCell ⟨rb, 4, none⟩ (.string (strOfNums v5.1))).setCell ⟨rb, 5, none⟩ (.slice lp t lc)).setCell ⟨rb, 6, none⟩ (.slice p1 n1 c1)) = Wz := hWz
    rw [hwz]
    have u0 : Wz.cell? ⟨rb, 0, none⟩ = some (.int .i64 v1.1) := by rw [cell_of_row _ _ _ _ _ _ h5]; rfl
    have u1 : Wz.cell? ⟨rb, 1, none⟩ = some (.int .i64 v2.1) := by rw [cell_of_row _ _ _ _ _ _ h5]; rfl
    have u2 : Wz.cell? ⟨rb, 2, none⟩ = some (.int .i64 v3.1) := by rw [cell_of_row _ _ _ _ _ _ h5]; rfl
    have u3 : Wz.cell? ⟨rb, 3, none⟩ = some (.int .i64 v4.1) := by rw [cell_of_row _ _ _ _ _ _ h5]; rfl
    have u4 : Wz.cell? ⟨rb, 4, none⟩ = some (.string (strOfNums v5.1)) := by rw [cell_of_row _ _ _ _ _ _ h5]; rfl
    have u5 : Wz.cell? ⟨rb, 5, none⟩ = some (.slice lp t lc) := by rw [cell_of_row _ _ _ _ _ _ h5]; rfl
    have u6 : Wz.cell? ⟨rb, 6, none⟩ = some (.slice p1 n1 c1) := by rw [cell_of_row _ _ _ _ _ _ h5]; rfl
    refine bodyPost_ret (v := .tuple #[.agg #[.int .i64 v1.1, .int .i64 v2.1, .int .i64 v3.1, .int .i64 v4.1, .string (strOfNums v5.1), .slice lp t lc, .slice p1 n1 c1], .int .i64 0]) (by simp [results, Tryd.results37, go_sem, u0, u1, u2, u3, u4, u5, u6]) rfl ?_
    exact HP.out _ _ ⟨lp, t, lc, p1, n1, c1, by rw [HGX.out, HE.out, HAR.out], by rw [HDX.out]; exact HN1.out, by rw [HDX.out]; exact HO11.out.kept f5 (by rw [own_blk]; exact fun k hk hm => by rw [List.mem_singleton] at hm; have := (HNP.out k hk).1; have := HRL.out; omega), fun k hk => by have := (HNP.out k hk).1; have := HF1.out.size; omega, by rw [HLX.out]; exact HLN.out.symm, by rw [HLX.out]; exact HLR11.out.kept f5 (fun k hk hm => by rw [List.mem_singleton] at hm; have := (HNL.out k hk).1; have := HRL.out; omega), fun k hk => by have := (HNL.out k hk).1; have := HF1.out.size; omega, (HF1.out.trans HF11.out (by simp)).trans f5 (fun i hi hl => by rw [List.mem_singleton] at hi; have := HRS.out; omega)⟩
end
end Go.Proofs.YtignoocdeghiaaaDoor
