/- The document's ReadRequest. -/
import Derived.Test.YtignoocdeghiaaaDoorQbl
import Derived.Test.YtignoocdeghiaaaDoorQas
namespace Go.Proofs.YtignoocdeghiaaaDoor
section
open Go.RowKit Go.Lib
set_option maxRecDepth 100000

theorem frQ_set {w0 w w' : World} {b c qb : Nat} {p : Option Addr} {bs : List Int} {s : Rst} (h : FrQ w0 w b p c bs s) (hf : Frm [qb] w w') (h1 : qb ≠ b) (h2 : qb ∉ blk p) (h3 : w0.heap.size ≤ qb) : FrQ w0 w' b p c bs s :=
  ⟨h.1.kept hf (by simpa using fun h => h1 h.symm) (fun k hk hm => by rw [List.mem_singleton] at hm; subst hm; exact h2 hk), h.2.1.trans hf (fun i hi hl => by rw [List.mem_singleton] at hi; omega), h.2.2⟩
set_option maxHeartbeats 51200000 in
theorem refReadRequest_any (p : Option Addr) (n c : Nat) (bs : List Int) (w : World) (hn : bs.length = n) (hnc : n ≤ c) (hc : c ≤ 9223372036854775807) (hrd : Rd w p bs) (hb : ∀ z ∈ bs, 0 ≤ z ∧ z < 256) (hv : Vars w) :
    Calls Tryd.prog 36 #[.slice p n c] w (ReadQA w bs) := by
  obtain ⟨PO, hPO⟩ : ∃ PO : Ending → World → Prop, ReadQA w bs = PO := ⟨_, rfl⟩
  rw [hPO]
  have HP := hid (show ∀ e w', ReadQA w bs e w' → PO e w' from fun e w' h => by rw [← hPO]; exact h)
  obtain ⟨w1, hw1⟩ : ∃ z, w.alloc (.cells #[.int .i64 0, .int .i64 0, .int .i64 0, .string ⟨#[]⟩, .string ⟨#[]⟩, .string ⟨#[]⟩, .string ⟨#[]⟩, .int .i64 0, .int .i64 0, .slice none 0 0] 24) = z := ⟨_, rfl⟩
  have hrow1 := heap_alloc_new w (.cells #[.int .i64 0, .int .i64 0, .int .i64 0, .string ⟨#[]⟩, .string ⟨#[]⟩, .string ⟨#[]⟩, .string ⟨#[]⟩, .int .i64 0, .int .i64 0, .slice none 0 0] 24)
  have hf1 : Frm [] w w1 := by rw [← hw1]; exact (Frm.refl _ _).alloc _
  obtain ⟨rb, hrb⟩ : ∃ z, w.heap.size = z := ⟨_, rfl⟩
  rw [hw1, hrb] at hrow1
  have HBO := hid (body_any p n c bs 1 w1 hn hnc hc (hrd.kept hf1 (by simp)) hb (hv.kept hf1))
  have HRB : Hid (∀ V, Frm [] w1 V → V.heap[rb]? = some (.cells #[.int .i64 0, .int .i64 0, .int .i64 0, .string ⟨#[]⟩, .string ⟨#[]⟩, .string ⟨#[]⟩, .string ⟨#[]⟩, .int .i64 0, .int .i64 0, .slice none 0 0] 24 (0, 0))) := hid (fun V hf => hf.heap hrow1 (by simp))
  have HF1 := hid hf1
  have HRS : Hid (w.heap.size = rb) := hid hrb
  have HRL : Hid (rb < w1.heap.size) := hid (lt_of_heap hrow1)
  have HB := hid hb
  have HW1 := hid hw1
  have HBAD : Hid (∀ E V V', rqE bs = E → E ≠ 0 → Frm [] w1 V → Frm [rb] V V' → PO (.returned (.tuple #[.agg #[.int .i64 0, .int .i64 0, .int .i64 0, .string ⟨#[]⟩, .string ⟨#[]⟩, .string ⟨#[]⟩, .string ⟨#[]⟩, .int .i64 0, .int .i64 0, .slice none 0 0], .int .i64 E])) V') := hid (fun E V V' h1 h2 h3 h4 => HP.out _ _ (ReadQA.bad h1 h2 ((HF1.out.trans h3 (by simp)).trans h4 (fun i hi hl => by rw [List.mem_singleton] at hi; have := HRS.out; omega))))
  clear hn hnc hc hrd hb hv hPO hw1 hrow1 hf1 hrb
  go_enter Tryd.func36, Tryd.ntmps36
  go_upto_region 1 with fail
  first | rw [HW1.out] | skip
  first | rw [HRS.out] | skip
  go_wp2_with fail
  refine HBO.out.mono ?_
  rintro e w2 ⟨hf2, ⟨he, rfl⟩ | ⟨he, b, q, d, rfl, hq⟩⟩
  case inl =>
    have HE := hid (bod_q he)
    have HF2 := hid hf2
    obtain ⟨E, hE⟩ : ∃ E, bodE bs 1 = E := ⟨_, rfl⟩
    rw [hE] at he HE
    rw [hE]
    have be : (E != 0) = true := by rw [bne_iff_ne]; exact he
    have hrr := HRB.out w2 HF2.out
    have HNZ := hid he
    clear he hf2 hE
    have v0' : w2.cell? ⟨rb, 0, none⟩ = some (.int .i64 0) := by rw [cell_of_row _ _ _ _ _ _ hrr]; rfl
    have y0' := frozen_of_row w2 rb 0 _ _ hrr
    have v1' : w2.cell? ⟨rb, 1, none⟩ = some (.int .i64 0) := by rw [cell_of_row _ _ _ _ _ _ hrr]; rfl
    have y1' := frozen_of_row w2 rb 1 _ _ hrr
    have v2' : w2.cell? ⟨rb, 2, none⟩ = some (.int .i64 0) := by rw [cell_of_row _ _ _ _ _ _ hrr]; rfl
    have y2' := frozen_of_row w2 rb 2 _ _ hrr
    have v3' : w2.cell? ⟨rb, 3, none⟩ = some (.string ⟨#[]⟩) := by rw [cell_of_row _ _ _ _ _ _ hrr]; rfl
    have y3' := frozen_of_row w2 rb 3 _ _ hrr
    have v4' : w2.cell? ⟨rb, 4, none⟩ = some (.string ⟨#[]⟩) := by rw [cell_of_row _ _ _ _ _ _ hrr]; rfl
    have y4' := frozen_of_row w2 rb 4 _ _ hrr
    have v5' : w2.cell? ⟨rb, 5, none⟩ = some (.string ⟨#[]⟩) := by rw [cell_of_row _ _ _ _ _ _ hrr]; rfl
    have y5' := frozen_of_row w2 rb 5 _ _ hrr
    have v6' : w2.cell? ⟨rb, 6, none⟩ = some (.string ⟨#[]⟩) := by rw [cell_of_row _ _ _ _ _ _ hrr]; rfl
    have y6' := frozen_of_row w2 rb 6 _ _ hrr
    have v7' : w2.cell? ⟨rb, 7, none⟩ = some (.int .i64 0) := by rw [cell_of_row _ _ _ _ _ _ hrr]; rfl
    have y7' := frozen_of_row w2 rb 7 _ _ hrr
    have v8' : w2.cell? ⟨rb, 8, none⟩ = some (.int .i64 0) := by rw [cell_of_row _ _ _ _ _ _ hrr]; rfl
    have y8' := frozen_of_row w2 rb 8 _ _ hrr
    have v9' : w2.cell? ⟨rb, 9, none⟩ = some (.slice none 0 0) := by rw [cell_of_row _ _ _ _ _ _ hrr]; rfl
    have y9' := frozen_of_row w2 rb 9 _ _ hrr
    go_wp2_with fail
    obtain ⟨h5, f5⟩ := sets_rowF rb 24 [(0, .int .i64 0), (1, .int .i64 0), (2, .int .i64 0), (3, .string ⟨#[]⟩), (4, .string ⟨#[]⟩), (5, .string ⟨#[]⟩), (6, .string ⟨#[]⟩), (7, .int .i64 0), (8, .int .i64 0), (9, .slice none 0 0)] w2 _ hrr
    simp only [List.foldl, List.setIfInBounds_toArray, List.set_cons_zero, List.set_cons_succ] at h5
    obtain ⟨Wz, hWz⟩ : ∃ z, setsF w2 rb [(0, .int .i64 0), (1, .int .i64 0), (2, .int .i64 0), (3, .string ⟨#[]⟩), (4, .string ⟨#[]⟩), (5, .string ⟨#[]⟩), (6, .string ⟨#[]⟩), (7, .int .i64 0), (8, .int .i64 0), (9, .slice none 0 0)] = z := ⟨_, rfl⟩
    rw [hWz] at h5 f5
    have hwz : ((((((((((w2.setCell ⟨rb, 0, none⟩ (.int .i64 0)).setCell ⟨rb, 1, none⟩ (.int .i64 0)).setCell ⟨rb, 2, none⟩ (.int .i64 0)).setCell ⟨rb, 3, none⟩ (.string ⟨#[]⟩)).setCell ⟨rb, 4, none⟩ (.string ⟨#[]⟩)).setCell ⟨rb, 5, none⟩ (.string ⟨#[]⟩)).setCell ⟨rb, 6, none⟩ (.string ⟨#[]⟩)).setCell ⟨rb, 7, none⟩ (.int .i64 0)).setCell ⟨rb, 8, none⟩ (.int .i64 0)).setCell ⟨rb, 9, none⟩ (.slice none 0 0)) = Wz := hWz
    rw [hwz]
    have u0 : Wz.cell? ⟨rb, 0, none⟩ = some (.int .i64 0) := by rw [cell_of_row _ _ _ _ _ _ h5]; rfl
    have u1 : Wz.cell? ⟨rb, 1, none⟩ = some (.int .i64 0) := by rw [cell_of_row _ _ _ _ _ _ h5]; rfl
    have u2 : Wz.cell? ⟨rb, 2, none⟩ = some (.int .i64 0) := by rw [cell_of_row _ _ _ _ _ _ h5]; rfl
    have u3 : Wz.cell? ⟨rb, 3, none⟩ = some (.string ⟨#[]⟩) := by rw [cell_of_row _ _ _ _ _ _ h5]; rfl
    have u4 : Wz.cell? ⟨rb, 4, none⟩ = some (.string ⟨#[]⟩) := by rw [cell_of_row _ _ _ _ _ _ h5]; rfl
    have u5 : Wz.cell? ⟨rb, 5, none⟩ = some (.string ⟨#[]⟩) := by rw [cell_of_row _ _ _ _ _ _ h5]; rfl
    have u6 : Wz.cell? ⟨rb, 6, none⟩ = some (.string ⟨#[]⟩) := by rw [cell_of_row _ _ _ _ _ _ h5]; rfl
    have u7 : Wz.cell? ⟨rb, 7, none⟩ = some (.int .i64 0) := by rw [cell_of_row _ _ _ _ _ _ h5]; rfl
    have u8 : Wz.cell? ⟨rb, 8, none⟩ = some (.int .i64 0) := by rw [cell_of_row _ _ _ _ _ _ h5]; rfl
    have u9 : Wz.cell? ⟨rb, 9, none⟩ = some (.slice none 0 0) := by rw [cell_of_row _ _ _ _ _ _ h5]; rfl
    refine bodyPost_ret (v := .tuple #[.agg #[.int .i64 0, .int .i64 0, .int .i64 0, .string ⟨#[]⟩, .string ⟨#[]⟩, .string ⟨#[]⟩, .string ⟨#[]⟩, .int .i64 0, .int .i64 0, .slice none 0 0], .int .i64 E]) (by simp [results, Tryd.results36, go_sem, u0, u1, u2, u3, u4, u5, u6, u7, u8, u9]) rfl ?_
    exact HBAD.out E w2 Wz HE.out HNZ.out HF2.out f5
  have HBE := hid he
  have HF2 := hid hf2
  have HQ2 := hid hq
  have HMB : Hid (∀ z ∈ (midF bs).drop 1, 0 ≤ z ∧ z < 256) := hid (fun z hz => midF_bd HB.out z (List.mem_of_mem_drop hz))
  have HDOC := hid (doc_q HB.out HBE.out)
  obtain ⟨M, hM⟩ : ∃ M, (midF bs).drop 1 = M := ⟨_, rfl⟩
  rw [hM] at HQ2 HMB HDOC
  have HML : Hid (M.length ≤ 65536) := hid (by rw [← hM, List.length_drop]; unfold midF; rw [List.length_take]; have := (bodE_ok HBE.out).2.1; omega)
  obtain ⟨w3, hw3⟩ : ∃ z, w2.alloc (.cells #[.int .i64 0, .int .i64 0, .int .i64 0, .string ⟨#[]⟩, .string ⟨#[]⟩, .string ⟨#[]⟩, .string ⟨#[]⟩, .int .i64 0, .int .i64 0, .slice none 0 0] 24) = z := ⟨_, rfl⟩
  have hrow3 := heap_alloc_new w2 (.cells #[.int .i64 0, .int .i64 0, .int .i64 0, .string ⟨#[]⟩, .string ⟨#[]⟩, .string ⟨#[]⟩, .string ⟨#[]⟩, .int .i64 0, .int .i64 0, .slice none 0 0] 24)
  have hf3 : Frm [] w2 w3 := by rw [← hw3]; exact (Frm.refl _ _).alloc _
  obtain ⟨qb, hqb⟩ : ∃ z, w2.heap.size = z := ⟨_, rfl⟩
  rw [hw3, hqb] at hrow3
  have HNE : Hid (qb ≠ b ∧ qb ∉ blk q ∧ w1.heap.size ≤ qb) := hid ⟨by have := lt_of_heap hq.1.1; omega, fun hm => by have := own_lowF hq.1.2.1 qb hm; omega, by have := hf2.size; omega⟩
  have HQ0 := hid hrow3
  have HR0 : Hid (FrQ w1 w3 b q d M (0, 0)) := hid (HQ2.out.k0 hf3)
  have HW3 := hid hw3
  have HQB := hid hqb
  have HI := hid (fun (k : Int) (hk0 : 0 ≤ k) (hk : k ≤ 7) (t : Rst) W (hW : FrQ w1 W b q d M t) => refNum_anyQ w1 W b d q M HMB.out t k hk0 hk hW)
  have HT := hid (fun (m : Int) (hm0 : 0 ≤ m) (hm : m ≤ 100000) (t : Rst) W (hW : FrQ w1 W b q d M t) => (qtext_any b d t.1 q M HMB.out t.2 m W hW.1 (by omega) (by omega)).mono (fun e w' h => (show e = .returned (.string (strOfNums (txM M t m).1)) ∧ FrQ w1 w' b q d M (txM M t m).2 ∧ Frm [b] W w' from ⟨h.1, hW.next h.2.1 h.2.2, h.2.2⟩)))
  have HY := hid (fun (k : Int) (hk0 : 0 ≤ k) (hk : k ≤ 72057594037927936) (t : Rst) W (hW : FrQ w1 W b q d M t) => (qbytes_any b d t.1 q M t.2 k W hW.1 (by omega) (by omega)).mono (fun e w' h => by
    obtain ⟨p', n', c', h1, h2, h3, h4, h5, h6⟩ := h
    exact (show ∃ p' n' c', e = .returned (.slice p' n' c') ∧ n' = (byS M t k).1.length ∧ Own w' 5 (.slice p' n' c') (byS M t k).1 ∧ (∀ x ∈ blk p', W.heap.size ≤ x) ∧ FrQ w1 w' b q d M (byS M t k).2 ∧ Frm [b] W w' from ⟨p', n', c', h1, h2, h3, h4, hW.next h5 h6, h6⟩)))
  have HNB := hid (fun (t : Rst) => nuS_bd HMB.out t 2 (by omega))
  have be : ((0 : Int) != 0) = false := rfl
  clear he hf2 hq hM hw3 hrow3 hf3 hqb HBO HQ2
  go_upto_region 5 with fail
  first | rw [HQB.out] | skip
  first | rw [HW3.out] | skip
  clear HQB HW3 be
  obtain ⟨v1, hv1⟩ : ∃ v, f1 M = v := ⟨_, rfl⟩
  have HV1 := hid hv1
  have hc := HI.out 1 (by omega) (by omega) _ _ HR0.out
  have ee : nuS M (0, 0) 1 = v1 := by exact hv1
  rw [ee] at hc
  have HC := hid hc
  clear hc ee hv1
  go_wp2_with fail
  refine HC.out.mono ?_
  rintro e x1 ⟨rfl, hr, hf⟩
  have HRX := hid hr
  have hrow := hf.heap HQ0.out (by simpa using HNE.out.1)
  have z : x1.cell? ⟨qb, 0, none⟩ = some (.int .i64 0) := by rw [cell_of_row _ _ _ _ _ _ hrow]; rfl
  have y := frozen_of_row x1 qb 0 _ _ hrow
  go_upto_region 6 with fail
  obtain ⟨h4, f4⟩ := sets_rowF qb 24 [(0, .int .i64 v1.1)] x1 _ hrow
  simp only [List.foldl, List.setIfInBounds_toArray, List.set_cons_zero] at h4
  obtain ⟨W1, hW1⟩ : ∃ z, setsF x1 qb [(0, .int .i64 v1.1)] = z := ⟨_, rfl⟩
  rw [hW1] at h4 f4
  have hwz : x1.setCell ⟨qb, 0, none⟩ (.int .i64 v1.1) = W1 := hW1
  rw [hwz]
  have HQ1 := hid h4
  have HR1 : Hid (FrQ w1 W1 b q d M v1.2) := hid (frQ_set HRX.out f4 HNE.out.1 HNE.out.2.1 HNE.out.2.2)
  clear h4 f4 hwz hW1 hrow hr hf z y HRX HC HQ0 HR0
  obtain ⟨v2, hv2⟩ : ∃ v, f2 M = v := ⟨_, rfl⟩
  have HV2 := hid hv2
  have hc := HI.out 4 (by omega) (by omega) _ _ HR1.out
  have ee : nuS M v1.2 4 = v2 := by rw [← HV1.out]; exact hv2
  rw [ee] at hc
  have HC := hid hc
  clear hc ee hv2
  go_wp2_with fail
  refine HC.out.mono ?_
  rintro e x2 ⟨rfl, hr, hf⟩
  have HRX := hid hr
  have hrow := hf.heap HQ1.out (by simpa using HNE.out.1)
  have z : x2.cell? ⟨qb, 1, none⟩ = some (.int .i64 0) := by rw [cell_of_row _ _ _ _ _ _ hrow]; rfl
  have y := frozen_of_row x2 qb 1 _ _ hrow
  go_upto_region 7 with fail
  obtain ⟨h4, f4⟩ := sets_rowF qb 24 [(1, .int .i64 v2.1)] x2 _ hrow
  simp only [List.foldl, List.setIfInBounds_toArray, List.set_cons_zero, List.set_cons_succ] at h4
  obtain ⟨W2, hW2⟩ : ∃ z, setsF x2 qb [(1, .int .i64 v2.1)] = z := ⟨_, rfl⟩
  rw [hW2] at h4 f4
  have hwz : x2.setCell ⟨qb, 1, none⟩ (.int .i64 v2.1) = W2 := hW2
  rw [hwz]
  have HQ2 := hid h4
  have HR2 : Hid (FrQ w1 W2 b q d M v2.2) := hid (frQ_set HRX.out f4 HNE.out.1 HNE.out.2.1 HNE.out.2.2)
  clear h4 f4 hwz hW2 hrow hr hf z y HRX HC HQ1 HR1
  obtain ⟨v3, hv3⟩ : ∃ v, f3 M = v := ⟨_, rfl⟩
  have HV3 := hid hv3
  have hc := HI.out 1 (by omega) (by omega) _ _ HR2.out
  have ee : nuS M v2.2 1 = v3 := by rw [← HV2.out]; exact hv3
  rw [ee] at hc
  have HC := hid hc
  clear hc ee hv3
  go_wp2_with fail
  refine HC.out.mono ?_
  rintro e x3 ⟨rfl, hr, hf⟩
  have HRX := hid hr
  have hrow := hf.heap HQ2.out (by simpa using HNE.out.1)
  have z : x3.cell? ⟨qb, 2, none⟩ = some (.int .i64 0) := by rw [cell_of_row _ _ _ _ _ _ hrow]; rfl
  have y := frozen_of_row x3 qb 2 _ _ hrow
  go_upto_region 8 with fail
  obtain ⟨h4, f4⟩ := sets_rowF qb 24 [(2, .int .i64 v3.1)] x3 _ hrow
  simp only [List.foldl, List.setIfInBounds_toArray, List.set_cons_zero, List.set_cons_succ] at h4
  obtain ⟨W3, hW3⟩ : ∃ z, setsF x3 qb [(2, .int .i64 v3.1)] = z := ⟨_, rfl⟩
  rw [hW3] at h4 f4
  have hwz : x3.setCell ⟨qb, 2, none⟩ (.int .i64 v3.1) = W3 := hW3
  rw [hwz]
  have HQ3 := hid h4
  have HR3 : Hid (FrQ w1 W3 b q d M v3.2) := hid (frQ_set HRX.out f4 HNE.out.1 HNE.out.2.1 HNE.out.2.2)
  clear h4 f4 hwz hW3 hrow hr hf z y HRX HC HQ2 HR2
  obtain ⟨v4, hv4⟩ : ∃ v, f4 M = v := ⟨_, rfl⟩
  have HV4 := hid hv4
  have hc := HT.out 240 (by omega) (by omega) _ _ HR3.out
  have ee : txM M v3.2 240 = v4 := by rw [← HV3.out]; exact hv4
  rw [ee] at hc
  have HC := hid hc
  clear hc ee hv4
  go_wp2_with fail
  refine HC.out.mono ?_
  rintro e x4 ⟨rfl, hr, hf⟩
  have HRX := hid hr
  have hrow := hf.heap HQ3.out (by simpa using HNE.out.1)
  have z : x4.cell? ⟨qb, 3, none⟩ = some (.string ⟨#[]⟩) := by rw [cell_of_row _ _ _ _ _ _ hrow]; rfl
  have y := frozen_of_row x4 qb 3 _ _ hrow
  go_upto_region 9 with fail
  obtain ⟨h4, f4⟩ := sets_rowF qb 24 [(3, .string (strOfNums v4.1))] x4 _ hrow
  simp only [List.foldl, List.setIfInBounds_toArray, List.set_cons_zero, List.set_cons_succ] at h4
  obtain ⟨W4, hW4⟩ : ∃ z, setsF x4 qb [(3, .string (strOfNums v4.1))] = z := ⟨_, rfl⟩
  rw [hW4] at h4 f4
  have hwz : x4.setCell ⟨qb, 3, none⟩ (.string (strOfNums v4.1)) = W4 := hW4
  rw [hwz]
  have HQ4 := hid h4
  have HR4 : Hid (FrQ w1 W4 b q d M v4.2) := hid (frQ_set HRX.out f4 HNE.out.1 HNE.out.2.1 HNE.out.2.2)
  clear h4 f4 hwz hW4 hrow hr hf z y HRX HC HQ3 HR3
  obtain ⟨v5, hv5⟩ : ∃ v, f5 M = v := ⟨_, rfl⟩
  have HV5 := hid hv5
  have hc := HT.out 240 (by omega) (by omega) _ _ HR4.out
  have ee : txM M v4.2 240 = v5 := by rw [← HV4.out]; exact hv5
  rw [ee] at hc
  have HC := hid hc
  clear hc ee hv5
  go_wp2_with fail
  refine HC.out.mono ?_
  rintro e x5 ⟨rfl, hr, hf⟩
  have HRX := hid hr
  have hrow := hf.heap HQ4.out (by simpa using HNE.out.1)
  have z : x5.cell? ⟨qb, 4, none⟩ = some (.string ⟨#[]⟩) := by rw [cell_of_row _ _ _ _ _ _ hrow]; rfl
  have y := frozen_of_row x5 qb 4 _ _ hrow
  go_upto_region 10 with fail
  obtain ⟨h4, f4⟩ := sets_rowF qb 24 [(4, .string (strOfNums v5.1))] x5 _ hrow
  simp only [List.foldl, List.setIfInBounds_toArray, List.set_cons_zero, List.set_cons_succ] at h4
  obtain ⟨W5, hW5⟩ : ∃ z, setsF x5 qb [(4, .string (strOfNums v5.1))] = z := ⟨_, rfl⟩
  rw [hW5] at h4 f4
  have hwz : x5.setCell ⟨qb, 4, none⟩ (.string (strOfNums v5.1)) = W5 := hW5
  rw [hwz]
  have HQ5 := hid h4
  have HR5 : Hid (FrQ w1 W5 b q d M v5.2) := hid (frQ_set HRX.out f4 HNE.out.1 HNE.out.2.1 HNE.out.2.2)
  clear h4 f4 hwz hW5 hrow hr hf z y HRX HC HQ4 HR4
  obtain ⟨v6, hv6⟩ : ∃ v, f6 M = v := ⟨_, rfl⟩
  have HV6 := hid hv6
  have hc := HT.out 240 (by omega) (by omega) _ _ HR5.out
  have ee : txM M v5.2 240 = v6 := by rw [← HV5.out]; exact hv6
  rw [ee] at hc
  have HC := hid hc
  clear hc ee hv6
  go_wp2_with fail
  refine HC.out.mono ?_
  rintro e x6 ⟨rfl, hr, hf⟩
  have HRX := hid hr
  have hrow := hf.heap HQ5.out (by simpa using HNE.out.1)
  have z : x6.cell? ⟨qb, 5, none⟩ = some (.string ⟨#[]⟩) := by rw [cell_of_row _ _ _ _ _ _ hrow]; rfl
  have y := frozen_of_row x6 qb 5 _ _ hrow
  go_upto_region 11 with fail
  obtain ⟨h4, f4⟩ := sets_rowF qb 24 [(5, .string (strOfNums v6.1))] x6 _ hrow
  simp only [List.foldl, List.setIfInBounds_toArray, List.set_cons_zero, List.set_cons_succ] at h4
  obtain ⟨W6, hW6⟩ : ∃ z, setsF x6 qb [(5, .string (strOfNums v6.1))] = z := ⟨_, rfl⟩
  rw [hW6] at h4 f4
  have hwz : x6.setCell ⟨qb, 5, none⟩ (.string (strOfNums v6.1)) = W6 := hW6
  rw [hwz]
  have HQ6 := hid h4
  have HR6 : Hid (FrQ w1 W6 b q d M v6.2) := hid (frQ_set HRX.out f4 HNE.out.1 HNE.out.2.1 HNE.out.2.2)
  clear h4 f4 hwz hW6 hrow hr hf z y HRX HC HQ5 HR5
  obtain ⟨v7, hv7⟩ : ∃ v, f7 M = v := ⟨_, rfl⟩
  have HV7 := hid hv7
  have hc := HT.out 240 (by omega) (by omega) _ _ HR6.out
  have ee : txM M v6.2 240 = v7 := by rw [← HV6.out]; exact hv7
  rw [ee] at hc
  have HC := hid hc
  clear hc ee hv7
  go_wp2_with fail
  refine HC.out.mono ?_
  rintro e x7 ⟨rfl, hr, hf⟩
  have HRX := hid hr
  have hrow := hf.heap HQ6.out (by simpa using HNE.out.1)
  have z : x7.cell? ⟨qb, 6, none⟩ = some (.string ⟨#[]⟩) := by rw [cell_of_row _ _ _ _ _ _ hrow]; rfl
  have y := frozen_of_row x7 qb 6 _ _ hrow
  go_upto_region 12 with fail
  obtain ⟨h4, f4⟩ := sets_rowF qb 24 [(6, .string (strOfNums v7.1))] x7 _ hrow
  simp only [List.foldl, List.setIfInBounds_toArray, List.set_cons_zero, List.set_cons_succ] at h4
  obtain ⟨W7, hW7⟩ : ∃ z, setsF x7 qb [(6, .string (strOfNums v7.1))] = z := ⟨_, rfl⟩
  rw [hW7] at h4 f4
  have hwz : x7.setCell ⟨qb, 6, none⟩ (.string (strOfNums v7.1)) = W7 := hW7
  rw [hwz]
  have HQ7 := hid h4
  have HR7 : Hid (FrQ w1 W7 b q d M v7.2) := hid (frQ_set HRX.out f4 HNE.out.1 HNE.out.2.1 HNE.out.2.2)
  clear h4 f4 hwz hW7 hrow hr hf z y HRX HC HQ6 HR6
  obtain ⟨v8, hv8⟩ : ∃ v, f8 M = v := ⟨_, rfl⟩
  have HV8 := hid hv8
  have hc := HI.out 6 (by omega) (by omega) _ _ HR7.out
  have ee : nuS M v7.2 6 = v8 := by rw [← HV7.out]; exact hv8
  rw [ee] at hc
  have HC := hid hc
  clear hc ee hv8
  go_wp2_with fail
  refine HC.out.mono ?_
  rintro e x8 ⟨rfl, hr, hf⟩
  have HRX := hid hr
  have hrow := hf.heap HQ7.out (by simpa using HNE.out.1)
  have z : x8.cell? ⟨qb, 7, none⟩ = some (.int .i64 0) := by rw [cell_of_row _ _ _ _ _ _ hrow]; rfl
  have y := frozen_of_row x8 qb 7 _ _ hrow
  go_upto_region 13 with fail
  obtain ⟨h4, f4⟩ := sets_rowF qb 24 [(7, .int .i64 v8.1)] x8 _ hrow
  simp only [List.foldl, List.setIfInBounds_toArray, List.set_cons_zero, List.set_cons_succ] at h4
  obtain ⟨W8, hW8⟩ : ∃ z, setsF x8 qb [(7, .int .i64 v8.1)] = z := ⟨_, rfl⟩
  rw [hW8] at h4 f4
  have hwz : x8.setCell ⟨qb, 7, none⟩ (.int .i64 v8.1) = W8 := hW8
  rw [hwz]
  have HQ8 := hid h4
  have HR8 : Hid (FrQ w1 W8 b q d M v8.2) := hid (frQ_set HRX.out f4 HNE.out.1 HNE.out.2.1 HNE.out.2.2)
  clear h4 f4 hwz hW8 hrow hr hf z y HRX HC HQ7 HR7
  obtain ⟨v9, hv9⟩ : ∃ v, f9 M = v := ⟨_, rfl⟩
  have HV9 := hid hv9
  have hc := HI.out 6 (by omega) (by omega) _ _ HR8.out
  have ee : nuS M v8.2 6 = v9 := by rw [← HV8.out]; exact hv9
  rw [ee] at hc
  have HC := hid hc
  clear hc ee hv9
  go_wp2_with fail
  refine HC.out.mono ?_
  rintro e x9 ⟨rfl, hr, hf⟩
  have HRX := hid hr
  have hrow := hf.heap HQ8.out (by simpa using HNE.out.1)
  have z : x9.cell? ⟨qb, 8, none⟩ = some (.int .i64 0) := by rw [cell_of_row _ _ _ _ _ _ hrow]; rfl
  have y := frozen_of_row x9 qb 8 _ _ hrow
  go_upto_region 14 with fail
  obtain ⟨h4, f4⟩ := sets_rowF qb 24 [(8, .int .i64 v9.1)] x9 _ hrow
  simp only [List.foldl, List.setIfInBounds_toArray, List.set_cons_zero, List.set_cons_succ] at h4
  obtain ⟨W9, hW9⟩ : ∃ z, setsF x9 qb [(8, .int .i64 v9.1)] = z := ⟨_, rfl⟩
  rw [hW9] at h4 f4
  have hwz : x9.setCell ⟨qb, 8, none⟩ (.int .i64 v9.1) = W9 := hW9
  rw [hwz]
  have HQ9 := hid h4
  have HR9 : Hid (FrQ w1 W9 b q d M v9.2) := hid (frQ_set HRX.out f4 HNE.out.1 HNE.out.2.1 HNE.out.2.2)
  clear h4 f4 hwz hW9 hrow hr hf z y HRX HC HQ8 HR8
  obtain ⟨v10, hv10⟩ : ∃ v, f10 M = v := ⟨_, rfl⟩
  have HV10 := hid hv10
  have hc := HI.out 2 (by omega) (by omega) _ _ HR9.out
  have ee : nuS M v9.2 2 = v10 := by rw [← HV9.out]; exact hv10
  rw [ee] at hc
  have HC := hid hc
  clear hc ee hv10
  go_wp2_with fail
  refine HC.out.mono ?_
  rintro e x10 ⟨rfl, hr, hf⟩
  have HRX := hid hr
  have hrow := hf.heap HQ9.out (by simpa using HNE.out.1)
  have HQ10 := hid hrow
  have HR10 := hid hr
  clear hrow hr hf HRX HC HQ9 HR9
  obtain ⟨v11, hv11⟩ : ∃ v, f11 M = v := ⟨_, rfl⟩
  have HV11 := hid hv11
  have hb10 : 0 ≤ v10.1 ∧ v10.1 < 72057594037927936 := by rw [← HV10.out]; exact HNB.out _
  have hc := HY.out v10.1 (by omega) (by omega) _ _ HR10.out
  have ee : byS M v10.2 v10.1 = v11 := by rw [← HV10.out]; exact hv11
  rw [ee] at hc
  have HC := hid hc
  clear hc ee hv11
  go_wp2_with fail
  refine HC.out.mono ?_
  rintro e x11 ⟨p1, n1, c1, rfl, hn1, ho1, hw1', hr, hf⟩
  have hrow := hf.heap HQ10.out (by simpa using HNE.out.1)
  have z : x11.cell? ⟨qb, 9, none⟩ = some (.slice none 0 0) := by rw [cell_of_row _ _ _ _ _ _ hrow]; rfl
  have y := frozen_of_row x11 qb 9 _ _ hrow
  have HRX := hid hr
  have HOX := hid ho1
  have HN1 := hid hn1
  have HNP : Hid (∀ k ∈ blk p1, w1.heap.size ≤ k ∧ k ≠ qb) := hid (fun k hk => by have h1 := hw1' k hk; have h2 := HR10.out.2.1.size; have h3 := lt_of_heap HQ10.out; omega)
  clear hn1 hw1' ho1
  go_upto_region 16 with fail
  obtain ⟨h4, f4⟩ := sets_rowF qb 24 [(9, .slice p1 n1 c1)] x11 _ hrow
  simp only [List.foldl, List.setIfInBounds_toArray, List.set_cons_zero, List.set_cons_succ] at h4
  obtain ⟨W11, hW11⟩ : ∃ z, setsF x11 qb [(9, .slice p1 n1 c1)] = z := ⟨_, rfl⟩
  rw [hW11] at h4 f4
  have hwz : x11.setCell ⟨qb, 9, none⟩ (.slice p1 n1 c1) = W11 := hW11
  rw [hwz]
  have HQ11 := hid h4
  have HR11 : Hid (FrQ w1 W11 b q d M v11.2) := hid (frQ_set HRX.out f4 HNE.out.1 HNE.out.2.1 HNE.out.2.2)
  have HO11 : Hid (Own W11 5 (.slice p1 n1 c1) v11.1) := hid (HOX.out.kept f4 (by rw [own_blk]; exact fun k hk hm => by rw [List.mem_singleton] at hm; exact (HNP.out k hk).2 hm))
  clear h4 f4 hwz hW11 hrow hr hf z y HRX HOX HC HQ10 HR10
  have HDN := hid (qdone_any b d v11.2.1 q M v11.2.2 W11 HR11.out.1)
  obtain ⟨DN, hDN⟩ : ∃ z, doneS M.length v11.2.1 v11.2.2 = z := ⟨_, rfl⟩
  rw [hDN] at HDN
  have HDE := hid hDN
  clear hDN
  have HMQ := hid (fun V => asks_any (reqD M p1 n1 c1) V)
  have HOKI : Hid (okQ M ↔ DN = 0 ∧ MayQ (reqD M p1 n1 c1)) := hid (by unfold okQ; rw [HV11.out, HDE.out, ← HN1.out]; exact Iff.rfl)
  have HAR : Hid ((reqD M p1 n1 c1).arr = #[.int .i64 v1.1, .int .i64 v2.1, .int .i64 v3.1, .string (strOfNums v4.1), .string (strOfNums v5.1), .string (strOfNums v6.1), .string (strOfNums v7.1), .int .i64 v8.1, .int .i64 v9.1, .slice p1 n1 c1]) := hid (by unfold reqD; rw [HV1.out, HV2.out, HV3.out, HV4.out, HV5.out, HV6.out, HV7.out, HV8.out, HV9.out]; rfl)
  rw [HAR.out] at HMQ
  obtain ⟨MY, hMY⟩ : ∃ z, MayQ (reqD M p1 n1 c1) = z := ⟨_, rfl⟩
  have HMY := hid hMY
  clear hMY
  have z0 : W11.cell? ⟨qb, 0, none⟩ = some (.int .i64 v1.1) := by rw [cell_of_row _ _ _ _ _ _ HQ11.out]; rfl
  have z1 : W11.cell? ⟨qb, 1, none⟩ = some (.int .i64 v2.1) := by rw [cell_of_row _ _ _ _ _ _ HQ11.out]; rfl
  have z2 : W11.cell? ⟨qb, 2, none⟩ = some (.int .i64 v3.1) := by rw [cell_of_row _ _ _ _ _ _ HQ11.out]; rfl
  have z3 : W11.cell? ⟨qb, 3, none⟩ = some (.string (strOfNums v4.1)) := by rw [cell_of_row _ _ _ _ _ _ HQ11.out]; rfl
  have z4 : W11.cell? ⟨qb, 4, none⟩ = some (.string (strOfNums v5.1)) := by rw [cell_of_row _ _ _ _ _ _ HQ11.out]; rfl
  have z5 : W11.cell? ⟨qb, 5, none⟩ = some (.string (strOfNums v6.1)) := by rw [cell_of_row _ _ _ _ _ _ HQ11.out]; rfl
  have z6 : W11.cell? ⟨qb, 6, none⟩ = some (.string (strOfNums v7.1)) := by rw [cell_of_row _ _ _ _ _ _ HQ11.out]; rfl
  have z7 : W11.cell? ⟨qb, 7, none⟩ = some (.int .i64 v8.1) := by rw [cell_of_row _ _ _ _ _ _ HQ11.out]; rfl
  have z8 : W11.cell? ⟨qb, 8, none⟩ = some (.int .i64 v9.1) := by rw [cell_of_row _ _ _ _ _ _ HQ11.out]; rfl
  have z9 : W11.cell? ⟨qb, 9, none⟩ = some (.slice p1 n1 c1) := by rw [cell_of_row _ _ _ _ _ _ HQ11.out]; rfl
  go_wp2_with fail
  refine HDN.out.mono ?_
  rintro e w10 ⟨rfl, k10, hk10⟩
  subst hk10
  go_wp2_with fail
  refine (HMQ.out _).mono ?_
  rintro e w11 ⟨rfl, hf11⟩
  have HF11 : Hid (Frm [] w1 w11) := hid ((HR11.out.2.1.trans ((Frm.refl [] W11).drewN k10) (by simp)).trans hf11 (by simp))
  have HQ11 := hid (hf11.heap (((Frm.refl [] W11).drewN k10).heap HQ11.out (by simp)) (by simp))
  have HO11 : Hid (Own w11 5 (.slice p1 n1 c1) v11.1) := hid ((HO11.out.kept ((Frm.refl [] W11).drewN k10) (by simp)).kept hf11 (by simp))
  clear hf11 z0 z1 z2 z3 z4 z5 z6 z7 z8 z9 HDN HMQ
  have hrr := HRB.out w11 HF11.out
  by_cases hok : okQ M
  case neg =>
    have HE := hid (HDOC.out.2 hok)
    by_cases hd0 : DN = 0
    case pos =>
      have hmy : ¬ MayQ (reqD M p1 n1 c1) := fun h => hok (HOKI.out.2 ⟨hd0, h⟩)
      subst hd0
      rw [decide_eq_false hmy]
      clear hmy hok
      have v0' : w11.cell? ⟨rb, 0, none⟩ = some (.int .i64 0) := by rw [cell_of_row _ _ _ _ _ _ hrr]; rfl
      have y0' := frozen_of_row w11 rb 0 _ _ hrr
      have v1' : w11.cell? ⟨rb, 1, none⟩ = some (.int .i64 0) := by rw [cell_of_row _ _ _ _ _ _ hrr]; rfl
      have y1' := frozen_of_row w11 rb 1 _ _ hrr
      have v2' : w11.cell? ⟨rb, 2, none⟩ = some (.int .i64 0) := by rw [cell_of_row _ _ _ _ _ _ hrr]; rfl
      have y2' := frozen_of_row w11 rb 2 _ _ hrr
      have v3' : w11.cell? ⟨rb, 3, none⟩ = some (.string ⟨#[]⟩) := by rw [cell_of_row _ _ _ _ _ _ hrr]; rfl
      have y3' := frozen_of_row w11 rb 3 _ _ hrr
      have v4' : w11.cell? ⟨rb, 4, none⟩ = some (.string ⟨#[]⟩) := by rw [cell_of_row _ _ _ _ _ _ hrr]; rfl
      have y4' := frozen_of_row w11 rb 4 _ _ hrr
      have v5' : w11.cell? ⟨rb, 5, none⟩ = some (.string ⟨#[]⟩) := by rw [cell_of_row _ _ _ _ _ _ hrr]; rfl
      have y5' := frozen_of_row w11 rb 5 _ _ hrr
      have v6' : w11.cell? ⟨rb, 6, none⟩ = some (.string ⟨#[]⟩) := by rw [cell_of_row _ _ _ _ _ _ hrr]; rfl
      have y6' := frozen_of_row w11 rb 6 _ _ hrr
      have v7' : w11.cell? ⟨rb, 7, none⟩ = some (.int .i64 0) := by rw [cell_of_row _ _ _ _ _ _ hrr]; rfl
      have y7' := frozen_of_row w11 rb 7 _ _ hrr
      have v8' : w11.cell? ⟨rb, 8, none⟩ = some (.int .i64 0) := by rw [cell_of_row _ _ _ _ _ _ hrr]; rfl
      have y8' := frozen_of_row w11 rb 8 _ _ hrr
      have v9' : w11.cell? ⟨rb, 9, none⟩ = some (.slice none 0 0) := by rw [cell_of_row _ _ _ _ _ _ hrr]; rfl
      have y9' := frozen_of_row w11 rb 9 _ _ hrr
      go_wp2_with fail
      obtain ⟨h5, f5⟩ := sets_rowF rb 24 [(0, .int .i64 0), (1, .int .i64 0), (2, .int .i64 0), (3, .string ⟨#[]⟩), (4, .string ⟨#[]⟩), (5, .string ⟨#[]⟩), (6, .string ⟨#[]⟩), (7, .int .i64 0), (8, .int .i64 0), (9, .slice none 0 0)] w11 _ hrr
      simp only [List.foldl, List.setIfInBounds_toArray, List.set_cons_zero, List.set_cons_succ] at h5
      obtain ⟨Wz, hWz⟩ : ∃ z, setsF w11 rb [(0, .int .i64 0), (1, .int .i64 0), (2, .int .i64 0), (3, .string ⟨#[]⟩), (4, .string ⟨#[]⟩), (5, .string ⟨#[]⟩), (6, .string ⟨#[]⟩), (7, .int .i64 0), (8, .int .i64 0), (9, .slice none 0 0)] = z := ⟨_, rfl⟩
      rw [hWz] at h5 f5
      have hwz : ((((((((((w11.setCell ⟨rb, 0, none⟩ (.int .i64 0)).setCell ⟨rb, 1, none⟩ (.int .i64 0)).setCell ⟨rb, 2, none⟩ (.int .i64 0)).setCell ⟨rb, 3, none⟩ (.string ⟨#[]⟩)).setCell ⟨rb, 4, none⟩ (.string ⟨#[]⟩)).setCell ⟨rb, 5, none⟩ (.string ⟨#[]⟩)).setCell ⟨rb, 6, none⟩ (.string ⟨#[]⟩)).setCell ⟨rb, 7, none⟩ (.int .i64 0)).setCell ⟨rb, 8, none⟩ (.int .i64 0)).setCell ⟨rb, 9, none⟩ (.slice none 0 0)) = Wz := hWz
      rw [hwz]
      have u0 : Wz.cell? ⟨rb, 0, none⟩ = some (.int .i64 0) := by rw [cell_of_row _ _ _ _ _ _ h5]; rfl
      have u1 : Wz.cell? ⟨rb, 1, none⟩ = some (.int .i64 0) := by rw [cell_of_row _ _ _ _ _ _ h5]; rfl
      have u2 : Wz.cell? ⟨rb, 2, none⟩ = some (.int .i64 0) := by rw [cell_of_row _ _ _ _ _ _ h5]; rfl
      have u3 : Wz.cell? ⟨rb, 3, none⟩ = some (.string ⟨#[]⟩) := by rw [cell_of_row _ _ _ _ _ _ h5]; rfl
      have u4 : Wz.cell? ⟨rb, 4, none⟩ = some (.string ⟨#[]⟩) := by rw [cell_of_row _ _ _ _ _ _ h5]; rfl
      have u5 : Wz.cell? ⟨rb, 5, none⟩ = some (.string ⟨#[]⟩) := by rw [cell_of_row _ _ _ _ _ _ h5]; rfl
      have u6 : Wz.cell? ⟨rb, 6, none⟩ = some (.string ⟨#[]⟩) := by rw [cell_of_row _ _ _ _ _ _ h5]; rfl
      have u7 : Wz.cell? ⟨rb, 7, none⟩ = some (.int .i64 0) := by rw [cell_of_row _ _ _ _ _ _ h5]; rfl
      have u8 : Wz.cell? ⟨rb, 8, none⟩ = some (.int .i64 0) := by rw [cell_of_row _ _ _ _ _ _ h5]; rfl
      have u9 : Wz.cell? ⟨rb, 9, none⟩ = some (.slice none 0 0) := by rw [cell_of_row _ _ _ _ _ _ h5]; rfl
      refine bodyPost_ret (v := .tuple #[.agg #[.int .i64 0, .int .i64 0, .int .i64 0, .string ⟨#[]⟩, .string ⟨#[]⟩, .string ⟨#[]⟩, .string ⟨#[]⟩, .int .i64 0, .int .i64 0, .slice none 0 0], .int .i64 230]) (by simp [results, Tryd.results36, go_sem, u0, u1, u2, u3, u4, u5, u6, u7, u8, u9]) rfl ?_
      exact HBAD.out 230 w11 Wz HE.out (by decide) HF11.out f5
    have bd : (DN != 0) = true := by rw [bne_iff_ne]; exact hd0
    generalize decide (MayQ (reqD M p1 n1 c1)) = DM at *
    clear hok
    have v0' : w11.cell? ⟨rb, 0, none⟩ = some (.int .i64 0) := by rw [cell_of_row _ _ _ _ _ _ hrr]; rfl
    have y0' := frozen_of_row w11 rb 0 _ _ hrr
    have v1' : w11.cell? ⟨rb, 1, none⟩ = some (.int .i64 0) := by rw [cell_of_row _ _ _ _ _ _ hrr]; rfl
    have y1' := frozen_of_row w11 rb 1 _ _ hrr
    have v2' : w11.cell? ⟨rb, 2, none⟩ = some (.int .i64 0) := by rw [cell_of_row _ _ _ _ _ _ hrr]; rfl
    have y2' := frozen_of_row w11 rb 2 _ _ hrr
    have v3' : w11.cell? ⟨rb, 3, none⟩ = some (.string ⟨#[]⟩) := by rw [cell_of_row _ _ _ _ _ _ hrr]; rfl
    have y3' := frozen_of_row w11 rb 3 _ _ hrr
    have v4' : w11.cell? ⟨rb, 4, none⟩ = some (.string ⟨#[]⟩) := by rw [cell_of_row _ _ _ _ _ _ hrr]; rfl
    have y4' := frozen_of_row w11 rb 4 _ _ hrr
    have v5' : w11.cell? ⟨rb, 5, none⟩ = some (.string ⟨#[]⟩) := by rw [cell_of_row _ _ _ _ _ _ hrr]; rfl
    have y5' := frozen_of_row w11 rb 5 _ _ hrr
    have v6' : w11.cell? ⟨rb, 6, none⟩ = some (.string ⟨#[]⟩) := by rw [cell_of_row _ _ _ _ _ _ hrr]; rfl
    have y6' := frozen_of_row w11 rb 6 _ _ hrr
    have v7' : w11.cell? ⟨rb, 7, none⟩ = some (.int .i64 0) := by rw [cell_of_row _ _ _ _ _ _ hrr]; rfl
    have y7' := frozen_of_row w11 rb 7 _ _ hrr
    have v8' : w11.cell? ⟨rb, 8, none⟩ = some (.int .i64 0) := by rw [cell_of_row _ _ _ _ _ _ hrr]; rfl
    have y8' := frozen_of_row w11 rb 8 _ _ hrr
    have v9' : w11.cell? ⟨rb, 9, none⟩ = some (.slice none 0 0) := by rw [cell_of_row _ _ _ _ _ _ hrr]; rfl
    have y9' := frozen_of_row w11 rb 9 _ _ hrr
    go_wp2_with fail
    obtain ⟨h5, f5⟩ := sets_rowF rb 24 [(0, .int .i64 0), (1, .int .i64 0), (2, .int .i64 0), (3, .string ⟨#[]⟩), (4, .string ⟨#[]⟩), (5, .string ⟨#[]⟩), (6, .string ⟨#[]⟩), (7, .int .i64 0), (8, .int .i64 0), (9, .slice none 0 0)] w11 _ hrr
    simp only [List.foldl, List.setIfInBounds_toArray, List.set_cons_zero, List.set_cons_succ] at h5
    obtain ⟨Wz, hWz⟩ : ∃ z, setsF w11 rb [(0, .int .i64 0), (1, .int .i64 0), (2, .int .i64 0), (3, .string ⟨#[]⟩), (4, .string ⟨#[]⟩), (5, .string ⟨#[]⟩), (6, .string ⟨#[]⟩), (7, .int .i64 0), (8, .int .i64 0), (9, .slice none 0 0)] = z := ⟨_, rfl⟩
    rw [hWz] at h5 f5
    have hwz : ((((((((((w11.setCell ⟨rb, 0, none⟩ (.int .i64 0)).setCell ⟨rb, 1, none⟩ (.int .i64 0)).setCell ⟨rb, 2, none⟩ (.int .i64 0)).setCell ⟨rb, 3, none⟩ (.string ⟨#[]⟩)).setCell ⟨rb, 4, none⟩ (.string ⟨#[]⟩)).setCell ⟨rb, 5, none⟩ (.string ⟨#[]⟩)).setCell ⟨rb, 6, none⟩ (.string ⟨#[]⟩)).setCell ⟨rb, 7, none⟩ (.int .i64 0)).setCell ⟨rb, 8, none⟩ (.int .i64 0)).setCell ⟨rb, 9, none⟩ (.slice none 0 0)) = Wz := hWz
    rw [hwz]
    have u0 : Wz.cell? ⟨rb, 0, none⟩ = some (.int .i64 0) := by rw [cell_of_row _ _ _ _ _ _ h5]; rfl
    have u1 : Wz.cell? ⟨rb, 1, none⟩ = some (.int .i64 0) := by rw [cell_of_row _ _ _ _ _ _ h5]; rfl
    have u2 : Wz.cell? ⟨rb, 2, none⟩ = some (.int .i64 0) := by rw [cell_of_row _ _ _ _ _ _ h5]; rfl
    have u3 : Wz.cell? ⟨rb, 3, none⟩ = some (.string ⟨#[]⟩) := by rw [cell_of_row _ _ _ _ _ _ h5]; rfl
    have u4 : Wz.cell? ⟨rb, 4, none⟩ = some (.string ⟨#[]⟩) := by rw [cell_of_row _ _ _ _ _ _ h5]; rfl
    have u5 : Wz.cell? ⟨rb, 5, none⟩ = some (.string ⟨#[]⟩) := by rw [cell_of_row _ _ _ _ _ _ h5]; rfl
    have u6 : Wz.cell? ⟨rb, 6, none⟩ = some (.string ⟨#[]⟩) := by rw [cell_of_row _ _ _ _ _ _ h5]; rfl
    have u7 : Wz.cell? ⟨rb, 7, none⟩ = some (.int .i64 0) := by rw [cell_of_row _ _ _ _ _ _ h5]; rfl
    have u8 : Wz.cell? ⟨rb, 8, none⟩ = some (.int .i64 0) := by rw [cell_of_row _ _ _ _ _ _ h5]; rfl
    have u9 : Wz.cell? ⟨rb, 9, none⟩ = some (.slice none 0 0) := by rw [cell_of_row _ _ _ _ _ _ h5]; rfl
    refine bodyPost_ret (v := .tuple #[.agg #[.int .i64 0, .int .i64 0, .int .i64 0, .string ⟨#[]⟩, .string ⟨#[]⟩, .string ⟨#[]⟩, .string ⟨#[]⟩, .int .i64 0, .int .i64 0, .slice none 0 0], .int .i64 230]) (by simp [results, Tryd.results36, go_sem, u0, u1, u2, u3, u4, u5, u6, u7, u8, u9]) rfl ?_
    exact HBAD.out 230 w11 Wz HE.out (by decide) HF11.out f5
  obtain ⟨hd0, hmy⟩ := HOKI.out.1 hok
  subst hd0
  rw [decide_eq_true hmy]
  obtain ⟨hE0, hD0, hG0⟩ := HDOC.out.1 hok
  have HE := hid hE0
  have HDX : Hid (rqD bs = v11.1) := hid (by rw [hD0, HV11.out])
  have HGX := hid hG0
  clear hE0 hD0 hG0 hmy hok
  have t0 : w11.cell? ⟨qb, 0, none⟩ = some (.int .i64 v1.1) := by rw [cell_of_row _ _ _ _ _ _ HQ11.out]; rfl
  have t1 : w11.cell? ⟨qb, 1, none⟩ = some (.int .i64 v2.1) := by rw [cell_of_row _ _ _ _ _ _ HQ11.out]; rfl
  have t2 : w11.cell? ⟨qb, 2, none⟩ = some (.int .i64 v3.1) := by rw [cell_of_row _ _ _ _ _ _ HQ11.out]; rfl
  have t3 : w11.cell? ⟨qb, 3, none⟩ = some (.string (strOfNums v4.1)) := by rw [cell_of_row _ _ _ _ _ _ HQ11.out]; rfl
  have t4 : w11.cell? ⟨qb, 4, none⟩ = some (.string (strOfNums v5.1)) := by rw [cell_of_row _ _ _ _ _ _ HQ11.out]; rfl
  have t5 : w11.cell? ⟨qb, 5, none⟩ = some (.string (strOfNums v6.1)) := by rw [cell_of_row _ _ _ _ _ _ HQ11.out]; rfl
  have t6 : w11.cell? ⟨qb, 6, none⟩ = some (.string (strOfNums v7.1)) := by rw [cell_of_row _ _ _ _ _ _ HQ11.out]; rfl
  have t7 : w11.cell? ⟨qb, 7, none⟩ = some (.int .i64 v8.1) := by rw [cell_of_row _ _ _ _ _ _ HQ11.out]; rfl
  have t8 : w11.cell? ⟨qb, 8, none⟩ = some (.int .i64 v9.1) := by rw [cell_of_row _ _ _ _ _ _ HQ11.out]; rfl
  have t9 : w11.cell? ⟨qb, 9, none⟩ = some (.slice p1 n1 c1) := by rw [cell_of_row _ _ _ _ _ _ HQ11.out]; rfl
  have v0' : w11.cell? ⟨rb, 0, none⟩ = some (.int .i64 0) := by rw [cell_of_row _ _ _ _ _ _ hrr]; rfl
  have y0' := frozen_of_row w11 rb 0 _ _ hrr
  have v1' : w11.cell? ⟨rb, 1, none⟩ = some (.int .i64 0) := by rw [cell_of_row _ _ _ _ _ _ hrr]; rfl
  have y1' := frozen_of_row w11 rb 1 _ _ hrr
  have v2' : w11.cell? ⟨rb, 2, none⟩ = some (.int .i64 0) := by rw [cell_of_row _ _ _ _ _ _ hrr]; rfl
  have y2' := frozen_of_row w11 rb 2 _ _ hrr
  have v3' : w11.cell? ⟨rb, 3, none⟩ = some (.string ⟨#[]⟩) := by rw [cell_of_row _ _ _ _ _ _ hrr]; rfl
  have y3' := frozen_of_row w11 rb 3 _ _ hrr
  have v4' : w11.cell? ⟨rb, 4, none⟩ = some (.string ⟨#[]⟩) := by rw [cell_of_row _ _ _ _ _ _ hrr]; rfl
  have y4' := frozen_of_row w11 rb 4 _ _ hrr
  have v5' : w11.cell? ⟨rb, 5, none⟩ = some (.string ⟨#[]⟩) := by rw [cell_of_row _ _ _ _ _ _ hrr]; rfl
  have y5' := frozen_of_row w11 rb 5 _ _ hrr
  have v6' : w11.cell? ⟨rb, 6, none⟩ = some (.string ⟨#[]⟩) := by rw [cell_of_row _ _ _ _ _ _ hrr]; rfl
  have y6' := frozen_of_row w11 rb 6 _ _ hrr
  have v7' : w11.cell? ⟨rb, 7, none⟩ = some (.int .i64 0) := by rw [cell_of_row _ _ _ _ _ _ hrr]; rfl
  have y7' := frozen_of_row w11 rb 7 _ _ hrr
  have v8' : w11.cell? ⟨rb, 8, none⟩ = some (.int .i64 0) := by rw [cell_of_row _ _ _ _ _ _ hrr]; rfl
  have y8' := frozen_of_row w11 rb 8 _ _ hrr
  have v9' : w11.cell? ⟨rb, 9, none⟩ = some (.slice none 0 0) := by rw [cell_of_row _ _ _ _ _ _ hrr]; rfl
  have y9' := frozen_of_row w11 rb 9 _ _ hrr
  go_wp2_with fail
  obtain ⟨h5, f5⟩ := sets_rowF rb 24 [(0, .int .i64 v1.1), (1, .int .i64 v2.1), (2, .int .i64 v3.1), (3, .string (strOfNums v4.1)), (4, .string (strOfNums v5.1)), (5, .string (strOfNums v6.1)), (6, .string (strOfNums v7.1)), (7, .int .i64 v8.1), (8, .int .i64 v9.1), (9, .slice p1 n1 c1)] w11 _ hrr
  simp only [List.foldl, List.setIfInBounds_toArray, List.set_cons_zero, List.set_cons_succ] at h5
  obtain ⟨Wz, hWz⟩ : ∃ z, setsF w11 rb [(0, .int .i64 v1.1), (1, .int .i64 v2.1), (2, .int .i64 v3.1), (3, .string (strOfNums v4.1)), (4, .string (strOfNums v5.1)), (5, .string (strOfNums v6.1)), (6, .string (strOfNums v7.1)), (7, .int .i64 v8.1), (8, .int .i64 v9.1), (9, .slice p1 n1 c1)] = z := ⟨_, rfl⟩
  rw [hWz] at h5 f5
  have hwz : ((((((((((w11.setCell ⟨rb, 0, none⟩ (.int .i64 v1.1)).setCell ⟨rb, 1, none⟩ (.int .i64 v2.1)).setCell ⟨rb, 2, none⟩ (.int .i64 v3.1)).setCell ⟨rb, 3, none⟩ (.string (strOfNums v4.1))).setCell ⟨rb, 4, none⟩ (.string (strOfNums v5.1))).setCell ⟨rb, 5, none⟩ (.string (strOfNums v6.1))).setCell ⟨rb, 6, none⟩ (.string (strOfNums v7.1))).setCell ⟨rb, 7, none⟩ (.int .i64 v8.1)).setCell ⟨rb, 8, none⟩ (.int .i64 v9.1)).setCell ⟨rb, 9, none⟩ (.slice p1 n1 c1)) = Wz := hWz
  rw [hwz]
  have u0 : Wz.cell? ⟨rb, 0, none⟩ = some (.int .i64 v1.1) := by rw [cell_of_row _ _ _ _ _ _ h5]; rfl
  have u1 : Wz.cell? ⟨rb, 1, none⟩ = some (.int .i64 v2.1) := by rw [cell_of_row _ _ _ _ _ _ h5]; rfl
  have u2 : Wz.cell? ⟨rb, 2, none⟩ = some (.int .i64 v3.1) := by rw [cell_of_row _ _ _ _ _ _ h5]; rfl
  have u3 : Wz.cell? ⟨rb, 3, none⟩ = some (.string (strOfNums v4.1)) := by rw [cell_of_row _ _ _ _ _ _ h5]; rfl
  have u4 : Wz.cell? ⟨rb, 4, none⟩ = some (.string (strOfNums v5.1)) := by rw [cell_of_row _ _ _ _ _ _ h5]; rfl
  have u5 : Wz.cell? ⟨rb, 5, none⟩ = some (.string (strOfNums v6.1)) := by rw [cell_of_row _ _ _ _ _ _ h5]; rfl
  have u6 : Wz.cell? ⟨rb, 6, none⟩ = some (.string (strOfNums v7.1)) := by rw [cell_of_row _ _ _ _ _ _ h5]; rfl
  have u7 : Wz.cell? ⟨rb, 7, none⟩ = some (.int .i64 v8.1) := by rw [cell_of_row _ _ _ _ _ _ h5]; rfl
  have u8 : Wz.cell? ⟨rb, 8, none⟩ = some (.int .i64 v9.1) := by rw [cell_of_row _ _ _ _ _ _ h5]; rfl
  have u9 : Wz.cell? ⟨rb, 9, none⟩ = some (.slice p1 n1 c1) := by rw [cell_of_row _ _ _ _ _ _ h5]; rfl
  refine bodyPost_ret (v := .tuple #[.agg #[.int .i64 v1.1, .int .i64 v2.1, .int .i64 v3.1, .string (strOfNums v4.1), .string (strOfNums v5.1), .string (strOfNums v6.1), .string (strOfNums v7.1), .int .i64 v8.1, .int .i64 v9.1, .slice p1 n1 c1], .int .i64 0]) (by simp [results, Tryd.results36, go_sem, u0, u1, u2, u3, u4, u5, u6, u7, u8, u9]) rfl ?_
  exact HP.out _ _ ⟨p1, n1, c1, by rw [HGX.out, HE.out, HAR.out], by rw [HDX.out]; exact HN1.out, by rw [HDX.out]; exact HO11.out.kept f5 (by rw [own_blk]; exact fun k hk hm => by rw [List.mem_singleton] at hm; have := (HNP.out k hk).1; have := HRL.out; omega), fun k hk => by have := (HNP.out k hk).1; have := HF1.out.size; omega, (HF1.out.trans HF11.out (by simp)).trans f5 (fun i hi hl => by rw [List.mem_singleton] at hi; have := HRS.out; omega)⟩
end
end Go.Proofs.YtignoocdeghiaaaDoor
