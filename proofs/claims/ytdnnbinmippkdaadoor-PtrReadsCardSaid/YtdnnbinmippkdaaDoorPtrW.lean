/- Contracts of package ptr: DecodeLabel. -/
import Derived.Test.YtdnnbinmippkdaaDoorPtrV
namespace Go.Proofs.YtdnnbinmippkdaaDoor
open Go.RowKit
set_option maxRecDepth 100000

/-- What DecodeLabel answers. -/
def decL (bs : List Int) : LabV × Int := if bs.length ≠ 128 then (zeroL, 43) else if sumOk bs = false then (zeroL, 43) else decBL (bs.take 96)
set_option maxHeartbeats 1600000 in
theorem decodeL_any (ad : Option Addr) (n c : Nat) (bs : List Int) (w : World) (hn : bs.length = n) (hc : n ≤ c) (hrd : Rd w ad bs) (hb : ∀ z ∈ bs, 0 ≤ z ∧ z < 256) :
    Calls Tryd.prog 26 #[.slice ad n c] w (DecA w (decL bs)) := by
  have HROW := hid (heap_alloc_new w (.cells #[.int .u64 0, .slice none 0 0, .int .i64 0, .int .i64 0] 37))
  have HFA : Hid (Frm [] w (w.alloc (.cells #[.int .u64 0, .slice none 0 0, .int .i64 0, .int .i64 0] 37))) := hid ((Frm.refl _ _).alloc _)
  by_cases h128 : n = 128
  case neg =>
    have HOS := hid (fun W => open_short ad n c W h128)
    have hd : decL bs = (zeroL, 43) := by unfold decL; rw [if_pos (by rw [hn]; exact h128)]
    rw [hd]
    obtain ⟨PO, hPO⟩ : ∃ PO, DecA w (zeroL, 43) = PO := ⟨_, rfl⟩
    rw [hPO]
    have HPO := hid hPO
    clear hPO hd hn hb
    go_enter Tryd.func26, Tryd.ntmps26
    go_wp2_with fail
    obtain ⟨rb, hrb⟩ : ∃ rb, w.heap.size = rb := ⟨_, rfl⟩
    obtain ⟨wa, hwa⟩ : ∃ wa, w.alloc (.cells #[.int .u64 0, .slice none 0 0, .int .i64 0, .int .i64 0] 37) = wa := ⟨_, rfl⟩
    rw [hwa] at HFA
    rw [hwa, hrb] at HROW
    rw [hwa, hrb]
    have HRB := hid hrb
    clear hwa hrb
    refine (HOS.out wa).mono ?_
    rintro e w1 ⟨rfl, hf1⟩
    have HR1 := hid (hf1.heap HROW.out (by simp))
    have HF1 := hid (HFA.out.trans hf1 (by simp))
    clear hf1
    obtain ⟨y0, y1, y2, y3⟩ := lb_row (l := zeroL) HR1.out
    obtain ⟨z0, z1, z2, z3⟩ := lb_froz (l := zeroL) HR1.out
    go_wp2_with fail
    show bodyPost _ _ _ _ _ (st4 w1 rb zeroL)
    obtain ⟨h9, f9⟩ := st4_row zeroL zeroL HR1.out
    obtain ⟨wz, hwz⟩ : ∃ wz, st4 w1 rb zeroL = wz := ⟨_, rfl⟩
    rw [hwz] at h9 f9 ⊢
    obtain ⟨g0, g1, g2, g3⟩ := lb_row (l := zeroL) h9
    unfold zeroL at g0 g1 g2 g3
    clear hwz
    have hfz : Frm [] w wz := HF1.out.trans f9 (fun i hi hl => by simp at hi; have := HRB.out; omega)
    exact bodyPost_ret (v := .tuple #[.agg #[.int .u64 0, .slice none 0 0, .int .i64 0, .int .i64 0], .int .i64 43]) (by simp [results, Tryd.results26, go_sem, g0, g1, g2, g3]) rfl (by rw [← HPO.out]; exact ⟨zeroL, rfl, zeroL_ok wz, ⟨rfl, rfl, rfl, rfl, rfl⟩, by simp [zeroL, blk], hfz⟩)
  subst h128
  rcases hrd with rfl | ⟨b0, o0, rfl, hcell⟩
  · simp at hn
  have hrd : Rd w (some ⟨b0, o0, none⟩) bs := Or.inr ⟨b0, o0, rfl, hcell⟩
  have HOP := hid (fun W (h : Rd W (some ⟨b0, o0, none⟩) bs) => open_any b0 o0 c bs W hn hc h hb)
  have HTK := hid (fun W (h : Rd W (some ⟨b0, o0, none⟩) (bs.take 96)) => takeLabel_any (some ⟨b0, o0, none⟩) c (bs.take 96) W (by rw [List.length_take]; omega) h (fun z hz => hb z (List.mem_of_mem_take hz)))
  have HRD := hid hrd
  obtain ⟨ok, hok⟩ : ∃ ok, sumOk bs = ok := ⟨_, rfl⟩
  rw [hok] at HOP
  cases ok
  · have hd : decL bs = (zeroL, 43) := by unfold decL; rw [if_neg (by rw [hn]; omega), if_pos hok]
    rw [hd]
    obtain ⟨PO, hPO⟩ : ∃ PO, DecA w (zeroL, 43) = PO := ⟨_, rfl⟩
    rw [hPO]
    have HPO := hid hPO
    clear hPO hd hn hb hrd hcell HTK
    go_enter Tryd.func26, Tryd.ntmps26
    go_wp2_with fail
    obtain ⟨rb, hrb⟩ : ∃ rb, w.heap.size = rb := ⟨_, rfl⟩
    obtain ⟨wa, hwa⟩ : ∃ wa, w.alloc (.cells #[.int .u64 0, .slice none 0 0, .int .i64 0, .int .i64 0] 37) = wa := ⟨_, rfl⟩
    rw [hwa] at HFA
    rw [hwa, hrb] at HROW
    rw [hwa, hrb]
    have HRB := hid hrb
    clear hwa hrb
    refine (HOP.out wa (HRD.out.kept HFA.out (by simp))).mono ?_
    rintro e w1 ⟨rfl, hf1⟩
    have HR1 := hid (hf1.heap HROW.out (by simp))
    have HF1 := hid (HFA.out.trans hf1 (by simp))
    clear hf1
    obtain ⟨y0, y1, y2, y3⟩ := lb_row (l := zeroL) HR1.out
    obtain ⟨z0, z1, z2, z3⟩ := lb_froz (l := zeroL) HR1.out
    go_wp2_with fail
    show bodyPost _ _ _ _ _ (st4 w1 rb zeroL)
    obtain ⟨h9, f9⟩ := st4_row zeroL zeroL HR1.out
    obtain ⟨wz, hwz⟩ : ∃ wz, st4 w1 rb zeroL = wz := ⟨_, rfl⟩
    rw [hwz] at h9 f9 ⊢
    obtain ⟨g0, g1, g2, g3⟩ := lb_row (l := zeroL) h9
    unfold zeroL at g0 g1 g2 g3
    clear hwz
    have hfz : Frm [] w wz := HF1.out.trans f9 (fun i hi hl => by simp at hi; have := HRB.out; omega)
    exact bodyPost_ret (v := .tuple #[.agg #[.int .u64 0, .slice none 0 0, .int .i64 0, .int .i64 0], .int .i64 43]) (by simp [results, Tryd.results26, go_sem, g0, g1, g2, g3]) rfl (by rw [← HPO.out]; exact ⟨zeroL, rfl, zeroL_ok wz, ⟨rfl, rfl, rfl, rfl, rfl⟩, by simp [zeroL, blk], hfz⟩)
  · have hd : decL bs = decBL (bs.take 96) := by unfold decL; rw [if_neg (by rw [hn]; omega), if_neg (by rw [hok]; simp)]
    rw [hd]
    obtain ⟨R, hR⟩ : ∃ R, decBL (bs.take 96) = R := ⟨_, rfl⟩
    rw [hR] at HTK ⊢
    obtain ⟨PO, hPO⟩ : ∃ PO, DecA w R = PO := ⟨_, rfl⟩
    rw [hPO]
    have HPO := hid hPO
    clear hPO hd hn hb hrd hcell hR
    go_enter Tryd.func26, Tryd.ntmps26
    go_wp2_with fail
    obtain ⟨rb, hrb⟩ : ∃ rb, w.heap.size = rb := ⟨_, rfl⟩
    obtain ⟨wa, hwa⟩ : ∃ wa, w.alloc (.cells #[.int .u64 0, .slice none 0 0, .int .i64 0, .int .i64 0] 37) = wa := ⟨_, rfl⟩
    rw [hwa] at HFA
    rw [hwa, hrb] at HROW
    rw [hwa, hrb]
    have HRB := hid hrb
    clear hwa hrb
    refine (HOP.out wa (HRD.out.kept HFA.out (by simp))).mono ?_
    rintro e w0 ⟨rfl, hf0⟩
    have HR0 := hid (hf0.heap HROW.out (by simp))
    have HF0 := hid (HFA.out.trans hf0 (by simp))
    have HLTB : Hid (rb < w0.heap.size) := hid (lt_of_heap HR0.out)
    clear hf0
    go_wp2_with fail
    refine (HTK.out w0 ((HRD.out.kept HF0.out (by simp)).take 96)).mono ?_
    rintro e w1 ⟨l, rfl, hlo, hsm, hnw, hf1⟩
    have HLO := hid hlo
    have HSM := hid hsm
    have HNW := hid hnw
    have HR1 := hid (hf1.heap HR0.out (by simp))
    have HF1 := hid (HF0.out.trans hf1 (by simp))
    unfold LabV.arr
    clear hf1 hlo hsm hnw
    obtain ⟨y0, y1, y2, y3⟩ := lb_row (l := zeroL) HR1.out
    obtain ⟨z0, z1, z2, z3⟩ := lb_froz (l := zeroL) HR1.out
    go_wp2_with fail
    show bodyPost _ _ _ _ _ (st4 w1 rb l)
    obtain ⟨h9, f9⟩ := st4_row l zeroL HR1.out
    obtain ⟨wz, hwz⟩ : ∃ wz, st4 w1 rb l = wz := ⟨_, rfl⟩
    rw [hwz] at h9 f9 ⊢
    obtain ⟨g0, g1, g2, g3⟩ := lb_row (l := l) h9
    clear hwz
    have hfz : Frm [] w wz := HF1.out.trans f9 (fun i hi hl => by simp at hi; have := HRB.out; omega)
    exact bodyPost_ret (v := .tuple #[.agg #[.int .u64 l.pool, .slice l.p l.n l.c, .int .i64 l.top, .int .i64 l.place], .int .i64 R.2]) (by simp [results, Tryd.results26, go_sem, g0, g1, g2, g3]) rfl (by rw [← HPO.out]; exact ⟨l, rfl, ⟨HLO.out.len, HLO.out.rd.kept f9 (fun k hk hm => by simp at hm; subst hm; have := HNW.out _ hk; have := HRB.out; have := HLTB.out; omega), HLO.out.le, HLO.out.mx, HLO.out.pool, HLO.out.top⟩, HSM.out, fun k hk => by have := HNW.out k hk; have := HLTB.out; have := HRB.out; omega, hfz⟩)
end Go.Proofs.YtdnnbinmippkdaaDoor
