/- Contracts of package ptr: DecodeUber. -/
import Derived.Test.YtdnnbinmippkdaaDoorPtrR
namespace Go.Proofs.YtdnnbinmippkdaaDoor
open Go.RowKit
set_option maxRecDepth 100000

set_option maxHeartbeats 800000 in
theorem open_short (ad : Option Addr) (n c : Nat) (w : World) (hn : n ≠ 128) :
    Calls Tryd.prog 48 #[.slice ad n c] w fun e w' => e = .returned (.tuple #[.slice none 0 0, .bool false]) ∧ Frm [] w w' := by
  have hne : ((n : Int) != 128) = true := by simp; omega
  go_enter Tryd.func48, Tryd.ntmps48
  go_wp2_with fail
  go_returns
  exact ⟨rfl, Frm.refl _ _⟩
/-- What DecodeUber answers. -/
def decU (bs : List Int) : U12 × Int := if bs.length ≠ 128 then (zero12, 45) else if sumOk bs = false then (zero12, 45) else decBU (bs.take 96)
set_option maxHeartbeats 1600000 in
theorem decodeU_any (ad : Option Addr) (n c : Nat) (bs : List Int) (w : World) (hn : bs.length = n) (hc : n ≤ c) (hrd : Rd w ad bs) (hb : ∀ z ∈ bs, 0 ≤ z ∧ z < 256) :
    Calls Tryd.prog 28 #[.slice ad n c] w fun e w' => e = .returned (.tuple #[.agg (decU bs).1.arr, .int .i64 (decU bs).2]) ∧ Frm [] w w' := by
  have HROW := hid (heap_alloc_new w (.cells #[.int .u64 0, .int .u64 0, .int .u64 0, .int .i64 0, .int .i64 0, .int .i64 0, .int .u64 0, .int .i64 0, .int .u64 0, .int .u64 0, .int .u64 0, .int .u64 0] 45))
  have HFA : Hid (Frm [] w (w.alloc (.cells #[.int .u64 0, .int .u64 0, .int .u64 0, .int .i64 0, .int .i64 0, .int .i64 0, .int .u64 0, .int .i64 0, .int .u64 0, .int .u64 0, .int .u64 0, .int .u64 0] 45))) := hid ((Frm.refl _ _).alloc _)
  have hZ : zero12.arr = #[.int .u64 0, .int .u64 0, .int .u64 0, .int .i64 0, .int .i64 0, .int .i64 0, .int .u64 0, .int .i64 0, .int .u64 0, .int .u64 0, .int .u64 0, .int .u64 0] := rfl
  by_cases h128 : n = 128
  case neg =>
    have HOS := hid (fun W => open_short ad n c W h128)
    have hd : decU bs = (zero12, 45) := by unfold decU; rw [if_pos (by rw [hn]; exact h128)]
    rw [hd]
    dsimp only
    rw [hZ]
    clear hZ hd hn hb
    go_enter Tryd.func28, Tryd.ntmps28
    go_wp2_with fail
    obtain ⟨rb, hrb⟩ : ∃ rb, w.heap.size = rb := ⟨_, rfl⟩
    obtain ⟨wa, hwa⟩ : ∃ wa, w.alloc (.cells #[.int .u64 0, .int .u64 0, .int .u64 0, .int .i64 0, .int .i64 0, .int .i64 0, .int .u64 0, .int .i64 0, .int .u64 0, .int .u64 0, .int .u64 0, .int .u64 0] 45) = wa := ⟨_, rfl⟩
    rw [hwa] at HFA
    rw [hwa, hrb] at HROW
    rw [hwa, hrb]
    have HRB := hid hrb
    clear hwa hrb
    refine (HOS.out wa).mono ?_
    rintro e w1 ⟨rfl, hf1⟩
    have HR1 := hid (hf1.heap HROW.out (by simp))
    have HF1 := hid (HFA.out.trans hf1 (by simp))
    clear hf1
    obtain ⟨y0, y1, y2, y3, y4, y5, y6, y7, y8, y9, y10, y11⟩ := ub_row (u := zero12) HR1.out
    obtain ⟨z0, z1, z2, z3, z4, z5, z6, z7, z8, z9, z10, z11⟩ := ub_froz (u := zero12) HR1.out
    go_wp2_with fail
    show bodyPost _ _ _ _ _ (st12 w1 rb zero12)
    obtain ⟨h9, f9⟩ := st12_row zero12 zero12 HR1.out
    obtain ⟨wz, hwz⟩ : ∃ wz, st12 w1 rb zero12 = wz := ⟨_, rfl⟩
    rw [hwz] at h9 f9 ⊢
    obtain ⟨g0, g1, g2, g3, g4, g5, g6, g7, g8, g9, g10, g11⟩ := ub_row (u := zero12) h9
    unfold zero12 zero9 at g0 g1 g2 g3 g4 g5 g6 g7 g8 g9 g10 g11
    clear hwz
    exact bodyPost_ret (v := .tuple #[.agg #[.int .u64 0, .int .u64 0, .int .u64 0, .int .i64 0, .int .i64 0, .int .i64 0, .int .u64 0, .int .i64 0, .int .u64 0, .int .u64 0, .int .u64 0, .int .u64 0], .int .i64 45]) (by simp [results, Tryd.results28, go_sem, g0, g1, g2, g3, g4, g5, g6, g7, g8, g9, g10, g11]) rfl ⟨rfl, HF1.out.trans f9 (fun i hi hl => by simp at hi; have := HRB.out; omega)⟩
  subst h128
  rcases hrd with rfl | ⟨b0, o0, rfl, hcell⟩
  · simp at hn
  have hrd : Rd w (some ⟨b0, o0, none⟩) bs := Or.inr ⟨b0, o0, rfl, hcell⟩
  have HOP := hid (fun W (h : Rd W (some ⟨b0, o0, none⟩) bs) => open_any b0 o0 c bs W hn hc h hb)
  have HTK := hid (fun W (h : Rd W (some ⟨b0, o0, none⟩) (bs.take 96)) => takeUber_any (some ⟨b0, o0, none⟩) c (bs.take 96) W (by rw [List.length_take]; omega) h (fun z hz => hb z (List.mem_of_mem_take hz)))
  have HRD := hid hrd
  obtain ⟨ok, hok⟩ : ∃ ok, sumOk bs = ok := ⟨_, rfl⟩
  rw [hok] at HOP
  cases ok
  · have hd : decU bs = (zero12, 45) := by unfold decU; rw [if_neg (by rw [hn]; omega), if_pos hok]
    rw [hd]
    dsimp only
    rw [hZ]
    clear hZ hd hn hb hrd hcell HTK
    go_enter Tryd.func28, Tryd.ntmps28
    go_wp2_with fail
    obtain ⟨rb, hrb⟩ : ∃ rb, w.heap.size = rb := ⟨_, rfl⟩
    obtain ⟨wa, hwa⟩ : ∃ wa, w.alloc (.cells #[.int .u64 0, .int .u64 0, .int .u64 0, .int .i64 0, .int .i64 0, .int .i64 0, .int .u64 0, .int .i64 0, .int .u64 0, .int .u64 0, .int .u64 0, .int .u64 0] 45) = wa := ⟨_, rfl⟩
    rw [hwa] at HFA
    rw [hwa, hrb] at HROW
    rw [hwa, hrb]
    have HRB := hid hrb
    clear hwa hrb
    refine (HOP.out wa (HRD.out.kept HFA.out (by simp))).mono ?_
    rintro e w1 ⟨rfl, hf1⟩
    have HR1 := hid (hf1.heap HROW.out (by simp))
    have HF1 := hid (HFA.out.trans hf1 (by simp))
    clear hf1
    obtain ⟨y0, y1, y2, y3, y4, y5, y6, y7, y8, y9, y10, y11⟩ := ub_row (u := zero12) HR1.out
    obtain ⟨z0, z1, z2, z3, z4, z5, z6, z7, z8, z9, z10, z11⟩ := ub_froz (u := zero12) HR1.out
    go_wp2_with fail
    show bodyPost _ _ _ _ _ (st12 w1 rb zero12)
    obtain ⟨h9, f9⟩ := st12_row zero12 zero12 HR1.out
    obtain ⟨wz, hwz⟩ : ∃ wz, st12 w1 rb zero12 = wz := ⟨_, rfl⟩
    rw [hwz] at h9 f9 ⊢
    obtain ⟨g0, g1, g2, g3, g4, g5, g6, g7, g8, g9, g10, g11⟩ := ub_row (u := zero12) h9
    unfold zero12 zero9 at g0 g1 g2 g3 g4 g5 g6 g7 g8 g9 g10 g11
    clear hwz
    exact bodyPost_ret (v := .tuple #[.agg #[.int .u64 0, .int .u64 0, .int .u64 0, .int .i64 0, .int .i64 0, .int .i64 0, .int .u64 0, .int .i64 0, .int .u64 0, .int .u64 0, .int .u64 0, .int .u64 0], .int .i64 45]) (by simp [results, Tryd.results28, go_sem, g0, g1, g2, g3, g4, g5, g6, g7, g8, g9, g10, g11]) rfl ⟨rfl, HF1.out.trans f9 (fun i hi hl => by simp at hi; have := HRB.out; omega)⟩
  · have hd : decU bs = decBU (bs.take 96) := by unfold decU; rw [if_neg (by rw [hn]; omega), if_neg (by rw [hok]; simp)]
    rw [hd]
    obtain ⟨R, hR⟩ : ∃ R, decBU (bs.take 96) = R := ⟨_, rfl⟩
    rw [hR] at HTK ⊢
    obtain ⟨u, err⟩ := R
    unfold U12.arr at HTK ⊢
    dsimp only at HTK ⊢
    clear hZ hd hn hb hrd hcell hR
    go_enter Tryd.func28, Tryd.ntmps28
    go_wp2_with fail
    obtain ⟨rb, hrb⟩ : ∃ rb, w.heap.size = rb := ⟨_, rfl⟩
    obtain ⟨wa, hwa⟩ : ∃ wa, w.alloc (.cells #[.int .u64 0, .int .u64 0, .int .u64 0, .int .i64 0, .int .i64 0, .int .i64 0, .int .u64 0, .int .i64 0, .int .u64 0, .int .u64 0, .int .u64 0, .int .u64 0] 45) = wa := ⟨_, rfl⟩
    rw [hwa] at HFA
    rw [hwa, hrb] at HROW
    rw [hwa, hrb]
    have HRB := hid hrb
    clear hwa hrb
    refine (HOP.out wa (HRD.out.kept HFA.out (by simp))).mono ?_
    rintro e w0 ⟨rfl, hf0⟩
    have HR0 := hid (hf0.heap HROW.out (by simp))
    have HF0 := hid (HFA.out.trans hf0 (by simp))
    clear hf0
    go_wp2_with fail
    refine (HTK.out w0 ((HRD.out.kept HF0.out (by simp)).take 96)).mono ?_
    rintro e w1 ⟨rfl, hf1⟩
    have HR1 := hid (hf1.heap HR0.out (by simp))
    have HF1 := hid (HF0.out.trans hf1 (by simp))
    clear hf1
    obtain ⟨y0, y1, y2, y3, y4, y5, y6, y7, y8, y9, y10, y11⟩ := ub_row (u := zero12) HR1.out
    obtain ⟨z0, z1, z2, z3, z4, z5, z6, z7, z8, z9, z10, z11⟩ := ub_froz (u := zero12) HR1.out
    go_wp2_with fail
    show bodyPost _ _ _ _ _ (st12 w1 rb u)
    obtain ⟨h9, f9⟩ := st12_row u zero12 HR1.out
    obtain ⟨wz, hwz⟩ : ∃ wz, st12 w1 rb u = wz := ⟨_, rfl⟩
    rw [hwz] at h9 f9 ⊢
    obtain ⟨g0, g1, g2, g3, g4, g5, g6, g7, g8, g9, g10, g11⟩ := ub_row (u := u) h9
    clear hwz
    exact bodyPost_ret (v := .tuple #[.agg #[.int .u64 u.pool, .int .u64 u.txg, .int .u64 u.note, .int .i64 u.root.top, .int .i64 u.root.at_, .int .i64 u.root.bytes, .int .u64 u.root.birth, .int .i64 u.root.kind, .int .u64 u.root.sa, .int .u64 u.root.sb, .int .u64 u.root.sc, .int .u64 u.root.sd], .int .i64 err]) (by simp [results, Tryd.results28, go_sem, g0, g1, g2, g3, g4, g5, g6, g7, g8, g9, g10, g11]) rfl ⟨rfl, HF1.out.trans f9 (fun i hi hl => by simp at hi; have := HRB.out; omega)⟩
end Go.Proofs.YtdnnbinmippkdaaDoor
