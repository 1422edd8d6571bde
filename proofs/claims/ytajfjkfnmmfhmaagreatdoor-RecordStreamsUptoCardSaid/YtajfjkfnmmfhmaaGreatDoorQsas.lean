/- Records, the document's side: a part's beginning out of a body; what a body of any kind says. -/
import Derived.Test.YtajfjkfnmmfhmaaGreatDoorQsar
import Derived.Test.YtajfjkfnmmfhmaaGreatDoorQsaq
import Derived.Deep.Cut
import Derived.Deep.DeepCutAuto
import Derived.Test.YtajfjkfnmmfhmaaGreatDoorQsao
import Derived.Test.YtajfjkfnmmfhmaaGreatDoorQsai
import Derived.Test.YtajfjkfnmmfhmaaGreatDoorQsak
import Derived.Test.YtajfjkfnmmfhmaaGreatDoorQsam
import Derived.Test.YtajfjkfnmmfhmaaGreatDoorQsad
namespace Go.Proofs.YtajfjkfnmmfhmaaGreatDoor
set_option maxRecDepth 100000
set_option maxHeartbeats 25600000
section
open Go.RowKit Go.Lib
theorem begun_any (w0 w : World) (b c : Nat) (q : Option Addr) (bs : List Int) (hb : ∀ z ∈ bs, 0 ≤ z ∧ z < 256) (hl : bs.length ≤ 2048) (h : QrR w0 w b q c bs (0, 0)) :
  Calls Tryz.prog 106 #[.pointer (some ⟨b, 0, none⟩)] w (TolP w0 w b c q bs 2 (tdBg bs)) := by
 obtain ⟨PO, hPO⟩ : ∃ PO : Ending → World → Prop, TolP w0 w b c q bs 2 (tdBg bs) = PO := ⟨_, rfl⟩
 rw [hPO]
 have HP := hid (show ∀ e w', TolP w0 w b c q bs 2 (tdBg bs) e w' → PO e w' from fun e w' h => by rw [← hPO]; exact h)
 have HB := hid hb
 have HL := hid hl
 have hbn := QK.born h #[.int .i64 2, .string ⟨#[]⟩, .int .i64 0, .int .i64 0, .int .i64 0, .int .i64 0, .string ⟨#[]⟩, .slice none 0 0, .int .i64 0, .int .i64 0, .int .i64 0, .slice none 0 0, .slice none 0 0]
 have hbl : ∀ V, (Instr.build 26 #[(0, .int .i64 2)]).run Tryz.prog V = .ok (.agg #[.int .i64 2, .string ⟨#[]⟩, .int .i64 0, .int .i64 0, .int .i64 0, .int .i64 0, .string ⟨#[]⟩, .slice none 0 0, .int .i64 0, .int .i64 0, .int .i64 0, .slice none 0 0, .slice none 0 0]) V := fun V => run_build V _ _ _ (by kernel_rfl)
 obtain ⟨wm, hwm⟩ := eX (w.alloc (.cells #[.int .i64 0, .string ⟨#[]⟩, .int .i64 0, .int .i64 0, .int .i64 0, .int .i64 0, .string ⟨#[]⟩, .slice none 0 0, .int .i64 0, .int .i64 0, .int .i64 0, .slice none 0 0, .slice none 0 0] 26))
 rw [hwm] at hbn
 obtain ⟨wx, hwx⟩ := eX (wm.alloc (.cells #[.int .i64 2, .string ⟨#[]⟩, .int .i64 0, .int .i64 0, .int .i64 0, .int .i64 0, .string ⟨#[]⟩, .slice none 0 0, .int .i64 0, .int .i64 0, .int .i64 0, .slice none 0 0, .slice none 0 0] 26))
 obtain ⟨br, hbr⟩ := eX (w.heap.size)
 obtain ⟨bx, hbx⟩ := eX (wm.heap.size)
 have hb1 : br + 1 = bx := by rw [← hbx, ← hwm, ← hbr]; simp
 rw [hwx, hbr, hb1] at hbn
 have HS0 := hid hbn
 have HWM := hid hwm
 have HWX := hid hwx
 have HBR := hid hbr
 have HBX := hid hbx
 have HB1 := hid hb1
 clear hb hl h hPO hbn hwm hwx hbr hbx hb1
 go_enter Tryz.func106, Tryz.ntmps106
 go_upto_region 1 with fail
 try rw [HWM.out]
 try rw [HBR.out]
 go_upto_region 2 with fail
 try rw [HWX.out]
 try rw [HBX.out]
 clear HWM HWX HBR HBX HB1 hbl
 have HC1 := hid (qt_any w0 wx b c q bs HB.out (0, 0) HS0.out.fr 240 (by omega) (by omega))
 obtain ⟨v1, hv1⟩ := eX (txS bs (0, 0) 240)
 rw [hv1] at HC1
 have HV1 := hid hv1
 clear hv1
 go_wp2_with fail
 refine HC1.out.mono ?_
 rintro e x1 ⟨rfl, hr, hf⟩
 have HX1 := hid (QK.call HS0.out hr hf)
 clear hr hf HC1
 have z1 := cR 1 (.string ⟨#[]⟩) HX1.out.rw_
 have y1 := fZ 1 HX1.out.rw_
 go_upto_region 3 with fail
 obtain ⟨W2, hW2⟩ := eX (x1.setCell ⟨bx, 1, none⟩ (.string (strOfNums v1.1)))
 have HW2 : Hid (QK w0 w b c q bs br bx W2 #[.int .i64 2, .string (strOfNums v1.1), .int .i64 0, .int .i64 0, .int .i64 0, .int .i64 0, .string ⟨#[]⟩, .slice none 0 0, .int .i64 0, .int .i64 0, .int .i64 0, .slice none 0 0, .slice none 0 0] v1.2) := hid (by rw [← hW2]; exact QK.set HX1.out 1 (.string (strOfNums v1.1)))
 rw [hW2]
 clear z1 y1
 have HC3 := hid (qn_any w0 W2 b c q bs HB.out v1.2 HW2.out.fr 1 (by omega) (by omega))
 have hbd3 := nuS_bd HB.out v1.2 1 (by omega)
 obtain ⟨v3, hv3⟩ := eX (nuS bs v1.2 1)
 rw [hv3] at HC3 hbd3
 have HV3 := hid hv3
 clear hv3
 have hw3 : IntKind.i64.wrap v3.1 = v3.1 := by rw [IntKind.wrap_i64]; omega
 go_wp2_with fail
 refine HC3.out.mono ?_
 rintro e x3 ⟨rfl, hr, hf⟩
 have HX3 := hid (QK.call HW2.out hr hf)
 clear hr hf HC3
 have HC4 := hid (qn_any w0 x3 b c q bs HB.out v3.2 HX3.out.fr 6 (by omega) (by omega))
 have hbd4 := nuS_bd HB.out v3.2 6 (by omega)
 obtain ⟨v4, hv4⟩ := eX (nuS bs v3.2 6)
 rw [hv4] at HC4 hbd4
 have HV4 := hid hv4
 clear hv4
 have hw4 : IntKind.i64.wrap v4.1 = v4.1 := by rw [IntKind.wrap_i64]; omega
 go_wp2_with fail
 refine HC4.out.mono ?_
 rintro e x4 ⟨rfl, hr, hf⟩
 have HX4 := hid (QK.call HX3.out hr hf)
 clear hr hf HC4
 have HC5 := hid (qn_any w0 x4 b c q bs HB.out v4.2 HX4.out.fr 6 (by omega) (by omega))
 have hbd5 := nuS_bd HB.out v4.2 6 (by omega)
 obtain ⟨v5, hv5⟩ := eX (nuS bs v4.2 6)
 rw [hv5] at HC5 hbd5
 have HV5 := hid hv5
 clear hv5
 have hw5 : IntKind.i64.wrap v5.1 = v5.1 := by rw [IntKind.wrap_i64]; omega
 go_wp2_with fail
 refine HC5.out.mono ?_
 rintro e x5 ⟨rfl, hr, hf⟩
 have HX5 := hid (QK.call HX4.out hr hf)
 clear hr hf HC5
 have HC6 := hid (qn_any w0 x5 b c q bs HB.out v5.2 HX5.out.fr 1 (by omega) (by omega))
 have hbd6 := nuS_bd HB.out v5.2 1 (by omega)
 obtain ⟨v6, hv6⟩ := eX (nuS bs v5.2 1)
 rw [hv6] at HC6 hbd6
 have HV6 := hid hv6
 clear hv6
 have hw6 : IntKind.i64.wrap v6.1 = v6.1 := by rw [IntKind.wrap_i64]; omega
 go_wp2_with fail
 refine HC6.out.mono ?_
 rintro e x6 ⟨rfl, hr, hf⟩
 have HX6 := hid (QK.call HX5.out hr hf)
 clear hr hf HC6
 have z2 := cR 2 (.int .i64 0) HX6.out.rw_
 have y2 := fZ 2 HX6.out.rw_
 have z3 := cR 3 (.int .i64 0) HX6.out.rw_
 have y3 := fZ 3 HX6.out.rw_
 have z4 := cR 4 (.int .i64 0) HX6.out.rw_
 have y4 := fZ 4 HX6.out.rw_
 have z5 := cR 5 (.int .i64 0) HX6.out.rw_
 have y5 := fZ 5 HX6.out.rw_
 go_upto_region 8 with fail
 obtain ⟨W7, hW7⟩ := eX (x6.setCell ⟨bx, 2, none⟩ (.int .i64 v3.1))
 have HW7 : Hid (QK w0 w b c q bs br bx W7 #[.int .i64 2, .string (strOfNums v1.1), .int .i64 v3.1, .int .i64 0, .int .i64 0, .int .i64 0, .string ⟨#[]⟩, .slice none 0 0, .int .i64 0, .int .i64 0, .int .i64 0, .slice none 0 0, .slice none 0 0] v6.2) := hid (by rw [← hW7]; exact QK.set HX6.out 2 (.int .i64 v3.1))
 rw [hW7]
 obtain ⟨W8, hW8⟩ := eX (W7.setCell ⟨bx, 3, none⟩ (.int .i64 v4.1))
 have HW8 : Hid (QK w0 w b c q bs br bx W8 #[.int .i64 2, .string (strOfNums v1.1), .int .i64 v3.1, .int .i64 v4.1, .int .i64 0, .int .i64 0, .string ⟨#[]⟩, .slice none 0 0, .int .i64 0, .int .i64 0, .int .i64 0, .slice none 0 0, .slice none 0 0] v6.2) := hid (by rw [← hW8]; exact QK.set HW7.out 3 (.int .i64 v4.1))
 rw [hW8]
 obtain ⟨W9, hW9⟩ := eX (W8.setCell ⟨bx, 4, none⟩ (.int .i64 v5.1))
 have HW9 : Hid (QK w0 w b c q bs br bx W9 #[.int .i64 2, .string (strOfNums v1.1), .int .i64 v3.1, .int .i64 v4.1, .int .i64 v5.1, .int .i64 0, .string ⟨#[]⟩, .slice none 0 0, .int .i64 0, .int .i64 0, .int .i64 0, .slice none 0 0, .slice none 0 0] v6.2) := hid (by rw [← hW9]; exact QK.set HW8.out 4 (.int .i64 v5.1))
 rw [hW9]
 obtain ⟨W10, hW10⟩ := eX (W9.setCell ⟨bx, 5, none⟩ (.int .i64 v6.1))
 have HW10 : Hid (QK w0 w b c q bs br bx W10 #[.int .i64 2, .string (strOfNums v1.1), .int .i64 v3.1, .int .i64 v4.1, .int .i64 v5.1, .int .i64 v6.1, .string ⟨#[]⟩, .slice none 0 0, .int .i64 0, .int .i64 0, .int .i64 0, .slice none 0 0, .slice none 0 0] v6.2) := hid (by rw [← hW10]; exact QK.set HW9.out 5 (.int .i64 v6.1))
 rw [hW10]
 clear z2 y2 z3 y3 z4 y4 z5 y5
 clear hbd3 hw3 hbd4 hw4 hbd5 hw5 hbd6 hw6
 have HC11 := hid (qt_any w0 W10 b c q bs HB.out v6.2 HW10.out.fr 24 (by omega) (by omega))
 obtain ⟨v11, hv11⟩ := eX (txS bs v6.2 24)
 rw [hv11] at HC11
 have HV11 := hid hv11
 clear hv11
 go_wp2_with fail
 refine HC11.out.mono ?_
 rintro e x11 ⟨rfl, hr, hf⟩
 have HX11 := hid (QK.call HW10.out hr hf)
 clear hr hf HC11
 have z6 := cR 6 (.string ⟨#[]⟩) HX11.out.rw_
 have y6 := fZ 6 HX11.out.rw_
 go_upto_region 9 with fail
 obtain ⟨W12, hW12⟩ := eX (x11.setCell ⟨bx, 6, none⟩ (.string (strOfNums v11.1)))
 have HW12 : Hid (QK w0 w b c q bs br bx W12 #[.int .i64 2, .string (strOfNums v1.1), .int .i64 v3.1, .int .i64 v4.1, .int .i64 v5.1, .int .i64 v6.1, .string (strOfNums v11.1), .slice none 0 0, .int .i64 0, .int .i64 0, .int .i64 0, .slice none 0 0, .slice none 0 0] v11.2) := hid (by rw [← hW12]; exact QK.set HX11.out 6 (.string (strOfNums v11.1)))
 rw [hW12]
 clear z6 y6
 have HC13 := hid (qn_any w0 W12 b c q bs HB.out v11.2 HW12.out.fr 1 (by omega) (by omega))
 have hbd13 := nuS_bd HB.out v11.2 1 (by omega)
 have hb1 := nuS_b1 HB.out v11.2
 obtain ⟨v13, hv13⟩ := eX (nuS bs v11.2 1)
 rw [hv13] at HC13 hbd13 hb1
 have HV13 := hid hv13
 clear hv13
 have hw13 : IntKind.i64.wrap v13.1 = v13.1 := by rw [IntKind.wrap_i64]; omega
 go_wp2_with fail
 refine HC13.out.mono ?_
 rintro e x13 ⟨rfl, hr, hf⟩
 have HX13 := hid (QK.call HW12.out hr hf)
 clear hr hf HC13
 have HG8 : Hid (e8 bs = prD bs v13.2 v13.1.toNat) := hid (by unfold e8 e7 e6 g5 g4 g3 g2 g1; rw [HV1.out, HV3.out, HV4.out, HV5.out, HV6.out, HV11.out, HV13.out])
 obtain ⟨K, hK⟩ := eX (v13.1.toNat)
 have hvK : v13.1 = (K : Int) := by omega
 have hKb : K ≤ 255 := by omega
 rw [hK] at HG8
 rw [hvK] at hw13 ⊢
 clear hK hvK hbd13 hb1
 have hbp : ∀ V (s t : ByteArray), (Instr.build 70 #[(0, .string s), (1, .string t)]).run Tryz.prog V = .ok (.agg #[.string s, .string t]) V := fun V s t => run_build V _ _ _ (by kernel_rfl)
 go_wp2_with fail
 go_loopw [9] (fun i wr => ∃ (t : Nat) (lp : Option Addr) (lc : Nat), t ≤ K ∧ i = .int .i64 (t : Int) ∧ Hid (QK w0 w b c q bs br bx wr #[.int .i64 2, .string (strOfNums v1.1), .int .i64 v3.1, .int .i64 v4.1, .int .i64 v5.1, .int .i64 v6.1, .string (strOfNums v11.1), .slice lp t lc, .int .i64 0, .int .i64 0, .int .i64 0, .slice none 0 0, .slice none 0 0] (prD bs v13.2 t).2) ∧ Hid (wr.ownsRow 0 70 2 (.slice lp t lc) t (prC (prD bs v13.2 t).1)) ∧ Hid (∀ k ∈ blk lp, w.heap.size ≤ k ∧ k ≠ bx ∧ k ≠ br ∧ k ≠ b ∧ k ∉ blk q)) (fun i _ => K - (intOf i).toNat)
 case atStart => exact ⟨0, none, 0, by omega, rfl, HX13, hid (World.ownsRow_nil _ _ _ _), hid (by simp [blk])⟩
 case round =>
  obtain ⟨t, lp, lc, ht, rfl, htk, how, hnw⟩ := hrel
  have HTK := hid htk.out
  have HOW := hid how.out
  have HNW := hid hnw.out
  clear htk how hnw
  by_cases hlt : t < K
  case neg =>
   obtain rfl : t = K := by omega
   clear hlt
   have z0 := cR 0 (.int .i64 2) HTK.out.rw_
   have y0 := fZ 0 HTK.out.rw_
   have z1 := cR 1 (.string (strOfNums v1.1)) HTK.out.rw_
   have y1 := fZ 1 HTK.out.rw_
   have z2 := cR 2 (.int .i64 v3.1) HTK.out.rw_
   have y2 := fZ 2 HTK.out.rw_
   have z3 := cR 3 (.int .i64 v4.1) HTK.out.rw_
   have y3 := fZ 3 HTK.out.rw_
   have z4 := cR 4 (.int .i64 v5.1) HTK.out.rw_
   have y4 := fZ 4 HTK.out.rw_
   have z5 := cR 5 (.int .i64 v6.1) HTK.out.rw_
   have y5 := fZ 5 HTK.out.rw_
   have z6 := cR 6 (.string (strOfNums v11.1)) HTK.out.rw_
   have y6 := fZ 6 HTK.out.rw_
   have z7 := cR 7 (.slice lp t lc) HTK.out.rw_
   have y7 := fZ 7 HTK.out.rw_
   have z8 := cR 8 (.int .i64 0) HTK.out.rw_
   have y8 := fZ 8 HTK.out.rw_
   have z9 := cR 9 (.int .i64 0) HTK.out.rw_
   have y9 := fZ 9 HTK.out.rw_
   have z10 := cR 10 (.int .i64 0) HTK.out.rw_
   have y10 := fZ 10 HTK.out.rw_
   have z11 := cR 11 (.slice none 0 0) HTK.out.rw_
   have y11 := fZ 11 HTK.out.rw_
   have z12 := cR 12 (.slice none 0 0) HTK.out.rw_
   have y12 := fZ 12 HTK.out.rw_
   have r0 := cR 0 (.int .i64 0) HTK.out.rb
   have s0 := fZ 0 HTK.out.rb
   have r1 := cR 1 (.string ⟨#[]⟩) HTK.out.rb
   have s1 := fZ 1 HTK.out.rb
   have r2 := cR 2 (.int .i64 0) HTK.out.rb
   have s2 := fZ 2 HTK.out.rb
   have r3 := cR 3 (.int .i64 0) HTK.out.rb
   have s3 := fZ 3 HTK.out.rb
   have r4 := cR 4 (.int .i64 0) HTK.out.rb
   have s4 := fZ 4 HTK.out.rb
   have r5 := cR 5 (.int .i64 0) HTK.out.rb
   have s5 := fZ 5 HTK.out.rb
   have r6 := cR 6 (.string ⟨#[]⟩) HTK.out.rb
   have s6 := fZ 6 HTK.out.rb
   have r7 := cR 7 (.slice none 0 0) HTK.out.rb
   have s7 := fZ 7 HTK.out.rb
   have r8 := cR 8 (.int .i64 0) HTK.out.rb
   have s8 := fZ 8 HTK.out.rb
   have r9 := cR 9 (.int .i64 0) HTK.out.rb
   have s9 := fZ 9 HTK.out.rb
   have r10 := cR 10 (.int .i64 0) HTK.out.rb
   have s10 := fZ 10 HTK.out.rb
   have r11 := cR 11 (.slice none 0 0) HTK.out.rb
   have s11 := fZ 11 HTK.out.rb
   have r12 := cR 12 (.slice none 0 0) HTK.out.rb
   have s12 := fZ 12 HTK.out.rb
   go_wp2_with fail
   obtain ⟨Wz, hwz, h5, f5⟩ := sE br 26 [(0, .int .i64 2), (1, .string (strOfNums v1.1)), (2, .int .i64 v3.1), (3, .int .i64 v4.1), (4, .int .i64 v5.1), (5, .int .i64 v6.1), (6, .string (strOfNums v11.1)), (7, .slice lp t lc), (8, .int .i64 0), (9, .int .i64 0), (10, .int .i64 0), (11, .slice none 0 0), (12, .slice none 0 0)] wr _ HTK.out.rb
   simp only [List.foldl, List.setIfInBounds_toArray, List.set_cons_zero, List.set_cons_succ] at h5
   simp only [setsF] at hwz
   have hWz := hwz
   rw [hwz]
   obtain ⟨hq1, hq2⟩ := HTK.out.fin f5
   have u0 := cR 0 (.int .i64 2) h5
   have u1 := cR 1 (.string (strOfNums v1.1)) h5
   have u2 := cR 2 (.int .i64 v3.1) h5
   have u3 := cR 3 (.int .i64 v4.1) h5
   have u4 := cR 4 (.int .i64 v5.1) h5
   have u5 := cR 5 (.int .i64 v6.1) h5
   have u6 := cR 6 (.string (strOfNums v11.1)) h5
   have u7 := cR 7 (.slice lp t lc) h5
   have u8 := cR 8 (.int .i64 0) h5
   have u9 := cR 9 (.int .i64 0) h5
   have u10 := cR 10 (.int .i64 0) h5
   have u11 := cR 11 (.slice none 0 0) h5
   have u12 := cR 12 (.slice none 0 0) h5
   refine bodyPost_ret (v := .agg #[.int .i64 2, .string (strOfNums v1.1), .int .i64 v3.1, .int .i64 v4.1, .int .i64 v5.1, .int .i64 v6.1, .string (strOfNums v11.1), .slice lp t lc, .int .i64 0, .int .i64 0, .int .i64 0, .slice none 0 0, .slice none 0 0]) (by simp [results, Tryz.results106, go_sem, u0, u1, u2, u3, u4, u5, u6, u7, u8, u9, u10, u11, u12]) rfl ?_
   refine HP.out _ _ ⟨⟨2, strOfNums v1.1, v3.1, v4.1, v5.1, v6.1, strOfNums v11.1, lp, t, lc, 0, 0, 0, none, 0, 0, none, 0, 0⟩, rfl, ?_, ?_, ?_, hq2⟩
   ·unfold tdBg TkV.rc Rc.core e6 g5 g4 g3 g2 g1; rw [HV1.out, HV3.out, HV4.out, HV5.out, HV6.out, HV11.out]
   ·unfold tdBg; rw [HG8.out]; exact ⟨ownsRow_kept HOW.out f5 (fun k hk hm => by rw [List.mem_singleton] at hm; exact (HNW.out k hk).2.2.1 hm), by rw [prD_len], fun k hk => (HNW.out k hk).1, World.ownsRow_nil _ _ _ _, rfl, by simp [blk], Own.nil _ _, rfl, by simp [blk], by simp, by simp; omega⟩
   ·unfold tdBg; rw [HG8.out]; exact hq1
  have t1 : (t : Int) < (K : Int) := by omega
  have HSU : Hid (prD bs v13.2 (t + 1) = ((prD bs v13.2 t).1 ++ [(strOfNums (txS bs (prD bs v13.2 t).2 24).1, strOfNums (txS bs (txS bs (prD bs v13.2 t).2 24).2 64).1)], (txS bs (txS bs (prD bs v13.2 t).2 24).2 64).2)) := hid rfl
  obtain ⟨LL, hLL⟩ := eX (prD bs v13.2 t)
  rw [hLL] at HTK HOW HSU
  clear hLL
  have HC1 := hid (qt_any w0 wr b c q bs HB.out LL.2 HTK.out.fr 24 (by omega) (by omega))
  obtain ⟨a1, ha1⟩ := eX (txS bs LL.2 24)
  rw [ha1] at HC1 HSU
  clear ha1
  go_wp2_with fail
  refine HC1.out.mono ?_
  rintro e y1 ⟨rfl, hr, hf⟩
  have HT8 := hid (QK.call HTK.out hr hf)
  have HO8 := hid (ownsRow_kept HOW.out hf (fun k hk hm => by rw [List.mem_singleton] at hm; exact (HNW.out k hk).2.2.2.1 hm))
  clear hr hf HC1
  have HC2 := hid (qt_any w0 y1 b c q bs HB.out a1.2 HT8.out.fr 64 (by omega) (by omega))
  obtain ⟨a2, ha2⟩ := eX (txS bs a1.2 64)
  rw [ha2] at HC2 HSU
  clear ha2
  go_wp2_with fail
  refine HC2.out.mono ?_
  rintro e Wb ⟨rfl, hr, hf⟩
  have HTb := hid (QK.call HT8.out hr hf)
  have HOb := hid (ownsRow_kept HO8.out hf (fun k hk hm => by rw [List.mem_singleton] at hm; exact (HNW.out k hk).2.2.2.1 hm))
  clear hr hf HC2 HT8 HO8
  have z7 := cR 7 (.slice lp t lc) HTb.out.rw_
  have HA := hid ((Frm.refl [] Wb).alloc (.cells #[.string (strOfNums a1.1), .string (strOfNums a2.1)] 70))
  have HRV := hid (rv_block (heap_alloc_new Wb (.cells #[.string (strOfNums a1.1), .string (strOfNums a2.1)] 70)))
  have HOW2 := hid (ownsRow_kept HOb.out HA.out (by simp))
  have HTA := hid (HTb.out.gen HA.out (by simp))
  go_wp2_with (at_builtin; refine wpList_appV rfl _ _ 22 rfl 70 2 32 _ Tryz.underlying22 infoPrR rfl (by decide) lp t lc (prC LL.1) rfl HOW2.out (some ⟨Wb.heap.size, 0, none⟩) 1 1 [.string (strOfNums a1.1), .string (strOfNums a2.1)] rfl rfl (by simp) HRV.out (by intro u hu; simp at hu; rcases hu with rfl | rfl <;> rfl) (by unfold maxLen; omega) (by omega) ?_)
  intro p8 c8 w8 ho8 hf8 hb8
  have HT8 := hid (HTA.out.gen hf8.out HNW.out)
  have hrow8 := HT8.out.rw_
  have z6 := cR 7 (.slice lp t lc) hrow8
  have y6 := fZ 7 hrow8
  have HNX : Hid (QK w0 w b c q bs br bx (w8.setCell ⟨bx, 7, none⟩ (.slice p8 (t + 1) c8)) #[.int .i64 2, .string (strOfNums v1.1), .int .i64 v3.1, .int .i64 v4.1, .int .i64 v5.1, .int .i64 v6.1, .string (strOfNums v11.1), .slice p8 (t + 1) c8, .int .i64 0, .int .i64 0, .int .i64 0, .slice none 0 0, .slice none 0 0] (prD bs v13.2 (t + 1)).2 ∧ (w8.setCell ⟨bx, 7, none⟩ (.slice p8 (t + 1) c8)).ownsRow 0 70 2 (.slice p8 (t + 1) c8) (t + 1) (prC (prD bs v13.2 (t + 1)).1) ∧ (∀ k ∈ blk p8, w.heap.size ≤ k ∧ k ≠ bx ∧ k ≠ br ∧ k ≠ b ∧ k ∉ blk q)) := hid (by
   rw [HSU.out]
   have hnw : ∀ k ∈ blk p8, w.heap.size ≤ k ∧ k ≠ bx ∧ k ≠ br ∧ k ≠ b ∧ k ∉ blk q := fun k hk => by
    rcases hb8.out k hk with h | h
    ·exact HNW.out k h
    ·have e1 : (Wb.alloc (.cells #[.string (strOfNums a1.1), .string (strOfNums a2.1)] 70)).heap.size = Wb.heap.size + 1 := by simp
     have h1 := HTb.out.frm.size
     have h2 := lt_of_heap HTb.out.rw_
     have h3 := lt_of_heap HTb.out.rb
     have h4 := HTb.out.fr.1.cells
     have h5 : ∀ i ∈ blk q, i < Wb.heap.size := HTb.out.fr.1.2.1.lows
     exact ⟨by omega, by omega, by omega, by omega, fun hm => by have := h5 k hm; omega⟩
   refine ⟨QK.set HT8.out 7 (.slice p8 (t + 1) c8), ?_, hnw⟩
   have h := ho8.out
   rw [prC_app]
   exact ownsRow_kept h (show Frm [bx] w8 _ from (Frm.refl _ _).setCell _ _ (by simp)) (fun k hk hm => by rw [List.mem_singleton] at hm; exact (hnw k hk).2.1 hm))
  clear ho8 hf8 hb8 hrow8 HT8 HTA HOW2 HRV HA HTb HOb z7
  go_wp2_with fail
  go_roundw
  case rel => exact ⟨t + 1, p8, c8, by omega, by go_num, hid HNX.out.1, hid HNX.out.2.1, hid HNX.out.2.2⟩
  case measure => simp [intOf] <;> omega
theorem told_2 (w0 w : World) (b c : Nat) (q : Option Addr) (bs : List Int) (hb : ∀ z ∈ bs, 0 ≤ z ∧ z < 256) (hl : bs.length ≤ 2048) (h : QrR w0 w b q c bs (0, 0)) :
  Calls Tryz.prog 82 #[.int .i64 2, .pointer (some ⟨b, 0, none⟩)] w (TolP w0 w b c q bs 2 (tdBg bs)) := by
 obtain ⟨PO, hPO⟩ : ∃ PO : Ending → World → Prop, TolP w0 w b c q bs 2 (tdBg bs) = PO := ⟨_, rfl⟩
 rw [hPO]
 have HP := hid (show ∀ e w', TolP w0 w b c q bs 2 (tdBg bs) e w' → PO e w' from fun e w' h => by rw [← hPO]; exact h)
 have HB := hid hb
 have HL := hid hl
 have hbn := QK.born h #[.int .i64 2, .string ⟨#[]⟩, .int .i64 0, .int .i64 0, .int .i64 0, .int .i64 0, .string ⟨#[]⟩, .slice none 0 0, .int .i64 0, .int .i64 0, .int .i64 0, .slice none 0 0, .slice none 0 0]
 have hbl : ∀ V, (Instr.build 26 #[(0, .int .i64 2)]).run Tryz.prog V = .ok (.agg #[.int .i64 2, .string ⟨#[]⟩, .int .i64 0, .int .i64 0, .int .i64 0, .int .i64 0, .string ⟨#[]⟩, .slice none 0 0, .int .i64 0, .int .i64 0, .int .i64 0, .slice none 0 0, .slice none 0 0]) V := fun V => run_build V _ _ _ (by kernel_rfl)
 obtain ⟨wm, hwm⟩ := eX (w.alloc (.cells #[.int .i64 0, .string ⟨#[]⟩, .int .i64 0, .int .i64 0, .int .i64 0, .int .i64 0, .string ⟨#[]⟩, .slice none 0 0, .int .i64 0, .int .i64 0, .int .i64 0, .slice none 0 0, .slice none 0 0] 26))
 rw [hwm] at hbn
 obtain ⟨wx, hwx⟩ := eX (wm.alloc (.cells #[.int .i64 2, .string ⟨#[]⟩, .int .i64 0, .int .i64 0, .int .i64 0, .int .i64 0, .string ⟨#[]⟩, .slice none 0 0, .int .i64 0, .int .i64 0, .int .i64 0, .slice none 0 0, .slice none 0 0] 26))
 obtain ⟨br, hbr⟩ := eX (w.heap.size)
 obtain ⟨bx, hbx⟩ := eX (wm.heap.size)
 have hb1 : br + 1 = bx := by rw [← hbx, ← hwm, ← hbr]; simp
 rw [hwx, hbr, hb1] at hbn
 have HS0 := hid hbn
 have HWM := hid hwm
 have HWX := hid hwx
 have HBR := hid hbr
 have HBX := hid hbx
 have HB1 := hid hb1
 clear hb hl h hPO hbn hwm hwx hbr hbx hb1
 go_enter Tryz.func82, Tryz.ntmps82
 go_upto_region 1 with fail
 try rw [HWM.out]
 try rw [HBR.out]
 go_upto_region 2 with fail
 try rw [HWX.out]
 try rw [HBX.out]
 clear HWM HWX HBR HBX HB1 hbl
 have HC1 := hid (begun_any w0 wx b c q bs HB.out HL.out HS0.out.fr)
 go_wp2_with fail
 refine HC1.out.mono ?_
 rintro e x1 ⟨r, rfl, hrc, hro, hr, hf⟩
 have HX1 := hid (QK.call HS0.out hr hf)
 have HRC := hid hrc
 have HRO := hid hro
 have HNB : Hid (∀ k, wx.heap.size ≤ k → ¬ k = br) := hid (fun k hk he => by have h4 := lt_of_heap HS0.out.rb; omega)
 have HWS : Hid (w.heap.size ≤ wx.heap.size) := hid HS0.out.frm.size
 clear hrc hro hr hf HC1
 obtain ⟨kind, name, typ, frm, guid, origin, snap, pp, pn, pc, obj, at_, many, kp, kn, kc, dp, dl, dc⟩ := r
 unfold Rc.arr
 simp only at HRC HRO ⊢
 have r0 := cR 0 (.int .i64 0) HX1.out.rb
 have s0 := fZ 0 HX1.out.rb
 have r1 := cR 1 (.string ⟨#[]⟩) HX1.out.rb
 have s1 := fZ 1 HX1.out.rb
 have r2 := cR 2 (.int .i64 0) HX1.out.rb
 have s2 := fZ 2 HX1.out.rb
 have r3 := cR 3 (.int .i64 0) HX1.out.rb
 have s3 := fZ 3 HX1.out.rb
 have r4 := cR 4 (.int .i64 0) HX1.out.rb
 have s4 := fZ 4 HX1.out.rb
 have r5 := cR 5 (.int .i64 0) HX1.out.rb
 have s5 := fZ 5 HX1.out.rb
 have r6 := cR 6 (.string ⟨#[]⟩) HX1.out.rb
 have s6 := fZ 6 HX1.out.rb
 have r7 := cR 7 (.slice none 0 0) HX1.out.rb
 have s7 := fZ 7 HX1.out.rb
 have r8 := cR 8 (.int .i64 0) HX1.out.rb
 have s8 := fZ 8 HX1.out.rb
 have r9 := cR 9 (.int .i64 0) HX1.out.rb
 have s9 := fZ 9 HX1.out.rb
 have r10 := cR 10 (.int .i64 0) HX1.out.rb
 have s10 := fZ 10 HX1.out.rb
 have r11 := cR 11 (.slice none 0 0) HX1.out.rb
 have s11 := fZ 11 HX1.out.rb
 have r12 := cR 12 (.slice none 0 0) HX1.out.rb
 have s12 := fZ 12 HX1.out.rb
 go_wp2_with fail
 obtain ⟨Wz, hwz, h5, f5⟩ := sE br 26 [(0, .int .i64 kind), (1, .string name), (2, .int .i64 typ), (3, .int .i64 frm), (4, .int .i64 guid), (5, .int .i64 origin), (6, .string snap), (7, .slice pp pn pc), (8, .int .i64 obj), (9, .int .i64 at_), (10, .int .i64 many), (11, .slice kp kn kc), (12, .slice dp dl dc)] x1 _ HX1.out.rb
 simp only [List.foldl, List.setIfInBounds_toArray, List.set_cons_zero, List.set_cons_succ] at h5
 simp only [setsF] at hwz
 have hWz := hwz
 rw [hwz]
 obtain ⟨hq1, hq2⟩ := HX1.out.fin f5
 have u0 := cR 0 (.int .i64 kind) h5
 have u1 := cR 1 (.string name) h5
 have u2 := cR 2 (.int .i64 typ) h5
 have u3 := cR 3 (.int .i64 frm) h5
 have u4 := cR 4 (.int .i64 guid) h5
 have u5 := cR 5 (.int .i64 origin) h5
 have u6 := cR 6 (.string snap) h5
 have u7 := cR 7 (.slice pp pn pc) h5
 have u8 := cR 8 (.int .i64 obj) h5
 have u9 := cR 9 (.int .i64 at_) h5
 have u10 := cR 10 (.int .i64 many) h5
 have u11 := cR 11 (.slice kp kn kc) h5
 have u12 := cR 12 (.slice dp dl dc) h5
 refine bodyPost_ret (v := .agg #[.int .i64 kind, .string name, .int .i64 typ, .int .i64 frm, .int .i64 guid, .int .i64 origin, .string snap, .slice pp pn pc, .int .i64 obj, .int .i64 at_, .int .i64 many, .slice kp kn kc, .slice dp dl dc]) (by simp [results, Tryz.results82, go_sem, u0, u1, u2, u3, u4, u5, u6, u7, u8, u9, u10, u11, u12]) rfl ?_
 refine HP.out _ _ ⟨⟨kind, name, typ, frm, guid, origin, snap, pp, pn, pc, obj, at_, many, kp, kn, kc, dp, dl, dc⟩, rfl, HRC.out, (HRO.out.kept f5 (fun k hk he => ?_) (fun k hk he => ?_) (fun k hk he => ?_)).less HWS.out, hq1, hq2⟩
 ·rw [List.mem_singleton] at he; exact HNB.out k (HRO.out.pw k hk) he
 ·rw [List.mem_singleton] at he; exact HNB.out k (HRO.out.kw k hk) he
 ·rw [List.mem_singleton] at he; exact HNB.out k (HRO.out.dw k hk) he
theorem told_any (k : Int) (hk : 1 ≤ k ∧ k ≤ 7) (w0 w : World) (b c : Nat) (q : Option Addr) (bs : List Int) (hb : ∀ z ∈ bs, 0 ≤ z ∧ z < 256) (hl : bs.length ≤ 2048) (h : QrR w0 w b q c bs (0, 0)) :
  Calls Tryz.prog 82 #[.int .i64 k, .pointer (some ⟨b, 0, none⟩)] w (TolP w0 w b c q bs k (tdK k bs)) := by
 have h7 : k = 1 ∨ k = 2 ∨ k = 3 ∨ k = 4 ∨ k = 5 ∨ k = 6 ∨ k = 7 := by omega
 rcases h7 with rfl | rfl | rfl | rfl | rfl | rfl | rfl
 ·exact told_1 w0 w b c q bs hb hl h
 ·exact told_2 w0 w b c q bs hb hl h
 ·exact told_3 w0 w b c q bs hb hl h
 ·exact told_4 w0 w b c q bs hb hl h
 ·exact told_5 w0 w b c q bs hb hl h
 ·exact told_6 w0 w b c q bs hb hl h
 ·exact told_7 w0 w b c q bs hb hl h
end
section
open Go.RowKit Go.Lib
theorem text_up (ls : List Int) {m M : Int} (hm : m ≤ M) (h : (textT ls m).2.2 = 0) : textT ls M = textT ls m := by
 unfold textT at h ⊢
 by_cases h1 : ls.length < 2
 ·rw [if_pos h1, if_pos h1]
 ·rw [if_neg h1] at h ⊢
  rw [if_neg h1]
  by_cases h2 : m < leV (ls.take 2)
  ·rw [if_pos h2] at h; simp at h
  ·rw [if_neg h2, if_neg (by omega)]
theorem text_dn (ls : List Int) {m M : Int} (_hm : m ≤ M) (hb : ∀ z ∈ ls, 0 ≤ z ∧ z < 256) (h : (textT ls M).2.2 = 0) (hl : ((textT ls M).1.length : Int) ≤ m) : textT ls m = textT ls M := by
 unfold textT at h hl ⊢
 by_cases h1 : ls.length < 2
 ·rw [if_pos h1, if_pos h1]
 ·rw [if_neg h1] at h hl ⊢
  rw [if_neg h1]
  by_cases h2 : M < leV (ls.take 2)
  ·rw [if_pos h2] at h; simp at h
  ·rw [if_neg h2] at h hl ⊢
   by_cases h3 : ls.length < 2 + (leV (ls.take 2)).toNat
   ·rw [if_pos h3] at h; simp at h
   ·rw [if_neg h3] at hl
    simp only [List.length_take, List.length_drop] at hl
    have h4 := (leV_bd (ls.take 2) (fun z hz => hb z (List.mem_of_mem_take hz))).1
    rw [if_neg (by omega)]
theorem txS_up {bs : List Int} {s : Rst} {m M : Int} (hm : m ≤ M) (h : (txS bs s m).2.2 = 0) : txS bs s M = txS bs s m := by
 unfold txS at h ⊢
 by_cases he : s.2 = 0
 ·rw [he] at h ⊢
  have h2 : (textT (bs.drop s.1) m).2.2 = 0 := by
   rw [readS_ok] at h
   exact h
  rw [text_up _ hm h2]
 ·rw [readS_err _ _ _ _ he] at h
  exact absurd h he
theorem txS_dn {bs : List Int} (hb : ∀ z ∈ bs, 0 ≤ z ∧ z < 256) {s : Rst} {m M : Int} (hm : m ≤ M) (h : (txS bs s M).2.2 = 0) (hl : ((txS bs s M).1.length : Int) ≤ m) : txS bs s m = txS bs s M := by
 unfold txS at h hl ⊢
 by_cases he : s.2 = 0
 ·rw [he] at h hl ⊢
  rw [readS_ok] at h hl
  rw [text_dn _ hm (fun z hz => hb z (List.mem_of_mem_drop hz)) h hl]
 ·rw [readS_err _ _ _ _ he] at h
  exact absurd h he
theorem str_part {zs : List Int} (h : PartL (tx (strOfNums zs))) : (zs.length : Int) ≤ 24 := by
 have h1 := h.1.2
 rw [tx_length, strOfNums_size] at h1
 omega
theorem str_val {zs : List Int} (h : ValL (tx (strOfNums zs))) : (zs.length : Int) ≤ 64 := by
 have h1 := h.1.2
 rw [tx_length, strOfNums_size] at h1
 omega
theorem prD_up {bs : List Int} (hb : ∀ z ∈ bs, 0 ≤ z ∧ z < 256) {s : Rst} : ∀ t, (prD bs s t).2.2 = 0 → s.2 = 0 ∧ prS bs s t = prD bs s t
 | 0, h => ⟨h, rfl⟩
 | t + 1, h => by
  have h1 : (txS bs (txS bs (prD bs s t).2 24).2 64).2.2 = 0 := h
  have h2 := (txS_inv hb h1).1
  have h4 := (txS_inv hb h2).1
  obtain ⟨h5, h6⟩ := prD_up hb t h4
  refine ⟨h5, ?_⟩
  rw [prS, prD, h6, txS_up (m := 24) (M := 240) (by omega) h2, txS_up (m := 64) (M := 240) (by omega) h1]
theorem prD_dn {bs : List Int} (hb : ∀ z ∈ bs, 0 ≤ z ∧ z < 256) {s : Rst} : ∀ t, (prS bs s t).2.2 = 0 → (∀ i, i < t → PartL (tx (prA (prS bs s t).1 i).1) ∧ ValL (tx (prA (prS bs s t).1 i).2)) → prD bs s t = prS bs s t
 | 0, _, _ => rfl
 | t + 1, h, hp => by
  have hl := prS_len bs s t
  have h1 : (txS bs (txS bs (prS bs s t).2 240).2 240).2.2 = 0 := h
  have h2 := (txS_inv hb h1).1
  have h4 := (txS_inv hb h2).1
  have e : (prS bs s (t + 1)).1 = (prS bs s t).1 ++ [(strOfNums (txS bs (prS bs s t).2 240).1, strOfNums (txS bs (txS bs (prS bs s t).2 240).2 240).1)] := rfl
  have ih := prD_dn hb t h4 (fun i hi => by
   have h5 := hp i (by omega)
   rw [e] at h5
   unfold prA at h5 ⊢
   rw [List.getD_eq_getElem?_getD, List.getElem?_append_left (by omega), ← List.getD_eq_getElem?_getD] at h5
   exact h5)
  have h6 := hp t (by omega)
  rw [e] at h6
  unfold prA at h6
  rw [List.getD_eq_getElem?_getD, List.getElem?_append_right (by omega), hl, Nat.sub_self] at h6
  have h7 : txS bs (prS bs s t).2 24 = txS bs (prS bs s t).2 240 := txS_dn hb (by omega) h2 (str_part h6.1)
  have h8 : txS bs (txS bs (prS bs s t).2 240).2 64 = txS bs (txS bs (prS bs s t).2 240).2 240 := txS_dn hb (by omega) h1 (str_val h6.2)
  rw [prD, prS, ih, h7, h8]
theorem keep_up {bs : List Int} (hb : ∀ z ∈ bs, 0 ≤ z ∧ z < 256) {more : Int} {k : Nat} (hk : 1 ≤ k) {s : Rst} (h : (tkD bs more (k : Int) s).2.2 = 0) (hl : (tkD bs more (k : Int) s).1.length ≤ 240) : tkK bs more k s = tkD bs more (k : Int) s := by
 unfold tkD at h hl
 rw [kpS_len] at hl
 have h1 := kpS_pos hb _ h
 unfold tkK tkD
 have h2 : kpM bs s = (nuS bs s 2).1.toNat := by unfold kpM at hl ⊢; omega
 have h3 : kpN bs k s = kpM bs s := by
  unfold kpN
  rw [h2] at h1 ⊢
  have h4 : (nuS bs s 2).1.toNat ≤ (bs.length - (nuS bs s 2).2.1) / k := by
   rw [Nat.le_div_iff_mul_le (by omega), Nat.mul_comm]
   exact h1
  omega
 rw [h3]
theorem keep_dn {bs : List Int} (hb : ∀ z ∈ bs, 0 ≤ z ∧ z < 256) {more : Int} {k : Nat} (hk : 1 ≤ k) {s : Rst} (h : (tkK bs more k s).2.2 = 0) (hl : (tkK bs more k s).1.length ≤ 240) : tkD bs more (k : Int) s = tkK bs more k s := by
 unfold tkK at h hl
 rw [kpS_len] at hl
 have h1 := kpS_pos hb _ h
 unfold tkK tkD
 have h3 : kpM bs s = kpN bs k s := by
  have h4 : kpN bs k s ≤ (bs.length - (nuS bs s 2).2.1) / k := by
   rw [Nat.le_div_iff_mul_le (by omega), Nat.mul_comm]
   exact h1
  unfold kpM
  unfold kpN at h4 hl ⊢
  omega
 rw [h3]
def okD (k : Int) (b : List Int) : Prop := doneS b.length (tdK k b).s.1 (tdK k b).s.2 = 0 ∧ RcMay ((tdK k b).rc k) (tdK k b).p (tdK k b).k (tdK k b).d
instance (k : Int) (b : List Int) : Decidable (okD k b) := by unfold okD; infer_instance
theorem okD_eq {k : Int} (hk : 1 ≤ k ∧ k ≤ 7) {b : List Int} (hb : ∀ z ∈ b, 0 ≤ z ∧ z < 256) (h : okD k b) : tvK k b = tdK k b := by
 obtain ⟨hd, hm⟩ := h
 obtain ⟨he, _⟩ := done_inv hd
 clear hd
 have h7 : k = 1 ∨ k = 2 ∨ k = 3 ∨ k = 4 ∨ k = 5 ∨ k = 6 ∨ k = 7 := by omega
 rcases h7 with rfl | rfl | rfl | rfl | rfl | rfl | rfl
 ·have e1 : tdK 1 b = tdPk b := rfl
  have e2 : tvK 1 b = tvPk b := rfl
  rw [e1] at he
  have h1 : (nuS b (txS b (0, 0) 24).2 ((2 : Nat) : Int)).2.2 = 0 := he
  have h2 := (nuS_inv hb h1).1
  rw [e1, e2]
  unfold tvPk tdPk
  rw [txS_up (m := 24) (M := 240) (by omega) h2]
 ·have e1 : tdK 2 b = tdBg b := rfl
  have e2 : tvK 2 b = tvBg b := rfl
  rw [e1] at he
  have h1 : (prD b (e7 b).2 (e7 b).1.toNat).2.2 = 0 := he
  obtain ⟨h2, h3⟩ := prD_up hb _ h1
  have h4 : (nuS b (e6 b).2 ((1 : Nat) : Int)).2.2 = 0 := h2
  have h5 := (nuS_inv hb h4).1
  have h6 : g6 b = e6 b := txS_up (m := 24) (M := 240) (by omega) h5
  have h7 : g7 b = e7 b := by unfold g7 e7; rw [h6]
  have h8 : g8 b = e8 b := by unfold g8 e8; rw [h7]; exact h3
  rw [e1, e2]
  unfold tvBg tdBg
  rw [h6, h8]
 ·have e1 : tdK 3 b = tdLv b := rfl
  have e2 : tvK 3 b = tvLv b := rfl
  rw [e1] at he
  rw [rcMay_3 _ _ _ rfl] at hm
  have h1 : (tkD b 0 ((4 : Nat) : Int) (0, 0)).2.2 = 0 := he
  have h2 : (tkD b 0 ((4 : Nat) : Int) (0, 0)).1.length ≤ 240 := hm.1.1
  have h3 : tkK b 0 4 (0, 0) = tkD b 0 4 (0, 0) := keep_up hb (by omega) h1 h2
  rw [e1, e2]
  unfold tvLv tdLv
  rw [h3]
 ·have e1 : tdK 4 b = tdNd b := rfl
  have e2 : tvK 4 b = tvNd b := rfl
  rw [e1] at he
  rw [rcMay_4 _ _ _ rfl] at hm
  have h1 : (tkD b 1 ((2 : Nat) : Int) (nuS b (0, 0) 4).2).2.2 = 0 := he
  have h2 : (tkD b 1 ((2 : Nat) : Int) (nuS b (0, 0) 4).2).1.length ≤ 240 := Int.ofNat_le.1 hm.1.2.1.2
  have h3 : tkK b 1 2 (nuS b (0, 0) 4).2 = tkD b 1 2 (nuS b (0, 0) 4).2 := keep_up hb (by omega) h1 h2
  rw [e1, e2]
  unfold tvNd tdNd
  rw [h3]
 ·rfl
 ·rfl
 ·rfl
theorem okB_eq {k : Int} (hk : 1 ≤ k ∧ k ≤ 7) {b : List Int} (hb : ∀ z ∈ b, 0 ≤ z ∧ z < 256) (h : okB k b) : tdK k b = tvK k b := by
 obtain ⟨hd, hm⟩ := h
 obtain ⟨he, _⟩ := done_inv hd
 clear hd
 have h7 : k = 1 ∨ k = 2 ∨ k = 3 ∨ k = 4 ∨ k = 5 ∨ k = 6 ∨ k = 7 := by omega
 rcases h7 with rfl | rfl | rfl | rfl | rfl | rfl | rfl
 ·have e1 : tdK 1 b = tdPk b := rfl
  have e2 : tvK 1 b = tvPk b := rfl
  rw [e2] at he
  rw [rcMay_1 _ _ _ rfl] at hm
  have h1 : (nuS b (txS b (0, 0) 240).2 ((2 : Nat) : Int)).2.2 = 0 := he
  have h2 := (nuS_inv hb h1).1
  have h3 : PartL (tx (strOfNums (txS b (0, 0) 240).1)) := hm.1.1
  rw [e1, e2]
  unfold tvPk tdPk
  rw [txS_dn (m := 24) (M := 240) hb (by omega) h2 (str_part h3)]
 ·have e1 : tdK 2 b = tdBg b := rfl
  have e2 : tvK 2 b = tvBg b := rfl
  rw [e2] at he
  rw [rcMay_2 _ _ _ rfl] at hm
  have h1 : (prS b (g7 b).2 (g7 b).1.toNat).2.2 = 0 := he
  have h2 := (prS_inv hb _ h1).1
  have h4 : (nuS b (g6 b).2 ((1 : Nat) : Int)).2.2 = 0 := h2
  have h5 := (nuS_inv hb h4).1
  obtain ⟨_, hpo, _, _, _, _, hsn, _⟩ := hm.1
  have h6 : e6 b = g6 b := txS_dn (m := 24) (M := 240) hb (by omega) h5 (str_part hsn)
  have h7 : e7 b = g7 b := by unfold g7 e7; rw [h6]
  have hpo2 : ∀ i, i < (g7 b).1.toNat → PartL (tx (prA (prS b (g7 b).2 (g7 b).1.toNat).1 i).1) ∧ ValL (tx (prA (prS b (g7 b).2 (g7 b).1.toNat).1 i).2) := fun i hi => by
   have h9 := hpo i (by show i < (prS b (g7 b).2 (g7 b).1.toNat).1.length; rw [prS_len]; exact hi)
   exact ⟨h9.1, h9.2.1⟩
  have h8 : e8 b = g8 b := by unfold g8 e8; rw [h7]; exact prD_dn hb _ h1 hpo2
  rw [e1, e2]
  unfold tvBg tdBg
  rw [h6, h8]
 ·have e1 : tdK 3 b = tdLv b := rfl
  have e2 : tvK 3 b = tvLv b := rfl
  rw [e2] at he
  rw [rcMay_3 _ _ _ rfl] at hm
  have h1 : (tkK b 0 4 (0, 0)).2.2 = 0 := he
  have h2 : (tkK b 0 4 (0, 0)).1.length ≤ 240 := hm.1.1
  have h3 : tkD b 0 4 (0, 0) = tkK b 0 4 (0, 0) := keep_dn (k := 4) hb (by omega) h1 h2
  rw [e1, e2]
  unfold tvLv tdLv
  rw [h3]
 ·have e1 : tdK 4 b = tdNd b := rfl
  have e2 : tvK 4 b = tvNd b := rfl
  rw [e2] at he
  rw [rcMay_4 _ _ _ rfl] at hm
  have h1 : (tkK b 1 2 (nuS b (0, 0) 4).2).2.2 = 0 := he
  have h2 : (tkK b 1 2 (nuS b (0, 0) 4).2).1.length ≤ 240 := Int.ofNat_le.1 hm.1.2.1.2
  have h3 : tkD b 1 2 (nuS b (0, 0) 4).2 = tkK b 1 2 (nuS b (0, 0) 4).2 := keep_dn (k := 2) hb (by omega) h1 h2
  rw [e1, e2]
  unfold tvNd tdNd
  rw [h3]
 ·rfl
 ·rfl
 ·rfl
theorem okD_iff {k : Int} (hk : 1 ≤ k ∧ k ≤ 7) {b : List Int} (hb : ∀ z ∈ b, 0 ≤ z ∧ z < 256) : okD k b ↔ okB k b := by
 constructor
 ·intro h
  have e := okD_eq hk hb h
  unfold okB
  rw [e]
  exact h
 ·intro h
  have e := okB_eq hk hb h
  unfold okD
  rw [e]
  exact h
end
section
open Go.RowKit Go.Lib
theorem tdK_name (k : Int) (b : List Int) : (tdK k b).c.name.size ≤ b.length := by
 have ht : ∀ s m, (strOfNums (txS b s m).1).size ≤ b.length := fun s m => by rw [strOfNums_size]; exact txS_le b s m
 unfold tdK
 split
 ·exact ht _ _
 ·split
  ·exact ht _ _
  ·split
   ·exact Nat.zero_le _
   ·split
    ·exact Nat.zero_le _
    ·split <;> exact Nat.zero_le _
theorem prD_val (b : List Int) (s : Rst) : ∀ t i, i < t → (prA (prD b s t).1 i).2.size ≤ b.length
 | 0, i, h => by omega
 | t + 1, i, h => by
  have hl := prD_len b s t
  rw [prD]
  by_cases hi : i < t
  ·have ih := prD_val b s t i hi
   unfold prA at ih ⊢
   rw [List.getD_eq_getElem?_getD, List.getElem?_append_left (by omega), ← List.getD_eq_getElem?_getD]
   exact ih
  ·obtain rfl : i = t := by omega
   unfold prA
   rw [List.getD_eq_getElem?_getD, List.getElem?_append_right (by omega), hl, Nat.sub_self]
   show (strOfNums _).size ≤ _
   rw [strOfNums_size]
   exact txS_le _ _ _
theorem tdK_pv (k : Int) (b : List Int) (hb : b.length ≤ 2048) : PvOk (tdK k b).p := by
 unfold tdK
 split
 ·intro i hi; exact absurd hi (by show ¬ i < 0; omega)
 ·split
  ·intro i hi
   have h1 : i < (prD b (e7 b).2 (e7 b).1.toNat).1.length := hi
   rw [prD_len] at h1
   have h2 := prD_val b (e7 b).2 _ i h1
   show (prA (prD b (e7 b).2 (e7 b).1.toNat).1 i).2.size ≤ _
   omega
  ·split
   ·intro i hi; exact absurd hi (by show ¬ i < 0; omega)
   ·split
    ·intro i hi; exact absurd hi (by show ¬ i < 0; omega)
    ·split <;> (intro i hi; exact absurd hi (by show ¬ i < 0; omega))
theorem sp_ok {bs : List Int} (h : spE bs = 0) : 5 ≤ bs.length ∧ (1 ≤ spK bs ∧ spK bs ≤ 7) ∧ spM bs ≤ 2048 ∧ 37 + spM bs ≤ (bs.length : Int) := by
 unfold spE at h
 split at h
 ·omega
 ·split at h
  ·omega
  ·split at h
   ·omega
   ·omega
theorem dcE_sp {a : S4} {bs : List Int} {E : Int} (h : spE bs = E) (h0 : E ≠ 0) : dcE a bs = E := by
 unfold dcE
 rw [if_pos (by rw [h]; exact h0), h]
theorem sp_val {bs : List Int} (h5 : 5 ≤ bs.length) : spK bs = zA bs 0 ∧ spM bs = zA bs 1 + 256 * (zA bs 2 + 256 * (zA bs 3 + 256 * zA bs 4)) := by
 match bs, h5 with
 | b0 :: b1 :: b2 :: b3 :: b4 :: rest, _ =>
  have e1 : nuS [b0, b1, b2, b3, b4] (0, 0) 1 = (leV [b0], 1, 0) := rfl
  have e2 : nuS [b0, b1, b2, b3, b4] (1, 0) 4 = (leV [b1, b2, b3, b4], 5, 0) := rfl
  have k1 : spK (b0 :: b1 :: b2 :: b3 :: b4 :: rest) = leV [b0] := by
   unfold spK
   show (nuS [b0, b1, b2, b3, b4] (0, 0) 1).1 = _
   rw [e1]
  have k2 : spM (b0 :: b1 :: b2 :: b3 :: b4 :: rest) = leV [b1, b2, b3, b4] := by
   unfold spM
   show (nuS [b0, b1, b2, b3, b4] (nuS [b0, b1, b2, b3, b4] (0, 0) 1).2 4).1 = _
   rw [e1]
   show (nuS [b0, b1, b2, b3, b4] (1, 0) 4).1 = _
   rw [e2]
  rw [k1, k2]
  constructor
  ·simp [leV, zA]
  ·simp [leV, zA]
theorem bufD_set {w w1 w2 : World} {q : Option Addr} {n d bz : Nat} {zs : List Int} (h : BufF w Option.none w1 q n d zs) (hf : Frm [bz] w1 w2) (hn : ∀ i ∈ blk q, ¬ i = bz) (hz : w.heap.size ≤ bz) : BufF w Option.none w2 q n d zs :=
 ⟨h.own.kept hf (fun i hi he => by rw [own_blk] at hi; rw [List.mem_singleton] at he; exact hn i hi he), h.len, (h.nil.1.trans hf (fun i hi hl => by rw [List.mem_singleton] at hi; omega)).mono (by simp), h.bk⟩
theorem refDecode_short (p : Option Addr) (n c : Nat) (bs : List Int) (a : S4) (w : World) (hn : bs.length = n) (_hnc : n ≤ c) (hnb : n ≤ 140737488355328) (hrd : Rd w p bs) (hb : ∀ z ∈ bs, 0 ≤ z ∧ z < 256) (hvs : Vars w) (ha : a.Bd) (hE : spE bs ≠ 0) :
  Calls Tryz.prog 36 #[.slice p n c, .agg a.arr] w (DecP w a bs) := by
 obtain ⟨PO, hPO⟩ : ∃ PO : Ending → World → Prop, DecP w a bs = PO := ⟨_, rfl⟩
 rw [hPO]
 have HPB : Hid (∀ E w', dcE a bs = E ∧ E ≠ 0 → Frm [] w w' → PO (.returned (.tuple #[.agg #[.int .i64 0, .string ⟨#[]⟩, .int .i64 0, .int .i64 0, .int .i64 0, .int .i64 0, .string ⟨#[]⟩, .slice none 0 0, .int .i64 0, .int .i64 0, .int .i64 0, .slice none 0 0, .slice none 0 0], .int .i64 0, .agg #[.int .u64 0, .int .u64 0, .int .u64 0, .int .u64 0], .int .i64 E])) w') := hid (fun E w' h1 h3 => by rw [← hPO]; exact ⟨h3, Or.inl ⟨by rw [h1.1]; exact h1.2, by rw [h1.1]; rfl⟩⟩)
 have HPG : Hid (∀ (r : Rc) w', dcE a bs = 0 → r.core = ((tvK (spK bs) (dcB bs)).rc (spK bs)).core → RcOwn w' r (tvK (spK bs) (dcB bs)).p (tvK (spK bs) (dcB bs)).k (tvK (spK bs) (dcB bs)).d w.heap.size → Frm [] w w' → PO (.returned (.tuple #[.agg r.arr, .int .i64 (37 + spM bs), .agg (sealR a (dcH bs)).arr, .int .i64 0])) w') := hid (fun r w' h1 h2 h3 h4 => by rw [← hPO]; exact ⟨h4, Or.inr ⟨h1, r, rfl, h2, h3⟩⟩)
 have HRD := hid hrd
 have HB := hid hb
 have HLN := hid hn
 have HVS := hid hvs
 have hrow := heap_alloc_new w (.cells a.arr 29)
 have hfa : Frm [] w (w.alloc (.cells a.arr 29)) := (Frm.refl _ _).alloc _
 obtain ⟨wa, hwa⟩ := eX (w.alloc (.cells a.arr 29))
 obtain ⟨ba, hba⟩ := eX (w.heap.size)
 rw [hwa, hba] at hrow
 rw [hwa] at hfa
 have hrowr := heap_alloc_new wa (.cells #[.int .i64 0, .string ⟨#[]⟩, .int .i64 0, .int .i64 0, .int .i64 0, .int .i64 0, .string ⟨#[]⟩, .slice none 0 0, .int .i64 0, .int .i64 0, .int .i64 0, .slice none 0 0, .slice none 0 0] 26)
 have hfr : Frm [] wa (wa.alloc (.cells #[.int .i64 0, .string ⟨#[]⟩, .int .i64 0, .int .i64 0, .int .i64 0, .int .i64 0, .string ⟨#[]⟩, .slice none 0 0, .int .i64 0, .int .i64 0, .int .i64 0, .slice none 0 0, .slice none 0 0] 26)) := (Frm.refl _ _).alloc _
 obtain ⟨wr, hwr⟩ := eX (wa.alloc (.cells #[.int .i64 0, .string ⟨#[]⟩, .int .i64 0, .int .i64 0, .int .i64 0, .int .i64 0, .string ⟨#[]⟩, .slice none 0 0, .int .i64 0, .int .i64 0, .int .i64 0, .slice none 0 0, .slice none 0 0] 26))
 obtain ⟨br, hbr⟩ := eX (wa.heap.size)
 rw [hwr, hbr] at hrowr
 rw [hwr] at hfr
 have hrows := heap_alloc_new wr (.cells #[.int .u64 0, .int .u64 0, .int .u64 0, .int .u64 0] 29)
 have hfs : Frm [] wr (wr.alloc (.cells #[.int .u64 0, .int .u64 0, .int .u64 0, .int .u64 0] 29)) := (Frm.refl _ _).alloc _
 have hbs : wr.heap.size = br + 1 := by rw [← hwr, ← hbr]; simp
 obtain ⟨ws, hws⟩ := eX (wr.alloc (.cells #[.int .u64 0, .int .u64 0, .int .u64 0, .int .u64 0] 29))
 rw [hws, hbs] at hrows
 rw [hws] at hfs
 have hb1 : ba + 1 = br := by rw [← hbr, ← hwa, ← hba]; simp
 have HBL : Hid (w.heap.size < br) := hid (by omega)
 have HB1 := hid hb1
 have HFR : Hid (Frm [] w ws) := hid ((hfa.trans hfr (by simp)).trans hfs (by simp))
 have HRA : Hid (∀ W, Frm [] ws W → W.heap[ba]? = some (.cells a.arr 29 (0, 0))) := hid (fun W hf => hf.heap (hfs.heap (hfr.heap hrow (by simp)) (by simp)) (by simp))
 have HRR : Hid (∀ W, Frm [] ws W → W.heap[br]? = some (.cells #[.int .i64 0, .string ⟨#[]⟩, .int .i64 0, .int .i64 0, .int .i64 0, .int .i64 0, .string ⟨#[]⟩, .slice none 0 0, .int .i64 0, .int .i64 0, .int .i64 0, .slice none 0 0, .slice none 0 0] 26 (0, 0))) := hid (fun W hf => hf.heap (hfs.heap hrowr (by simp)) (by simp))
 have HRS : Hid (∀ W, Frm [] ws W → W.heap[br + 1]? = some (.cells #[.int .u64 0, .int .u64 0, .int .u64 0, .int .u64 0] 29 (0, 0))) := hid (fun W hf => hf.heap hrows (by simp))
 have HSZ : Hid (br + 1 < ws.heap.size) := hid (lt_of_heap hrows)
 have HWA := hid hwa
 have HWR := hid hwr
 have HWS := hid hws
 have HBA := hid hba
 have HBR := hid hbr
 have HBS := hid hbs
 have hbr13 : ∀ V, (Instr.build 26 #[]).run Tryz.prog V = .ok (.agg #[.int .i64 0, .string ⟨#[]⟩, .int .i64 0, .int .i64 0, .int .i64 0, .int .i64 0, .string ⟨#[]⟩, .slice none 0 0, .int .i64 0, .int .i64 0, .int .i64 0, .slice none 0 0, .slice none 0 0]) V := fun V => run_build V _ _ _ (by kernel_rfl)
 have hbr4 : ∀ V, (Instr.build 29 #[]).run Tryz.prog V = .ok (.agg #[.int .u64 0, .int .u64 0, .int .u64 0, .int .u64 0]) V := fun V => run_build V _ _ _ (by kernel_rfl)
 have HBA4 := hid ha
 have HRX : Hid (∀ W, Frm [] ws W → Rd W p bs) := hid (fun W hf => (hrd.kept HFR.out (by simp)).kept hf (by simp))
 have HVX : Hid (∀ W, Frm [] ws W → Vars W) := hid (fun W hf => hvs.kept (HFR.out.trans hf (by simp)))
 clear hrow hfa hwa hba hrowr hfr hwr hbr hrows hfs hws hbs hb1 hPO hn hrd hb hvs ha
 obtain ⟨s0, s1, s2, s3⟩ := a
 unfold S4.arr at HWA HRA HPG
 simp only at HWA HRA
 unfold S4.arr
 simp only
 go_enter Tryz.func36, Tryz.ntmps36
 go_upto_region 1 with fail
 try rw [HWA.out]
 try rw [HBA.out]
 try rw [HBR.out]
 try rw [HB1.out]
 try rw [HWR.out]
 try rw [HBS.out]
 try rw [HWS.out]
 by_cases h5 : n < 5
 case pos =>
  have i5 : (n : Int) < 5 := by omega
  have HEE : Hid (dcE ⟨s0, s1, s2, s3⟩ bs = 10) := hid (by exact dcE_sp (by unfold spE; rw [if_pos (by rw [HLN.out]; omega)]) (by decide))
  clear h5
  have hrr := HRR.out ws (Frm.refl [] ws)
  have hrs := HRS.out ws (Frm.refl [] ws)
  have z0 := cR 0 (.int .i64 0) hrr
  have y0 := fZ 0 hrr
  have z1 := cR 1 (.string ⟨#[]⟩) hrr
  have y1 := fZ 1 hrr
  have z2 := cR 2 (.int .i64 0) hrr
  have y2 := fZ 2 hrr
  have z3 := cR 3 (.int .i64 0) hrr
  have y3 := fZ 3 hrr
  have z4 := cR 4 (.int .i64 0) hrr
  have y4 := fZ 4 hrr
  have z5 := cR 5 (.int .i64 0) hrr
  have y5 := fZ 5 hrr
  have z6 := cR 6 (.string ⟨#[]⟩) hrr
  have y6 := fZ 6 hrr
  have z7 := cR 7 (.slice none 0 0) hrr
  have y7 := fZ 7 hrr
  have z8 := cR 8 (.int .i64 0) hrr
  have y8 := fZ 8 hrr
  have z9 := cR 9 (.int .i64 0) hrr
  have y9 := fZ 9 hrr
  have z10 := cR 10 (.int .i64 0) hrr
  have y10 := fZ 10 hrr
  have z11 := cR 11 (.slice none 0 0) hrr
  have y11 := fZ 11 hrr
  have z12 := cR 12 (.slice none 0 0) hrr
  have y12 := fZ 12 hrr
  have n0 := cR 0 (.int .u64 0) hrs
  have m0 := fZ 0 hrs
  have n1 := cR 1 (.int .u64 0) hrs
  have m1 := fZ 1 hrs
  have n2 := cR 2 (.int .u64 0) hrs
  have m2 := fZ 2 hrs
  have n3 := cR 3 (.int .u64 0) hrs
  have m3 := fZ 3 hrs
  go_wp2_with fail
  obtain ⟨Wz, hwz, h5, f5⟩ := sE br 26 [(0, .int .i64 0), (1, .string ⟨#[]⟩), (2, .int .i64 0), (3, .int .i64 0), (4, .int .i64 0), (5, .int .i64 0), (6, .string ⟨#[]⟩), (7, .slice none 0 0), (8, .int .i64 0), (9, .int .i64 0), (10, .int .i64 0), (11, .slice none 0 0), (12, .slice none 0 0)] ws _ hrr
  simp only [List.foldl, List.setIfInBounds_toArray, List.set_cons_zero, List.set_cons_succ] at h5
  simp only [setsF] at hwz
  have hWz := hwz
  rw [hwz]
  have hrs2 := f5.heap hrs (by simp)
  obtain ⟨Wy, hwy, h6, f6⟩ := sE (br + 1) 29 [(0, .int .u64 0), (1, .int .u64 0), (2, .int .u64 0), (3, .int .u64 0)] Wz _ hrs2
  simp only [List.foldl, List.setIfInBounds_toArray, List.set_cons_zero, List.set_cons_succ] at h6
  simp only [setsF] at hwy
  have hWy := hwy
  rw [hwy]
  have h7 := f6.heap h5 (by simp)
  have u0 := cR 0 (.int .i64 0) h7
  have u1 := cR 1 (.string ⟨#[]⟩) h7
  have u2 := cR 2 (.int .i64 0) h7
  have u3 := cR 3 (.int .i64 0) h7
  have u4 := cR 4 (.int .i64 0) h7
  have u5 := cR 5 (.int .i64 0) h7
  have u6 := cR 6 (.string ⟨#[]⟩) h7
  have u7 := cR 7 (.slice none 0 0) h7
  have u8 := cR 8 (.int .i64 0) h7
  have u9 := cR 9 (.int .i64 0) h7
  have u10 := cR 10 (.int .i64 0) h7
  have u11 := cR 11 (.slice none 0 0) h7
  have u12 := cR 12 (.slice none 0 0) h7
  have k0 := cR 0 (.int .u64 0) h6
  have k1 := cR 1 (.int .u64 0) h6
  have k2 := cR 2 (.int .u64 0) h6
  have k3 := cR 3 (.int .u64 0) h6
  refine bodyPost_ret (v := .tuple #[.agg #[.int .i64 0, .string ⟨#[]⟩, .int .i64 0, .int .i64 0, .int .i64 0, .int .i64 0, .string ⟨#[]⟩, .slice none 0 0, .int .i64 0, .int .i64 0, .int .i64 0, .slice none 0 0, .slice none 0 0], .int .i64 0, .agg #[.int .u64 0, .int .u64 0, .int .u64 0, .int .u64 0], .int .i64 10]) (by simp [results, Tryz.results36, go_sem, u0, u1, u2, u3, u4, u5, u6, u7, u8, u9, u10, u11, u12, k0, k1, k2, k3]) rfl ?_
  exact HPB.out _ _ ⟨HEE.out, by decide⟩ (((HFR.out.trans (Frm.refl [] ws) (by simp)).trans f5 (fun i hi hl => by rw [List.mem_singleton] at hi; have := HBL.out; omega)).trans f6 (fun i hi hl => by rw [List.mem_singleton] at hi; have := HBL.out; omega))
 have i5 : ¬ (n : Int) < 5 := by omega
 obtain ⟨g0, o0, rfl⟩ : ∃ g0 o0, p = some ⟨g0, o0, none⟩ := by
  rcases HRD.out with h | ⟨g, o, h, _⟩
  ·have := HLN.out; rw [h] at this; simp at this; omega
  ·exact ⟨g, o, h⟩
 obtain ⟨hK0, hM0⟩ := sp_val (bs := bs) (by rw [HLN.out]; omega)
 have hm0 := spM_bd HB.out
 have HCB : Hid (∀ W, Frm [] ws W → W.cell? ⟨g0, o0, none⟩ = some (.int .u8 (zA bs 0)) ∧ W.cell? ⟨g0, o0 + 1, none⟩ = some (.int .u8 (zA bs 1)) ∧ W.cell? ⟨g0, o0 + 2, none⟩ = some (.int .u8 (zA bs 2)) ∧ W.cell? ⟨g0, o0 + 3, none⟩ = some (.int .u8 (zA bs 3)) ∧ W.cell? ⟨g0, o0 + 4, none⟩ = some (.int .u8 (zA bs 4))) := hid (fun W hf => by
  have h : ∀ i, i < bs.length → W.cell? ⟨g0, o0 + i, none⟩ = some (.int .u8 (zA bs i)) := fun i hi => by
   obtain ⟨g, o, e, hc⟩ := rd_byte (i := i) (HRX.out W hf) hi
   simp only [Option.some.injEq, Addr.mk.injEq, and_true] at e
   obtain ⟨rfl, rfl⟩ := e
   exact hc
  have hl := HLN.out
  refine ⟨?_, h 1 (by omega), h 2 (by omega), h 3 (by omega), h 4 (by omega)⟩
  have h0 := h 0 (by omega)
  rw [Nat.add_zero] at h0
  exact h0)
 have hzb : ∀ i, i < 5 → 0 ≤ zA bs i ∧ zA bs i < 256 := fun i hi => by
  have hl := HLN.out
  unfold zA
  rw [List.getD_eq_getElem?_getD, List.getElem?_eq_getElem (by omega)]
  exact HB.out _ (List.getElem_mem _)
 obtain ⟨b0, hb0⟩ := eX (zA bs 0)
 obtain ⟨b1, hb1⟩ := eX (zA bs 1)
 obtain ⟨b2, hb2⟩ := eX (zA bs 2)
 obtain ⟨b3, hb3⟩ := eX (zA bs 3)
 obtain ⟨b4, hb4⟩ := eX (zA bs 4)
 have hz0 := hzb 0 (by omega)
 rw [hb0] at hz0 HCB
 have hz1 := hzb 1 (by omega)
 rw [hb1] at hz1 HCB
 have hz2 := hzb 2 (by omega)
 rw [hb2] at hz2 HCB
 have hz3 := hzb 3 (by omega)
 rw [hb3] at hz3 HCB
 have hz4 := hzb 4 (by omega)
 rw [hb4] at hz4 HCB
 rw [hb0] at hK0
 rw [hb1, hb2, hb3, hb4] at hM0
 rw [hM0] at hm0
 obtain ⟨m4, hm4⟩ := eX (256 * b4)
 obtain ⟨m3, hm3⟩ := eX (b3 + m4)
 obtain ⟨m3q, hm3q⟩ := eX (256 * m3)
 obtain ⟨m2, hm2⟩ := eX (b2 + m3q)
 obtain ⟨m2q, hm2q⟩ := eX (256 * m2)
 obtain ⟨M, hM⟩ := eX (b1 + m2q)
 have hMM : spM bs = M := by rw [hM0]; omega
 have wb0 : IntKind.i64.wrap b0 = b0 := by rw [IntKind.wrap_i64]; omega
 have wb1 : IntKind.i64.wrap b1 = b1 := by rw [IntKind.wrap_i64]; omega
 have wb2 : IntKind.i64.wrap b2 = b2 := by rw [IntKind.wrap_i64]; omega
 have wb3 : IntKind.i64.wrap b3 = b3 := by rw [IntKind.wrap_i64]; omega
 have wb4 : IntKind.i64.wrap b4 = b4 := by rw [IntKind.wrap_i64]; omega
 have wm4 : IntKind.i64.wrap (256 * b4) = m4 := by rw [IntKind.wrap_i64]; omega
 have wm3 : IntKind.i64.wrap (b3 + m4) = m3 := by rw [IntKind.wrap_i64]; omega
 have wm3q : IntKind.i64.wrap (256 * m3) = m3q := by rw [IntKind.wrap_i64]; omega
 have wm2 : IntKind.i64.wrap (b2 + m3q) = m2 := by rw [IntKind.wrap_i64]; omega
 have wm2q : IntKind.i64.wrap (256 * m2) = m2q := by rw [IntKind.wrap_i64]; omega
 have wM : IntKind.i64.wrap (b1 + m2q) = M := by rw [IntKind.wrap_i64]; omega
 have hMb : 0 ≤ M ∧ M < 4294967296 := by omega
 have HSPK := hid hK0
 have HSPM := hid hMM
 have HB0B := hid hz0
 obtain ⟨hMb0, hMb1⟩ := hMb
 have i05 : (0 : Int) < (n : Int) := by omega
 have n05 : 0 < n := by omega
 have i15 : (1 : Int) < (n : Int) := by omega
 have i25 : (2 : Int) < (n : Int) := by omega
 have i35 : (3 : Int) < (n : Int) := by omega
 have i45 : (4 : Int) < (n : Int) := by omega
 have h5N : 5 ≤ n := by omega
 clear hm4 hm3 hm3q hm2 hm2q hM hM0 hm0 hK0 hMM hb0 hb1 hb2 hb3 hb4 hzb h5
 go_upto_region 3 with fail
 refine wp_region_tail (S := fun W => (W.cell? ⟨g0, o0, none⟩ = some (.int .u8 b0) ∧ W.cell? ⟨g0, o0 + 1, none⟩ = some (.int .u8 b1) ∧ W.cell? ⟨g0, o0 + 2, none⟩ = some (.int .u8 b2) ∧ W.cell? ⟨g0, o0 + 3, none⟩ = some (.int .u8 b3) ∧ W.cell? ⟨g0, o0 + 4, none⟩ = some (.int .u8 b4))) 22 23 rfl (by kernel_rfl) (by kernel_rfl) ?_
 obtain ⟨wd, hwd⟩ := eX (ws.drew)
 rw [hwd]
 have HFD : Hid (Frm [] ws wd) := hid (by rw [← hwd]; exact (Frm.refl [] ws).drew)
 clear hwd
 refine hI (i := 0) (v := ?_) rfl ?_ (HCB.out _ HFD.out) ?_
 rotate_left 1
 ·rintro W ⟨e0, e1, e2, e3, e4⟩; (try simp only [lA, lZ]); go_simp; try with_reducible rfl
 try simp only [lA, lZ, Act.put, lI, lW, lX]
 refine hI (i := 1) (v := ?_) rfl ?_ (HCB.out _ HFD.out) ?_
 rotate_left 1
 ·rintro W ⟨e0, e1, e2, e3, e4⟩; (try simp only [lA, lS, lZ]); go_simp; try with_reducible rfl
 try simp only [lA, lS, lZ, Act.put, lI, lW, lX]
 refine hI (i := 2) (v := ?_) rfl ?_ (HCB.out _ HFD.out) ?_
 rotate_left 1
 ·rintro W ⟨e0, e1, e2, e3, e4⟩; (try simp only [lA, lS, lZ]); go_simp; try with_reducible rfl
 try simp only [lA, lS, lZ, Act.put, lI, lW, lX]
 refine hI (i := 3) (v := ?_) rfl ?_ (HCB.out _ HFD.out) ?_
 rotate_left 1
 ·rintro W ⟨e0, e1, e2, e3, e4⟩; (try simp only [lA, lS, lZ]); go_simp; try with_reducible rfl
 try simp only [lA, lS, lZ, Act.put, lI, lW, lX]
 refine hI (i := 4) (v := ?_) rfl ?_ (HCB.out _ HFD.out) ?_
 rotate_left 1
 ·rintro W ⟨e0, e1, e2, e3, e4⟩; (try simp only [lA, lS, lZ]); go_simp; try with_reducible rfl
 try simp only [lA, lS, lZ, Act.put, lI, lW, lX]
 refine hI (i := 5) (v := ?_) rfl ?_ (HCB.out _ HFD.out) ?_
 rotate_left 1
 ·rintro W ⟨e0, e1, e2, e3, e4⟩; (try simp only [lA, lS, lZ]); go_simp; try with_reducible rfl
 try simp only [lA, lS, lZ, Act.put, lI, lW, lX]
 refine hI (i := 6) (v := ?_) rfl ?_ (HCB.out _ HFD.out) ?_
 rotate_left 1
 ·rintro W ⟨e0, e1, e2, e3, e4⟩; (try simp only [lA, lS, lZ]); go_simp; try with_reducible rfl
 try simp only [lA, lS, lZ, Act.put, lI, lW, lX]
 refine hI (i := 7) (v := ?_) rfl ?_ (HCB.out _ HFD.out) ?_
 rotate_left 1
 ·rintro W ⟨e0, e1, e2, e3, e4⟩; (try simp only [lA, lS, lZ]); go_simp; try with_reducible rfl
 try simp only [lA, lS, lZ, Act.put, lI, lW, lX]
 refine hI (i := 8) (v := ?_) rfl ?_ (HCB.out _ HFD.out) ?_
 rotate_left 1
 ·rintro W ⟨e0, e1, e2, e3, e4⟩; (try simp only [lA, lS, lZ]); go_simp; try with_reducible rfl
 try simp only [lA, lS, lZ, Act.put, lI, lW, lX]
 refine hI (i := 9) (v := ?_) rfl ?_ (HCB.out _ HFD.out) ?_
 rotate_left 1
 ·rintro W ⟨e0, e1, e2, e3, e4⟩; (try simp only [lA, lS, lZ]); go_simp; try with_reducible rfl
 try simp only [lA, lS, lZ, Act.put, lI, lW, lX]
 refine hI (i := 10) (v := ?_) rfl ?_ (HCB.out _ HFD.out) ?_
 rotate_left 1
 ·rintro W ⟨e0, e1, e2, e3, e4⟩; (try simp only [lA, lS, lZ]); go_simp; try with_reducible rfl
 try simp only [lA, lS, lZ, Act.put, lI, lW, lX]
 refine hI (i := 11) (v := ?_) rfl ?_ (HCB.out _ HFD.out) ?_
 rotate_left 1
 ·rintro W ⟨e0, e1, e2, e3, e4⟩; (try simp only [lA, lS, lZ]); go_simp; try with_reducible rfl
 try simp only [lA, lS, lZ, Act.put, lI, lW, lX]
 refine hI (i := 12) (v := ?_) rfl ?_ (HCB.out _ HFD.out) ?_
 rotate_left 1
 ·rintro W ⟨e0, e1, e2, e3, e4⟩; (try simp only [lA, lS, lZ]); go_simp; try with_reducible rfl
 try simp only [lA, lS, lZ, Act.put, lI, lW, lX]
 refine hI (i := 13) (v := ?_) rfl ?_ (HCB.out _ HFD.out) ?_
 rotate_left 1
 ·rintro W ⟨e0, e1, e2, e3, e4⟩; (try simp only [lA, lS, lZ]); go_simp; try with_reducible rfl
 try simp only [lA, lS, lZ, Act.put, lI, lW, lX]
 refine hI (i := 14) (v := ?_) rfl ?_ (HCB.out _ HFD.out) ?_
 rotate_left 1
 ·rintro W ⟨e0, e1, e2, e3, e4⟩; (try simp only [lA, lS, lZ]); go_simp; try with_reducible rfl
 try simp only [lA, lS, lZ, Act.put, lI, lW, lX]
 refine hI (i := 15) (v := ?_) rfl ?_ (HCB.out _ HFD.out) ?_
 rotate_left 1
 ·rintro W ⟨e0, e1, e2, e3, e4⟩; (try simp only [lA, lS, lZ]); go_simp; try with_reducible rfl
 try simp only [lA, lS, lZ, Act.put, lI, lW, lX]
 refine hI (i := 16) (v := ?_) rfl ?_ (HCB.out _ HFD.out) ?_
 rotate_left 1
 ·rintro W ⟨e0, e1, e2, e3, e4⟩; (try simp only [lA, lS, lZ]); go_simp; try with_reducible rfl
 try simp only [lA, lS, lZ, Act.put, lI, lW, lX]
 refine hI (i := 17) (v := ?_) rfl ?_ (HCB.out _ HFD.out) ?_
 rotate_left 1
 ·rintro W ⟨e0, e1, e2, e3, e4⟩; (try simp only [lA, lS, lZ]); go_simp; try with_reducible rfl
 try simp only [lA, lS, lZ, Act.put, lI, lW, lX]
 refine hI (i := 18) (v := ?_) rfl ?_ (HCB.out _ HFD.out) ?_
 rotate_left 1
 ·rintro W ⟨e0, e1, e2, e3, e4⟩; (try simp only [lA, lS, lZ]); go_simp; try with_reducible rfl
 try simp only [lA, lS, lZ, Act.put, lI, lW, lX]
 refine hI (i := 19) (v := ?_) rfl ?_ (HCB.out _ HFD.out) ?_
 rotate_left 1
 ·rintro W ⟨e0, e1, e2, e3, e4⟩; (try simp only [lA, lS, lZ]); go_simp; try with_reducible rfl
 try simp only [lA, lS, lZ, Act.put, lI, lW, lX]
 refine hI (i := 20) (v := ?_) rfl ?_ (HCB.out _ HFD.out) ?_
 rotate_left 1
 ·rintro W ⟨e0, e1, e2, e3, e4⟩; (try simp only [lA, lS, lZ]); go_simp; try with_reducible rfl
 try simp only [lA, lS, lZ, Act.put, lI, lW, lX]
 refine hI (i := 21) (v := ?_) rfl ?_ (HCB.out _ HFD.out) ?_
 rotate_left 1
 ·rintro W ⟨e0, e1, e2, e3, e4⟩; (try simp only [lA, lS, lZ]); go_simp; try with_reducible rfl
 try simp only [lA, lS, lZ, Act.put, lI, lW, lX]
 refine wpAnyHT_end (by kernel_rfl) ?_
 simp only [List.drop_succ_cons, List.drop_zero]
 clear wb1 wb2 wb3 wb4 wm4 wm3 wm3q wm2 wm2q wM
 go_upto_region 4 with fail
 obtain ⟨c0, _, _, _, _⟩ := HCB.out wd HFD.out
 by_cases hk1 : b0 < 1
 case pos =>
  have HEE : Hid (dcE ⟨s0, s1, s2, s3⟩ bs = 200) := hid (by exact dcE_sp (by unfold spE; rw [if_neg (by rw [HLN.out]; omega), if_pos (by rw [HSPK.out, HSPM.out]; omega)]) (by decide))
  have hrr := HRR.out wd HFD.out
  have hrs := HRS.out wd HFD.out
  have z0 := cR 0 (.int .i64 0) hrr
  have y0 := fZ 0 hrr
  have z1 := cR 1 (.string ⟨#[]⟩) hrr
  have y1 := fZ 1 hrr
  have z2 := cR 2 (.int .i64 0) hrr
  have y2 := fZ 2 hrr
  have z3 := cR 3 (.int .i64 0) hrr
  have y3 := fZ 3 hrr
  have z4 := cR 4 (.int .i64 0) hrr
  have y4 := fZ 4 hrr
  have z5 := cR 5 (.int .i64 0) hrr
  have y5 := fZ 5 hrr
  have z6 := cR 6 (.string ⟨#[]⟩) hrr
  have y6 := fZ 6 hrr
  have z7 := cR 7 (.slice none 0 0) hrr
  have y7 := fZ 7 hrr
  have z8 := cR 8 (.int .i64 0) hrr
  have y8 := fZ 8 hrr
  have z9 := cR 9 (.int .i64 0) hrr
  have y9 := fZ 9 hrr
  have z10 := cR 10 (.int .i64 0) hrr
  have y10 := fZ 10 hrr
  have z11 := cR 11 (.slice none 0 0) hrr
  have y11 := fZ 11 hrr
  have z12 := cR 12 (.slice none 0 0) hrr
  have y12 := fZ 12 hrr
  have n0 := cR 0 (.int .u64 0) hrs
  have m0 := fZ 0 hrs
  have n1 := cR 1 (.int .u64 0) hrs
  have m1 := fZ 1 hrs
  have n2 := cR 2 (.int .u64 0) hrs
  have m2 := fZ 2 hrs
  have n3 := cR 3 (.int .u64 0) hrs
  have m3 := fZ 3 hrs
  go_wp2_with fail
  obtain ⟨Wz, hwz, h5, f5⟩ := sE br 26 [(0, .int .i64 0), (1, .string ⟨#[]⟩), (2, .int .i64 0), (3, .int .i64 0), (4, .int .i64 0), (5, .int .i64 0), (6, .string ⟨#[]⟩), (7, .slice none 0 0), (8, .int .i64 0), (9, .int .i64 0), (10, .int .i64 0), (11, .slice none 0 0), (12, .slice none 0 0)] wd _ hrr
  simp only [List.foldl, List.setIfInBounds_toArray, List.set_cons_zero, List.set_cons_succ] at h5
  simp only [setsF] at hwz
  have hWz := hwz
  rw [hwz]
  have hrs2 := f5.heap hrs (by simp)
  obtain ⟨Wy, hwy, h6, f6⟩ := sE (br + 1) 29 [(0, .int .u64 0), (1, .int .u64 0), (2, .int .u64 0), (3, .int .u64 0)] Wz _ hrs2
  simp only [List.foldl, List.setIfInBounds_toArray, List.set_cons_zero, List.set_cons_succ] at h6
  simp only [setsF] at hwy
  have hWy := hwy
  rw [hwy]
  have h7 := f6.heap h5 (by simp)
  have u0 := cR 0 (.int .i64 0) h7
  have u1 := cR 1 (.string ⟨#[]⟩) h7
  have u2 := cR 2 (.int .i64 0) h7
  have u3 := cR 3 (.int .i64 0) h7
  have u4 := cR 4 (.int .i64 0) h7
  have u5 := cR 5 (.int .i64 0) h7
  have u6 := cR 6 (.string ⟨#[]⟩) h7
  have u7 := cR 7 (.slice none 0 0) h7
  have u8 := cR 8 (.int .i64 0) h7
  have u9 := cR 9 (.int .i64 0) h7
  have u10 := cR 10 (.int .i64 0) h7
  have u11 := cR 11 (.slice none 0 0) h7
  have u12 := cR 12 (.slice none 0 0) h7
  have k0 := cR 0 (.int .u64 0) h6
  have k1 := cR 1 (.int .u64 0) h6
  have k2 := cR 2 (.int .u64 0) h6
  have k3 := cR 3 (.int .u64 0) h6
  refine bodyPost_ret (v := .tuple #[.agg #[.int .i64 0, .string ⟨#[]⟩, .int .i64 0, .int .i64 0, .int .i64 0, .int .i64 0, .string ⟨#[]⟩, .slice none 0 0, .int .i64 0, .int .i64 0, .int .i64 0, .slice none 0 0, .slice none 0 0], .int .i64 0, .agg #[.int .u64 0, .int .u64 0, .int .u64 0, .int .u64 0], .int .i64 200]) (by simp [results, Tryz.results36, go_sem, u0, u1, u2, u3, u4, u5, u6, u7, u8, u9, u10, u11, u12, k0, k1, k2, k3]) rfl ?_
  exact HPB.out _ _ ⟨HEE.out, by decide⟩ (((HFR.out.trans HFD.out (by simp)).trans f5 (fun i hi hl => by rw [List.mem_singleton] at hi; have := HBL.out; omega)).trans f6 (fun i hi hl => by rw [List.mem_singleton] at hi; have := HBL.out; omega))
 have dk1 := decide_eq_false hk1
 by_cases hk7 : 7 < b0
 case pos =>
  have HEE : Hid (dcE ⟨s0, s1, s2, s3⟩ bs = 200) := hid (by exact dcE_sp (by unfold spE; rw [if_neg (by rw [HLN.out]; omega), if_pos (by rw [HSPK.out, HSPM.out]; omega)]) (by decide))
  have hrr := HRR.out wd HFD.out
  have hrs := HRS.out wd HFD.out
  have z0 := cR 0 (.int .i64 0) hrr
  have y0 := fZ 0 hrr
  have z1 := cR 1 (.string ⟨#[]⟩) hrr
  have y1 := fZ 1 hrr
  have z2 := cR 2 (.int .i64 0) hrr
  have y2 := fZ 2 hrr
  have z3 := cR 3 (.int .i64 0) hrr
  have y3 := fZ 3 hrr
  have z4 := cR 4 (.int .i64 0) hrr
  have y4 := fZ 4 hrr
  have z5 := cR 5 (.int .i64 0) hrr
  have y5 := fZ 5 hrr
  have z6 := cR 6 (.string ⟨#[]⟩) hrr
  have y6 := fZ 6 hrr
  have z7 := cR 7 (.slice none 0 0) hrr
  have y7 := fZ 7 hrr
  have z8 := cR 8 (.int .i64 0) hrr
  have y8 := fZ 8 hrr
  have z9 := cR 9 (.int .i64 0) hrr
  have y9 := fZ 9 hrr
  have z10 := cR 10 (.int .i64 0) hrr
  have y10 := fZ 10 hrr
  have z11 := cR 11 (.slice none 0 0) hrr
  have y11 := fZ 11 hrr
  have z12 := cR 12 (.slice none 0 0) hrr
  have y12 := fZ 12 hrr
  have n0 := cR 0 (.int .u64 0) hrs
  have m0 := fZ 0 hrs
  have n1 := cR 1 (.int .u64 0) hrs
  have m1 := fZ 1 hrs
  have n2 := cR 2 (.int .u64 0) hrs
  have m2 := fZ 2 hrs
  have n3 := cR 3 (.int .u64 0) hrs
  have m3 := fZ 3 hrs
  go_wp2_with fail
  obtain ⟨Wz, hwz, h5, f5⟩ := sE br 26 [(0, .int .i64 0), (1, .string ⟨#[]⟩), (2, .int .i64 0), (3, .int .i64 0), (4, .int .i64 0), (5, .int .i64 0), (6, .string ⟨#[]⟩), (7, .slice none 0 0), (8, .int .i64 0), (9, .int .i64 0), (10, .int .i64 0), (11, .slice none 0 0), (12, .slice none 0 0)] wd _ hrr
  simp only [List.foldl, List.setIfInBounds_toArray, List.set_cons_zero, List.set_cons_succ] at h5
  simp only [setsF] at hwz
  have hWz := hwz
  rw [hwz]
  have hrs2 := f5.heap hrs (by simp)
  obtain ⟨Wy, hwy, h6, f6⟩ := sE (br + 1) 29 [(0, .int .u64 0), (1, .int .u64 0), (2, .int .u64 0), (3, .int .u64 0)] Wz _ hrs2
  simp only [List.foldl, List.setIfInBounds_toArray, List.set_cons_zero, List.set_cons_succ] at h6
  simp only [setsF] at hwy
  have hWy := hwy
  rw [hwy]
  have h7 := f6.heap h5 (by simp)
  have u0 := cR 0 (.int .i64 0) h7
  have u1 := cR 1 (.string ⟨#[]⟩) h7
  have u2 := cR 2 (.int .i64 0) h7
  have u3 := cR 3 (.int .i64 0) h7
  have u4 := cR 4 (.int .i64 0) h7
  have u5 := cR 5 (.int .i64 0) h7
  have u6 := cR 6 (.string ⟨#[]⟩) h7
  have u7 := cR 7 (.slice none 0 0) h7
  have u8 := cR 8 (.int .i64 0) h7
  have u9 := cR 9 (.int .i64 0) h7
  have u10 := cR 10 (.int .i64 0) h7
  have u11 := cR 11 (.slice none 0 0) h7
  have u12 := cR 12 (.slice none 0 0) h7
  have k0 := cR 0 (.int .u64 0) h6
  have k1 := cR 1 (.int .u64 0) h6
  have k2 := cR 2 (.int .u64 0) h6
  have k3 := cR 3 (.int .u64 0) h6
  refine bodyPost_ret (v := .tuple #[.agg #[.int .i64 0, .string ⟨#[]⟩, .int .i64 0, .int .i64 0, .int .i64 0, .int .i64 0, .string ⟨#[]⟩, .slice none 0 0, .int .i64 0, .int .i64 0, .int .i64 0, .slice none 0 0, .slice none 0 0], .int .i64 0, .agg #[.int .u64 0, .int .u64 0, .int .u64 0, .int .u64 0], .int .i64 200]) (by simp [results, Tryz.results36, go_sem, u0, u1, u2, u3, u4, u5, u6, u7, u8, u9, u10, u11, u12, k0, k1, k2, k3]) rfl ?_
  exact HPB.out _ _ ⟨HEE.out, by decide⟩ (((HFR.out.trans HFD.out (by simp)).trans f5 (fun i hi hl => by rw [List.mem_singleton] at hi; have := HBL.out; omega)).trans f6 (fun i hi hl => by rw [List.mem_singleton] at hi; have := HBL.out; omega))
 have dk7 := decide_eq_false hk7
 by_cases hM2 : 2048 < M
 case pos =>
  have HEE : Hid (dcE ⟨s0, s1, s2, s3⟩ bs = 200) := hid (by exact dcE_sp (by unfold spE; rw [if_neg (by rw [HLN.out]; omega), if_pos (by rw [HSPK.out, HSPM.out]; omega)]) (by decide))
  have hrr := HRR.out wd HFD.out
  have hrs := HRS.out wd HFD.out
  have z0 := cR 0 (.int .i64 0) hrr
  have y0 := fZ 0 hrr
  have z1 := cR 1 (.string ⟨#[]⟩) hrr
  have y1 := fZ 1 hrr
  have z2 := cR 2 (.int .i64 0) hrr
  have y2 := fZ 2 hrr
  have z3 := cR 3 (.int .i64 0) hrr
  have y3 := fZ 3 hrr
  have z4 := cR 4 (.int .i64 0) hrr
  have y4 := fZ 4 hrr
  have z5 := cR 5 (.int .i64 0) hrr
  have y5 := fZ 5 hrr
  have z6 := cR 6 (.string ⟨#[]⟩) hrr
  have y6 := fZ 6 hrr
  have z7 := cR 7 (.slice none 0 0) hrr
  have y7 := fZ 7 hrr
  have z8 := cR 8 (.int .i64 0) hrr
  have y8 := fZ 8 hrr
  have z9 := cR 9 (.int .i64 0) hrr
  have y9 := fZ 9 hrr
  have z10 := cR 10 (.int .i64 0) hrr
  have y10 := fZ 10 hrr
  have z11 := cR 11 (.slice none 0 0) hrr
  have y11 := fZ 11 hrr
  have z12 := cR 12 (.slice none 0 0) hrr
  have y12 := fZ 12 hrr
  have n0 := cR 0 (.int .u64 0) hrs
  have m0 := fZ 0 hrs
  have n1 := cR 1 (.int .u64 0) hrs
  have m1 := fZ 1 hrs
  have n2 := cR 2 (.int .u64 0) hrs
  have m2 := fZ 2 hrs
  have n3 := cR 3 (.int .u64 0) hrs
  have m3 := fZ 3 hrs
  go_wp2_with fail
  obtain ⟨Wz, hwz, h5, f5⟩ := sE br 26 [(0, .int .i64 0), (1, .string ⟨#[]⟩), (2, .int .i64 0), (3, .int .i64 0), (4, .int .i64 0), (5, .int .i64 0), (6, .string ⟨#[]⟩), (7, .slice none 0 0), (8, .int .i64 0), (9, .int .i64 0), (10, .int .i64 0), (11, .slice none 0 0), (12, .slice none 0 0)] wd _ hrr
  simp only [List.foldl, List.setIfInBounds_toArray, List.set_cons_zero, List.set_cons_succ] at h5
  simp only [setsF] at hwz
  have hWz := hwz
  rw [hwz]
  have hrs2 := f5.heap hrs (by simp)
  obtain ⟨Wy, hwy, h6, f6⟩ := sE (br + 1) 29 [(0, .int .u64 0), (1, .int .u64 0), (2, .int .u64 0), (3, .int .u64 0)] Wz _ hrs2
  simp only [List.foldl, List.setIfInBounds_toArray, List.set_cons_zero, List.set_cons_succ] at h6
  simp only [setsF] at hwy
  have hWy := hwy
  rw [hwy]
  have h7 := f6.heap h5 (by simp)
  have u0 := cR 0 (.int .i64 0) h7
  have u1 := cR 1 (.string ⟨#[]⟩) h7
  have u2 := cR 2 (.int .i64 0) h7
  have u3 := cR 3 (.int .i64 0) h7
  have u4 := cR 4 (.int .i64 0) h7
  have u5 := cR 5 (.int .i64 0) h7
  have u6 := cR 6 (.string ⟨#[]⟩) h7
  have u7 := cR 7 (.slice none 0 0) h7
  have u8 := cR 8 (.int .i64 0) h7
  have u9 := cR 9 (.int .i64 0) h7
  have u10 := cR 10 (.int .i64 0) h7
  have u11 := cR 11 (.slice none 0 0) h7
  have u12 := cR 12 (.slice none 0 0) h7
  have k0 := cR 0 (.int .u64 0) h6
  have k1 := cR 1 (.int .u64 0) h6
  have k2 := cR 2 (.int .u64 0) h6
  have k3 := cR 3 (.int .u64 0) h6
  refine bodyPost_ret (v := .tuple #[.agg #[.int .i64 0, .string ⟨#[]⟩, .int .i64 0, .int .i64 0, .int .i64 0, .int .i64 0, .string ⟨#[]⟩, .slice none 0 0, .int .i64 0, .int .i64 0, .int .i64 0, .slice none 0 0, .slice none 0 0], .int .i64 0, .agg #[.int .u64 0, .int .u64 0, .int .u64 0, .int .u64 0], .int .i64 200]) (by simp [results, Tryz.results36, go_sem, u0, u1, u2, u3, u4, u5, u6, u7, u8, u9, u10, u11, u12, k0, k1, k2, k3]) rfl ?_
  exact HPB.out _ _ ⟨HEE.out, by decide⟩ (((HFR.out.trans HFD.out (by simp)).trans f5 (fun i hi hl => by rw [List.mem_singleton] at hi; have := HBL.out; omega)).trans f6 (fun i hi hl => by rw [List.mem_singleton] at hi; have := HBL.out; omega))
 have dM2 := decide_eq_false hM2
 by_cases h37 : (n : Int) < 37 + M
 case pos =>
  have HEE : Hid (dcE ⟨s0, s1, s2, s3⟩ bs = 10) := hid (by exact dcE_sp (by unfold spE; rw [if_neg (by rw [HLN.out]; omega), if_neg (by rw [HSPK.out, HSPM.out]; omega), if_pos (by rw [HSPM.out, HLN.out]; exact h37)]) (by decide))
  have hrr := HRR.out wd HFD.out
  have hrs := HRS.out wd HFD.out
  have z0 := cR 0 (.int .i64 0) hrr
  have y0 := fZ 0 hrr
  have z1 := cR 1 (.string ⟨#[]⟩) hrr
  have y1 := fZ 1 hrr
  have z2 := cR 2 (.int .i64 0) hrr
  have y2 := fZ 2 hrr
  have z3 := cR 3 (.int .i64 0) hrr
  have y3 := fZ 3 hrr
  have z4 := cR 4 (.int .i64 0) hrr
  have y4 := fZ 4 hrr
  have z5 := cR 5 (.int .i64 0) hrr
  have y5 := fZ 5 hrr
  have z6 := cR 6 (.string ⟨#[]⟩) hrr
  have y6 := fZ 6 hrr
  have z7 := cR 7 (.slice none 0 0) hrr
  have y7 := fZ 7 hrr
  have z8 := cR 8 (.int .i64 0) hrr
  have y8 := fZ 8 hrr
  have z9 := cR 9 (.int .i64 0) hrr
  have y9 := fZ 9 hrr
  have z10 := cR 10 (.int .i64 0) hrr
  have y10 := fZ 10 hrr
  have z11 := cR 11 (.slice none 0 0) hrr
  have y11 := fZ 11 hrr
  have z12 := cR 12 (.slice none 0 0) hrr
  have y12 := fZ 12 hrr
  have n0 := cR 0 (.int .u64 0) hrs
  have m0 := fZ 0 hrs
  have n1 := cR 1 (.int .u64 0) hrs
  have m1 := fZ 1 hrs
  have n2 := cR 2 (.int .u64 0) hrs
  have m2 := fZ 2 hrs
  have n3 := cR 3 (.int .u64 0) hrs
  have m3 := fZ 3 hrs
  go_wp2_with fail
  obtain ⟨Wz, hwz, h5, f5⟩ := sE br 26 [(0, .int .i64 0), (1, .string ⟨#[]⟩), (2, .int .i64 0), (3, .int .i64 0), (4, .int .i64 0), (5, .int .i64 0), (6, .string ⟨#[]⟩), (7, .slice none 0 0), (8, .int .i64 0), (9, .int .i64 0), (10, .int .i64 0), (11, .slice none 0 0), (12, .slice none 0 0)] wd _ hrr
  simp only [List.foldl, List.setIfInBounds_toArray, List.set_cons_zero, List.set_cons_succ] at h5
  simp only [setsF] at hwz
  have hWz := hwz
  rw [hwz]
  have hrs2 := f5.heap hrs (by simp)
  obtain ⟨Wy, hwy, h6, f6⟩ := sE (br + 1) 29 [(0, .int .u64 0), (1, .int .u64 0), (2, .int .u64 0), (3, .int .u64 0)] Wz _ hrs2
  simp only [List.foldl, List.setIfInBounds_toArray, List.set_cons_zero, List.set_cons_succ] at h6
  simp only [setsF] at hwy
  have hWy := hwy
  rw [hwy]
  have h7 := f6.heap h5 (by simp)
  have u0 := cR 0 (.int .i64 0) h7
  have u1 := cR 1 (.string ⟨#[]⟩) h7
  have u2 := cR 2 (.int .i64 0) h7
  have u3 := cR 3 (.int .i64 0) h7
  have u4 := cR 4 (.int .i64 0) h7
  have u5 := cR 5 (.int .i64 0) h7
  have u6 := cR 6 (.string ⟨#[]⟩) h7
  have u7 := cR 7 (.slice none 0 0) h7
  have u8 := cR 8 (.int .i64 0) h7
  have u9 := cR 9 (.int .i64 0) h7
  have u10 := cR 10 (.int .i64 0) h7
  have u11 := cR 11 (.slice none 0 0) h7
  have u12 := cR 12 (.slice none 0 0) h7
  have k0 := cR 0 (.int .u64 0) h6
  have k1 := cR 1 (.int .u64 0) h6
  have k2 := cR 2 (.int .u64 0) h6
  have k3 := cR 3 (.int .u64 0) h6
  refine bodyPost_ret (v := .tuple #[.agg #[.int .i64 0, .string ⟨#[]⟩, .int .i64 0, .int .i64 0, .int .i64 0, .int .i64 0, .string ⟨#[]⟩, .slice none 0 0, .int .i64 0, .int .i64 0, .int .i64 0, .slice none 0 0, .slice none 0 0], .int .i64 0, .agg #[.int .u64 0, .int .u64 0, .int .u64 0, .int .u64 0], .int .i64 10]) (by simp [results, Tryz.results36, go_sem, u0, u1, u2, u3, u4, u5, u6, u7, u8, u9, u10, u11, u12, k0, k1, k2, k3]) rfl ?_
  exact HPB.out _ _ ⟨HEE.out, by decide⟩ (((HFR.out.trans HFD.out (by simp)).trans f5 (fun i hi hl => by rw [List.mem_singleton] at hi; have := HBL.out; omega)).trans f6 (fun i hi hl => by rw [List.mem_singleton] at hi; have := HBL.out; omega))
 exact absurd (by unfold spE; rw [if_neg (by rw [HLN.out]; omega), if_neg (by rw [HSPK.out, HSPM.out]; omega), if_neg (by rw [HSPM.out, HLN.out]; exact h37)]) hE
end
end Go.Proofs.YtajfjkfnmmfhmaaGreatDoor
