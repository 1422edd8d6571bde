/- Records: a part's beginning taken up. -/
import Derived.Test.YtajfjkfnmmfhmaaGreatDoorQsag
import Derived.Lib.AppendZerosOnto
import Derived.Lib.Overlaps
import Derived.Test.YtajfjkfnmmfhmaaGreatDoorQsaa
import Derived.Test.YtajfjkfnmmfhmaaGreatDoorQsae
import Derived.DeepKeys
namespace Go.Proofs.YtajfjkfnmmfhmaaGreatDoor
set_option maxRecDepth 100000
set_option maxHeartbeats 25600000
section
open Go.RowKit Go.Lib
theorem Tk.gen {S : List Nat} {w0 w W W' : World} {b g bx : Nat} {bs : List Int} {row : Array Value} {s : Rst} (h : Tk w0 w b g bs bx W row s) (hf : Frm S W W') (hS : ∀ k ∈ S, w.heap.size ≤ k ∧ k ≠ bx ∧ k ≠ b ∧ k ≠ g) (hw : w0.heap.size ≤ w.heap.size) : Tk w0 w b g bs bx W' row s := by
 obtain ⟨a1, a2, a3, a4⟩ := h.fr
 exact ⟨⟨a1.kept hf (fun hm => (hS b hm).2.2.1 rfl) (fun hm => (hS g hm).2.2.2 rfl), a2.trans hf (fun i hi hl => by have := (hS i hi).1; omega), a3, a4⟩, hf.heap h.rw_ (fun hm => (hS bx hm).2.1 rfl), h.frm.trans hf (fun i hi hl => by have := (hS i hi).1; omega), h.lo, h.ne⟩
def prS (bs : List Int) (s : Rst) : Nat → List Pr × Rst
 | 0 => ([], s)
 | t + 1 => ((prS bs s t).1 ++ [(strOfNums (txS bs (prS bs s t).2 240).1, strOfNums (txS bs (txS bs (prS bs s t).2 240).2 240).1)], (txS bs (txS bs (prS bs s t).2 240).2 240).2)
theorem prS_len (bs : List Int) (s : Rst) : ∀ t, (prS bs s t).1.length = t
 | 0 => rfl
 | t + 1 => by rw [prS, List.length_append, prS_len bs s t]; rfl
theorem infoPrR : (Tryz.prog.info? 70).map (fun i => (i.zero, i.size, i.bytes)) = some (some (.agg #[.string ⟨#[]⟩, .string ⟨#[]⟩]), 2, 32) := by kernel_rfl
def g1 (bs : List Int) := txS bs (0, 0) 240
def g2 (bs : List Int) := nuS bs (g1 bs).2 1
def g3 (bs : List Int) := nuS bs (g2 bs).2 6
def g4 (bs : List Int) := nuS bs (g3 bs).2 6
def g5 (bs : List Int) := nuS bs (g4 bs).2 1
def g6 (bs : List Int) := txS bs (g5 bs).2 240
def g7 (bs : List Int) := nuS bs (g6 bs).2 1
def g8 (bs : List Int) := prS bs (g7 bs).2 (g7 bs).1.toNat
def tvBg (bs : List Int) : TkV := ⟨⟨0, strOfNums (g1 bs).1, (g2 bs).1, (g3 bs).1, (g4 bs).1, (g5 bs).1, strOfNums (g6 bs).1, none, 0, 0, 0, 0, 0, none, 0, 0, none, 0, 0⟩, (g8 bs).1, [], [], (g8 bs).2⟩
theorem takeBegin_any (w0 w : World) (b g : Nat) (bs : List Int) (hb : ∀ z ∈ bs, 0 ≤ z ∧ z < 256) (hl : bs.length ≤ 2048) (h : FrR w0 w b g bs (0, 0)) :
  Calls Tryz.prog 55 #[.pointer (some ⟨b, 0, none⟩)] w (TakP w0 w b g bs (tvBg bs)) := by
 obtain ⟨PO, hPO⟩ : ∃ PO : Ending → World → Prop, TakP w0 w b g bs (tvBg bs) = PO := ⟨_, rfl⟩
 rw [hPO]
 have HP := hid (show ∀ e w', TakP w0 w b g bs (tvBg bs) e w' → PO e w' from fun e w' h => by rw [← hPO]; exact h)
 have HB := hid hb
 have HL := hid hl
 have HW0 : Hid (w0.heap.size ≤ w.heap.size) := hid h.2.1.size
 have hbn := Tk.born h #[.int .i64 0, .string ⟨#[]⟩, .int .i64 0, .int .i64 0, .int .i64 0, .int .i64 0, .string ⟨#[]⟩, .slice none 0 0, .int .i64 0, .int .i64 0, .int .i64 0, .slice none 0 0, .slice none 0 0]
 obtain ⟨wx, hwx⟩ := eX (w.alloc (.cells #[.int .i64 0, .string ⟨#[]⟩, .int .i64 0, .int .i64 0, .int .i64 0, .int .i64 0, .string ⟨#[]⟩, .slice none 0 0, .int .i64 0, .int .i64 0, .int .i64 0, .slice none 0 0, .slice none 0 0] 26))
 obtain ⟨bx, hbx⟩ := eX (w.heap.size)
 rw [hwx, hbx] at hbn
 have HS0 := hid hbn
 have HWX := hid hwx
 have HBX := hid hbx
 clear hb hl h hPO hbn hwx hbx
 go_enter Tryz.func55, Tryz.ntmps55
 go_upto_region 1 with fail
 try rw [HWX.out]
 try rw [HBX.out]
 have HC1 := hid (tR_any w0 wx b g bs HB.out (0, 0) HS0.out.fr 240 (by omega) (by omega))
 obtain ⟨v1, hv1⟩ := eX (txS bs (0, 0) 240)
 rw [hv1] at HC1
 have HV1 := hid hv1
 clear hv1
 go_wp2_with fail
 refine HC1.out.mono ?_
 rintro e x1 ⟨rfl, hr, hf⟩
 have HX1 := hid (Tk.call HS0.out hr hf)
 clear hr hf HC1
 have z1 := cR 1 (.string ⟨#[]⟩) HX1.out.rw_
 have y1 := fZ 1 HX1.out.rw_
 go_upto_region 2 with fail
 obtain ⟨W1, hW1⟩ := eX (x1.setCell ⟨bx, 1, none⟩ (.string (strOfNums v1.1)))
 have HW1 : Hid (Tk w0 w b g bs bx W1 #[.int .i64 0, .string (strOfNums v1.1), .int .i64 0, .int .i64 0, .int .i64 0, .int .i64 0, .string ⟨#[]⟩, .slice none 0 0, .int .i64 0, .int .i64 0, .int .i64 0, .slice none 0 0, .slice none 0 0] v1.2) := hid (by rw [← hW1]; exact Tk.set HX1.out 1 (.string (strOfNums v1.1)))
 rw [hW1]
 clear z1 y1 
 have HC2 := hid (nR_any w0 W1 b g bs HB.out v1.2 HW1.out.fr 1 (by omega) (by omega))
 have hbd2 := nuS_bd HB.out v1.2 1 (by omega)
 have hb12 := nuS_b1 HB.out v1.2
 obtain ⟨v2, hv2⟩ := eX (nuS bs v1.2 1)
 rw [hv2] at HC2 hbd2 hb12
 have HV2 := hid hv2
 clear hv2
 have hw2 : IntKind.i64.wrap v2.1 = v2.1 := by rw [IntKind.wrap_i64]; omega
 go_wp2_with fail
 refine HC2.out.mono ?_
 rintro e x2 ⟨rfl, hr, hf⟩
 have HX2 := hid (Tk.call HW1.out hr hf)
 clear hr hf HC2
 have z2 := cR 2 (.int .i64 0) HX2.out.rw_
 have y2 := fZ 2 HX2.out.rw_
 go_upto_region 3 with fail
 obtain ⟨W2, hW2⟩ := eX (x2.setCell ⟨bx, 2, none⟩ (.int .i64 v2.1))
 have HW2 : Hid (Tk w0 w b g bs bx W2 #[.int .i64 0, .string (strOfNums v1.1), .int .i64 v2.1, .int .i64 0, .int .i64 0, .int .i64 0, .string ⟨#[]⟩, .slice none 0 0, .int .i64 0, .int .i64 0, .int .i64 0, .slice none 0 0, .slice none 0 0] v2.2) := hid (by rw [← hW2]; exact Tk.set HX2.out 2 (.int .i64 v2.1))
 rw [hW2]
 clear z2 y2 hw2 hbd2 hb12
 have HC3 := hid (nR_any w0 W2 b g bs HB.out v2.2 HW2.out.fr 6 (by omega) (by omega))
 have hbd3 := nuS_bd HB.out v2.2 6 (by omega)
 obtain ⟨v3, hv3⟩ := eX (nuS bs v2.2 6)
 rw [hv3] at HC3 hbd3
 have HV3 := hid hv3
 clear hv3
 have hw3 : IntKind.i64.wrap v3.1 = v3.1 := by rw [IntKind.wrap_i64]; omega
 go_wp2_with fail
 refine HC3.out.mono ?_
 rintro e x3 ⟨rfl, hr, hf⟩
 have HX3 := hid (Tk.call HW2.out hr hf)
 clear hr hf HC3
 have z3 := cR 3 (.int .i64 0) HX3.out.rw_
 have y3 := fZ 3 HX3.out.rw_
 go_upto_region 4 with fail
 obtain ⟨W3, hW3⟩ := eX (x3.setCell ⟨bx, 3, none⟩ (.int .i64 v3.1))
 have HW3 : Hid (Tk w0 w b g bs bx W3 #[.int .i64 0, .string (strOfNums v1.1), .int .i64 v2.1, .int .i64 v3.1, .int .i64 0, .int .i64 0, .string ⟨#[]⟩, .slice none 0 0, .int .i64 0, .int .i64 0, .int .i64 0, .slice none 0 0, .slice none 0 0] v3.2) := hid (by rw [← hW3]; exact Tk.set HX3.out 3 (.int .i64 v3.1))
 rw [hW3]
 clear z3 y3 hw3 hbd3
 have HC4 := hid (nR_any w0 W3 b g bs HB.out v3.2 HW3.out.fr 6 (by omega) (by omega))
 have hbd4 := nuS_bd HB.out v3.2 6 (by omega)
 obtain ⟨v4, hv4⟩ := eX (nuS bs v3.2 6)
 rw [hv4] at HC4 hbd4
 have HV4 := hid hv4
 clear hv4
 have hw4 : IntKind.i64.wrap v4.1 = v4.1 := by rw [IntKind.wrap_i64]; omega
 go_wp2_with fail
 refine HC4.out.mono ?_
 rintro e x4 ⟨rfl, hr, hf⟩
 have HX4 := hid (Tk.call HW3.out hr hf)
 clear hr hf HC4
 have z4 := cR 4 (.int .i64 0) HX4.out.rw_
 have y4 := fZ 4 HX4.out.rw_
 go_upto_region 5 with fail
 obtain ⟨W4, hW4⟩ := eX (x4.setCell ⟨bx, 4, none⟩ (.int .i64 v4.1))
 have HW4 : Hid (Tk w0 w b g bs bx W4 #[.int .i64 0, .string (strOfNums v1.1), .int .i64 v2.1, .int .i64 v3.1, .int .i64 v4.1, .int .i64 0, .string ⟨#[]⟩, .slice none 0 0, .int .i64 0, .int .i64 0, .int .i64 0, .slice none 0 0, .slice none 0 0] v4.2) := hid (by rw [← hW4]; exact Tk.set HX4.out 4 (.int .i64 v4.1))
 rw [hW4]
 clear z4 y4 hw4 hbd4
 have HC5 := hid (nR_any w0 W4 b g bs HB.out v4.2 HW4.out.fr 1 (by omega) (by omega))
 have hbd5 := nuS_bd HB.out v4.2 1 (by omega)
 have hb15 := nuS_b1 HB.out v4.2
 obtain ⟨v5, hv5⟩ := eX (nuS bs v4.2 1)
 rw [hv5] at HC5 hbd5 hb15
 have HV5 := hid hv5
 clear hv5
 have hw5 : IntKind.i64.wrap v5.1 = v5.1 := by rw [IntKind.wrap_i64]; omega
 go_wp2_with fail
 refine HC5.out.mono ?_
 rintro e x5 ⟨rfl, hr, hf⟩
 have HX5 := hid (Tk.call HW4.out hr hf)
 clear hr hf HC5
 have z5 := cR 5 (.int .i64 0) HX5.out.rw_
 have y5 := fZ 5 HX5.out.rw_
 go_upto_region 6 with fail
 obtain ⟨W5, hW5⟩ := eX (x5.setCell ⟨bx, 5, none⟩ (.int .i64 v5.1))
 have HW5 : Hid (Tk w0 w b g bs bx W5 #[.int .i64 0, .string (strOfNums v1.1), .int .i64 v2.1, .int .i64 v3.1, .int .i64 v4.1, .int .i64 v5.1, .string ⟨#[]⟩, .slice none 0 0, .int .i64 0, .int .i64 0, .int .i64 0, .slice none 0 0, .slice none 0 0] v5.2) := hid (by rw [← hW5]; exact Tk.set HX5.out 5 (.int .i64 v5.1))
 rw [hW5]
 clear z5 y5 hw5 hbd5 hb15
 have HC6 := hid (tR_any w0 W5 b g bs HB.out v5.2 HW5.out.fr 240 (by omega) (by omega))
 obtain ⟨v6, hv6⟩ := eX (txS bs v5.2 240)
 rw [hv6] at HC6
 have HV6 := hid hv6
 clear hv6
 go_wp2_with fail
 refine HC6.out.mono ?_
 rintro e x6 ⟨rfl, hr, hf⟩
 have HX6 := hid (Tk.call HW5.out hr hf)
 clear hr hf HC6
 have z6 := cR 6 (.string ⟨#[]⟩) HX6.out.rw_
 have y6 := fZ 6 HX6.out.rw_
 go_upto_region 7 with fail
 obtain ⟨W6, hW6⟩ := eX (x6.setCell ⟨bx, 6, none⟩ (.string (strOfNums v6.1)))
 have HW6 : Hid (Tk w0 w b g bs bx W6 #[.int .i64 0, .string (strOfNums v1.1), .int .i64 v2.1, .int .i64 v3.1, .int .i64 v4.1, .int .i64 v5.1, .string (strOfNums v6.1), .slice none 0 0, .int .i64 0, .int .i64 0, .int .i64 0, .slice none 0 0, .slice none 0 0] v6.2) := hid (by rw [← hW6]; exact Tk.set HX6.out 6 (.string (strOfNums v6.1)))
 rw [hW6]
 clear z6 y6 
 have HC7 := hid (nR_any w0 W6 b g bs HB.out v6.2 HW6.out.fr 1 (by omega) (by omega))
 have hbd7 := nuS_bd HB.out v6.2 1 (by omega)
 have hb17 := nuS_b1 HB.out v6.2
 obtain ⟨v7, hv7⟩ := eX (nuS bs v6.2 1)
 rw [hv7] at HC7 hbd7 hb17
 have HV7 := hid hv7
 clear hv7
 have hw7 : IntKind.i64.wrap v7.1 = v7.1 := by rw [IntKind.wrap_i64]; omega
 go_wp2_with fail
 refine HC7.out.mono ?_
 rintro e x7 ⟨rfl, hr, hf⟩
 have HX7 := hid (Tk.call HW6.out hr hf)
 clear hr hf HC7
 have HG8 : Hid (g8 bs = prS bs v7.2 v7.1.toNat) := hid (by unfold g8 g7 g6 g5 g4 g3 g2 g1; rw [HV1.out, HV2.out, HV3.out, HV4.out, HV5.out, HV6.out, HV7.out])
 obtain ⟨K, hK⟩ := eX (v7.1.toNat)
 have hvK : v7.1 = (K : Int) := by omega
 have hKb : K ≤ 255 := by omega
 rw [hK] at HG8
 have HVK := hid hvK
 rw [hvK] at hw7 ⊢
 clear hK hvK hbd7 hb17
 go_wp2_with fail
 clear hw7
 go_loopw [29] (fun i wr => ∃ (t : Nat) (lp : Option Addr) (lc : Nat), t ≤ K ∧ i = .int .i64 (t : Int) ∧ Hid (Tk w0 w b g bs bx wr #[.int .i64 0, .string (strOfNums v1.1), .int .i64 v2.1, .int .i64 v3.1, .int .i64 v4.1, .int .i64 v5.1, .string (strOfNums v6.1), .slice lp t lc, .int .i64 0, .int .i64 0, .int .i64 0, .slice none 0 0, .slice none 0 0] (prS bs v7.2 t).2) ∧ Hid (wr.ownsRow 0 70 2 (.slice lp t lc) t (prC (prS bs v7.2 t).1)) ∧ Hid (∀ k ∈ blk lp, w.heap.size ≤ k ∧ k ≠ bx ∧ k ≠ b ∧ k ≠ g)) (fun i _ => K - (intOf i).toNat)
 case atStart => exact ⟨0, none, 0, by omega, rfl, HX7, hid (World.ownsRow_nil _ _ _ _), hid (by simp [blk])⟩
 case round =>
  obtain ⟨t, lp, lc, ht, rfl, htk, how, hnw⟩ := hrel
  have HTK := hid htk.out
  have HOW := hid how.out
  have HNW := hid hnw.out
  clear htk how hnw
  by_cases hlt : t < K
  case neg =>
   obtain rfl : t = K := by omega
   clear hlt
   have z0 := cR 0 (.int .i64 0) HTK.out.rw_
   have y0 := fZ 0 HTK.out.rw_
   have z1 := cR 1 (.string (strOfNums v1.1)) HTK.out.rw_
   have y1 := fZ 1 HTK.out.rw_
   have z2 := cR 2 (.int .i64 v2.1) HTK.out.rw_
   have y2 := fZ 2 HTK.out.rw_
   have z3 := cR 3 (.int .i64 v3.1) HTK.out.rw_
   have y3 := fZ 3 HTK.out.rw_
   have z4 := cR 4 (.int .i64 v4.1) HTK.out.rw_
   have y4 := fZ 4 HTK.out.rw_
   have z5 := cR 5 (.int .i64 v5.1) HTK.out.rw_
   have y5 := fZ 5 HTK.out.rw_
   have z6 := cR 6 (.string (strOfNums v6.1)) HTK.out.rw_
   have y6 := fZ 6 HTK.out.rw_
   have z7 := cR 7 (.slice lp t lc) HTK.out.rw_
   have y7 := fZ 7 HTK.out.rw_
   have z8 := cR 8 (.int .i64 0) HTK.out.rw_
   have y8 := fZ 8 HTK.out.rw_
   have z9 := cR 9 (.int .i64 0) HTK.out.rw_
   have y9 := fZ 9 HTK.out.rw_
   have z10 := cR 10 (.int .i64 0) HTK.out.rw_
   have y10 := fZ 10 HTK.out.rw_
   have z11 := cR 11 (.slice none 0 0) HTK.out.rw_
   have y11 := fZ 11 HTK.out.rw_
   have z12 := cR 12 (.slice none 0 0) HTK.out.rw_
   have y12 := fZ 12 HTK.out.rw_
   go_wp2_with fail
   obtain ⟨Wz, hwz, h5, f5⟩ := sE bx 26 [(0, .int .i64 0), (1, .string (strOfNums v1.1)), (2, .int .i64 v2.1), (3, .int .i64 v3.1), (4, .int .i64 v4.1), (5, .int .i64 v5.1), (6, .string (strOfNums v6.1)), (7, .slice lp t lc), (8, .int .i64 0), (9, .int .i64 0), (10, .int .i64 0), (11, .slice none 0 0), (12, .slice none 0 0)] wr _ HTK.out.rw_
   simp only [List.foldl, List.setIfInBounds_toArray, List.set_cons_zero, List.set_cons_succ] at h5
   simp only [setsF] at hwz
   have hWz := hwz
   rw [hwz]
   have HZ := hid (Tk.put HTK.out h5 f5)
   have u0 := cR 0 (.int .i64 0) h5
   have u1 := cR 1 (.string (strOfNums v1.1)) h5
   have u2 := cR 2 (.int .i64 v2.1) h5
   have u3 := cR 3 (.int .i64 v3.1) h5
   have u4 := cR 4 (.int .i64 v4.1) h5
   have u5 := cR 5 (.int .i64 v5.1) h5
   have u6 := cR 6 (.string (strOfNums v6.1)) h5
   have u7 := cR 7 (.slice lp t lc) h5
   have u8 := cR 8 (.int .i64 0) h5
   have u9 := cR 9 (.int .i64 0) h5
   have u10 := cR 10 (.int .i64 0) h5
   have u11 := cR 11 (.slice none 0 0) h5
   have u12 := cR 12 (.slice none 0 0) h5
   refine bodyPost_ret (v := .agg #[.int .i64 0, .string (strOfNums v1.1), .int .i64 v2.1, .int .i64 v3.1, .int .i64 v4.1, .int .i64 v5.1, .string (strOfNums v6.1), .slice lp t lc, .int .i64 0, .int .i64 0, .int .i64 0, .slice none 0 0, .slice none 0 0]) (by simp [results, Tryz.results55, go_sem, u0, u1, u2, u3, u4, u5, u6, u7, u8, u9, u10, u11, u12]) rfl ?_
   refine HP.out _ _ ⟨⟨0, strOfNums v1.1, v2.1, v3.1, v4.1, v5.1, strOfNums v6.1, lp, t, lc, 0, 0, 0, none, 0, 0, none, 0, 0⟩, rfl, ?_, ?_, ?_, HZ.out.frm⟩
   ·unfold tvBg g6 g5 g4 g3 g2 g1; rw [HV1.out, HV2.out, HV3.out, HV4.out, HV5.out, HV6.out]; rfl
   ·unfold tvBg; rw [HG8.out]; exact ⟨ownsRow_kept HOW.out f5 (fun k hk hm => by rw [List.mem_singleton] at hm; exact (HNW.out k hk).2.1 hm), by rw [prS_len], fun k hk => (HNW.out k hk).1, World.ownsRow_nil _ _ _ _, rfl, by simp [blk], Own.nil _ _, rfl, by simp [blk], by simp, by simp; omega⟩
   ·unfold tvBg; rw [HG8.out]; exact HZ.out.fr
  have t1 : (t : Int) < (K : Int) := by omega
  have HSU : Hid (prS bs v7.2 (t + 1) = ((prS bs v7.2 t).1 ++ [(strOfNums (txS bs (prS bs v7.2 t).2 240).1, strOfNums (txS bs (txS bs (prS bs v7.2 t).2 240).2 240).1)], (txS bs (txS bs (prS bs v7.2 t).2 240).2 240).2)) := hid rfl
  obtain ⟨LL, hLL⟩ := eX (prS bs v7.2 t)
  rw [hLL] at HTK HOW HSU
  clear hLL
  have hpr := heap_alloc_new wr (.cells #[.string ⟨#[]⟩, .string ⟨#[]⟩] 70)
  have hfp : Frm [] wr (wr.alloc (.cells #[.string ⟨#[]⟩, .string ⟨#[]⟩] 70)) := (Frm.refl _ _).alloc _
  obtain ⟨wp, hwp⟩ := eX (wr.alloc (.cells #[.string ⟨#[]⟩, .string ⟨#[]⟩] 70))
  obtain ⟨bp, hbp⟩ := eX (wr.heap.size)
  rw [hwp, hbp] at hpr
  rw [hwp] at hfp
  have HWP := hid hwp
  have HBP := hid hbp
  have HPB : Hid (w.heap.size ≤ bp ∧ bp ≠ bx ∧ bp ≠ b ∧ bp ≠ g ∧ bp ∉ blk lp) := hid (by have h1 := HTK.out.frm.size; have h2 := lt_of_heap HTK.out.rw_; have h3 := HTK.out.fr.1.cells; refine ⟨by omega, by omega, by omega, by omega, fun hm => ?_⟩; have h4 := ownsRow_low HOW.out bp hm; omega)
  have HTP := hid (HTK.out.k0 hfp)
  have HOP := hid (ownsRow_kept HOW.out hfp (by simp))
  have HRP := hid hpr
  have HC1 := hid (tR_any w0 wp b g bs HB.out LL.2 HTP.out.fr 240 (by omega) (by omega))
  obtain ⟨a1, ha1⟩ := eX (txS bs LL.2 240)
  rw [ha1] at HC1 HSU
  clear hpr hfp hwp hbp ha1
  go_upto_region 10 with fail
  try rw [HBP.out]
  try rw [HWP.out]
  go_wp2_with fail
  refine HC1.out.mono ?_
  rintro e x8 ⟨rfl, hr, hf⟩
  have HT8 := hid (Tk.call HTP.out hr hf)
  have HO8 := hid (ownsRow_kept HOP.out hf (fun k hk hm => by rw [List.mem_singleton] at hm; exact (HNW.out k hk).2.2.1 hm))
  have hr8 := hf.heap HRP.out (by simpa using HPB.out.2.2.1)
  have z0 := cR 0 (.string ⟨#[]⟩) hr8
  have y0 := fZ 0 hr8
  have HP8 := hid (heap_setCell_same x8 bp 0 _ _ (.string (strOfNums a1.1)) hr8)
  have HF8 : Hid (Frm [bp] x8 (x8.setCell ⟨bp, 0, none⟩ (.string (strOfNums a1.1)))) := hid ((Frm.refl _ _).setCell _ _ (by simp))
  clear hr hf hr8 HC1 HTP HOP HRP
  go_upto_region 11 with fail
  obtain ⟨Wa, hWa⟩ := eX (x8.setCell ⟨bp, 0, none⟩ (.string (strOfNums a1.1)))
  rw [hWa] at HP8 HF8 ⊢
  have hS1 : ∀ k ∈ [bp], w.heap.size ≤ k ∧ k ≠ bx ∧ k ≠ b ∧ k ≠ g := fun k hk => by rw [List.mem_singleton] at hk; subst hk; exact ⟨HPB.out.1, HPB.out.2.1, HPB.out.2.2.1, HPB.out.2.2.2.1⟩
  have HS1 := hid hS1
  have HTa := hid (HT8.out.gen HF8.out hS1 HW0.out)
  have HOa := hid (ownsRow_kept HO8.out HF8.out (fun k hk hm => by rw [List.mem_singleton] at hm; subst hm; exact HPB.out.2.2.2.2 hk))
  have HPa : Hid (Wa.heap[bp]? = some (.cells #[.string (strOfNums a1.1), .string ⟨#[]⟩] 70 (0, 0))) := hid HP8.out
  have HC2 := hid (tR_any w0 Wa b g bs HB.out a1.2 HTa.out.fr 240 (by omega) (by omega))
  obtain ⟨a2, ha2⟩ := eX (txS bs a1.2 240)
  rw [ha2] at HC2 HSU
  clear ha2 hWa z0 y0 HT8 HO8 HP8 HF8 hS1
  go_wp2_with fail
  refine HC2.out.mono ?_
  rintro e x9 ⟨rfl, hr, hf⟩
  have HT9 := hid (Tk.call HTa.out hr hf)
  have HO9 := hid (ownsRow_kept HOa.out hf (fun k hk hm => by rw [List.mem_singleton] at hm; exact (HNW.out k hk).2.2.1 hm))
  have hr9 := hf.heap HPa.out (by simpa using HPB.out.2.2.1)
  have z1 := cR 1 (.string ⟨#[]⟩) hr9
  have y1 := fZ 1 hr9
  have HP9 := hid (heap_setCell_same x9 bp 1 _ _ (.string (strOfNums a2.1)) hr9)
  have HF9 : Hid (Frm [bp] x9 (x9.setCell ⟨bp, 1, none⟩ (.string (strOfNums a2.1)))) := hid ((Frm.refl _ _).setCell _ _ (by simp))
  clear hr hf hr9 HC2 HTa HOa HPa
  go_upto_region 12 with fail
  obtain ⟨Wb, hWb⟩ := eX (x9.setCell ⟨bp, 1, none⟩ (.string (strOfNums a2.1)))
  rw [hWb] at HP9 HF9 ⊢
  have HTb := hid (HT9.out.gen HF9.out HS1.out HW0.out)
  have HOb := hid (ownsRow_kept HO9.out HF9.out (fun k hk hm => by rw [List.mem_singleton] at hm; subst hm; exact HPB.out.2.2.2.2 hk))
  have hPb : Wb.heap[bp]? = some (.cells #[.string (strOfNums a1.1), .string (strOfNums a2.1)] 70 (0, 0)) := HP9.out
  have z0 := cR 0 (.string (strOfNums a1.1)) hPb
  have z2 := cR 1 (.string (strOfNums a2.1)) hPb
  have z7 := cR 7 (.slice lp t lc) HTb.out.rw_
  have HA := hid ((Frm.refl [] Wb).alloc (.cells #[.string (strOfNums a1.1), .string (strOfNums a2.1)] 70))
  have HRV := hid (rv_block (heap_alloc_new Wb (.cells #[.string (strOfNums a1.1), .string (strOfNums a2.1)] 70)))
  have HOW2 := hid (ownsRow_kept HOb.out HA.out (by simp))
  have HTA := hid (HTb.out.k0 HA.out)
  clear hWb hPb z1 y1 HT9 HO9 HP9 HF9
  go_wp2_with (at_builtin; refine wpList_appV rfl _ _ 22 rfl 70 2 32 _ Tryz.underlying22 infoPrR rfl (by decide) lp t lc (prC LL.1) rfl HOW2.out (some ⟨Wb.heap.size, 0, none⟩) 1 1 [.string (strOfNums a1.1), .string (strOfNums a2.1)] rfl rfl (by simp) HRV.out (by intro u hu; simp at hu; rcases hu with rfl | rfl <;> rfl) (by unfold maxLen; omega) (by omega) ?_)
  intro p8 c8 w8 ho8 hf8 hb8
  have HT8 := hid (HTA.out.gen hf8.out HNW.out HW0.out)
  have hrow8 := HT8.out.rw_
  have z6 := cR 7 (.slice lp t lc) hrow8
  have y6 := fZ 7 hrow8
  have HNX : Hid (Tk w0 w b g bs bx (w8.setCell ⟨bx, 7, none⟩ (.slice p8 (t + 1) c8)) #[.int .i64 0, .string (strOfNums v1.1), .int .i64 v2.1, .int .i64 v3.1, .int .i64 v4.1, .int .i64 v5.1, .string (strOfNums v6.1), .slice p8 (t + 1) c8, .int .i64 0, .int .i64 0, .int .i64 0, .slice none 0 0, .slice none 0 0] (prS bs v7.2 (t + 1)).2 ∧ (w8.setCell ⟨bx, 7, none⟩ (.slice p8 (t + 1) c8)).ownsRow 0 70 2 (.slice p8 (t + 1) c8) (t + 1) (prC (prS bs v7.2 (t + 1)).1) ∧ (∀ k ∈ blk p8, w.heap.size ≤ k ∧ k ≠ bx ∧ k ≠ b ∧ k ≠ g)) := hid (by
   rw [HSU.out]
   have hnw : ∀ k ∈ blk p8, w.heap.size ≤ k ∧ k ≠ bx ∧ k ≠ b ∧ k ≠ g := fun k hk => by
    rcases hb8.out k hk with h | h
    ·exact HNW.out k h
    ·have e1 : (Wb.alloc (.cells #[.string (strOfNums a1.1), .string (strOfNums a2.1)] 70)).heap.size = Wb.heap.size + 1 := by simp
     have h1 := HTb.out.frm.size
     have h2 := lt_of_heap HTb.out.rw_
     have h3 := HTb.out.fr.1.cells
     exact ⟨by omega, by omega, by omega, by omega⟩
   refine ⟨Tk.set HT8.out 7 (.slice p8 (t + 1) c8), ?_, hnw⟩
   have h := ho8.out
   rw [prC_app]
   exact ownsRow_kept h (show Frm [bx] w8 _ from (Frm.refl _ _).setCell _ _ (by simp)) (fun k hk hm => by rw [List.mem_singleton] at hm; exact (hnw k hk).2.1 hm))
  clear ho8 hf8 hb8 hrow8 HT8 HTA HOW2 HRV HA HTb HOb z0 z2 z7
  go_wp2_with fail
  go_roundw
  case rel => exact ⟨t + 1, p8, c8, by omega, by go_num, hid HNX.out.1, hid HNX.out.2.1, hid HNX.out.2.2⟩
  case measure => simp [intOf] <;> omega
end
section
open Go.RowKit Go.Lib
section
variable {P : Program} {w : World}
section
variable {t e : TypeId} (ht : P.underlying t = some (.slice e)) {z : Value} {sz bytes : Nat} (hI : (P.info? e).map (fun i => (i.zero, i.size, i.bytes)) = some (some z, sz, bytes))
include ht hI
omit ht in
theorem sizeOf_sl (w : World) : (sizeOf e).run P w = .ok sz w := by
 obtain ⟨i, hi, hz, h1, h2⟩ := info_parts hI
 simp [sizeOf, typeInfo, hi, h1, Result.andThen]
theorem sl_h (p : Option Addr) (n c hi : Nat) (hc : hi ≤ c) (w : World) : (Instr.slice t (.slice p n c) none (some (.int .i64 (hi : Int))) none).run P w = .ok (.slice p hi c) w := by
 have he : P.elem t = e := by simp [Program.elem, ht]
 rw [run_slice_h w t _ _ _ (by rw [he]; exact ht) .i64 (hi : Int) (by omega) (by omega), he, sizeOf_sl hI]
 simp only [Result.andThen, sliced, Int.toNat_natCast]
 cases p <;> simp [Addr.add]
def partAt (p : Option Addr) (c lo sz : Nat) : Option Addr := if c = lo then p else p.map (·.add (lo * sz))
theorem sl_l (p : Option Addr) (n c lo : Nat) (hl : lo ≤ n) (w : World) : (Instr.slice t (.slice p n c) (some (.int .i64 (lo : Int))) none none).run P w = .ok (.slice (partAt p c lo sz) (n - lo) (c - lo)) w := by
 have he : P.elem t = e := by simp [Program.elem, ht]
 rw [run_slice_l w t _ _ _ (by rw [he]; exact ht) .i64 (lo : Int) (by omega) (by omega), he, sizeOf_sl hI]
 simp only [Result.andThen, sliced, Int.toNat_natCast, partAt]
theorem sl_lh (p : Option Addr) (n c lo hi : Nat) (hl : lo ≤ hi) (hc : hi ≤ c) (w : World) : (Instr.slice t (.slice p n c) (some (.int .i64 (lo : Int))) (some (.int .i64 (hi : Int))) none).run P w = .ok (.slice (partAt p c lo sz) (hi - lo) (c - lo)) w := by
 have he : P.elem t = e := by simp [Program.elem, ht]
 rw [run_slice_lh w t _ _ _ (by rw [he]; exact ht) .i64 .i64 (lo : Int) (hi : Int) (by omega) (by omega) (by omega), he, sizeOf_sl hI]
 simp only [Result.andThen, sliced, Int.toNat_natCast, partAt]
end
end
end
section
open Go.RowKit Go.Lib
theorem lkT_some {k : Int} (h : 1 ≤ k ∧ k ≤ 7) : ∃ a b c d : FuncId, lkT k = some #[.func (.func a) #[] #[], .func (.func b) #[] #[], .func (.func c) #[] #[], .func (.func d) #[] #[]] := by
 have h7 : k = 1 ∨ k = 2 ∨ k = 3 ∨ k = 4 ∨ k = 5 ∨ k = 6 ∨ k = 7 := by omega
 rcases h7 with rfl | rfl | rfl | rfl | rfl | rfl | rfl <;> exact ⟨_, _, _, _, rfl⟩
theorem lkT_none {k : Int} (h : ¬ (1 ≤ k ∧ k ≤ 7)) : lkT k = none := by
 unfold lkT
 rw [if_neg (by omega), if_neg (by omega), if_neg (by omega), if_neg (by omega), if_neg (by omega), if_neg (by omega), if_neg (by omega)]
def spK (bs : List Int) : Int := (nuS (bs.take 5) (0, 0) 1).1
def spM (bs : List Int) : Int := (nuS (bs.take 5) (nuS (bs.take 5) (0, 0) 1).2 4).1
def spE (bs : List Int) : Int := if bs.length < 5 then 10 else if ¬ (1 ≤ spK bs ∧ spK bs ≤ 7) ∨ 2048 < spM bs then 200 else if (bs.length : Int) < 37 + spM bs then 10 else 0
theorem infoU8R : (Tryz.prog.info? 5).map (fun i => (i.zero, i.size, i.bytes)) = some (some (.int .u8 0), 1, 1) := by kernel_rfl
theorem split_any20 (p : Option Addr) (n c : Nat) (bs : List Int) (w : World) (hn : bs.length = n) (hnc : n ≤ c) (hnb : n ≤ 140737488355328) (hrd : Rd w p bs) (hb : ∀ z ∈ bs, 0 ≤ z ∧ z < 256) :
  Calls Tryz.prog 40 #[.slice p n c] w fun e w' => e = .returned (.tuple #[.int .i64 (if spE bs = 0 then spK bs else 0), .int .i64 (if spE bs = 0 then 5 + spM bs else 0), .int .i64 (spE bs)]) ∧ Frm [] w w' := by
 obtain ⟨PO, hPO⟩ : ∃ PO : Ending → World → Prop, (fun e w' => e = .returned (.tuple #[.int .i64 (if spE bs = 0 then spK bs else 0), .int .i64 (if spE bs = 0 then 5 + spM bs else 0), .int .i64 (spE bs)]) ∧ Frm [] w w') = PO := ⟨_, rfl⟩
 rw [hPO]
 have HPB : Hid (∀ E w', spE bs = E → E ≠ 0 → Frm [] w w' → PO (.returned (.tuple #[.int .i64 0, .int .i64 0, .int .i64 E])) w') := hid (fun E w' h1 h2 h3 => by rw [← hPO, h1, if_neg h2, if_neg h2]; exact ⟨rfl, h3⟩)
 have HPG : Hid (∀ K M w', spK bs = K → spM bs = M → spE bs = 0 → Frm [] w w' → PO (.returned (.tuple #[.int .i64 K, .int .i64 (5 + M), .int .i64 0])) w') := hid (fun K M w' h1 h2 h3 h4 => by rw [← hPO, h3, if_pos rfl, if_pos rfl, h1, h2]; exact ⟨rfl, h4⟩)
 have HRD := hid hrd
 have HB := hid hb
 have HLN := hid hn
 clear hPO hn hrd hb
 go_enter Tryz.func40, Tryz.ntmps40
 by_cases h5 : n < 5
 case pos =>
  have e5 : (n : Int) < 5 := by omega
  have HE := hid (HPB.out 10 w (by unfold spE; rw [if_pos (by rw [HLN.out]; exact h5)]) (by decide) (Frm.refl _ _))
  clear h5
  go_wp2_with fail
  try go_returns
  exact HE.out
 have e5 : ¬ (n : Int) < 5 := by omega
 have HE1 : Hid (¬ bs.length < 5) := hid (by rw [HLN.out]; exact h5)
 obtain ⟨g0, o0, rfl⟩ : ∃ g0 o0, p = some ⟨g0, o0, none⟩ := by
  rcases HRD.out with h | ⟨g, o, h, _⟩
  ·have := HLN.out; rw [h] at this; simp at this; omega
  ·exact ⟨g, o, h⟩
 have hsl1 := fun W => sl_h (P := Tryz.prog) Tryz.underlying24 infoU8R (some ⟨g0, o0, none⟩) n c 5 (by omega) W
 have hl5 : (bs.take 5).length = 5 := by rw [List.length_take, HLN.out]; omega
 have HB5 : Hid (∀ z ∈ bs.take 5, 0 ≤ z ∧ z < 256) := hid (fun z hz => HB.out z (List.mem_of_mem_take hz))
 have hnr := newReader_any (some ⟨g0, o0, none⟩) c (bs.take 5) w (HRD.out.take 5) (by omega)
 rw [hl5] at hnr
 have HNR := hid hnr
 clear hnr hl5
 go_wp2_with fail
 refine HNR.out.mono ?_
 rintro e w1 ⟨r1, g1, rfl, hr1, hf1, hnb1, hng1⟩
 have hr : FrR w w1 r1 g1 (bs.take 5) (0, 0) := ⟨hr1, hf1, hnb1, hng1⟩
 have HC1 := hid (nR_any w w1 r1 g1 (bs.take 5) HB5.out (0, 0) hr 1 (by omega) (by omega))
 have HSK : Hid (spK bs = (nuS (bs.take 5) (0, 0) 1).1) := hid rfl
 have HSM : Hid (spM bs = (nuS (bs.take 5) (nuS (bs.take 5) (0, 0) 1).2 4).1) := hid rfl
 have hbd1 := nuS_bd HB5.out (0, 0) 1 (by omega)
 obtain ⟨v1, hv1⟩ := eX (nuS (bs.take 5) (0, 0) 1)
 rw [hv1] at HC1 HSK HSM hbd1
 have hw1 : IntKind.i64.wrap v1.1 = v1.1 := by rw [IntKind.wrap_i64]; omega
 clear hr1 hf1 hnb1 hng1 hv1 HNR hr
 go_wp2_with fail
 refine HC1.out.mono ?_
 rintro e w2 ⟨rfl, hr2, _⟩
 have HR2 := hid hr2
 have HC2 := hid (nR_any w w2 r1 g1 (bs.take 5) HB5.out v1.2 hr2 4 (by omega) (by omega))
 have hbd2 := nuS_bd HB5.out v1.2 4 (by omega)
 obtain ⟨v2, hv2⟩ := eX (nuS (bs.take 5) v1.2 4)
 rw [hv2] at HC2 HSM hbd2
 have hw2 : IntKind.i64.wrap v2.1 = v2.1 := by rw [IntKind.wrap_i64]; omega
 clear hr2 hv2 HC1
 go_wp2_with fail
 refine HC2.out.mono ?_
 rintro e w3 ⟨rfl, hr3, _⟩
 have HF3 : Hid (Frm [] w w3) := hid hr3.2.1
 obtain ⟨KK, hKK⟩ := eX (v1.1)
 obtain ⟨MM, hMM⟩ := eX (v2.1)
 rw [hKK] at HSK hbd1 hw1 ⊢
 rw [hMM] at HSM hbd2 hw2 ⊢
 clear hr3 HC2 HR2 hKK hMM
 go_wp2_with fail
 refine (rows_any _).mono ?_
 rintro e w4 ⟨m, rfl, _, hmap, hf4⟩
 have HF4 : Hid (Frm [] w w4) := hid (HF3.out.trans hf4 (by simp))
 have hlk := run_lookR (P := Tryz.prog) (w := w4) 60 3 58 m 7 (rowsT 7) KK (.agg #[.nilFunc, .nilFunc, .nilFunc, .nilFunc]) Tryz.underlying60 Tryz.underlying3 (by kernel_rfl) hmap (rowsT_int 7)
 rw [lkT_of] at hlk
 clear hmap hf4 hw1 hw2
 by_cases hk : 1 ≤ KK ∧ KK ≤ 7
 case neg =>
  rw [lkT_none hk] at hlk
  have hlk2 : (Instr.lookup 60 (.map (some m)) (.int .i64 KK) true).run Tryz.prog w4 = .ok (.tuple #[.agg #[.nilFunc, .nilFunc, .nilFunc, .nilFunc], .bool false]) w4 := hlk
  have HE := hid (fun W hf => HPB.out 200 W (by unfold spE; rw [if_neg HE1.out, if_pos (Or.inl (by rw [HSK.out]; exact hk))]) (by decide) hf)
  clear hk hlk
  go_wp2_with fail
  try go_returns
  exact HE.out _ (HF4.out.alloc _)
 obtain ⟨fa, fb, fc, fd, hft⟩ := lkT_some hk
 rw [hft] at hlk
 have hlk2 : (Instr.lookup 60 (.map (some m)) (.int .i64 KK) true).run Tryz.prog w4 = .ok (.tuple #[.agg #[.func (.func fa) #[] #[], .func (.func fb) #[] #[], .func (.func fc) #[] #[], .func (.func fd) #[] #[]], .bool true]) w4 := hlk
 have HK := hid hk
 clear hlk hft
 by_cases hm : 2048 < MM
 case pos =>
  have HE := hid (fun W hf => HPB.out 200 W (by unfold spE; rw [if_neg HE1.out, if_pos (Or.inr (by rw [HSM.out]; exact hm))]) (by decide) hf)
  clear hk
  go_wp2_with fail
  try go_returns
  exact HE.out _ (HF4.out.alloc _)
 have HE2 : Hid (¬ (¬ (1 ≤ spK bs ∧ spK bs ≤ 7) ∨ 2048 < spM bs)) := hid (by rw [HSK.out, HSM.out]; omega)
 clear hk
 by_cases hs : (n : Int) < 37 + MM
 case pos =>
  have HE := hid (fun W hf => HPB.out 10 W (by unfold spE; rw [if_neg HE1.out, if_neg HE2.out, if_pos (by rw [HSM.out, HLN.out]; exact hs)]) (by decide) hf)
  have hs2 : (n : Int) < 5 + MM + 32 := by omega
  clear hs
  go_wp2_with fail
  try go_returns
  exact HE.out _ (HF4.out.alloc _)
 have HE := hid (fun W hf => HPG.out KK MM W HSK.out HSM.out (by unfold spE; rw [if_neg HE1.out, if_neg HE2.out, if_neg (by rw [HSM.out, HLN.out]; exact hs)]) hf)
 have hs2 : ¬ (n : Int) < 5 + MM + 32 := by omega
 clear hs
 go_wp2_with fail
 try go_returns
 exact HE.out _ (HF4.out.alloc _)
end
section
open Go.RowKit Go.Lib
instance : DecidableEq S4 := fun s t => decidable_of_iff (s.a = t.a ∧ s.b = t.b ∧ s.c = t.c ∧ s.d = t.d) (by
 obtain ⟨a0, a1, a2, a3⟩ := s
 obtain ⟨b0, b1, b2, b3⟩ := t
 simp)
theorem eqS (a0 a1 a2 a3 b0 b1 b2 b3 : Int) (d : Nat) (w : World) : (Op.equalIn (d + 3) 29 (.agg #[.int .u64 a0, .int .u64 a1, .int .u64 a2, .int .u64 a3]) (.agg #[.int .u64 b0, .int .u64 b1, .int .u64 b2, .int .u64 b3])).run Tryz.prog w = .ok (decide (a0 = b0 ∧ a1 = b1 ∧ a2 = b2 ∧ a3 = b3)) w := by
 have hS : Tryz.prog.underlying 29 = some (.struct (Tryz.prog.fieldsOf 29)) := by kernel_rfl
 have hp : Tryz.prog.stoodInHeld 29 = false := by kernel_rfl
 rw [show d + 3 = (d + 2) + 1 from rfl, run_equalIn_agg w (d + 2) _ _ _ hS hp]
 simp only [Program.fieldsOf, Tryz.underlying29]
 go_simp
 by_cases h0 : a0 = b0 <;> by_cases h1 : a1 = b1 <;> by_cases h2 : a2 = b2 <;> by_cases h3 : a3 = b3 <;> simp [h0, h1, h2, h3]
theorem neqS (s t : S4) (w : World) : (binOp .neq 29 (.agg #[.int .u64 s.a, .int .u64 s.b, .int .u64 s.c, .int .u64 s.d]) (.agg #[.int .u64 t.a, .int .u64 t.b, .int .u64 t.c, .int .u64 t.d])).run Tryz.prog w = .ok (.bool (!decide (s = t))) w := by
 rw [run_neq_struct, show (10000 : Nat) = 9997 + 3 from rfl, eqS]
 have e : (s.a = t.a ∧ s.b = t.b ∧ s.c = t.c ∧ s.d = t.d) ↔ s = t := by
  obtain ⟨a0, a1, a2, a3⟩ := s
  obtain ⟨b0, b1, b2, b3⟩ := t
  simp
 simp only [e]
 rfl
def dcN (bs : List Int) : Nat := 5 + (spM bs).toNat
def dcH (bs : List Int) : List Int := bs.take (dcN bs)
def dcB (bs : List Int) : List Int := (bs.take (dcN bs)).drop 5
def dcT (bs : List Int) : List Int := (bs.drop (dcN bs)).take 32
def u1 (b : List Int) := nuS b (0, 0) 8
def u2 (b : List Int) := nuS b (u1 b).2 8
def u3 (b : List Int) := nuS b (u2 b).2 8
def u4 (b : List Int) := nuS b (u3 b).2 8
def dcS (bs : List Int) : S4 := ⟨(u1 (dcT bs)).1, (u2 (dcT bs)).1, (u3 (dcT bs)).1, (u4 (dcT bs)).1⟩
def tvK (k : Int) (b : List Int) : TkV := if k = 1 then tvPk b else if k = 2 then tvBg b else if k = 3 then tvLv b else if k = 4 then tvNd b else if k = 5 then tvWr b else tvCn b
def TkV.rc (V : TkV) (k : Int) : Rc := ⟨k, V.c.name, V.c.typ, V.c.frm, V.c.guid, V.c.origin, V.c.snap, none, V.p.length, 0, V.c.obj, V.c.at_, V.c.many, none, V.k.length, 0, none, V.d.length, 0⟩
def okB (k : Int) (b : List Int) : Prop := doneS b.length (tvK k b).s.1 (tvK k b).s.2 = 0 ∧ RcMay ((tvK k b).rc k) (tvK k b).p (tvK k b).k (tvK k b).d
instance (k : Int) (b : List Int) : Decidable (okB k b) := by unfold okB; infer_instance
def dcE (a : S4) (bs : List Int) : Int := if spE bs ≠ 0 then spE bs else if sealR a (dcH bs) ≠ dcS bs then 201 else if ¬ okB (spK bs) (dcB bs) then 200 else 0
def Rc.z : Rc := ⟨0, ⟨#[]⟩, 0, 0, 0, 0, ⟨#[]⟩, none, 0, 0, 0, 0, 0, none, 0, 0, none, 0, 0⟩
def DecP (w : World) (a : S4) (bs : List Int) (e : Ending) (w' : World) : Prop := Frm [] w w' ∧ ((dcE a bs ≠ 0 ∧ e = .returned (.tuple #[.agg Rc.z.arr, .int .i64 0, .agg S4.z.arr, .int .i64 (dcE a bs)])) ∨
 (dcE a bs = 0 ∧ ∃ r : Rc, e = .returned (.tuple #[.agg r.arr, .int .i64 (37 + spM bs), .agg (sealR a (dcH bs)).arr, .int .i64 0]) ∧ r.core = ((tvK (spK bs) (dcB bs)).rc (spK bs)).core ∧ RcOwn w' r (tvK (spK bs) (dcB bs)).p (tvK (spK bs) (dcB bs)).k (tvK (spK bs) (dcB bs)).d w.heap.size))
theorem rcMay_core {r s : Rc} {P : List Pr} {K D : List Int} (hc : r.core = s.core) (h1 : r.pn = s.pn) (h2 : r.kn = s.kn) (h3 : r.dl = s.dl) : RcMay r P K D ↔ RcMay s P K D := by
 obtain ⟨kind, name, typ, frm, guid, origin, snap, pp, pn, pc, obj, at_, many, kp, kn, kc, dp, dl, dc⟩ := r
 obtain ⟨kind', name', typ', frm', guid', origin', snap', pp', pn', pc', obj', at', many', kp', kn', kc', dp', dl', dc'⟩ := s
 unfold Rc.core at hc
 simp only [Rc.mk.injEq] at hc h1 h2 h3
 obtain ⟨rfl, rfl, rfl, rfl, rfl, rfl, rfl, _, _, _, rfl, rfl, rfl, _⟩ := hc
 subst h1 h2 h3
 exact Iff.rfl
theorem part1R (g o c lo : Nat) (h : c ≠ lo) : partAt (some ⟨g, o, none⟩) c lo 1 = some ⟨g, o + lo, none⟩ := by
 unfold partAt
 rw [if_neg h]
 simp [Addr.add]
theorem spM_bd {bs : List Int} (hb : ∀ z ∈ bs, 0 ≤ z ∧ z < 256) : 0 ≤ spM bs := (nuS_bd (fun z hz => hb z (List.mem_of_mem_take hz)) _ 4 (by omega)).1
theorem decode_short (p : Option Addr) (n c : Nat) (bs : List Int) (a : S4) (w : World) (hn : bs.length = n) (hnc : n ≤ c) (hnb : n ≤ 140737488355328) (hrd : Rd w p bs) (hb : ∀ z ∈ bs, 0 ≤ z ∧ z < 256) (hpr : Primes w) (hE : spE bs ≠ 0) :
  Calls Tryz.prog 22 #[.slice p n c, .agg a.arr] w (DecP w a bs) := by
 obtain ⟨PO, hPO⟩ : ∃ PO : Ending → World → Prop, DecP w a bs = PO := ⟨_, rfl⟩
 rw [hPO]
 have HPB : Hid (∀ E w', dcE a bs = E ∧ E ≠ 0 → Frm [] w w' → PO (.returned (.tuple #[.agg #[.int .i64 0, .string ⟨#[]⟩, .int .i64 0, .int .i64 0, .int .i64 0, .int .i64 0, .string ⟨#[]⟩, .slice none 0 0, .int .i64 0, .int .i64 0, .int .i64 0, .slice none 0 0, .slice none 0 0], .int .i64 0, .agg #[.int .u64 0, .int .u64 0, .int .u64 0, .int .u64 0], .int .i64 E])) w') := hid (fun E w' h1 h3 => by rw [← hPO]; exact ⟨h3, Or.inl ⟨by rw [h1.1]; exact h1.2, by rw [h1.1]; rfl⟩⟩)
 have HPG : Hid (∀ (r : Rc) w', dcE a bs = 0 → r.core = ((tvK (spK bs) (dcB bs)).rc (spK bs)).core → RcOwn w' r (tvK (spK bs) (dcB bs)).p (tvK (spK bs) (dcB bs)).k (tvK (spK bs) (dcB bs)).d w.heap.size → Frm [] w w' → PO (.returned (.tuple #[.agg r.arr, .int .i64 (37 + spM bs), .agg (sealR a (dcH bs)).arr, .int .i64 0])) w') := hid (fun r w' h1 h2 h3 h4 => by rw [← hPO]; exact ⟨h4, Or.inr ⟨h1, r, rfl, h2, h3⟩⟩)
 have HRD := hid hrd
 have HB := hid hb
 have HLN := hid hn
 have HPR := hid hpr
 have hrow := heap_alloc_new w (.cells a.arr 29)
 have hfa : Frm [] w (w.alloc (.cells a.arr 29)) := (Frm.refl _ _).alloc _
 obtain ⟨wa, hwa⟩ := eX (w.alloc (.cells a.arr 29))
 obtain ⟨ba, hba⟩ := eX (w.heap.size)
 rw [hwa, hba] at hrow
 rw [hwa] at hfa
 have hrowr := heap_alloc_new wa (.cells #[.int .i64 0, .string ⟨#[]⟩, .int .i64 0, .int .i64 0, .int .i64 0, .int .i64 0, .string ⟨#[]⟩, .slice none 0 0, .int .i64 0, .int .i64 0, .int .i64 0, .slice none 0 0, .slice none 0 0] 26)
 have hfr : Frm [] wa (wa.alloc (.cells #[.int .i64 0, .string ⟨#[]⟩, .int .i64 0, .int .i64 0, .int .i64 0, .int .i64 0, .string ⟨#[]⟩, .slice none 0 0, .int .i64 0, .int .i64 0, .int .i64 0, .slice none 0 0, .slice none 0 0] 26)) := (Frm.refl _ _).alloc _
 obtain ⟨wr, hwr⟩ := eX (wa.alloc (.cells #[.int .i64 0, .string ⟨#[]⟩, .int .i64 0, .int .i64 0, .int .i64 0, .int .i64 0, .string ⟨#[]⟩, .slice none 0 0, .int .i64 0, .int .i64 0, .int .i64 0, .slice none 0 0, .slice none 0 0] 26))
 obtain ⟨br, hbr⟩ := eX (wa.heap.size)
 rw [hwr, hbr] at hrowr
 rw [hwr] at hfr
 have hrows := heap_alloc_new wr (.cells #[.int .u64 0, .int .u64 0, .int .u64 0, .int .u64 0] 29)
 have hfs : Frm [] wr (wr.alloc (.cells #[.int .u64 0, .int .u64 0, .int .u64 0, .int .u64 0] 29)) := (Frm.refl _ _).alloc _
 have hbs : wr.heap.size = br + 1 := by rw [← hwr, ← hbr]; simp
 obtain ⟨ws, hws⟩ := eX (wr.alloc (.cells #[.int .u64 0, .int .u64 0, .int .u64 0, .int .u64 0] 29))
 rw [hws, hbs] at hrows
 rw [hws] at hfs
 have hb1 : ba + 1 = br := by rw [← hbr, ← hwa, ← hba]; simp
 have HBL : Hid (w.heap.size < br) := hid (by omega)
 have HB1 := hid hb1
 have HFR : Hid (Frm [] w ws) := hid ((hfa.trans hfr (by simp)).trans hfs (by simp))
 have HRA : Hid (∀ W, Frm [] ws W → W.heap[ba]? = some (.cells a.arr 29 (0, 0))) := hid (fun W hf => hf.heap (hfs.heap (hfr.heap hrow (by simp)) (by simp)) (by simp))
 have HRR : Hid (∀ W, Frm [] ws W → W.heap[br]? = some (.cells #[.int .i64 0, .string ⟨#[]⟩, .int .i64 0, .int .i64 0, .int .i64 0, .int .i64 0, .string ⟨#[]⟩, .slice none 0 0, .int .i64 0, .int .i64 0, .int .i64 0, .slice none 0 0, .slice none 0 0] 26 (0, 0))) := hid (fun W hf => hf.heap (hfs.heap hrowr (by simp)) (by simp))
 have HRS : Hid (∀ W, Frm [] ws W → W.heap[br + 1]? = some (.cells #[.int .u64 0, .int .u64 0, .int .u64 0, .int .u64 0] 29 (0, 0))) := hid (fun W hf => hf.heap hrows (by simp))
 have HSZ : Hid (br + 1 < ws.heap.size) := hid (lt_of_heap hrows)
 have HWA := hid hwa
 have HWR := hid hwr
 have HWS := hid hws
 have HBA := hid hba
 have HBR := hid hbr
 have HBS := hid hbs
 have HSP := hid (split_any20 p n c bs ws hn hnc hnb (hrd.kept HFR.out (by simp)) hb)
 have hbr13 : ∀ V, (Instr.build 26 #[]).run Tryz.prog V = .ok (.agg #[.int .i64 0, .string ⟨#[]⟩, .int .i64 0, .int .i64 0, .int .i64 0, .int .i64 0, .string ⟨#[]⟩, .slice none 0 0, .int .i64 0, .int .i64 0, .int .i64 0, .slice none 0 0, .slice none 0 0]) V := fun V => run_build V _ _ _ (by kernel_rfl)
 have hbr4 : ∀ V, (Instr.build 29 #[]).run Tryz.prog V = .ok (.agg #[.int .u64 0, .int .u64 0, .int .u64 0, .int .u64 0]) V := fun V => run_build V _ _ _ (by kernel_rfl)
 rw [if_neg hE, if_neg hE] at HSP
 have HDE : Hid (dcE a bs = spE bs) := hid (by unfold dcE; rw [if_pos hE])
 obtain ⟨E, hEE⟩ := eX (spE bs)
 rw [hEE] at HSP HDE hE
 have HEN := hid hE
 have hbE : (E != 0) = true := by rw [bne_iff_ne]; exact hE
 clear hrow hfa hwa hba hrowr hfr hwr hbr hrows hfs hws hbs hb1 hPO hn hrd hb hpr hEE hE
 obtain ⟨s0, s1, s2, s3⟩ := a
 unfold S4.arr at HWA HRA
 simp only at HWA HRA
 unfold S4.arr
 simp only
 go_enter Tryz.func22, Tryz.ntmps22
 go_upto_region 1 with fail
 try rw [HWA.out]
 try rw [HBA.out]
 try rw [HBR.out]
 try rw [HB1.out]
 try rw [HWR.out]
 try rw [HBS.out]
 try rw [HWS.out]
 go_wp2_with fail
 refine HSP.out.mono ?_
 rintro e w1 ⟨rfl, hf1⟩
 have HF1 := hid hf1
 clear hf1 HSP
 have hrr := HRR.out w1 HF1.out
 have hrs := HRS.out w1 HF1.out
 have z0 := cR 0 (.int .i64 0) hrr
 have y0 := fZ 0 hrr
 have z1 := cR 1 (.string ⟨#[]⟩) hrr
 have y1 := fZ 1 hrr
 have z2 := cR 2 (.int .i64 0) hrr
 have y2 := fZ 2 hrr
 have z3 := cR 3 (.int .i64 0) hrr
 have y3 := fZ 3 hrr
 have z4 := cR 4 (.int .i64 0) hrr
 have y4 := fZ 4 hrr
 have z5 := cR 5 (.int .i64 0) hrr
 have y5 := fZ 5 hrr
 have z6 := cR 6 (.string ⟨#[]⟩) hrr
 have y6 := fZ 6 hrr
 have z7 := cR 7 (.slice none 0 0) hrr
 have y7 := fZ 7 hrr
 have z8 := cR 8 (.int .i64 0) hrr
 have y8 := fZ 8 hrr
 have z9 := cR 9 (.int .i64 0) hrr
 have y9 := fZ 9 hrr
 have z10 := cR 10 (.int .i64 0) hrr
 have y10 := fZ 10 hrr
 have z11 := cR 11 (.slice none 0 0) hrr
 have y11 := fZ 11 hrr
 have z12 := cR 12 (.slice none 0 0) hrr
 have y12 := fZ 12 hrr
 have n0 := cR 0 (.int .u64 0) hrs
 have m0 := fZ 0 hrs
 have n1 := cR 1 (.int .u64 0) hrs
 have m1 := fZ 1 hrs
 have n2 := cR 2 (.int .u64 0) hrs
 have m2 := fZ 2 hrs
 have n3 := cR 3 (.int .u64 0) hrs
 have m3 := fZ 3 hrs
 go_wp2_with fail
 obtain ⟨Wz, hwz, h5, f5⟩ := sE br 26 [(0, .int .i64 0), (1, .string ⟨#[]⟩), (2, .int .i64 0), (3, .int .i64 0), (4, .int .i64 0), (5, .int .i64 0), (6, .string ⟨#[]⟩), (7, .slice none 0 0), (8, .int .i64 0), (9, .int .i64 0), (10, .int .i64 0), (11, .slice none 0 0), (12, .slice none 0 0)] w1 _ hrr
 simp only [List.foldl, List.setIfInBounds_toArray, List.set_cons_zero, List.set_cons_succ] at h5
 simp only [setsF] at hwz
 have hWz := hwz
 rw [hwz]
 have hrs2 := f5.heap hrs (by simp)
 obtain ⟨Wy, hwy, h6, f6⟩ := sE (br + 1) 29 [(0, .int .u64 0), (1, .int .u64 0), (2, .int .u64 0), (3, .int .u64 0)] Wz _ hrs2
 simp only [List.foldl, List.setIfInBounds_toArray, List.set_cons_zero, List.set_cons_succ] at h6
 simp only [setsF] at hwy
 have hWy := hwy
 rw [hwy]
 have h7 := f6.heap h5 (by simp)
 have u0 := cR 0 (.int .i64 0) h7
 have u1 := cR 1 (.string ⟨#[]⟩) h7
 have u2 := cR 2 (.int .i64 0) h7
 have u3 := cR 3 (.int .i64 0) h7
 have u4 := cR 4 (.int .i64 0) h7
 have u5 := cR 5 (.int .i64 0) h7
 have u6 := cR 6 (.string ⟨#[]⟩) h7
 have u7 := cR 7 (.slice none 0 0) h7
 have u8 := cR 8 (.int .i64 0) h7
 have u9 := cR 9 (.int .i64 0) h7
 have u10 := cR 10 (.int .i64 0) h7
 have u11 := cR 11 (.slice none 0 0) h7
 have u12 := cR 12 (.slice none 0 0) h7
 have k0 := cR 0 (.int .u64 0) h6
 have k1 := cR 1 (.int .u64 0) h6
 have k2 := cR 2 (.int .u64 0) h6
 have k3 := cR 3 (.int .u64 0) h6
 refine bodyPost_ret (v := .tuple #[.agg #[.int .i64 0, .string ⟨#[]⟩, .int .i64 0, .int .i64 0, .int .i64 0, .int .i64 0, .string ⟨#[]⟩, .slice none 0 0, .int .i64 0, .int .i64 0, .int .i64 0, .slice none 0 0, .slice none 0 0], .int .i64 0, .agg #[.int .u64 0, .int .u64 0, .int .u64 0, .int .u64 0], .int .i64 E]) (by simp [results, Tryz.results22, go_sem, u0, u1, u2, u3, u4, u5, u6, u7, u8, u9, u10, u11, u12, k0, k1, k2, k3]) rfl ?_
 exact HPB.out _ _ ⟨HDE.out, HEN.out⟩ (((HFR.out.trans HF1.out (by simp)).trans f5 (fun i hi hl => by rw [List.mem_singleton] at hi; have := HBL.out; omega)).trans f6 (fun i hi hl => by rw [List.mem_singleton] at hi; have := HBL.out; omega))
end
end Go.Proofs.YtajfjkfnmmfhmaaGreatDoor
