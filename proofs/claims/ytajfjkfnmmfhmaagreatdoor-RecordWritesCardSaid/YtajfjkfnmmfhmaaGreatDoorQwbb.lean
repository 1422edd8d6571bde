/- Records: a part's beginning taken up. -/
import Derived.Test.YtajfjkfnmmfhmaaGreatDoorQwba
namespace Go.Proofs.YtajfjkfnmmfhmaaGreatDoor
section
open Go.RowKit Go.Lib
set_option maxRecDepth 100000
theorem Tk.gen {S : List Nat} {w0 w W W' : World} {b g bx : Nat} {bs : List Int} {row : Array Value} {s : Rst} (h : Tk w0 w b g bs bx W row s) (hf : Frm S W W') (hS : ∀ k ∈ S, w.heap.size ≤ k ∧ k ≠ bx ∧ k ≠ b ∧ k ≠ g) (hw : w0.heap.size ≤ w.heap.size) : Tk w0 w b g bs bx W' row s := by
  obtain ⟨a1, a2, a3, a4⟩ := h.fr
  exact ⟨⟨a1.kept hf (fun hm => (hS b hm).2.2.1 rfl) (fun hm => (hS g hm).2.2.2 rfl), a2.trans hf (fun i hi hl => by have := (hS i hi).1; omega), a3, a4⟩, hf.heap h.rw_ (fun hm => (hS bx hm).2.1 rfl), h.frm.trans hf (fun i hi hl => by have := (hS i hi).1; omega), h.lo, h.ne⟩
/-- So many properties. -/
def prS (bs : List Int) (s : Rst) : Nat → List Pr × Rst
  | 0 => ([], s)
  | t + 1 => ((prS bs s t).1 ++ [(strOfNums (txS bs (prS bs s t).2 240).1, strOfNums (txS bs (txS bs (prS bs s t).2 240).2 240).1)], (txS bs (txS bs (prS bs s t).2 240).2 240).2)
theorem prS_len (bs : List Int) (s : Rst) : ∀ t, (prS bs s t).1.length = t
  | 0 => rfl
  | t + 1 => by rw [prS, List.length_append, prS_len bs s t]; rfl
theorem infoPrR : (Tryz.prog.info? 70).map (fun i => (i.zero, i.size, i.bytes)) = some (some (.agg #[.string ⟨#[]⟩, .string ⟨#[]⟩]), 2, 32) := by kernel_rfl
def g1 (bs : List Int) := txS bs (0, 0) 240
def g2 (bs : List Int) := nuS bs (g1 bs).2 1
def g3 (bs : List Int) := nuS bs (g2 bs).2 6
def g4 (bs : List Int) := nuS bs (g3 bs).2 6
def g5 (bs : List Int) := nuS bs (g4 bs).2 1
def g6 (bs : List Int) := txS bs (g5 bs).2 240
def g7 (bs : List Int) := nuS bs (g6 bs).2 1
def g8 (bs : List Int) := prS bs (g7 bs).2 (g7 bs).1.toNat
def tvBg (bs : List Int) : TkV := ⟨⟨0, strOfNums (g1 bs).1, (g2 bs).1, (g3 bs).1, (g4 bs).1, (g5 bs).1, strOfNums (g6 bs).1, none, 0, 0, 0, 0, 0, none, 0, 0, none, 0, 0⟩, (g8 bs).1, [], [], (g8 bs).2⟩
set_option maxHeartbeats 12800000 in
theorem takeBegin_any (w0 w : World) (b g : Nat) (bs : List Int) (hb : ∀ z ∈ bs, 0 ≤ z ∧ z < 256) (hl : bs.length ≤ 2048) (h : FrR w0 w b g bs (0, 0)) :
    Calls Tryz.prog 55 #[.pointer (some ⟨b, 0, none⟩)] w (TakP w0 w b g bs (tvBg bs)) := by
  obtain ⟨PO, hPO⟩ : ∃ PO : Ending → World → Prop, TakP w0 w b g bs (tvBg bs) = PO := ⟨_, rfl⟩
  rw [hPO]
  have HP := hid (show ∀ e w', TakP w0 w b g bs (tvBg bs) e w' → PO e w' from fun e w' h => by rw [← hPO]; exact h)
  have HB := hid hb
  have HL := hid hl
  have HW0 : Hid (w0.heap.size ≤ w.heap.size) := hid h.2.1.size
  have hbn := Tk.born h #[.int .i64 0, .string ⟨#[]⟩, .int .i64 0, .int .i64 0, .int .i64 0, .int .i64 0, .string ⟨#[]⟩, .slice none 0 0, .int .i64 0, .int .i64 0, .int .i64 0, .slice none 0 0, .slice none 0 0]
  obtain ⟨wx, hwx⟩ : ∃ z, w.alloc (.cells #[.int .i64 0, .string ⟨#[]⟩, .int .i64 0, .int .i64 0, .int .i64 0, .int .i64 0, .string ⟨#[]⟩, .slice none 0 0, .int .i64 0, .int .i64 0, .int .i64 0, .slice none 0 0, .slice none 0 0] 26) = z := ⟨_, rfl⟩
  obtain ⟨bx, hbx⟩ : ∃ z, w.heap.size = z := ⟨_, rfl⟩
  rw [hwx, hbx] at hbn
  have HS0 := hid hbn
  have HWX := hid hwx
  have HBX := hid hbx
  clear hb hl h hPO hbn hwx hbx
  go_enter Tryz.func55, Tryz.ntmps55
  go_upto_region 1 with fail
  first | rw [HWX.out] | skip
  first | rw [HBX.out] | skip
  have HC1 := hid (tR_any w0 wx b g bs HB.out (0, 0) HS0.out.fr 240 (by omega) (by omega))
  obtain ⟨v1, hv1⟩ : ∃ v, txS bs (0, 0) 240 = v := ⟨_, rfl⟩
  rw [hv1] at HC1
  have HV1 := hid hv1
  clear hv1
  go_wp2_with fail
  refine HC1.out.mono ?_
  rintro e x1 ⟨rfl, hr, hf⟩
  have HX1 := hid (Tk.call HS0.out hr hf)
  clear hr hf HC1
  have z1 : x1.cell? ⟨bx, 1, none⟩ = some (.string ⟨#[]⟩) := by rw [cell_of_row _ _ _ _ _ _ HX1.out.rw_]; rfl
  have y1 := frozen_of_row x1 bx 1 _ _ HX1.out.rw_
  go_upto_region 2 with fail
  obtain ⟨W1, hW1⟩ : ∃ z, x1.setCell ⟨bx, 1, none⟩ (.string (strOfNums v1.1)) = z := ⟨_, rfl⟩
  have HW1 : Hid (Tk w0 w b g bs bx W1 #[.int .i64 0, .string (strOfNums v1.1), .int .i64 0, .int .i64 0, .int .i64 0, .int .i64 0, .string ⟨#[]⟩, .slice none 0 0, .int .i64 0, .int .i64 0, .int .i64 0, .slice none 0 0, .slice none 0 0] v1.2) := hid (by rw [← hW1]; exact Tk.set HX1.out 1 (.string (strOfNums v1.1)))
  rw [hW1]
  clear z1 y1 
  have HC2 := hid (nR_any w0 W1 b g bs HB.out v1.2 HW1.out.fr 1 (by omega) (by omega))
  have hbd2 := nuS_bd HB.out v1.2 1 (by omega)
  have hb12 := nuS_b1 HB.out v1.2
  obtain ⟨v2, hv2⟩ : ∃ v, nuS bs v1.2 1 = v := ⟨_, rfl⟩
  rw [hv2] at HC2 hbd2 hb12
  have HV2 := hid hv2
  clear hv2
  have hw2 : IntKind.i64.wrap v2.1 = v2.1 := by rw [IntKind.wrap_i64]; omega
  go_wp2_with fail
  refine HC2.out.mono ?_
  rintro e x2 ⟨rfl, hr, hf⟩
  have HX2 := hid (Tk.call HW1.out hr hf)
  clear hr hf HC2
  have z2 : x2.cell? ⟨bx, 2, none⟩ = some (.int .i64 0) := by rw [cell_of_row _ _ _ _ _ _ HX2.out.rw_]; rfl
  have y2 := frozen_of_row x2 bx 2 _ _ HX2.out.rw_
  go_upto_region 3 with fail
  obtain ⟨W2, hW2⟩ : ∃ z, x2.setCell ⟨bx, 2, none⟩ (.int .i64 v2.1) = z := ⟨_, rfl⟩
  have HW2 : Hid (Tk w0 w b g bs bx W2 #[.int .i64 0, .string (strOfNums v1.1), .int .i64 v2.1, .int .i64 0, .int .i64 0, .int .i64 0, .string ⟨#[]⟩, .slice none 0 0, .int .i64 0, .int .i64 0, .int .i64 0, .slice none 0 0, .slice none 0 0] v2.2) := hid (by rw [← hW2]; exact Tk.set HX2.out 2 (.int .i64 v2.1))
  rw [hW2]
  clear z2 y2 hw2 hbd2 hb12
  have HC3 := hid (nR_any w0 W2 b g bs HB.out v2.2 HW2.out.fr 6 (by omega) (by omega))
  have hbd3 := nuS_bd HB.out v2.2 6 (by omega)
  obtain ⟨v3, hv3⟩ : ∃ v, nuS bs v2.2 6 = v := ⟨_, rfl⟩
  rw [hv3] at HC3 hbd3
  have HV3 := hid hv3
  clear hv3
  have hw3 : IntKind.i64.wrap v3.1 = v3.1 := by rw [IntKind.wrap_i64]; omega
  go_wp2_with fail
  refine HC3.out.mono ?_
  rintro e x3 ⟨rfl, hr, hf⟩
  have HX3 := hid (Tk.call HW2.out hr hf)
  clear hr hf HC3
  have z3 : x3.cell? ⟨bx, 3, none⟩ = some (.int .i64 0) := by rw [cell_of_row _ _ _ _ _ _ HX3.out.rw_]; rfl
  have y3 := frozen_of_row x3 bx 3 _ _ HX3.out.rw_
  go_upto_region 4 with fail
  obtain ⟨W3, hW3⟩ : ∃ z, x3.setCell ⟨bx, 3, none⟩ (.int .i64 v3.1) = z := ⟨_, rfl⟩
  have HW3 : Hid (Tk w0 w b g bs bx W3 #[.int .i64 0, .string (strOfNums v1.1), .int .i64 v2.1, .int .i64 v3.1, .int .i64 0, .int .i64 0, .string ⟨#[]⟩, .slice none 0 0, .int .i64 0, .int .i64 0, .int .i64 0, .slice none 0 0, .slice none 0 0] v3.2) := hid (by rw [← hW3]; exact Tk.set HX3.out 3 (.int .i64 v3.1))
  rw [hW3]
  clear z3 y3 hw3 hbd3
  have HC4 := hid (nR_any w0 W3 b g bs HB.out v3.2 HW3.out.fr 6 (by omega) (by omega))
  have hbd4 := nuS_bd HB.out v3.2 6 (by omega)
  obtain ⟨v4, hv4⟩ : ∃ v, nuS bs v3.2 6 = v := ⟨_, rfl⟩
  rw [hv4] at HC4 hbd4
  have HV4 := hid hv4
  clear hv4
  have hw4 : IntKind.i64.wrap v4.1 = v4.1 := by rw [IntKind.wrap_i64]; omega
  go_wp2_with fail
  refine HC4.out.mono ?_
  rintro e x4 ⟨rfl, hr, hf⟩
  have HX4 := hid (Tk.call HW3.out hr hf)
  clear hr hf HC4
  have z4 : x4.cell? ⟨bx, 4, none⟩ = some (.int .i64 0) := by rw [cell_of_row _ _ _ _ _ _ HX4.out.rw_]; rfl
  have y4 := frozen_of_row x4 bx 4 _ _ HX4.out.rw_
  go_upto_region 5 with fail
  obtain ⟨W4, hW4⟩ : ∃ z, x4.setCell ⟨bx, 4, none⟩ (.int .i64 v4.1) = z := ⟨_, rfl⟩
  have HW4 : Hid (Tk w0 w b g bs bx W4 #[.int .i64 0, .string (strOfNums v1.1), .int .i64 v2.1, .int .i64 v3.1, .int .i64 v4.1, .int .i64 0, .string ⟨#[]⟩, .slice none 0 0, .int .i64 0, .int .i64 0, .int .i64 0, .slice none 0 0, .slice none 0 0] v4.2) := hid (by rw [← hW4]; exact Tk.set HX4.out 4 (.int .i64 v4.1))
  rw [hW4]
  clear z4 y4 hw4 hbd4
  have HC5 := hid (nR_any w0 W4 b g bs HB.out v4.2 HW4.out.fr 1 (by omega) (by omega))
  have hbd5 := nuS_bd HB.out v4.2 1 (by omega)
  have hb15 := nuS_b1 HB.out v4.2
  obtain ⟨v5, hv5⟩ : ∃ v, nuS bs v4.2 1 = v := ⟨_, rfl⟩
  rw [hv5] at HC5 hbd5 hb15
  have HV5 := hid hv5
  clear hv5
  have hw5 : IntKind.i64.wrap v5.1 = v5.1 := by rw [IntKind.wrap_i64]; omega
  go_wp2_with fail
  refine HC5.out.mono ?_
  rintro e x5 ⟨rfl, hr, hf⟩
  have HX5 := hid (Tk.call HW4.out hr hf)
  clear hr hf HC5
  have z5 : x5.cell? ⟨bx, 5, none⟩ = some (.int .i64 0) := by rw [cell_of_row _ _ _ _ _ _ HX5.out.rw_]; rfl
  have y5 := frozen_of_row x5 bx 5 _ _ HX5.out.rw_
  go_upto_region 6 with fail
  obtain ⟨W5, hW5⟩ : ∃ z, x5.setCell ⟨bx, 5, none⟩ (.int .i64 v5.1) = z := ⟨_, rfl⟩
  have HW5 : Hid (Tk w0 w b g bs bx W5 #[.int .i64 0, .string (strOfNums v1.1), .int .i64 v2.1, .int .i64 v3.1, .int .i64 v4.1, .int .i64 v5.1, .string ⟨#[]⟩, .slice none 0 0, .int .i64 0, .int .i64 0, .int .i64 0, .slice none 0 0, .slice none 0 0] v5.2) := hid (by rw [← hW5]; exact Tk.set HX5.out 5 (.int .i64 v5.1))
  rw [hW5]
  clear z5 y5 hw5 hbd5 hb15
  have HC6 := hid (tR_any w0 W5 b g bs HB.out v5.2 HW5.out.fr 240 (by omega) (by omega))
  obtain ⟨v6, hv6⟩ : ∃ v, txS bs v5.2 240 = v := ⟨_, rfl⟩
  rw [hv6] at HC6
  have HV6 := hid hv6
  clear hv6
  go_wp2_with fail
  refine HC6.out.mono ?_
  rintro e x6 ⟨rfl, hr, hf⟩
  have HX6 := hid (Tk.call HW5.out hr hf)
  clear hr hf HC6
  have z6 : x6.cell? ⟨bx, 6, none⟩ = some (.string ⟨#[]⟩) := by rw [cell_of_row _ _ _ _ _ _ HX6.out.rw_]; rfl
  have y6 := frozen_of_row x6 bx 6 _ _ HX6.out.rw_
  go_upto_region 7 with fail
  obtain ⟨W6, hW6⟩ : ∃ z, x6.setCell ⟨bx, 6, none⟩ (.string (strOfNums v6.1)) = z := ⟨_, rfl⟩
  have HW6 : Hid (Tk w0 w b g bs bx W6 #[.int .i64 0, .string (strOfNums v1.1), .int .i64 v2.1, .int .i64 v3.1, .int .i64 v4.1, .int .i64 v5.1, .string (strOfNums v6.1), .slice none 0 0, .int .i64 0, .int .i64 0, .int .i64 0, .slice none 0 0, .slice none 0 0] v6.2) := hid (by rw [← hW6]; exact Tk.set HX6.out 6 (.string (strOfNums v6.1)))
  rw [hW6]
  clear z6 y6 
  have HC7 := hid (nR_any w0 W6 b g bs HB.out v6.2 HW6.out.fr 1 (by omega) (by omega))
  have hbd7 := nuS_bd HB.out v6.2 1 (by omega)
  have hb17 := nuS_b1 HB.out v6.2
  obtain ⟨v7, hv7⟩ : ∃ v, nuS bs v6.2 1 = v := ⟨_, rfl⟩
  rw [hv7] at HC7 hbd7 hb17
  have HV7 := hid hv7
  clear hv7
  have hw7 : IntKind.i64.wrap v7.1 = v7.1 := by rw [IntKind.wrap_i64]; omega
  go_wp2_with fail
  refine HC7.out.mono ?_
  rintro e x7 ⟨rfl, hr, hf⟩
  have HX7 := hid (Tk.call HW6.out hr hf)
  clear hr hf HC7
  have HG8 : Hid (g8 bs = prS bs v7.2 v7.1.toNat) := hid (by unfold g8 g7 g6 g5 g4 g3 g2 g1; rw [HV1.out, HV2.out, HV3.out, HV4.out, HV5.out, HV6.out, HV7.out])
  obtain ⟨K, hK⟩ : ∃ K, v7.1.toNat = K := ⟨_, rfl⟩
  have hvK : v7.1 = (K : Int) := by omega
  have hKb : K ≤ 255 := by omega
  rw [hK] at HG8
  have HVK := hid hvK
  rw [hvK] at hw7 ⊢
  clear hK hvK hbd7 hb17
  go_wp2_with fail
  clear hw7
  go_loopw [29] (fun i wr => ∃ (t : Nat) (lp : Option Addr) (lc : Nat), t ≤ K ∧ i = .int .i64 (t : Int) ∧ Hid (Tk w0 w b g bs bx wr #[.int .i64 0, .string (strOfNums v1.1), .int .i64 v2.1, .int .i64 v3.1, .int .i64 v4.1, .int .i64 v5.1, .string (strOfNums v6.1), .slice lp t lc, .int .i64 0, .int .i64 0, .int .i64 0, .slice none 0 0, .slice none 0 0] (prS bs v7.2 t).2) ∧ Hid (wr.ownsRow 0 70 2 (.slice lp t lc) t (prC (prS bs v7.2 t).1)) ∧ Hid (∀ k ∈ blk lp, w.heap.size ≤ k ∧ k ≠ bx ∧ k ≠ b ∧ k ≠ g)) (fun i _ => K - (intOf i).toNat)
  case atStart => exact ⟨0, none, 0, by omega, rfl, HX7, hid (World.ownsRow_nil _ _ _ _), hid (by simp [blk])⟩
  case round =>
    obtain ⟨t, lp, lc, ht, rfl, htk, how, hnw⟩ := hrel
    have HTK := hid htk.out
    have HOW := hid how.out
    have HNW := hid hnw.out
    clear htk how hnw
    by_cases hlt : t < K
    case neg =>
      obtain rfl : t = K := by omega
      clear hlt
      have z0 : wr.cell? ⟨bx, 0, none⟩ = some (.int .i64 0) := by rw [cell_of_row _ _ _ _ _ _ HTK.out.rw_]; rfl
      have y0 := frozen_of_row wr bx 0 _ _ HTK.out.rw_
      have z1 : wr.cell? ⟨bx, 1, none⟩ = some (.string (strOfNums v1.1)) := by rw [cell_of_row _ _ _ _ _ _ HTK.out.rw_]; rfl
      have y1 := frozen_of_row wr bx 1 _ _ HTK.out.rw_
      have z2 : wr.cell? ⟨bx, 2, none⟩ = some (.int .i64 v2.1) := by rw [cell_of_row _ _ _ _ _ _ HTK.out.rw_]; rfl
      have y2 := frozen_of_row wr bx 2 _ _ HTK.out.rw_
      have z3 : wr.cell? ⟨bx, 3, none⟩ = some (.int .i64 v3.1) := by rw [cell_of_row _ _ _ _ _ _ HTK.out.rw_]; rfl
      have y3 := frozen_of_row wr bx 3 _ _ HTK.out.rw_
      have z4 : wr.cell? ⟨bx, 4, none⟩ = some (.int .i64 v4.1) := by rw [cell_of_row _ _ _ _ _ _ HTK.out.rw_]; rfl
      have y4 := frozen_of_row wr bx 4 _ _ HTK.out.rw_
      have z5 : wr.cell? ⟨bx, 5, none⟩ = some (.int .i64 v5.1) := by rw [cell_of_row _ _ _ _ _ _ HTK.out.rw_]; rfl
      have y5 := frozen_of_row wr bx 5 _ _ HTK.out.rw_
      have z6 : wr.cell? ⟨bx, 6, none⟩ = some (.string (strOfNums v6.1)) := by rw [cell_of_row _ _ _ _ _ _ HTK.out.rw_]; rfl
      have y6 := frozen_of_row wr bx 6 _ _ HTK.out.rw_
      have z7 : wr.cell? ⟨bx, 7, none⟩ = some (.slice lp t lc) := by rw [cell_of_row _ _ _ _ _ _ HTK.out.rw_]; rfl
      have y7 := frozen_of_row wr bx 7 _ _ HTK.out.rw_
      have z8 : wr.cell? ⟨bx, 8, none⟩ = some (.int .i64 0) := by rw [cell_of_row _ _ _ _ _ _ HTK.out.rw_]; rfl
      have y8 := frozen_of_row wr bx 8 _ _ HTK.out.rw_
      have z9 : wr.cell? ⟨bx, 9, none⟩ = some (.int .i64 0) := by rw [cell_of_row _ _ _ _ _ _ HTK.out.rw_]; rfl
      have y9 := frozen_of_row wr bx 9 _ _ HTK.out.rw_
      have z10 : wr.cell? ⟨bx, 10, none⟩ = some (.int .i64 0) := by rw [cell_of_row _ _ _ _ _ _ HTK.out.rw_]; rfl
      have y10 := frozen_of_row wr bx 10 _ _ HTK.out.rw_
      have z11 : wr.cell? ⟨bx, 11, none⟩ = some (.slice none 0 0) := by rw [cell_of_row _ _ _ _ _ _ HTK.out.rw_]; rfl
      have y11 := frozen_of_row wr bx 11 _ _ HTK.out.rw_
      have z12 : wr.cell? ⟨bx, 12, none⟩ = some (.slice none 0 0) := by rw [cell_of_row _ _ _ _ _ _ HTK.out.rw_]; rfl
      have y12 := frozen_of_row wr bx 12 _ _ HTK.out.rw_
      go_wp2_with fail
      obtain ⟨h5, f5⟩ := sets_rowF bx 26 [(0, .int .i64 0), (1, .string (strOfNums v1.1)), (2, .int .i64 v2.1), (3, .int .i64 v3.1), (4, .int .i64 v4.1), (5, .int .i64 v5.1), (6, .string (strOfNums v6.1)), (7, .slice lp t lc), (8, .int .i64 0), (9, .int .i64 0), (10, .int .i64 0), (11, .slice none 0 0), (12, .slice none 0 0)] wr _ HTK.out.rw_
      simp only [List.foldl, List.setIfInBounds_toArray, List.set_cons_zero, List.set_cons_succ] at h5
      obtain ⟨Wz, hWz⟩ : ∃ z, setsF wr bx [(0, .int .i64 0), (1, .string (strOfNums v1.1)), (2, .int .i64 v2.1), (3, .int .i64 v3.1), (4, .int .i64 v4.1), (5, .int .i64 v5.1), (6, .string (strOfNums v6.1)), (7, .slice lp t lc), (8, .int .i64 0), (9, .int .i64 0), (10, .int .i64 0), (11, .slice none 0 0), (12, .slice none 0 0)] = z := ⟨_, rfl⟩
      rw [hWz] at h5 f5
      have hwz : (((((((((((((wr.setCell ⟨bx, 0, none⟩ (.int .i64 0)).setCell ⟨bx, 1, none⟩ (.string (strOfNums v1.1))).setCell ⟨bx, 2, none⟩ (.int .i64 v2.1)).setCell ⟨bx, 3, none⟩ (.int .i64 v3.1)).setCell ⟨bx, 4, none⟩ (.int .i64 v4.1)).setCell ⟨bx, 5, none⟩ (.int .i64 v5.1)).setCell ⟨bx, 6, none⟩ (.string (strOfNums v6.1))).setCell ⟨bx, 7, none⟩ (.slice lp t lc)).setCell ⟨bx, 8, none⟩ (.int .i64 0)).setCell ⟨bx, 9, none⟩ (.int .i64 0)).setCell ⟨bx, 10, none⟩ (.int .i64 0)).setCell ⟨bx, 11, none⟩ (.slice none 0 0)).setCell ⟨bx, 12, none⟩ (.slice none 0 0)) = Wz := hWz
      rw [hwz]
      have HZ := hid (Tk.put HTK.out h5 f5)
      have u0 : Wz.cell? ⟨bx, 0, none⟩ = some (.int .i64 0) := by rw [cell_of_row _ _ _ _ _ _ h5]; rfl
      have u1 : Wz.cell? ⟨bx, 1, none⟩ = some (.string (strOfNums v1.1)) := by rw [cell_of_row _ _ _ _ _ _ h5]; rfl
      have u2 : Wz.cell? ⟨bx, 2, none⟩ = some (.int .i64 v2.1) := by rw [cell_of_row _ _ _ _ _ _ h5]; rfl
      have u3 : Wz.cell? ⟨bx, 3, none⟩ = some (.int .i64 v3.1) := by rw [cell_of_row _ _ _ _ _ _ h5]; rfl
      have u4 : Wz.cell? ⟨bx, 4, none⟩ = some (.int .i64 v4.1) := by rw [cell_of_row _ _ _ _ _ _ h5]; rfl
      have u5 : Wz.cell? ⟨bx, 5, none⟩ = some (.int .i64 v5.1) := by rw [cell_of_row _ _ _ _ _ _ h5]; rfl
      have u6 : Wz.cell? ⟨bx, 6, none⟩ = some (.string (strOfNums v6.1)) := by rw [cell_of_row _ _ _ _ _ _ h5]; rfl
      have u7 : Wz.cell? ⟨bx, 7, none⟩ = some (.slice lp t lc) := by rw [cell_of_row _ _ _ _ _ _ h5]; rfl
      have u8 : Wz.cell? ⟨bx, 8, none⟩ = some (.int .i64 0) := by rw [cell_of_row _ _ _ _ _ _ h5]; rfl
      have u9 : Wz.cell? ⟨bx, 9, none⟩ = some (.int .i64 0) := by rw [cell_of_row _ _ _ _ _ _ h5]; rfl
      have u10 : Wz.cell? ⟨bx, 10, none⟩ = some (.int .i64 0) := by rw [cell_of_row _ _ _ _ _ _ h5]; rfl
      have u11 : Wz.cell? ⟨bx, 11, none⟩ = some (.slice none 0 0) := by rw [cell_of_row _ _ _ _ _ _ h5]; rfl
      have u12 : Wz.cell? ⟨bx, 12, none⟩ = some (.slice none 0 0) := by rw [cell_of_row _ _ _ _ _ _ h5]; rfl
      refine bodyPost_ret (v := .agg #[.int .i64 0, .string (strOfNums v1.1), .int .i64 v2.1, .int .i64 v3.1, .int .i64 v4.1, .int .i64 v5.1, .string (strOfNums v6.1), .slice lp t lc, .int .i64 0, .int .i64 0, .int .i64 0, .slice none 0 0, .slice none 0 0]) (by simp [results, Tryz.results55, go_sem, u0, u1, u2, u3, u4, u5, u6, u7, u8, u9, u10, u11, u12]) rfl ?_
      refine HP.out _ _ ⟨⟨0, strOfNums v1.1, v2.1, v3.1, v4.1, v5.1, strOfNums v6.1, lp, t, lc, 0, 0, 0, none, 0, 0, none, 0, 0⟩, rfl, ?_, ?_, ?_, HZ.out.frm⟩
      · unfold tvBg g6 g5 g4 g3 g2 g1; rw [HV1.out, HV2.out, HV3.out, HV4.out, HV5.out, HV6.out]; rfl
      · unfold tvBg; rw [HG8.out]; exact ⟨ownsRow_kept HOW.out f5 (fun k hk hm => by rw [List.mem_singleton] at hm; exact (HNW.out k hk).2.1 hm), by rw [prS_len], fun k hk => (HNW.out k hk).1, World.ownsRow_nil _ _ _ _, rfl, by simp [blk], Own.nil _ _, rfl, by simp [blk], by simp, by simp; omega⟩
      · unfold tvBg; rw [HG8.out]; exact HZ.out.fr
    have t1 : (t : Int) < (K : Int) := by omega
    have HSU : Hid (prS bs v7.2 (t + 1) = ((prS bs v7.2 t).1 ++ [(strOfNums (txS bs (prS bs v7.2 t).2 240).1, strOfNums (txS bs (txS bs (prS bs v7.2 t).2 240).2 240).1)], (txS bs (txS bs (prS bs v7.2 t).2 240).2 240).2)) := hid rfl
    obtain ⟨LL, hLL⟩ : ∃ z, prS bs v7.2 t = z := ⟨_, rfl⟩
    rw [hLL] at HTK HOW HSU
    clear hLL
    have hpr := heap_alloc_new wr (.cells #[.string ⟨#[]⟩, .string ⟨#[]⟩] 70)
    have hfp : Frm [] wr (wr.alloc (.cells #[.string ⟨#[]⟩, .string ⟨#[]⟩] 70)) := (Frm.refl _ _).alloc _
    obtain ⟨wp, hwp⟩ : ∃ z, wr.alloc (.cells #[.string ⟨#[]⟩, .string ⟨#[]⟩] 70) = z := ⟨_, rfl⟩
    obtain ⟨bp, hbp⟩ : ∃ z, wr.heap.size = z := ⟨_, rfl⟩
    rw [hwp, hbp] at hpr
    rw [hwp] at hfp
    have HWP := hid hwp
    have HBP := hid hbp
    have HPB : Hid (w.heap.size ≤ bp ∧ bp ≠ bx ∧ bp ≠ b ∧ bp ≠ g ∧ bp ∉ blk lp) := hid (by have h1 := HTK.out.frm.size; have h2 := lt_of_heap HTK.out.rw_; have h3 := HTK.out.fr.1.cells; refine ⟨by omega, by omega, by omega, by omega, fun hm => ?_⟩; have h4 := ownsRow_low HOW.out bp hm; omega)
    have HTP := hid (HTK.out.k0 hfp)
    have HOP := hid (ownsRow_kept HOW.out hfp (by simp))
    have HRP := hid hpr
    have HC1 := hid (tR_any w0 wp b g bs HB.out LL.2 HTP.out.fr 240 (by omega) (by omega))
    obtain ⟨a1, ha1⟩ : ∃ z, txS bs LL.2 240 = z := ⟨_, rfl⟩
    rw [ha1] at HC1 HSU
    clear hpr hfp hwp hbp ha1
    go_upto_region 10 with fail
    first | rw [HBP.out] | skip
    first | rw [HWP.out] | skip
    go_wp2_with fail
    refine HC1.out.mono ?_
    rintro e x8 ⟨rfl, hr, hf⟩
    have HT8 := hid (Tk.call HTP.out hr hf)
    have HO8 := hid (ownsRow_kept HOP.out hf (fun k hk hm => by rw [List.mem_singleton] at hm; exact (HNW.out k hk).2.2.1 hm))
    have hr8 := hf.heap HRP.out (by simpa using HPB.out.2.2.1)
    have z0 : x8.cell? ⟨bp, 0, none⟩ = some (.string ⟨#[]⟩) := by rw [cell_of_row _ _ _ _ _ _ hr8]; rfl
    have y0 := frozen_of_row x8 bp 0 _ _ hr8
    have HP8 := hid (heap_setCell_same x8 bp 0 _ _ (.string (strOfNums a1.1)) hr8)
    have HF8 : Hid (Frm [bp] x8 (x8.setCell ⟨bp, 0, none⟩ (.string (strOfNums a1.1)))) := hid ((Frm.refl _ _).setCell _ _ (by simp))
    clear hr hf hr8 HC1 HTP HOP HRP
    go_upto_region 11 with fail
    obtain ⟨Wa, hWa⟩ : ∃ z, x8.setCell ⟨bp, 0, none⟩ (.string (strOfNums a1.1)) = z := ⟨_, rfl⟩
    rw [hWa] at HP8 HF8 ⊢
    have hS1 : ∀ k ∈ [bp], w.heap.size ≤ k ∧ k ≠ bx ∧ k ≠ b ∧ k ≠ g := fun k hk => by rw [List.mem_singleton] at hk; subst hk; exact ⟨HPB.out.1, HPB.out.2.1, HPB.out.2.2.1, HPB.out.2.2.2.1⟩
    have HS1 := hid hS1
    have HTa := hid (HT8.out.gen HF8.out hS1 HW0.out)
    have HOa := hid (ownsRow_kept HO8.out HF8.out (fun k hk hm => by rw [List.mem_singleton] at hm; subst hm; exact HPB.out.2.2.2.2 hk))
    have HPa : Hid (Wa.heap[bp]? = some (.cells #[.string (strOfNums a1.1), .string ⟨#[]⟩] 70 (0, 0))) := hid HP8.out
    have HC2 := hid (tR_any w0 Wa b g bs HB.out a1.2 HTa.out.fr 240 (by omega) (by omega))
    obtain ⟨a2, ha2⟩ : ∃ z, txS bs a1.2 240 = z := ⟨_, rfl⟩
    rw [ha2] at HC2 HSU
    clear ha2 hWa z0 y0 HT8 HO8 HP8 HF8 hS1
    go_wp2_with fail
    refine HC2.out.mono ?_
    rintro e x9 ⟨rfl, hr, hf⟩
    have HT9 := hid (Tk.call HTa.out hr hf)
    have HO9 := hid (ownsRow_kept HOa.out hf (fun k hk hm => by rw [List.mem_singleton] at hm; exact (HNW.out k hk).2.2.1 hm))
    have hr9 := hf.heap HPa.out (by simpa using HPB.out.2.2.1)
    have z1 : x9.cell? ⟨bp, 1, none⟩ = some (.string ⟨#[]⟩) := by rw [cell_of_row _ _ _ _ _ _ hr9]; rfl
    have y1 := frozen_of_row x9 bp 1 _ _ hr9
    have HP9 := hid (heap_setCell_same x9 bp 1 _ _ (.string (strOfNums a2.1)) hr9)
    have HF9 : Hid (Frm [bp] x9 (x9.setCell ⟨bp, 1, none⟩ (.string (strOfNums a2.1)))) := hid ((Frm.refl _ _).setCell _ _ (by simp))
    clear hr hf hr9 HC2 HTa HOa HPa
    go_upto_region 12 with fail
    obtain ⟨Wb, hWb⟩ : ∃ z, x9.setCell ⟨bp, 1, none⟩ (.string (strOfNums a2.1)) = z := ⟨_, rfl⟩
    rw [hWb] at HP9 HF9 ⊢
    have HTb := hid (HT9.out.gen HF9.out HS1.out HW0.out)
    have HOb := hid (ownsRow_kept HO9.out HF9.out (fun k hk hm => by rw [List.mem_singleton] at hm; subst hm; exact HPB.out.2.2.2.2 hk))
    have hPb : Wb.heap[bp]? = some (.cells #[.string (strOfNums a1.1), .string (strOfNums a2.1)] 70 (0, 0)) := HP9.out
    have z0 : Wb.cell? ⟨bp, 0, none⟩ = some (.string (strOfNums a1.1)) := by rw [cell_of_row _ _ _ _ _ _ hPb]; rfl
    have z2 : Wb.cell? ⟨bp, 1, none⟩ = some (.string (strOfNums a2.1)) := by rw [cell_of_row _ _ _ _ _ _ hPb]; rfl
    have z7 : Wb.cell? ⟨bx, 7, none⟩ = some (.slice lp t lc) := by rw [cell_of_row _ _ _ _ _ _ HTb.out.rw_]; rfl
    have HA := hid ((Frm.refl [] Wb).alloc (.cells #[.string (strOfNums a1.1), .string (strOfNums a2.1)] 70))
    have HRV := hid (rv_block (heap_alloc_new Wb (.cells #[.string (strOfNums a1.1), .string (strOfNums a2.1)] 70)))
    have HOW2 := hid (ownsRow_kept HOb.out HA.out (by simp))
    have HTA := hid (HTb.out.k0 HA.out)
    clear hWb hPb z1 y1 HT9 HO9 HP9 HF9
    go_wp2_with (at_builtin; refine wpList_appV rfl _ _ 22 rfl 70 2 32 _ Tryz.underlying22 infoPrR rfl (by decide) lp t lc (prC LL.1) rfl HOW2.out (some ⟨Wb.heap.size, 0, none⟩) 1 1 [.string (strOfNums a1.1), .string (strOfNums a2.1)] rfl rfl (by simp) HRV.out (by intro u hu; simp at hu; rcases hu with rfl | rfl <;> rfl) (by unfold maxLen; omega) (by omega) ?_)
    intro p8 c8 w8 ho8 hf8 hb8
    have HT8 := hid (HTA.out.gen hf8.out HNW.out HW0.out)
    have hrow8 := HT8.out.rw_
    have z6 : w8.cell? ⟨bx, 7, none⟩ = some (.slice lp t lc) := by rw [cell_of_row _ _ _ _ _ _ hrow8]; rfl
    have y6 := frozen_of_row w8 bx 7 _ _ hrow8
    have HNX : Hid (Tk w0 w b g bs bx (w8.setCell ⟨bx, 7, none⟩ (.slice p8 (t + 1) c8)) #[.int .i64 0, .string (strOfNums v1.1), .int .i64 v2.1, .int .i64 v3.1, .int .i64 v4.1, .int .i64 v5.1, .string (strOfNums v6.1), .slice p8 (t + 1) c8, .int .i64 0, .int .i64 0, .int .i64 0, .slice none 0 0, .slice none 0 0] (prS bs v7.2 (t + 1)).2 ∧ (w8.setCell ⟨bx, 7, none⟩ (.slice p8 (t + 1) c8)).ownsRow 0 70 2 (.slice p8 (t + 1) c8) (t + 1) (prC (prS bs v7.2 (t + 1)).1) ∧ (∀ k ∈ blk p8, w.heap.size ≤ k ∧ k ≠ bx ∧ k ≠ b ∧ k ≠ g)) := hid (by
      rw [HSU.out]
      have hnw : ∀ k ∈ blk p8, w.heap.size ≤ k ∧ k ≠ bx ∧ k ≠ b ∧ k ≠ g := fun k hk => by
        rcases hb8.out k hk with h | h
        · exact HNW.out k h
        · have e1 : (Wb.alloc (.cells #[.string (strOfNums a1.1), .string (strOfNums a2.1)] 70)).heap.size = Wb.heap.size + 1 := by simp
          have h1 := HTb.out.frm.size
          have h2 := lt_of_heap HTb.out.rw_
          have h3 := HTb.out.fr.1.cells
          exact ⟨by omega, by omega, by omega, by omega⟩
      refine ⟨Tk.set HT8.out 7 (.slice p8 (t + 1) c8), ?_, hnw⟩
      have h := ho8.out
      rw [prC_app]
      exact ownsRow_kept h (show Frm [bx] w8 _ from (Frm.refl _ _).setCell _ _ (by simp)) (fun k hk hm => by rw [List.mem_singleton] at hm; exact (hnw k hk).2.1 hm))
    clear ho8 hf8 hb8 hrow8 HT8 HTA HOW2 HRV HA HTb HOb z0 z2 z7
    go_wp2_with fail
    go_roundw
    case rel => exact ⟨t + 1, p8, c8, by omega, by go_num, hid HNX.out.1, hid HNX.out.2.1, hid HNX.out.2.2⟩
    case measure => first | (simp [intOf]; done) | (simp [intOf]; omega)
end
end Go.Proofs.YtajfjkfnmmfhmaaGreatDoor
