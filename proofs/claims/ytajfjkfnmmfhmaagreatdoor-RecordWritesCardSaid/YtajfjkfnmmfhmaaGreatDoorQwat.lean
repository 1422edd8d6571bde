/- Records, the document's side: Check. -/
import Derived.Test.YtajfjkfnmmfhmaaGreatDoorQwan
import Derived.Test.YtajfjkfnmmfhmaaGreatDoorQwas
namespace Go.Proofs.YtajfjkfnmmfhmaaGreatDoor
section
open Go.RowKit Go.Lib
set_option maxRecDepth 100000
/-- How long a property's value may be. -/
def PvOk (P : List Pr) : Prop := ∀ i, i < P.length → (prA P i).2.size ≤ 9223372036854775807
set_option maxHeartbeats 12800000 in
theorem refCheck_1 (r : Rc) (P : List Pr) (K D : List Int) (w : World) (hr : RcOk w r P K D) (hs : r.name.size ≤ 140737488355328) (_hv : PvOk P) (hkd : r.kind = 1) :
    Calls Tryz.prog 13 #[.agg r.arr] w fun e w' => e = .returned (.int .i64 (if RcMay r P K D then 0 else 200)) ∧ Frm [] w w' := by
  obtain ⟨PO, hPO⟩ : ∃ PO : Ending → World → Prop, (fun e w' => e = .returned (.int .i64 (if RcMay r P K D then 0 else 200)) ∧ Frm [] w w') = PO := ⟨_, rfl⟩
  rw [hPO]
  have HP0 : Hid (∀ w', RcMay r P K D → Frm [] w w' → PO (.returned (.int .i64 0)) w') := hid (fun w' h h2 => by rw [← hPO]; exact ⟨by rw [if_pos h], h2⟩)
  have HP1 : Hid (∀ w', ¬ RcMay r P K D → Frm [] w w' → PO (.returned (.int .i64 200)) w') := hid (fun w' h h2 => by rw [← hPO]; exact ⟨by rw [if_neg h], h2⟩)
  obtain ⟨wb, hwb⟩ : ∃ z, w.alloc (.cells r.arr 26) = z := ⟨_, rfl⟩
  have hrow := heap_alloc_new w (.cells r.arr 26)
  have hfb : Frm [] w wb := by rw [← hwb]; exact (Frm.refl _ _).alloc _
  obtain ⟨b, hb⟩ : ∃ z, w.heap.size = z := ⟨_, rfl⟩
  rw [hwb, hb] at hrow
  have HX := hid (fun V (hf : Frm [] wb V) => rc_cells (hf.heap hrow (by simp)))
  have HFB := hid hfb
  have HWB := hid hwb
  have HB := hid hb
  have HON := hid (fun W => refOnly_any r 3 (by omega) W)
  obtain ⟨B, hB⟩ : ∃ B, decide (sumB (fldB r) 12 ||| 3 = 3) = B := ⟨_, rfl⟩
  rw [hB] at HON
  have hMY : RcMay r P K D ↔ MayPk r ∧ B = true := by rw [rcMay_1 P K D hkd, ← onlyR_3 r P K D hr.pl hr.kl hr.dn, ← hB, decide_eq_true_iff]
  have HB1C := hid (fun W => refPart_any r.name W)
  obtain ⟨B1, hB1⟩ : ∃ B, decide (PartL (tx r.name)) = B := ⟨_, rfl⟩
  rw [hB1] at HB1C
  have HB1 : Hid (B1 = true ↔ PartL (tx r.name)) := hid (by rw [← hB1]; exact decide_eq_true_iff)
  clear hB1
  unfold MayPk at hMY
  have HMY := hid hMY
  clear hPO hwb hrow hfb hb hr hB hMY
  obtain ⟨kind, name, typ, frm, guid, origin, snap, pp, pn, pc, obj, at_, many, kp, kn, kc, dp, dl, dc⟩ := r
  simp only at hkd
  subst hkd
  unfold Rc.arr at HWB HON ⊢
  simp only at HX HWB HON HMY HB1C HB1 hs ⊢
  go_enter Tryz.func13, Tryz.ntmps13
  go_upto_region 2 with fail
  first | rw [HB.out] | skip
  first | rw [HWB.out] | skip
  clear HB HWB
  obtain ⟨x0, x1, x2, x3, x4, x5, x6, x7, x8, x9, x10, x11, x12⟩ := HX.out wb (Frm.refl _ _)
  go_cut [4] from 5 to 12 (fun v wx => ∃ x, v = .bool x ∧ (x = true ↔ (1 ≤ obj ∧ obj ≤ 1048576)) ∧ wx = wb)
  case first =>
    by_cases c0 : 1 ≤ obj
    case neg =>
      have HK : Hid (¬ (1 ≤ obj ∧ obj ≤ 1048576)) := hid (by omega)
      go_wp2_with fail
      go_meet
      case rel => exact ⟨false, rfl, ⟨fun h => by simp at h, fun h => absurd h HK.out⟩, rfl⟩
    by_cases c1 : obj ≤ 1048576
    case neg =>
      have HK : Hid (¬ (1 ≤ obj ∧ obj ≤ 1048576)) := hid (by omega)
      go_wp2_with fail
      go_meet
      case rel => exact ⟨false, rfl, ⟨fun h => by simp at h, fun h => absurd h HK.out⟩, rfl⟩
    have HK : Hid (1 ≤ obj ∧ obj ≤ 1048576) := hid ⟨c0, c1⟩
    go_wp2_with fail
    go_meet
    case rel => exact ⟨true, rfl, ⟨fun _ => HK.out, fun _ => rfl⟩, rfl⟩
  obtain ⟨OB, rfl, hx, rfl⟩ := hcut
  have HOB := hid hx
  clear hx
  generalize wc = w0 at *
  obtain ⟨x0, x1, x2, x3, x4, x5, x6, x7, x8, x9, x10, x11, x12⟩ := HX.out w0 (Frm.refl _ _)
  go_wp2_with fail
  refine (HON.out _).mono ?_
  rintro e w1 ⟨rfl, hf1⟩
  have HF1 := hid hf1
  have HFF : Hid (Frm [] w w1) := hid (HFB.out.trans hf1 (by simp))
  clear hf1 x0 x1 x2 x3 x4 x5 x6 x7 x8 x9 x10 x11 x12
  obtain ⟨x0, x1, x2, x3, x4, x5, x6, x7, x8, x9, x10, x11, x12⟩ := HX.out w1 HF1.out
  cases B with
  | false =>
    go_wp2_with fail
    first | go_returns | skip
    exact HP1.out _ (by rw [HMY.out]; exact fun h => absurd h.2 (by simp)) HFF.out
  | true =>
  go_wp2_with fail
  refine (HB1C.out _).mono ?_
  rintro e w2 ⟨rfl, rfl⟩
  cases B1 with
  | false =>
    go_wp2_with fail
    first | go_returns | skip
    exact HP1.out _ (by rw [HMY.out]; exact fun h => absurd (HB1.out.2 h.1.1) (by simp)) HFF.out
  | true =>
  by_cases c2 : 1 ≤ many
  case neg =>
    have HK := hid c2
    have dk := decide_eq_false c2
    go_wp2_with fail
    first | go_returns | skip
    exact HP1.out _ (by rw [HMY.out]; exact fun h => absurd h.1.2.1 (by have := HK.out; omega)) HFF.out
  have Hc2 := hid c2
  by_cases c3 : many ≤ 120
  case neg =>
    have HK := hid c3
    have dk := decide_eq_false c3
    go_wp2_with fail
    first | go_returns | skip
    exact HP1.out _ (by rw [HMY.out]; exact fun h => absurd h.1.2.2 (by have := HK.out; omega)) HFF.out
  have Hc3 := hid c3
  go_wp2_with fail
  first | go_returns | skip
  exact HP0.out _ (by rw [HMY.out]; exact ⟨⟨HB1.out.1 (by trivial), Hc2.out, Hc3.out⟩, by trivial⟩) HFF.out
set_option maxHeartbeats 12800000 in
theorem refCheck_2 (r : Rc) (P : List Pr) (K D : List Int) (w : World) (hr : RcOk w r P K D) (hs : r.name.size ≤ 140737488355328) (hv : PvOk P) (hkd : r.kind = 2) :
    Calls Tryz.prog 13 #[.agg r.arr] w fun e w' => e = .returned (.int .i64 (if RcMay r P K D then 0 else 200)) ∧ Frm [] w w' := by
  obtain ⟨PO, hPO⟩ : ∃ PO : Ending → World → Prop, (fun e w' => e = .returned (.int .i64 (if RcMay r P K D then 0 else 200)) ∧ Frm [] w w') = PO := ⟨_, rfl⟩
  rw [hPO]
  have HP0 : Hid (∀ w', RcMay r P K D → Frm [] w w' → PO (.returned (.int .i64 0)) w') := hid (fun w' h h2 => by rw [← hPO]; exact ⟨by rw [if_pos h], h2⟩)
  have HP1 : Hid (∀ w', ¬ RcMay r P K D → Frm [] w w' → PO (.returned (.int .i64 200)) w') := hid (fun w' h h2 => by rw [← hPO]; exact ⟨by rw [if_neg h], h2⟩)
  obtain ⟨wb, hwb⟩ : ∃ z, w.alloc (.cells r.arr 26) = z := ⟨_, rfl⟩
  have hrow := heap_alloc_new w (.cells r.arr 26)
  have hfb : Frm [] w wb := by rw [← hwb]; exact (Frm.refl _ _).alloc _
  obtain ⟨b, hb⟩ : ∃ z, w.heap.size = z := ⟨_, rfl⟩
  rw [hwb, hb] at hrow
  have HX := hid (fun V (hf : Frm [] wb V) => rc_cells (hf.heap hrow (by simp)))
  have HFB := hid hfb
  have HWB := hid hwb
  have HB := hid hb
  have HON := hid (fun W => refOnly_any r 253 (by omega) W)
  obtain ⟨B, hB⟩ : ∃ B, decide (sumB (fldB r) 12 ||| 253 = 253) = B := ⟨_, rfl⟩
  rw [hB] at HON
  have hMY : RcMay r P K D ↔ MayBg r P ∧ B = true := by rw [rcMay_2 P K D hkd, ← onlyR_253 r P K D hr.kl hr.dn, ← hB, decide_eq_true_iff]
  have HB1C := hid (fun W (hf : Frm [] w W) => refBegin_any r P W (hr.pr.kept hf (by simp)) hr.pl hr.mx.1 hs hv)
  obtain ⟨B1, hB1⟩ : ∃ B, decide (MayBg r P) = B := ⟨_, rfl⟩
  rw [hB1] at HB1C
  have HB1 : Hid (B1 = true ↔ MayBg r P) := hid (by rw [← hB1]; exact decide_eq_true_iff)
  clear hB1
  have HMY := hid hMY
  clear hPO hwb hrow hfb hb hr hv hB hMY
  obtain ⟨kind, name, typ, frm, guid, origin, snap, pp, pn, pc, obj, at_, many, kp, kn, kc, dp, dl, dc⟩ := r
  simp only at hkd
  subst hkd
  unfold Rc.arr at HWB HON HB1C ⊢
  simp only at HX HWB HON HMY HB1C HB1 hs ⊢
  go_enter Tryz.func13, Tryz.ntmps13
  go_upto_region 2 with fail
  first | rw [HB.out] | skip
  first | rw [HWB.out] | skip
  clear HB HWB
  obtain ⟨x0, x1, x2, x3, x4, x5, x6, x7, x8, x9, x10, x11, x12⟩ := HX.out wb (Frm.refl _ _)
  go_cut [4] from 5 to 12 (fun v wx => ∃ x, v = .bool x ∧ (x = true ↔ (1 ≤ obj ∧ obj ≤ 1048576)) ∧ wx = wb)
  case first =>
    by_cases c0 : 1 ≤ obj
    case neg =>
      have HK : Hid (¬ (1 ≤ obj ∧ obj ≤ 1048576)) := hid (by omega)
      go_wp2_with fail
      go_meet
      case rel => exact ⟨false, rfl, ⟨fun h => by simp at h, fun h => absurd h HK.out⟩, rfl⟩
    by_cases c1 : obj ≤ 1048576
    case neg =>
      have HK : Hid (¬ (1 ≤ obj ∧ obj ≤ 1048576)) := hid (by omega)
      go_wp2_with fail
      go_meet
      case rel => exact ⟨false, rfl, ⟨fun h => by simp at h, fun h => absurd h HK.out⟩, rfl⟩
    have HK : Hid (1 ≤ obj ∧ obj ≤ 1048576) := hid ⟨c0, c1⟩
    go_wp2_with fail
    go_meet
    case rel => exact ⟨true, rfl, ⟨fun _ => HK.out, fun _ => rfl⟩, rfl⟩
  obtain ⟨OB, rfl, hx, rfl⟩ := hcut
  have HOB := hid hx
  clear hx
  generalize wc = w0 at *
  obtain ⟨x0, x1, x2, x3, x4, x5, x6, x7, x8, x9, x10, x11, x12⟩ := HX.out w0 (Frm.refl _ _)
  go_wp2_with fail
  refine (HON.out _).mono ?_
  rintro e w1 ⟨rfl, hf1⟩
  have HF1 := hid hf1
  have HFF : Hid (Frm [] w w1) := hid (HFB.out.trans hf1 (by simp))
  clear hf1 x0 x1 x2 x3 x4 x5 x6 x7 x8 x9 x10 x11 x12
  obtain ⟨x0, x1, x2, x3, x4, x5, x6, x7, x8, x9, x10, x11, x12⟩ := HX.out w1 HF1.out
  cases B with
  | false =>
    go_wp2_with fail
    first | go_returns | skip
    exact HP1.out _ (by rw [HMY.out]; exact fun h => absurd h.2 (by simp)) HFF.out
  | true =>
  go_wp2_with fail
  refine (HB1C.out _ HFF.out).mono ?_
  rintro e w2 ⟨rfl, hf2⟩
  have HF2 : Hid (Frm [] w w2) := hid (HFF.out.trans hf2 (by simp))
  have HX2 := hid (HX.out w2 (HF1.out.trans hf2 (by simp)))
  clear hf2 x0 x1 x2 x3 x4 x5 x6 x7 x8 x9 x10 x11 x12
  obtain ⟨x0, x1, x2, x3, x4, x5, x6, x7, x8, x9, x10, x11, x12⟩ := HX2.out
  cases B1 with
  | false =>
    go_wp2_with fail
    first | go_returns | skip
    exact HP1.out _ (by rw [HMY.out]; exact fun h => absurd (HB1.out.2 h.1) (by simp)) HF2.out
  | true =>
  go_wp2_with fail
  first | go_returns | skip
  exact HP0.out _ (by rw [HMY.out]; exact ⟨HB1.out.1 (by trivial), by trivial⟩) HF2.out
set_option maxHeartbeats 12800000 in
theorem refCheck_3 (r : Rc) (P : List Pr) (K D : List Int) (w : World) (hr : RcOk w r P K D) (hs : r.name.size ≤ 140737488355328) (_hv : PvOk P) (hkd : r.kind = 3) :
    Calls Tryz.prog 13 #[.agg r.arr] w fun e w' => e = .returned (.int .i64 (if RcMay r P K D then 0 else 200)) ∧ Frm [] w w' := by
  obtain ⟨PO, hPO⟩ : ∃ PO : Ending → World → Prop, (fun e w' => e = .returned (.int .i64 (if RcMay r P K D then 0 else 200)) ∧ Frm [] w w') = PO := ⟨_, rfl⟩
  rw [hPO]
  have HP0 : Hid (∀ w', RcMay r P K D → Frm [] w w' → PO (.returned (.int .i64 0)) w') := hid (fun w' h h2 => by rw [← hPO]; exact ⟨by rw [if_pos h], h2⟩)
  have HP1 : Hid (∀ w', ¬ RcMay r P K D → Frm [] w w' → PO (.returned (.int .i64 200)) w') := hid (fun w' h h2 => by rw [← hPO]; exact ⟨by rw [if_neg h], h2⟩)
  obtain ⟨wb, hwb⟩ : ∃ z, w.alloc (.cells r.arr 26) = z := ⟨_, rfl⟩
  have hrow := heap_alloc_new w (.cells r.arr 26)
  have hfb : Frm [] w wb := by rw [← hwb]; exact (Frm.refl _ _).alloc _
  obtain ⟨b, hb⟩ : ∃ z, w.heap.size = z := ⟨_, rfl⟩
  rw [hwb, hb] at hrow
  have HX := hid (fun V (hf : Frm [] wb V) => rc_cells (hf.heap hrow (by simp)))
  have HFB := hid hfb
  have HWB := hid hwb
  have HB := hid hb
  have HON := hid (fun W => refOnly_any r 1024 (by omega) W)
  obtain ⟨B, hB⟩ : ∃ B, decide (sumB (fldB r) 12 ||| 1024 = 1024) = B := ⟨_, rfl⟩
  rw [hB] at HON
  have hMY : RcMay r P K D ↔ MayLv r K ∧ B = true := by rw [rcMay_3 P K D hkd, ← onlyR_1024 r P K D hr.pl hr.dn, ← hB, decide_eq_true_iff]
  have HB1C := hid (fun W (hf : Frm [] w W) => refRising_any r.kp r.kn r.kc K (1) (1048576) W hr.kl hr.mx.2 (hr.kr.kept hf (by simp)))
  obtain ⟨B1, hB1⟩ : ∃ B, decide (RiseL K 1 1048576 ∧ r.kn ≤ 240) = B := ⟨_, rfl⟩
  rw [hB1] at HB1C
  have HB1 : Hid (B1 = true ↔ RiseL K 1 1048576 ∧ r.kn ≤ 240) := hid (by rw [← hB1]; exact decide_eq_true_iff)
  clear hB1
  unfold MayLv at hMY
  have HMY := hid hMY
  clear hPO hwb hrow hfb hb hr hB hMY
  obtain ⟨kind, name, typ, frm, guid, origin, snap, pp, pn, pc, obj, at_, many, kp, kn, kc, dp, dl, dc⟩ := r
  simp only at hkd
  subst hkd
  unfold Rc.arr at HWB HON ⊢
  simp only at HX HWB HON HMY HB1C HB1 hs ⊢
  go_enter Tryz.func13, Tryz.ntmps13
  go_upto_region 2 with fail
  first | rw [HB.out] | skip
  first | rw [HWB.out] | skip
  clear HB HWB
  obtain ⟨x0, x1, x2, x3, x4, x5, x6, x7, x8, x9, x10, x11, x12⟩ := HX.out wb (Frm.refl _ _)
  go_cut [4] from 5 to 12 (fun v wx => ∃ x, v = .bool x ∧ (x = true ↔ (1 ≤ obj ∧ obj ≤ 1048576)) ∧ wx = wb)
  case first =>
    by_cases c0 : 1 ≤ obj
    case neg =>
      have HK : Hid (¬ (1 ≤ obj ∧ obj ≤ 1048576)) := hid (by omega)
      go_wp2_with fail
      go_meet
      case rel => exact ⟨false, rfl, ⟨fun h => by simp at h, fun h => absurd h HK.out⟩, rfl⟩
    by_cases c1 : obj ≤ 1048576
    case neg =>
      have HK : Hid (¬ (1 ≤ obj ∧ obj ≤ 1048576)) := hid (by omega)
      go_wp2_with fail
      go_meet
      case rel => exact ⟨false, rfl, ⟨fun h => by simp at h, fun h => absurd h HK.out⟩, rfl⟩
    have HK : Hid (1 ≤ obj ∧ obj ≤ 1048576) := hid ⟨c0, c1⟩
    go_wp2_with fail
    go_meet
    case rel => exact ⟨true, rfl, ⟨fun _ => HK.out, fun _ => rfl⟩, rfl⟩
  obtain ⟨OB, rfl, hx, rfl⟩ := hcut
  have HOB := hid hx
  clear hx
  generalize wc = w0 at *
  obtain ⟨x0, x1, x2, x3, x4, x5, x6, x7, x8, x9, x10, x11, x12⟩ := HX.out w0 (Frm.refl _ _)
  go_wp2_with fail
  refine (HON.out _).mono ?_
  rintro e w1 ⟨rfl, hf1⟩
  have HF1 := hid hf1
  have HFF : Hid (Frm [] w w1) := hid (HFB.out.trans hf1 (by simp))
  clear hf1 x0 x1 x2 x3 x4 x5 x6 x7 x8 x9 x10 x11 x12
  obtain ⟨x0, x1, x2, x3, x4, x5, x6, x7, x8, x9, x10, x11, x12⟩ := HX.out w1 HF1.out
  cases B with
  | false =>
    go_wp2_with fail
    first | go_returns | skip
    exact HP1.out _ (by rw [HMY.out]; exact fun h => absurd h.2 (by simp)) HFF.out
  | true =>
  go_wp2_with fail
  refine (HB1C.out _ HFF.out).mono ?_
  rintro e w2 ⟨rfl, hf2⟩
  have HF2 : Hid (Frm [] w w2) := hid (HFF.out.trans hf2 (by simp))
  have HX2 := hid (HX.out w2 (HF1.out.trans hf2 (by simp)))
  clear hf2 x0 x1 x2 x3 x4 x5 x6 x7 x8 x9 x10 x11 x12
  obtain ⟨x0, x1, x2, x3, x4, x5, x6, x7, x8, x9, x10, x11, x12⟩ := HX2.out
  cases B1 with
  | false =>
    go_wp2_with fail
    first | go_returns | skip
    exact HP1.out _ (by rw [HMY.out]; exact fun h => absurd (HB1.out.2 ⟨h.1.2, h.1.1⟩) (by simp)) HF2.out
  | true =>
  go_wp2_with fail
  first | go_returns | skip
  exact HP0.out _ (by rw [HMY.out]; exact ⟨⟨(HB1.out.1 (by trivial)).2, (HB1.out.1 (by trivial)).1⟩, by trivial⟩) HF2.out
set_option maxHeartbeats 12800000 in
theorem refCheck_4 (r : Rc) (P : List Pr) (K D : List Int) (w : World) (hr : RcOk w r P K D) (hs : r.name.size ≤ 140737488355328) (_hv : PvOk P) (hkd : r.kind = 4) :
    Calls Tryz.prog 13 #[.agg r.arr] w fun e w' => e = .returned (.int .i64 (if RcMay r P K D then 0 else 200)) ∧ Frm [] w w' := by
  obtain ⟨PO, hPO⟩ : ∃ PO : Ending → World → Prop, (fun e w' => e = .returned (.int .i64 (if RcMay r P K D then 0 else 200)) ∧ Frm [] w w') = PO := ⟨_, rfl⟩
  rw [hPO]
  have HP0 : Hid (∀ w', RcMay r P K D → Frm [] w w' → PO (.returned (.int .i64 0)) w') := hid (fun w' h h2 => by rw [← hPO]; exact ⟨by rw [if_pos h], h2⟩)
  have HP1 : Hid (∀ w', ¬ RcMay r P K D → Frm [] w w' → PO (.returned (.int .i64 200)) w') := hid (fun w' h h2 => by rw [← hPO]; exact ⟨by rw [if_neg h], h2⟩)
  obtain ⟨wb, hwb⟩ : ∃ z, w.alloc (.cells r.arr 26) = z := ⟨_, rfl⟩
  have hrow := heap_alloc_new w (.cells r.arr 26)
  have hfb : Frm [] w wb := by rw [← hwb]; exact (Frm.refl _ _).alloc _
  obtain ⟨b, hb⟩ : ∃ z, w.heap.size = z := ⟨_, rfl⟩
  rw [hwb, hb] at hrow
  have HX := hid (fun V (hf : Frm [] wb V) => rc_cells (hf.heap hrow (by simp)))
  have HFB := hid hfb
  have HWB := hid hwb
  have HB := hid hb
  have HON := hid (fun W => refOnly_any r 1280 (by omega) W)
  obtain ⟨B, hB⟩ : ∃ B, decide (sumB (fldB r) 12 ||| 1280 = 1280) = B := ⟨_, rfl⟩
  rw [hB] at HON
  have hMY : RcMay r P K D ↔ MayNd r K ∧ B = true := by rw [rcMay_4 P K D hkd, ← onlyR_1280 r P K D hr.pl hr.dn, ← hB, decide_eq_true_iff]
  have HB1C := hid (fun W (hf : Frm [] w W) => refRising_any r.kp r.kn r.kc K (-1) (255) W hr.kl hr.mx.2 (hr.kr.kept hf (by simp)))
  obtain ⟨B1, hB1⟩ : ∃ B, decide (RiseL K (-1) 255 ∧ r.kn ≤ 240) = B := ⟨_, rfl⟩
  rw [hB1] at HB1C
  have HB1 : Hid (B1 = true ↔ RiseL K (-1) 255 ∧ r.kn ≤ 240) := hid (by rw [← hB1]; exact decide_eq_true_iff)
  clear hB1
  unfold MayNd at hMY
  have HMY := hid hMY
  clear hPO hwb hrow hfb hb hr hB hMY
  obtain ⟨kind, name, typ, frm, guid, origin, snap, pp, pn, pc, obj, at_, many, kp, kn, kc, dp, dl, dc⟩ := r
  simp only at hkd
  subst hkd
  unfold Rc.arr at HWB HON ⊢
  simp only at HX HWB HON HMY HB1C HB1 hs ⊢
  go_enter Tryz.func13, Tryz.ntmps13
  go_upto_region 2 with fail
  first | rw [HB.out] | skip
  first | rw [HWB.out] | skip
  clear HB HWB
  obtain ⟨x0, x1, x2, x3, x4, x5, x6, x7, x8, x9, x10, x11, x12⟩ := HX.out wb (Frm.refl _ _)
  go_cut [4] from 5 to 12 (fun v wx => ∃ x, v = .bool x ∧ (x = true ↔ (1 ≤ obj ∧ obj ≤ 1048576)) ∧ wx = wb)
  case first =>
    by_cases c0 : 1 ≤ obj
    case neg =>
      have HK : Hid (¬ (1 ≤ obj ∧ obj ≤ 1048576)) := hid (by omega)
      go_wp2_with fail
      go_meet
      case rel => exact ⟨false, rfl, ⟨fun h => by simp at h, fun h => absurd h HK.out⟩, rfl⟩
    by_cases c1 : obj ≤ 1048576
    case neg =>
      have HK : Hid (¬ (1 ≤ obj ∧ obj ≤ 1048576)) := hid (by omega)
      go_wp2_with fail
      go_meet
      case rel => exact ⟨false, rfl, ⟨fun h => by simp at h, fun h => absurd h HK.out⟩, rfl⟩
    have HK : Hid (1 ≤ obj ∧ obj ≤ 1048576) := hid ⟨c0, c1⟩
    go_wp2_with fail
    go_meet
    case rel => exact ⟨true, rfl, ⟨fun _ => HK.out, fun _ => rfl⟩, rfl⟩
  obtain ⟨OB, rfl, hx, rfl⟩ := hcut
  have HOB := hid hx
  clear hx
  generalize wc = w0 at *
  obtain ⟨x0, x1, x2, x3, x4, x5, x6, x7, x8, x9, x10, x11, x12⟩ := HX.out w0 (Frm.refl _ _)
  go_wp2_with fail
  refine (HON.out _).mono ?_
  rintro e w1 ⟨rfl, hf1⟩
  have HF1 := hid hf1
  have HFF : Hid (Frm [] w w1) := hid (HFB.out.trans hf1 (by simp))
  clear hf1 x0 x1 x2 x3 x4 x5 x6 x7 x8 x9 x10 x11 x12
  obtain ⟨x0, x1, x2, x3, x4, x5, x6, x7, x8, x9, x10, x11, x12⟩ := HX.out w1 HF1.out
  cases B with
  | false =>
    go_wp2_with fail
    first | go_returns | skip
    exact HP1.out _ (by rw [HMY.out]; exact fun h => absurd h.2 (by simp)) HFF.out
  | true =>
  cases OB with
  | false =>
    go_wp2_with fail
    first | go_returns | skip
    exact HP1.out _ (by rw [HMY.out]; exact fun h => absurd (HOB.out.2 h.1.1) (by simp)) HFF.out
  | true =>
  have HO1 := hid (HOB.out.1 rfl)
  by_cases c2 : (1 : Int) ≤ (kn : Int)
  case neg =>
    have HK := hid c2
    have dk := decide_eq_false c2
    go_wp2_with fail
    first | go_returns | skip
    exact HP1.out _ (by rw [HMY.out]; exact fun h => absurd h.1.2.1.1 (by have := HK.out; omega)) HFF.out
  have Hc2 := hid c2
  go_wp2_with fail
  refine (HB1C.out _ HFF.out).mono ?_
  rintro e w2 ⟨rfl, hf2⟩
  have HF2 : Hid (Frm [] w w2) := hid (HFF.out.trans hf2 (by simp))
  have HX2 := hid (HX.out w2 (HF1.out.trans hf2 (by simp)))
  clear hf2 x0 x1 x2 x3 x4 x5 x6 x7 x8 x9 x10 x11 x12
  obtain ⟨x0, x1, x2, x3, x4, x5, x6, x7, x8, x9, x10, x11, x12⟩ := HX2.out
  cases B1 with
  | false =>
    go_wp2_with fail
    first | go_returns | skip
    exact HP1.out _ (by rw [HMY.out]; exact fun h => absurd (HB1.out.2 ⟨h.1.2.2, by have := h.1.2.1.2; omega⟩) (by simp)) HF2.out
  | true =>
  go_wp2_with fail
  first | go_returns | skip
  exact HP0.out _ (by rw [HMY.out]; exact ⟨⟨HO1.out, ⟨Hc2.out, by have := (HB1.out.1 (by trivial)).2; omega⟩, (HB1.out.1 (by trivial)).1⟩, by trivial⟩) HF2.out
set_option maxHeartbeats 12800000 in
theorem refCheck_5 (r : Rc) (P : List Pr) (K D : List Int) (w : World) (hr : RcOk w r P K D) (hs : r.name.size ≤ 140737488355328) (_hv : PvOk P) (hkd : r.kind = 5) :
    Calls Tryz.prog 13 #[.agg r.arr] w fun e w' => e = .returned (.int .i64 (if RcMay r P K D then 0 else 200)) ∧ Frm [] w w' := by
  obtain ⟨PO, hPO⟩ : ∃ PO : Ending → World → Prop, (fun e w' => e = .returned (.int .i64 (if RcMay r P K D then 0 else 200)) ∧ Frm [] w w') = PO := ⟨_, rfl⟩
  rw [hPO]
  have HP0 : Hid (∀ w', RcMay r P K D → Frm [] w w' → PO (.returned (.int .i64 0)) w') := hid (fun w' h h2 => by rw [← hPO]; exact ⟨by rw [if_pos h], h2⟩)
  have HP1 : Hid (∀ w', ¬ RcMay r P K D → Frm [] w w' → PO (.returned (.int .i64 200)) w') := hid (fun w' h h2 => by rw [← hPO]; exact ⟨by rw [if_neg h], h2⟩)
  obtain ⟨wb, hwb⟩ : ∃ z, w.alloc (.cells r.arr 26) = z := ⟨_, rfl⟩
  have hrow := heap_alloc_new w (.cells r.arr 26)
  have hfb : Frm [] w wb := by rw [← hwb]; exact (Frm.refl _ _).alloc _
  obtain ⟨b, hb⟩ : ∃ z, w.heap.size = z := ⟨_, rfl⟩
  rw [hwb, hb] at hrow
  have HX := hid (fun V (hf : Frm [] wb V) => rc_cells (hf.heap hrow (by simp)))
  have HFB := hid hfb
  have HWB := hid hwb
  have HB := hid hb
  have HON := hid (fun W => refOnly_any r 2816 (by omega) W)
  obtain ⟨B, hB⟩ : ∃ B, decide (sumB (fldB r) 12 ||| 2816 = 2816) = B := ⟨_, rfl⟩
  rw [hB] at HON
  have hMY : RcMay r P K D ↔ MayWr r ∧ B = true := by rw [rcMay_5 P K D hkd, ← onlyR_2816 r P K D hr.pl hr.kl, ← hB, decide_eq_true_iff]
  unfold MayWr at hMY
  have HMY := hid hMY
  clear hPO hwb hrow hfb hb hr hB hMY
  obtain ⟨kind, name, typ, frm, guid, origin, snap, pp, pn, pc, obj, at_, many, kp, kn, kc, dp, dl, dc⟩ := r
  simp only at hkd
  subst hkd
  unfold Rc.arr at HWB HON ⊢
  simp only at HX HWB HON HMY hs ⊢
  go_enter Tryz.func13, Tryz.ntmps13
  go_upto_region 2 with fail
  first | rw [HB.out] | skip
  first | rw [HWB.out] | skip
  clear HB HWB
  obtain ⟨x0, x1, x2, x3, x4, x5, x6, x7, x8, x9, x10, x11, x12⟩ := HX.out wb (Frm.refl _ _)
  go_cut [4] from 5 to 12 (fun v wx => ∃ x, v = .bool x ∧ (x = true ↔ (1 ≤ obj ∧ obj ≤ 1048576)) ∧ wx = wb)
  case first =>
    by_cases c0 : 1 ≤ obj
    case neg =>
      have HK : Hid (¬ (1 ≤ obj ∧ obj ≤ 1048576)) := hid (by omega)
      go_wp2_with fail
      go_meet
      case rel => exact ⟨false, rfl, ⟨fun h => by simp at h, fun h => absurd h HK.out⟩, rfl⟩
    by_cases c1 : obj ≤ 1048576
    case neg =>
      have HK : Hid (¬ (1 ≤ obj ∧ obj ≤ 1048576)) := hid (by omega)
      go_wp2_with fail
      go_meet
      case rel => exact ⟨false, rfl, ⟨fun h => by simp at h, fun h => absurd h HK.out⟩, rfl⟩
    have HK : Hid (1 ≤ obj ∧ obj ≤ 1048576) := hid ⟨c0, c1⟩
    go_wp2_with fail
    go_meet
    case rel => exact ⟨true, rfl, ⟨fun _ => HK.out, fun _ => rfl⟩, rfl⟩
  obtain ⟨OB, rfl, hx, rfl⟩ := hcut
  have HOB := hid hx
  clear hx
  generalize wc = w0 at *
  obtain ⟨x0, x1, x2, x3, x4, x5, x6, x7, x8, x9, x10, x11, x12⟩ := HX.out w0 (Frm.refl _ _)
  go_wp2_with fail
  refine (HON.out _).mono ?_
  rintro e w1 ⟨rfl, hf1⟩
  have HF1 := hid hf1
  have HFF : Hid (Frm [] w w1) := hid (HFB.out.trans hf1 (by simp))
  clear hf1 x0 x1 x2 x3 x4 x5 x6 x7 x8 x9 x10 x11 x12
  obtain ⟨x0, x1, x2, x3, x4, x5, x6, x7, x8, x9, x10, x11, x12⟩ := HX.out w1 HF1.out
  cases B with
  | false =>
    go_wp2_with fail
    first | go_returns | skip
    exact HP1.out _ (by rw [HMY.out]; exact fun h => absurd h.2 (by simp)) HFF.out
  | true =>
  cases OB with
  | false =>
    go_wp2_with fail
    first | go_returns | skip
    exact HP1.out _ (by rw [HMY.out]; exact fun h => absurd (HOB.out.2 h.1.1) (by simp)) HFF.out
  | true =>
  have HO1 := hid (HOB.out.1 rfl)
  by_cases c2 : -1 ≤ at_
  case neg =>
    have HK := hid c2
    have dk := decide_eq_false c2
    go_wp2_with fail
    first | go_returns | skip
    exact HP1.out _ (by rw [HMY.out]; exact fun h => absurd h.1.2.1.1 (by have := HK.out; omega)) HFF.out
  have Hc2 := hid c2
  by_cases c3 : at_ ≤ 255
  case neg =>
    have HK := hid c3
    have dk := decide_eq_false c3
    go_wp2_with fail
    first | go_returns | skip
    exact HP1.out _ (by rw [HMY.out]; exact fun h => absurd h.1.2.1.2 (by have := HK.out; omega)) HFF.out
  have Hc3 := hid c3
  by_cases c4 : (1 : Int) ≤ (dl : Int)
  case neg =>
    have HK := hid c4
    have dk := decide_eq_false c4
    go_wp2_with fail
    first | go_returns | skip
    exact HP1.out _ (by rw [HMY.out]; exact fun h => absurd h.1.2.2.1 (by have := HK.out; omega)) HFF.out
  have Hc4 := hid c4
  by_cases c5 : (dl : Int) ≤ 256
  case neg =>
    have HK := hid c5
    have dk := decide_eq_false c5
    go_wp2_with fail
    first | go_returns | skip
    exact HP1.out _ (by rw [HMY.out]; exact fun h => absurd h.1.2.2.2 (by have := HK.out; omega)) HFF.out
  have Hc5 := hid c5
  go_wp2_with fail
  first | go_returns | skip
  exact HP0.out _ (by rw [HMY.out]; exact ⟨⟨HO1.out, ⟨Hc2.out, Hc3.out⟩, Hc4.out, Hc5.out⟩, by trivial⟩) HFF.out
set_option maxHeartbeats 12800000 in
theorem refCheck_6 (r : Rc) (P : List Pr) (K D : List Int) (w : World) (hr : RcOk w r P K D) (hs : r.name.size ≤ 140737488355328) (_hv : PvOk P) (hkd : r.kind = 6) :
    Calls Tryz.prog 13 #[.agg r.arr] w fun e w' => e = .returned (.int .i64 (if RcMay r P K D then 0 else 200)) ∧ Frm [] w w' := by
  obtain ⟨PO, hPO⟩ : ∃ PO : Ending → World → Prop, (fun e w' => e = .returned (.int .i64 (if RcMay r P K D then 0 else 200)) ∧ Frm [] w w') = PO := ⟨_, rfl⟩
  rw [hPO]
  have HP0 : Hid (∀ w', RcMay r P K D → Frm [] w w' → PO (.returned (.int .i64 0)) w') := hid (fun w' h h2 => by rw [← hPO]; exact ⟨by rw [if_pos h], h2⟩)
  have HP1 : Hid (∀ w', ¬ RcMay r P K D → Frm [] w w' → PO (.returned (.int .i64 200)) w') := hid (fun w' h h2 => by rw [← hPO]; exact ⟨by rw [if_neg h], h2⟩)
  obtain ⟨wb, hwb⟩ : ∃ z, w.alloc (.cells r.arr 26) = z := ⟨_, rfl⟩
  have hrow := heap_alloc_new w (.cells r.arr 26)
  have hfb : Frm [] w wb := by rw [← hwb]; exact (Frm.refl _ _).alloc _
  obtain ⟨b, hb⟩ : ∃ z, w.heap.size = z := ⟨_, rfl⟩
  rw [hwb, hb] at hrow
  have HX := hid (fun V (hf : Frm [] wb V) => rc_cells (hf.heap hrow (by simp)))
  have HFB := hid hfb
  have HWB := hid hwb
  have HB := hid hb
  have HON := hid (fun W => refOnly_any r 2 (by omega) W)
  obtain ⟨B, hB⟩ : ∃ B, decide (sumB (fldB r) 12 ||| 2 = 2) = B := ⟨_, rfl⟩
  rw [hB] at HON
  have hMY : RcMay r P K D ↔ MayCn r ∧ B = true := by rw [rcMay_6 P K D hkd, ← onlyR_2 r P K D hr.pl hr.kl hr.dn, ← hB, decide_eq_true_iff]
  unfold MayCn at hMY
  have HMY := hid hMY
  clear hPO hwb hrow hfb hb hr hB hMY
  obtain ⟨kind, name, typ, frm, guid, origin, snap, pp, pn, pc, obj, at_, many, kp, kn, kc, dp, dl, dc⟩ := r
  simp only at hkd
  subst hkd
  unfold Rc.arr at HWB HON ⊢
  simp only at HX HWB HON HMY hs ⊢
  go_enter Tryz.func13, Tryz.ntmps13
  go_upto_region 2 with fail
  first | rw [HB.out] | skip
  first | rw [HWB.out] | skip
  clear HB HWB
  obtain ⟨x0, x1, x2, x3, x4, x5, x6, x7, x8, x9, x10, x11, x12⟩ := HX.out wb (Frm.refl _ _)
  go_cut [4] from 5 to 12 (fun v wx => ∃ x, v = .bool x ∧ (x = true ↔ (1 ≤ obj ∧ obj ≤ 1048576)) ∧ wx = wb)
  case first =>
    by_cases c0 : 1 ≤ obj
    case neg =>
      have HK : Hid (¬ (1 ≤ obj ∧ obj ≤ 1048576)) := hid (by omega)
      go_wp2_with fail
      go_meet
      case rel => exact ⟨false, rfl, ⟨fun h => by simp at h, fun h => absurd h HK.out⟩, rfl⟩
    by_cases c1 : obj ≤ 1048576
    case neg =>
      have HK : Hid (¬ (1 ≤ obj ∧ obj ≤ 1048576)) := hid (by omega)
      go_wp2_with fail
      go_meet
      case rel => exact ⟨false, rfl, ⟨fun h => by simp at h, fun h => absurd h HK.out⟩, rfl⟩
    have HK : Hid (1 ≤ obj ∧ obj ≤ 1048576) := hid ⟨c0, c1⟩
    go_wp2_with fail
    go_meet
    case rel => exact ⟨true, rfl, ⟨fun _ => HK.out, fun _ => rfl⟩, rfl⟩
  obtain ⟨OB, rfl, hx, rfl⟩ := hcut
  have HOB := hid hx
  clear hx
  generalize wc = w0 at *
  obtain ⟨x0, x1, x2, x3, x4, x5, x6, x7, x8, x9, x10, x11, x12⟩ := HX.out w0 (Frm.refl _ _)
  go_wp2_with fail
  refine (HON.out _).mono ?_
  rintro e w1 ⟨rfl, hf1⟩
  have HF1 := hid hf1
  have HFF : Hid (Frm [] w w1) := hid (HFB.out.trans hf1 (by simp))
  clear hf1 x0 x1 x2 x3 x4 x5 x6 x7 x8 x9 x10 x11 x12
  obtain ⟨x0, x1, x2, x3, x4, x5, x6, x7, x8, x9, x10, x11, x12⟩ := HX.out w1 HF1.out
  cases B with
  | false =>
    go_wp2_with fail
    first | go_returns | skip
    exact HP1.out _ (by rw [HMY.out]; exact fun h => absurd h.2 (by simp)) HFF.out
  | true =>
  by_cases c2 : 1 ≤ many
  case neg =>
    have HK := hid c2
    have dk := decide_eq_false c2
    go_wp2_with fail
    first | go_returns | skip
    exact HP1.out _ (by rw [HMY.out]; exact fun h => absurd h.1.1 (by have := HK.out; omega)) HFF.out
  have Hc2 := hid c2
  by_cases c3 : many ≤ 1048576
  case neg =>
    have HK := hid c3
    have dk := decide_eq_false c3
    go_wp2_with fail
    first | go_returns | skip
    exact HP1.out _ (by rw [HMY.out]; exact fun h => absurd h.1.2 (by have := HK.out; omega)) HFF.out
  have Hc3 := hid c3
  go_wp2_with fail
  first | go_returns | skip
  exact HP0.out _ (by rw [HMY.out]; exact ⟨⟨Hc2.out, Hc3.out⟩, by trivial⟩) HFF.out
set_option maxHeartbeats 12800000 in
theorem refCheck_7 (r : Rc) (P : List Pr) (K D : List Int) (w : World) (hr : RcOk w r P K D) (hs : r.name.size ≤ 140737488355328) (_hv : PvOk P) (hkd : r.kind = 7) :
    Calls Tryz.prog 13 #[.agg r.arr] w fun e w' => e = .returned (.int .i64 (if RcMay r P K D then 0 else 200)) ∧ Frm [] w w' := by
  obtain ⟨PO, hPO⟩ : ∃ PO : Ending → World → Prop, (fun e w' => e = .returned (.int .i64 (if RcMay r P K D then 0 else 200)) ∧ Frm [] w w') = PO := ⟨_, rfl⟩
  rw [hPO]
  have HP0 : Hid (∀ w', RcMay r P K D → Frm [] w w' → PO (.returned (.int .i64 0)) w') := hid (fun w' h h2 => by rw [← hPO]; exact ⟨by rw [if_pos h], h2⟩)
  have HP1 : Hid (∀ w', ¬ RcMay r P K D → Frm [] w w' → PO (.returned (.int .i64 200)) w') := hid (fun w' h h2 => by rw [← hPO]; exact ⟨by rw [if_neg h], h2⟩)
  obtain ⟨wb, hwb⟩ : ∃ z, w.alloc (.cells r.arr 26) = z := ⟨_, rfl⟩
  have hrow := heap_alloc_new w (.cells r.arr 26)
  have hfb : Frm [] w wb := by rw [← hwb]; exact (Frm.refl _ _).alloc _
  obtain ⟨b, hb⟩ : ∃ z, w.heap.size = z := ⟨_, rfl⟩
  rw [hwb, hb] at hrow
  have HX := hid (fun V (hf : Frm [] wb V) => rc_cells (hf.heap hrow (by simp)))
  have HFB := hid hfb
  have HWB := hid hwb
  have HB := hid hb
  have HON := hid (fun W => refOnly_any r 2 (by omega) W)
  obtain ⟨B, hB⟩ : ∃ B, decide (sumB (fldB r) 12 ||| 2 = 2) = B := ⟨_, rfl⟩
  rw [hB] at HON
  have hMY : RcMay r P K D ↔ MayCn r ∧ B = true := by rw [rcMay_7 P K D hkd, ← onlyR_2 r P K D hr.pl hr.kl hr.dn, ← hB, decide_eq_true_iff]
  unfold MayCn at hMY
  have HMY := hid hMY
  clear hPO hwb hrow hfb hb hr hB hMY
  obtain ⟨kind, name, typ, frm, guid, origin, snap, pp, pn, pc, obj, at_, many, kp, kn, kc, dp, dl, dc⟩ := r
  simp only at hkd
  subst hkd
  unfold Rc.arr at HWB HON ⊢
  simp only at HX HWB HON HMY hs ⊢
  go_enter Tryz.func13, Tryz.ntmps13
  go_upto_region 2 with fail
  first | rw [HB.out] | skip
  first | rw [HWB.out] | skip
  clear HB HWB
  obtain ⟨x0, x1, x2, x3, x4, x5, x6, x7, x8, x9, x10, x11, x12⟩ := HX.out wb (Frm.refl _ _)
  go_cut [4] from 5 to 12 (fun v wx => ∃ x, v = .bool x ∧ (x = true ↔ (1 ≤ obj ∧ obj ≤ 1048576)) ∧ wx = wb)
  case first =>
    by_cases c0 : 1 ≤ obj
    case neg =>
      have HK : Hid (¬ (1 ≤ obj ∧ obj ≤ 1048576)) := hid (by omega)
      go_wp2_with fail
      go_meet
      case rel => exact ⟨false, rfl, ⟨fun h => by simp at h, fun h => absurd h HK.out⟩, rfl⟩
    by_cases c1 : obj ≤ 1048576
    case neg =>
      have HK : Hid (¬ (1 ≤ obj ∧ obj ≤ 1048576)) := hid (by omega)
      go_wp2_with fail
      go_meet
      case rel => exact ⟨false, rfl, ⟨fun h => by simp at h, fun h => absurd h HK.out⟩, rfl⟩
    have HK : Hid (1 ≤ obj ∧ obj ≤ 1048576) := hid ⟨c0, c1⟩
    go_wp2_with fail
    go_meet
    case rel => exact ⟨true, rfl, ⟨fun _ => HK.out, fun _ => rfl⟩, rfl⟩
  obtain ⟨OB, rfl, hx, rfl⟩ := hcut
  have HOB := hid hx
  clear hx
  generalize wc = w0 at *
  obtain ⟨x0, x1, x2, x3, x4, x5, x6, x7, x8, x9, x10, x11, x12⟩ := HX.out w0 (Frm.refl _ _)
  go_wp2_with fail
  refine (HON.out _).mono ?_
  rintro e w1 ⟨rfl, hf1⟩
  have HF1 := hid hf1
  have HFF : Hid (Frm [] w w1) := hid (HFB.out.trans hf1 (by simp))
  clear hf1 x0 x1 x2 x3 x4 x5 x6 x7 x8 x9 x10 x11 x12
  obtain ⟨x0, x1, x2, x3, x4, x5, x6, x7, x8, x9, x10, x11, x12⟩ := HX.out w1 HF1.out
  cases B with
  | false =>
    go_wp2_with fail
    first | go_returns | skip
    exact HP1.out _ (by rw [HMY.out]; exact fun h => absurd h.2 (by simp)) HFF.out
  | true =>
  by_cases c2 : 1 ≤ many
  case neg =>
    have HK := hid c2
    have dk := decide_eq_false c2
    go_wp2_with fail
    first | go_returns | skip
    exact HP1.out _ (by rw [HMY.out]; exact fun h => absurd h.1.1 (by have := HK.out; omega)) HFF.out
  have Hc2 := hid c2
  by_cases c3 : many ≤ 1048576
  case neg =>
    have HK := hid c3
    have dk := decide_eq_false c3
    go_wp2_with fail
    first | go_returns | skip
    exact HP1.out _ (by rw [HMY.out]; exact fun h => absurd h.1.2 (by have := HK.out; omega)) HFF.out
  have Hc3 := hid c3
  go_wp2_with fail
  first | go_returns | skip
  exact HP0.out _ (by rw [HMY.out]; exact ⟨⟨Hc2.out, Hc3.out⟩, by trivial⟩) HFF.out
set_option maxHeartbeats 12800000 in
theorem refCheck_no (r : Rc) (P : List Pr) (K D : List Int) (w : World) (_hr : RcOk w r P K D) (hs : r.name.size ≤ 140737488355328) (_hv : PvOk P) (hkd : ¬ (1 ≤ r.kind ∧ r.kind ≤ 7)) :
    Calls Tryz.prog 13 #[.agg r.arr] w fun e w' => e = .returned (.int .i64 (if RcMay r P K D then 0 else 200)) ∧ Frm [] w w' := by
  obtain ⟨PO, hPO⟩ : ∃ PO : Ending → World → Prop, (fun e w' => e = .returned (.int .i64 (if RcMay r P K D then 0 else 200)) ∧ Frm [] w w') = PO := ⟨_, rfl⟩
  rw [hPO]
  have HP0 : Hid (∀ w', RcMay r P K D → Frm [] w w' → PO (.returned (.int .i64 0)) w') := hid (fun w' h h2 => by rw [← hPO]; exact ⟨by rw [if_pos h], h2⟩)
  have HP1 : Hid (∀ w', ¬ RcMay r P K D → Frm [] w w' → PO (.returned (.int .i64 200)) w') := hid (fun w' h h2 => by rw [← hPO]; exact ⟨by rw [if_neg h], h2⟩)
  obtain ⟨wb, hwb⟩ : ∃ z, w.alloc (.cells r.arr 26) = z := ⟨_, rfl⟩
  have hrow := heap_alloc_new w (.cells r.arr 26)
  have hfb : Frm [] w wb := by rw [← hwb]; exact (Frm.refl _ _).alloc _
  obtain ⟨b, hb⟩ : ∃ z, w.heap.size = z := ⟨_, rfl⟩
  rw [hwb, hb] at hrow
  have HX := hid (fun V (hf : Frm [] wb V) => rc_cells (hf.heap hrow (by simp)))
  have HFB := hid hfb
  have HWB := hid hwb
  have HB := hid hb
  have HMY : Hid (¬ RcMay r P K D) := hid (fun h => hkd (rcMay_kind h))
  clear hPO hwb hrow hfb hb
  obtain ⟨kind, name, typ, frm, guid, origin, snap, pp, pn, pc, obj, at_, many, kp, kn, kc, dp, dl, dc⟩ := r
  unfold Rc.arr at HWB ⊢
  simp only at HX HWB HMY hkd hs ⊢
  go_enter Tryz.func13, Tryz.ntmps13
  go_upto_region 2 with fail
  first | rw [HB.out] | skip
  first | rw [HWB.out] | skip
  clear HB HWB
  obtain ⟨x0, x1, x2, x3, x4, x5, x6, x7, x8, x9, x10, x11, x12⟩ := HX.out wb (Frm.refl _ _)
  go_cut [4] from 5 to 12 (fun v wx => ∃ x, v = .bool x ∧ (x = true ↔ (1 ≤ obj ∧ obj ≤ 1048576)) ∧ wx = wb)
  case first =>
    by_cases c0 : 1 ≤ obj
    case neg =>
      have HK : Hid (¬ (1 ≤ obj ∧ obj ≤ 1048576)) := hid (by omega)
      go_wp2_with fail
      go_meet
      case rel => exact ⟨false, rfl, ⟨fun h => by simp at h, fun h => absurd h HK.out⟩, rfl⟩
    by_cases c1 : obj ≤ 1048576
    case neg =>
      have HK : Hid (¬ (1 ≤ obj ∧ obj ≤ 1048576)) := hid (by omega)
      go_wp2_with fail
      go_meet
      case rel => exact ⟨false, rfl, ⟨fun h => by simp at h, fun h => absurd h HK.out⟩, rfl⟩
    have HK : Hid (1 ≤ obj ∧ obj ≤ 1048576) := hid ⟨c0, c1⟩
    go_wp2_with fail
    go_meet
    case rel => exact ⟨true, rfl, ⟨fun _ => HK.out, fun _ => rfl⟩, rfl⟩
  obtain ⟨OB, rfl, hx, rfl⟩ := hcut
  have HOB := hid hx
  clear hx
  generalize wc = w0 at *
  obtain ⟨x0, x1, x2, x3, x4, x5, x6, x7, x8, x9, x10, x11, x12⟩ := HX.out w0 (Frm.refl _ _)
  have k1 : (kind == 1) = false := by rw [beq_eq_false_iff_ne]; omega
  have k2 : (kind == 2) = false := by rw [beq_eq_false_iff_ne]; omega
  have k3 : (kind == 3) = false := by rw [beq_eq_false_iff_ne]; omega
  have k4 : (kind == 4) = false := by rw [beq_eq_false_iff_ne]; omega
  have k5 : (kind == 5) = false := by rw [beq_eq_false_iff_ne]; omega
  have k6 : (kind == 6) = false := by rw [beq_eq_false_iff_ne]; omega
  have k7 : (kind == 7) = false := by rw [beq_eq_false_iff_ne]; omega
  clear hkd
  go_wp2_with fail
  first | go_returns | skip
  exact HP1.out _ HMY.out HFB.out
theorem refCheck_any (r : Rc) (P : List Pr) (K D : List Int) (w : World) (hr : RcOk w r P K D) (hs : r.name.size ≤ 140737488355328) (hv : PvOk P) :
    Calls Tryz.prog 13 #[.agg r.arr] w fun e w' => e = .returned (.int .i64 (if RcMay r P K D then 0 else 200)) ∧ Frm [] w w' := by
  by_cases h : 1 ≤ r.kind ∧ r.kind ≤ 7
  case neg => exact refCheck_no r P K D w hr hs hv h
  have h7 : r.kind = 1 ∨ r.kind = 2 ∨ r.kind = 3 ∨ r.kind = 4 ∨ r.kind = 5 ∨ r.kind = 6 ∨ r.kind = 7 := by omega
  rcases h7 with h | h | h | h | h | h | h
  · exact refCheck_1 r P K D w hr hs hv h
  · exact refCheck_2 r P K D w hr hs hv h
  · exact refCheck_3 r P K D w hr hs hv h
  · exact refCheck_4 r P K D w hr hs hv h
  · exact refCheck_5 r P K D w hr hs hv h
  · exact refCheck_6 r P K D w hr hs hv h
  · exact refCheck_7 r P K D w hr hs hv h
end
end Go.Proofs.YtajfjkfnmmfhmaaGreatDoor
