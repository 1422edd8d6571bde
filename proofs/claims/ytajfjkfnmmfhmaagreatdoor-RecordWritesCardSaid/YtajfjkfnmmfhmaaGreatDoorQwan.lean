/- Records, the document's side: a part's beginning. -/
import Derived.Deep.Cut
import Derived.Deep.DeepCutAuto
import Derived.Deep.CutBlock
import Derived.Test.YtajfjkfnmmfhmaaGreatDoorQwah
import Derived.Test.YtajfjkfnmmfhmaaGreatDoorQwaj
import Derived.Test.YtajfjkfnmmfhmaaGreatDoorQwam
namespace Go.Proofs.YtajfjkfnmmfhmaaGreatDoor
section
open Go.RowKit Go.Lib
set_option maxRecDepth 100000
theorem x_name (s : ByteArray) : ((⟨#[120]⟩ : ByteArray) ++ s).data.toList = 120 :: s.data.toList := by simp
set_option maxHeartbeats 12800000 in
theorem refBegin_any (r : Rc) (P : List Pr) (w : World) (hr : RdP w r.pp P) (hl : P.length = r.pn) (hm : r.pn ≤ 9223372036854775807) (hs : r.name.size ≤ 140737488355328) (hv : ∀ i, i < P.length → (prA P i).2.size ≤ 9223372036854775807) :
    Calls Tryz.prog 33 #[.agg r.arr] w fun e w' => e = .returned (.bool (decide (MayBg r P))) ∧ Frm [] w w' := by
  obtain ⟨PO, hPO⟩ : ∃ PO : Ending → World → Prop, (fun e w' => e = .returned (.bool (decide (MayBg r P))) ∧ Frm [] w w') = PO := ⟨_, rfl⟩
  rw [hPO]
  have HP : Hid (∀ x w', (x = true ↔ MayBg r P) → Frm [] w w' → PO (.returned (.bool x)) w') := hid (fun x w' h h2 => by rw [← hPO]; exact ⟨by rw [bool_decR h], h2⟩)
  obtain ⟨wb, hwb⟩ : ∃ z, w.alloc (.cells r.arr 26) = z := ⟨_, rfl⟩
  have hrow := heap_alloc_new w (.cells r.arr 26)
  have hfb : Frm [] w wb := by rw [← hwb]; exact (Frm.refl _ _).alloc _
  obtain ⟨b, hb⟩ : ∃ z, w.heap.size = z := ⟨_, rfl⟩
  rw [hwb, hb] at hrow
  have HX := hid (fun V (hf : Frm [] wb V) => rc_cells (hf.heap hrow (by simp)))
  have HFB := hid hfb
  have HRP := hid (fun V (hf : Frm [] wb V) => hr.kept (hfb.trans hf (by simp)) (by simp))
  have HL := hid hl
  have HWB := hid hwb
  have HB := hid hb
  have HV := hid hv
  unfold MayBg BgRest at HP
  clear hPO hwb hrow hfb hb hr hl hv
  obtain ⟨kind, name, typ, frm, guid, origin, snap, pp, pn, pc, obj, at_, many, kp, kn, kc, dp, dl, dc⟩ := r
  unfold Rc.arr at HWB ⊢
  simp only at HP HX HRP HL HWB hm hs ⊢
  go_enter Tryz.func33, Tryz.ntmps33
  go_upto_region 1 with fail
  first | rw [HB.out] | skip
  first | rw [HWB.out] | skip
  clear HB HWB
  obtain ⟨x0, x1, x2, x3, x4, x5, x6, x7, x8, x9, x10, x11, x12⟩ := HX.out wb (Frm.refl _ _)
  go_cut [3] from 11 to 25 (fun v wx => ∃ x, v = .bool x ∧ (x = true ↔ NmOk name.data.toList) ∧ Hid (Frm [] wb wx))
  case first =>
    have HNU := hid (nameU_root name.data.toList)
    by_cases hn : name = ⟨#[]⟩
    case pos =>
      subst hn
      go_wp2_with fail
      go_meet
      case rel => exact ⟨_, rfl, ⟨fun _ => Or.inl rfl, fun _ => rfl⟩, hid (Frm.refl _ _)⟩
    have hne : name.data.toList ≠ [] := fun h => hn (by rw [← str_txB name]; simp [tx, h, strOfNums])
    have hb1 : (name.toList == []) = false := by rw [Lib.toList_data]; exact beq_eq_false_iff_ne.2 hne
    have hsz : 0 < name.size := by
      have h : name.data.size = name.size := rfl
      have h2 : name.data.toList.length ≠ 0 := fun h => hne (List.eq_nil_of_length_eq_zero h)
      rw [Array.length_toList] at h2; omega
    have hsz1 : (0 : Int) < (name.size : Int) := by omega
    have HNE := hid hne
    have hro : rootU name.data.toList ↔ name[0].toNat = 47 := by
      unfold rootU
      rw [List.head?_eq_getElem?, Array.getElem?_toList, Array.getElem?_eq_getElem hsz]
      constructor
      · intro h; have := Option.some.inj h; exact congrArg UInt8.toNat this
      · intro h; exact congrArg some (UInt8.toNat_inj.1 h)
    by_cases h47 : name[0].toNat = 47
    case neg =>
      have i2 : ((name[0].toNat : Int) == 47) = false := by rw [beq_eq_false_iff_ne]; omega
      have HNR : Hid (¬ rootU name.data.toList) := hid (fun h => h47 (hro.1 h))
      clear hro hne hn h47
      go_wp2_with fail
      go_meet
      case rel => exact ⟨_, rfl, ⟨fun h => by simp at h, fun h => absurd h (by rw [HNU.out]; exact fun h => h.elim HNE.out (fun h => HNR.out h.1))⟩, hid (Frm.refl _ _)⟩
    have i2 : ((name[0].toNat : Int) == 47) = true := by rw [beq_iff_eq]; omega
    have HNR : Hid (rootU name.data.toList) := hid (hro.2 h47)
    have HRN := hid (fun W => refName_any (⟨#[120]⟩ ++ name) W)
    rw [x_name] at HRN
    obtain ⟨B, hB⟩ : ∃ B, decide (NameU (120 :: name.data.toList)) = B := ⟨_, rfl⟩
    rw [hB] at HRN
    have HBB : Hid (B = true ↔ NameU (120 :: name.data.toList)) := hid (by rw [← hB]; exact decide_eq_true_iff)
    clear hB hro hne hn h47
    go_wp2_with fail
    refine (HRN.out _).mono ?_
    rintro e w1 ⟨rfl, rfl⟩
    go_wp2_with fail
    go_meet
    case rel => exact ⟨_, rfl, ⟨fun h => by rw [HNU.out]; exact Or.inr ⟨HNR.out, HBB.out.1 (by simpa using h)⟩, fun h => by
      rw [HNU.out] at h
      have h2 := HBB.out.2 (h.elim (fun h => absurd h HNE.out) (fun h => h.2))
      rw [h2]⟩, hid (Frm.refl _ _)⟩
  obtain ⟨NB, rfl, hx, hwc⟩ := hcut
  have HNM := hid hx
  have HWC := hid hwc.out
  clear hx hwc x0 x1 x2 x3 x4 x5 x6 x7 x8 x9 x10 x11 x12
  generalize wc = w2 at *
  have HPS := hid (fun W => refPart_any snap W)
  obtain ⟨SB, hSB⟩ : ∃ B, decide (PartL (tx snap)) = B := ⟨_, rfl⟩
  rw [hSB] at HPS
  have HSB : Hid (SB = true ↔ PartL (tx snap)) := hid (by rw [← hSB]; exact decide_eq_true_iff)
  clear hSB
  obtain ⟨x0, x1, x2, x3, x4, x5, x6, x7, x8, x9, x10, x11, x12⟩ := HX.out w2 HWC.out
  go_upto_region 3 with (refine (HPS.out _).mono ?_; rintro e w9 ⟨rfl, h9⟩; subst w9)
  go_cut [5] from 29 to 56 (fun v wx => ∃ x, v = .bool x ∧ (x = true ↔ ((typ = 1 ∨ typ = 2) ∧ (0 ≤ frm ∧ frm ≤ 2199023255552) ∧ (1 ≤ guid ∧ guid ≤ 2199023255552))) ∧ wx = w2)
  case first =>
    by_cases c0 : 1 ≤ typ
    case neg =>
      have HK : Hid (¬ ((typ = 1 ∨ typ = 2) ∧ (0 ≤ frm ∧ frm ≤ 2199023255552) ∧ (1 ≤ guid ∧ guid ≤ 2199023255552))) := hid (by omega)
      go_wp2_with fail
      go_meet
      case rel => exact ⟨false, rfl, ⟨fun h => by simp at h, fun h => absurd h HK.out⟩, rfl⟩
    by_cases c1 : typ ≤ 2
    case neg =>
      have HK : Hid (¬ ((typ = 1 ∨ typ = 2) ∧ (0 ≤ frm ∧ frm ≤ 2199023255552) ∧ (1 ≤ guid ∧ guid ≤ 2199023255552))) := hid (by omega)
      go_wp2_with fail
      go_meet
      case rel => exact ⟨false, rfl, ⟨fun h => by simp at h, fun h => absurd h HK.out⟩, rfl⟩
    by_cases c2 : 0 ≤ frm
    case neg =>
      have HK : Hid (¬ ((typ = 1 ∨ typ = 2) ∧ (0 ≤ frm ∧ frm ≤ 2199023255552) ∧ (1 ≤ guid ∧ guid ≤ 2199023255552))) := hid (by omega)
      go_wp2_with fail
      go_meet
      case rel => exact ⟨false, rfl, ⟨fun h => by simp at h, fun h => absurd h HK.out⟩, rfl⟩
    by_cases c3 : frm ≤ 2199023255552
    case neg =>
      have HK : Hid (¬ ((typ = 1 ∨ typ = 2) ∧ (0 ≤ frm ∧ frm ≤ 2199023255552) ∧ (1 ≤ guid ∧ guid ≤ 2199023255552))) := hid (by omega)
      go_wp2_with fail
      go_meet
      case rel => exact ⟨false, rfl, ⟨fun h => by simp at h, fun h => absurd h HK.out⟩, rfl⟩
    by_cases c4 : 1 ≤ guid
    case neg =>
      have HK : Hid (¬ ((typ = 1 ∨ typ = 2) ∧ (0 ≤ frm ∧ frm ≤ 2199023255552) ∧ (1 ≤ guid ∧ guid ≤ 2199023255552))) := hid (by omega)
      go_wp2_with fail
      go_meet
      case rel => exact ⟨false, rfl, ⟨fun h => by simp at h, fun h => absurd h HK.out⟩, rfl⟩
    by_cases c5 : guid ≤ 2199023255552
    case neg =>
      have HK : Hid (¬ ((typ = 1 ∨ typ = 2) ∧ (0 ≤ frm ∧ frm ≤ 2199023255552) ∧ (1 ≤ guid ∧ guid ≤ 2199023255552))) := hid (by omega)
      go_wp2_with fail
      go_meet
      case rel => exact ⟨false, rfl, ⟨fun h => by simp at h, fun h => absurd h HK.out⟩, rfl⟩
    have HK : Hid ((typ = 1 ∨ typ = 2) ∧ (0 ≤ frm ∧ frm ≤ 2199023255552) ∧ (1 ≤ guid ∧ guid ≤ 2199023255552)) := hid (by omega)
    go_wp2_with fail
    go_meet
    case rel => exact ⟨true, rfl, ⟨fun _ => HK.out, fun _ => rfl⟩, rfl⟩
  obtain ⟨UB, rfl, hx, rfl⟩ := hcut
  have HUB := hid hx
  clear hx
  go_upto_region 4 with fail
  go_cut [6] from 57 to 69 (fun v wx => ∃ x, v = .bool x ∧ (x = true ↔ (origin = 0 ∨ (origin = 1 ∧ 0 < frm))) ∧ wx = wc)
  case first =>
    by_cases o0 : origin = 0
    case pos =>
      have b5 : (origin == 0) = true := by rw [beq_iff_eq]; exact o0
      have HK : Hid (origin = 0 ∨ (origin = 1 ∧ 0 < frm)) := hid (Or.inl o0)
      clear o0
      go_wp2_with fail
      go_meet
      case rel => exact ⟨true, rfl, ⟨fun _ => HK.out, fun _ => rfl⟩, rfl⟩
    have b5 : (origin == 0) = false := by rw [beq_eq_false_iff_ne]; exact o0
    by_cases o1 : origin = 1
    case neg =>
      have b6 : (origin == 1) = false := by rw [beq_eq_false_iff_ne]; exact o1
      have HK : Hid (¬ (origin = 0 ∨ (origin = 1 ∧ 0 < frm))) := hid (fun h => h.elim o0 (fun h => o1 h.1))
      clear o0 o1
      go_wp2_with fail
      go_meet
      case rel => exact ⟨false, rfl, ⟨fun h => by simp at h, fun h => absurd h HK.out⟩, rfl⟩
    have b6 : (origin == 1) = true := by rw [beq_iff_eq]; exact o1
    by_cases f0 : 0 < frm
    case neg =>
      have HK : Hid (¬ (origin = 0 ∨ (origin = 1 ∧ 0 < frm))) := hid (fun h => h.elim o0 (fun h => f0 h.2))
      clear o0 o1
      go_wp2_with fail
      go_meet
      case rel => exact ⟨false, rfl, ⟨fun h => by simp at h, fun h => absurd h HK.out⟩, rfl⟩
    have HK : Hid (origin = 0 ∨ (origin = 1 ∧ 0 < frm)) := hid (Or.inr ⟨o1, f0⟩)
    clear o0 o1
    go_wp2_with fail
    go_meet
    case rel => exact ⟨true, rfl, ⟨fun _ => HK.out, fun _ => rfl⟩, rfl⟩
  obtain ⟨OB, rfl, hx, rfl⟩ := hcut
  have HOB := hid hx
  clear hx
  generalize wc = w2 at *
  cases NB with
  | false =>
    go_wp2_with fail
    first | go_returns | skip
    exact HP.out _ _ (by simp only [Bool.false_eq_true, false_iff]; exact fun h => absurd (HNM.out.2 h.1) (by simp)) (HFB.out.trans HWC.out (by simp))
  | true =>
  cases SB with
  | false =>
    go_wp2_with fail
    first | go_returns | skip
    exact HP.out _ _ (by simp only [Bool.false_eq_true, false_iff]; exact fun ⟨_, _, _, _, _, _, h, _⟩ => absurd (HSB.out.2 h) (by simp)) (HFB.out.trans HWC.out (by simp))
  | true =>
  cases UB with
  | false =>
    go_wp2_with fail
    first | go_returns | skip
    exact HP.out _ _ (by simp only [Bool.false_eq_true, false_iff]; exact fun ⟨_, _, h1, h2, h3, _⟩ => absurd (HUB.out.2 ⟨h1, h2, h3⟩) (by simp)) (HFB.out.trans HWC.out (by simp))
  | true =>
  have HU := hid (HUB.out.1 rfl)
  cases OB with
  | false =>
    go_wp2_with fail
    first | go_returns | skip
    exact HP.out _ _ (by simp only [Bool.false_eq_true, false_iff]; exact fun ⟨_, _, _, h2, _, h, _⟩ => absurd (HOB.out.2 (h.imp id (fun h => ⟨h.1, by omega⟩))) (by simp)) (HFB.out.trans HWC.out (by simp))
  | true =>
  have HO := hid (HOB.out.1 rfl)
  have HN1 := hid (HNM.out.1 rfl)
  have HS1 := hid (HSB.out.1 rfl)
  clear HUB HOB HNM HSB
  by_cases p12 : pn ≤ 12
  case neg =>
    have HK := hid p12
    have i12 : (12 : Int) < (pn : Int) := by omega
    clear p12
    go_wp2_with fail
    first | go_returns | skip
    exact HP.out _ _ (by simp only [Bool.false_eq_true, false_iff]; exact fun ⟨_, _, _, _, _, _, _, h⟩ => HK.out h) (HFB.out.trans HWC.out (by simp))
  have HK12 := hid p12
  have i12 : ¬ (12 : Int) < (pn : Int) := by omega
  have HR : Hid (PropsOk P → MayBg ⟨kind, name, typ, frm, guid, origin, snap, pp, pn, pc, obj, at_, many, kp, kn, kc, dp, dl, dc⟩ P) := hid (fun h => ⟨HN1.out, h, HU.out.1, HU.out.2.1, HU.out.2.2, HO.out.imp id (fun h => ⟨h.1, by show frm ≠ 0; omega⟩), HS1.out, HK12.out⟩)
  go_wp2_with fail
  clear x0 x1 x2 x3 x4 x5 x6 x7 x8 x9 x10 x11 x12
  go_loopw [2, 7] (fun rv i wr => ∃ t : Nat, t ≤ pn ∧ rv = .bool false ∧ i = .int .i64 (t : Int) ∧ Hid (∀ j, j < t → PrAt P j) ∧ Hid (Frm [] wb wr)) (fun _ i _ => pn - (intOf i).toNat)
  case atStart => exact ⟨0, Nat.zero_le _, rfl, rfl, hid (fun j hj => by omega), HWC⟩
  case round =>
    obtain ⟨t, ht, rfl, rfl, hok, hf⟩ := hrel
    have HOK := hid hok.out
    have HF := hid hf.out
    clear hok hf
    by_cases hlt : t < pn
    case neg =>
      obtain rfl : t = pn := by omega
      have HPO : Hid (PropsOk P) := hid (fun i hi => HOK.out i (by rw [← HL.out]; exact hi))
      obtain ⟨y0, y1, y2, y3, y4, y5, y6, y7, y8, y9, y10, y11, y12⟩ := HX.out wr HF.out
      go_wp2_with fail
      first | go_returns | skip
      exact HP.out _ _ (by simp only [true_iff]; exact HR.out HPO.out) (HFB.out.trans HF.out (by simp))
    have t1 : (t : Int) < (pn : Int) := by omega
    have HSZ := hid (HV.out t (by rw [HL.out]; exact hlt))
    obtain ⟨g, o, rfl, hc⟩ := (HRP.out wr HF.out).at (i := t) (by rw [HL.out]; exact hlt)
    obtain ⟨z0, z1⟩ := hc t (by rw [HL.out]; exact hlt)
    rw [prA_get (by rw [HL.out]; exact hlt)] at z0 z1
    have HBD : Hid (PropsOk P → PrAt P t) := hid (fun h => h t (by rw [HL.out]; exact hlt))
    have HNX : Hid (PrAt P t → ∀ j, j < t + 1 → PrAt P j) := hid (fun h j hj => by
      by_cases hj2 : j < t
      · exact HOK.out j hj2
      · obtain rfl : j = t := by omega
        exact h)
    have HPV : Hid (0 < t → ∀ V, Frm [] wr V → V.cell? ⟨g, o + (t - 1) * 2, none⟩ = some (.string (prA P (t - 1)).1)) := hid (fun h0 V hV => by
      have h := (hc (t - 1) (by rw [HL.out]; omega)).1
      rw [prA_get (by rw [HL.out]; omega)] at h
      exact (hV.cell (p := ⟨g, o + (t - 1) * 2, none⟩) (World.block_lt_of_cell? _ _ h) (by simp)).trans h)
    have HPR : Hid (PrAt P t ↔ PartL (tx (prA P t).1) ∧ ValL (tx (prA P t).2) ∧ (0 < t → Op.bytesLess (prA P (t - 1)).1.toList (prA P t).1.toList = true)) := hid Iff.rfl
    obtain ⟨pv, hpv⟩ : ∃ x, (prA P (t - 1)).1 = x := ⟨_, rfl⟩
    obtain ⟨nm, hnm⟩ : ∃ x, (prA P t).1 = x := ⟨_, rfl⟩
    obtain ⟨vl, hvl⟩ : ∃ x, (prA P t).2 = x := ⟨_, rfl⟩
    rw [hpv] at HPV HPR
    rw [hnm] at z0 HPR
    rw [hvl] at z1 HPR HSZ
    obtain ⟨y0, y1, y2, y3, y4, y5, y6, y7, y8, y9, y10, y11, y12⟩ := HX.out wr HF.out
    clear y0 y1 y2 y3 y4 y5 y6 y8 y9 y10 y11 y12 hc hpv hnm hvl HOK
    obtain ⟨wq, hwq⟩ : ∃ z, wr.alloc (.cells #[.string nm, .string vl] 70) = z := ⟨_, rfl⟩
    have hrowq := heap_alloc_new wr (.cells #[.string nm, .string vl] 70)
    have hfq : Frm [] wr wq := by rw [← hwq]; exact (Frm.refl _ _).alloc _
    obtain ⟨q, hq⟩ : ∃ z, wr.heap.size = z := ⟨_, rfl⟩
    rw [hwq, hq] at hrowq
    have HWQ := hid hwq
    have HQ := hid hq
    have HFQ : Hid (Frm [] wb wq) := hid (HF.out.trans hfq (by simp))
    have q0 : wq.cell? ⟨q, 0, none⟩ = some (.string nm) := by rw [cell_of_row _ _ _ _ _ _ hrowq]; rfl
    have q1 : wq.cell? ⟨q, 1, none⟩ = some (.string vl) := by rw [cell_of_row _ _ _ _ _ _ hrowq]; rfl
    have HFR := hid hfq
    clear hwq hq hrowq hfq
    go_upto_region 11 with fail
    first | rw [HQ.out] | skip
    first | rw [HWQ.out] | skip
    clear HQ HWQ z0 z1 y7
    have HPA := hid (fun W => refPart_any nm W)
    have HVA := hid (fun W => refValue_any vl HSZ.out W)
    obtain ⟨B1, hB1⟩ : ∃ B, decide (PartL (tx nm)) = B := ⟨_, rfl⟩
    obtain ⟨B2, hB2⟩ : ∃ B, decide (ValL (tx vl)) = B := ⟨_, rfl⟩
    rw [hB1] at HPA
    rw [hB2] at HVA
    have HB1 : Hid (B1 = true ↔ PartL (tx nm)) := hid (by rw [← hB1]; exact decide_eq_true_iff)
    have HB2 : Hid (B2 = true ↔ ValL (tx vl)) := hid (by rw [← hB2]; exact decide_eq_true_iff)
    clear hB1 hB2 HSZ
    go_upto_region 12 with (refine (HPA.out _).mono ?_; rintro e w9 ⟨rfl, h9⟩; subst w9)
    go_wp2_with fail
    refine (HVA.out _).mono ?_
    rintro e w9 ⟨rfl, h9⟩
    subst w9
    go_wp2_with fail
    obtain ⟨y0, y1, y2, y3, y4, y5, y6, y7, y8, y9, y10, y11, y12⟩ := HX.out wq HFQ.out
    clear y0 y1 y2 y3 y4 y5 y6 y8 y9 y10 y11 y12
    have HFD : Hid (Frm [] w wq.drew) := hid (HFB.out.trans (HFQ.out.drew) (by simp))
    cases B1 with
    | false =>
      refine wp_region_tail (S := fun W => (True)) 21 22 rfl (by kernel_rfl) (by kernel_rfl) ?_
      refine htk (i := 0) (v := ?_) (by kernel_rfl) rfl (fun _ _ _ h => h) (Or.inl ⟨by rfl, ?_⟩) trivial ?_
      rotate_left 1
      · (intro W hSw; obtain _ := hSw; (try simp only [lA, lZ]); go_simp; try with_reducible rfl)
      try simp only [lA, lZ, Act.put, lI, lW, lX]
      refine htk (i := 1) (v := ?_) (by kernel_rfl) rfl (fun _ _ _ h => h) (Or.inl ⟨by rfl, ?_⟩) trivial ?_
      rotate_left 1
      · (intro W hSw; obtain _ := hSw; (try simp only [lA, lS, lZ]); go_simp; try with_reducible rfl)
      try simp only [lA, lS, lZ, Act.put, lI, lW, lX]
      refine htk (i := 2) (v := ?_) (by kernel_rfl) rfl (fun _ _ _ h => h) (Or.inl ⟨by rfl, ?_⟩) trivial ?_
      rotate_left 1
      · (intro W hSw; obtain _ := hSw; (try simp only [lA, lS, lZ]); go_simp; try with_reducible rfl)
      try simp only [lA, lS, lZ, Act.put, lI, lW, lX]
      refine htk (i := 3) (v := undef) (by kernel_rfl) rfl (fun _ _ _ h => h) (Or.inr ⟨by rfl, rfl⟩) trivial ?_
      try simp only [lA, lS, lZ, Act.put, lI, lW, lX]
      refine htk (i := 4) (v := undef) (by kernel_rfl) rfl (fun _ _ _ h => h) (Or.inr ⟨by rfl, rfl⟩) trivial ?_
      try simp only [lA, lS, lZ, Act.put, lI, lW, lX]
      refine htk (i := 5) (v := ?_) (by kernel_rfl) rfl (fun _ _ _ h => h) (Or.inl ⟨by rfl, ?_⟩) trivial ?_
      rotate_left 1
      · (intro W hSw; obtain _ := hSw; (try simp only [lA, lS, lZ]); go_simp; try with_reducible rfl)
      try simp only [lA, lS, lZ, Act.put, lI, lW, lX]
      refine htk (i := 6) (v := ?_) (by kernel_rfl) rfl (fun _ _ _ h => h) (Or.inl ⟨by rfl, ?_⟩) trivial ?_
      rotate_left 1
      · (intro W hSw; obtain _ := hSw; (try simp only [lA, lS, lZ]); go_simp; try with_reducible rfl)
      try simp only [lA, lS, lZ, Act.put, lI, lW, lX]
      refine htk (i := 7) (v := undef) (by kernel_rfl) rfl (fun _ _ _ h => h) (Or.inr ⟨by rfl, rfl⟩) trivial ?_
      try simp only [lA, lS, lZ, Act.put, lI, lW, lX]
      refine htk (i := 8) (v := undef) (by kernel_rfl) rfl (fun _ _ _ h => h) (Or.inr ⟨by rfl, rfl⟩) trivial ?_
      try simp only [lA, lS, lZ, Act.put, lI, lW, lX]
      refine htk (i := 9) (v := undef) (by kernel_rfl) rfl (fun _ _ _ h => h) (Or.inr ⟨by rfl, rfl⟩) trivial ?_
      try simp only [lA, lS, lZ, Act.put, lI, lW, lX]
      refine htk (i := 10) (v := undef) (by kernel_rfl) rfl (fun _ _ _ h => h) (Or.inr ⟨by rfl, rfl⟩) trivial ?_
      try simp only [lA, lS, lZ, Act.put, lI, lW, lX]
      refine htk (i := 11) (v := undef) (by kernel_rfl) rfl (fun _ _ _ h => h) (Or.inr ⟨by rfl, rfl⟩) trivial ?_
      try simp only [lA, lS, lZ, Act.put, lI, lW, lX]
      refine htk (i := 12) (v := undef) (by kernel_rfl) rfl (fun _ _ _ h => h) (Or.inr ⟨by rfl, rfl⟩) trivial ?_
      try simp only [lA, lS, lZ, Act.put, lI, lW, lX]
      refine htk (i := 13) (v := undef) (by kernel_rfl) rfl (fun _ _ _ h => h) (Or.inr ⟨by rfl, rfl⟩) trivial ?_
      try simp only [lA, lS, lZ, Act.put, lI, lW, lX]
      refine htk (i := 14) (v := undef) (by kernel_rfl) rfl (fun _ _ _ h => h) (Or.inr ⟨by rfl, rfl⟩) trivial ?_
      try simp only [lA, lS, lZ, Act.put, lI, lW, lX]
      refine htk (i := 15) (v := undef) (by kernel_rfl) rfl (fun _ _ _ h => h) (Or.inr ⟨by rfl, rfl⟩) trivial ?_
      try simp only [lA, lS, lZ, Act.put, lI, lW, lX]
      refine htk (i := 16) (v := undef) (by kernel_rfl) rfl (fun _ _ _ h => h) (Or.inr ⟨by rfl, rfl⟩) trivial ?_
      try simp only [lA, lS, lZ, Act.put, lI, lW, lX]
      refine htk (i := 17) (v := undef) (by kernel_rfl) rfl (fun _ _ _ h => h) (Or.inr ⟨by rfl, rfl⟩) trivial ?_
      try simp only [lA, lS, lZ, Act.put, lI, lW, lX]
      refine htk (i := 18) (v := undef) (by kernel_rfl) rfl (fun _ _ _ h => h) (Or.inr ⟨by rfl, rfl⟩) trivial ?_
      try simp only [lA, lS, lZ, Act.put, lI, lW, lX]
      refine htk (i := 19) (v := undef) (by kernel_rfl) rfl (fun _ _ _ h => h) (Or.inr ⟨by rfl, rfl⟩) trivial ?_
      try simp only [lA, lS, lZ, Act.put, lI, lW, lX]
      refine htk (i := 20) (v := undef) (by kernel_rfl) rfl (fun _ _ _ h => h) (Or.inr ⟨by rfl, rfl⟩) trivial ?_
      try simp only [lA, lS, lZ, Act.put, lI, lW, lX]
      refine wpAnyHT_end (by kernel_rfl) ?_
      simp only [List.drop_succ_cons, List.drop_zero]
      go_wp2_with fail
      first | go_returns | skip
      exact HP.out _ _ (by simp only [Bool.false_eq_true, false_iff]; exact fun h => absurd (HB1.out.2 (HPR.out.1 (HBD.out h.2.1)).1) (by simp)) HFD.out
    | true =>
    cases B2 with
    | false =>
      refine wp_region_tail (S := fun W => (True)) 21 22 rfl (by kernel_rfl) (by kernel_rfl) ?_
      refine htk (i := 0) (v := ?_) (by kernel_rfl) rfl (fun _ _ _ h => h) (Or.inl ⟨by rfl, ?_⟩) trivial ?_
      rotate_left 1
      · (intro W hSw; obtain _ := hSw; (try simp only [lA, lZ]); go_simp; try with_reducible rfl)
      try simp only [lA, lZ, Act.put, lI, lW, lX]
      refine htk (i := 1) (v := ?_) (by kernel_rfl) rfl (fun _ _ _ h => h) (Or.inl ⟨by rfl, ?_⟩) trivial ?_
      rotate_left 1
      · (intro W hSw; obtain _ := hSw; (try simp only [lA, lS, lZ]); go_simp; try with_reducible rfl)
      try simp only [lA, lS, lZ, Act.put, lI, lW, lX]
      refine htk (i := 2) (v := ?_) (by kernel_rfl) rfl (fun _ _ _ h => h) (Or.inl ⟨by rfl, ?_⟩) trivial ?_
      rotate_left 1
      · (intro W hSw; obtain _ := hSw; (try simp only [lA, lS, lZ]); go_simp; try with_reducible rfl)
      try simp only [lA, lS, lZ, Act.put, lI, lW, lX]
      refine htk (i := 3) (v := ?_) (by kernel_rfl) rfl (fun _ _ _ h => h) (Or.inl ⟨by rfl, ?_⟩) trivial ?_
      rotate_left 1
      · (intro W hSw; obtain _ := hSw; (try simp only [lA, lS, lZ]); go_simp; try with_reducible rfl)
      try simp only [lA, lS, lZ, Act.put, lI, lW, lX]
      refine htk (i := 4) (v := ?_) (by kernel_rfl) rfl (fun _ _ _ h => h) (Or.inl ⟨by rfl, ?_⟩) trivial ?_
      rotate_left 1
      · (intro W hSw; obtain _ := hSw; (try simp only [lA, lS, lZ]); go_simp; try with_reducible rfl)
      try simp only [lA, lS, lZ, Act.put, lI, lW, lX]
      refine htk (i := 5) (v := ?_) (by kernel_rfl) rfl (fun _ _ _ h => h) (Or.inl ⟨by rfl, ?_⟩) trivial ?_
      rotate_left 1
      · (intro W hSw; obtain _ := hSw; (try simp only [lA, lS, lZ]); go_simp; try with_reducible rfl)
      try simp only [lA, lS, lZ, Act.put, lI, lW, lX]
      refine htk (i := 6) (v := ?_) (by kernel_rfl) rfl (fun _ _ _ h => h) (Or.inl ⟨by rfl, ?_⟩) trivial ?_
      rotate_left 1
      · (intro W hSw; obtain _ := hSw; (try simp only [lA, lS, lZ]); go_simp; try with_reducible rfl)
      try simp only [lA, lS, lZ, Act.put, lI, lW, lX]
      refine htk (i := 7) (v := undef) (by kernel_rfl) rfl (fun _ _ _ h => h) (Or.inr ⟨by rfl, rfl⟩) trivial ?_
      try simp only [lA, lS, lZ, Act.put, lI, lW, lX]
      refine htk (i := 8) (v := undef) (by kernel_rfl) rfl (fun _ _ _ h => h) (Or.inr ⟨by rfl, rfl⟩) trivial ?_
      try simp only [lA, lS, lZ, Act.put, lI, lW, lX]
      refine htk (i := 9) (v := undef) (by kernel_rfl) rfl (fun _ _ _ h => h) (Or.inr ⟨by rfl, rfl⟩) trivial ?_
      try simp only [lA, lS, lZ, Act.put, lI, lW, lX]
      refine htk (i := 10) (v := undef) (by kernel_rfl) rfl (fun _ _ _ h => h) (Or.inr ⟨by rfl, rfl⟩) trivial ?_
      try simp only [lA, lS, lZ, Act.put, lI, lW, lX]
      refine htk (i := 11) (v := undef) (by kernel_rfl) rfl (fun _ _ _ h => h) (Or.inr ⟨by rfl, rfl⟩) trivial ?_
      try simp only [lA, lS, lZ, Act.put, lI, lW, lX]
      refine htk (i := 12) (v := undef) (by kernel_rfl) rfl (fun _ _ _ h => h) (Or.inr ⟨by rfl, rfl⟩) trivial ?_
      try simp only [lA, lS, lZ, Act.put, lI, lW, lX]
      refine htk (i := 13) (v := undef) (by kernel_rfl) rfl (fun _ _ _ h => h) (Or.inr ⟨by rfl, rfl⟩) trivial ?_
      try simp only [lA, lS, lZ, Act.put, lI, lW, lX]
      refine htk (i := 14) (v := undef) (by kernel_rfl) rfl (fun _ _ _ h => h) (Or.inr ⟨by rfl, rfl⟩) trivial ?_
      try simp only [lA, lS, lZ, Act.put, lI, lW, lX]
      refine htk (i := 15) (v := undef) (by kernel_rfl) rfl (fun _ _ _ h => h) (Or.inr ⟨by rfl, rfl⟩) trivial ?_
      try simp only [lA, lS, lZ, Act.put, lI, lW, lX]
      refine htk (i := 16) (v := undef) (by kernel_rfl) rfl (fun _ _ _ h => h) (Or.inr ⟨by rfl, rfl⟩) trivial ?_
      try simp only [lA, lS, lZ, Act.put, lI, lW, lX]
      refine htk (i := 17) (v := undef) (by kernel_rfl) rfl (fun _ _ _ h => h) (Or.inr ⟨by rfl, rfl⟩) trivial ?_
      try simp only [lA, lS, lZ, Act.put, lI, lW, lX]
      refine htk (i := 18) (v := undef) (by kernel_rfl) rfl (fun _ _ _ h => h) (Or.inr ⟨by rfl, rfl⟩) trivial ?_
      try simp only [lA, lS, lZ, Act.put, lI, lW, lX]
      refine htk (i := 19) (v := undef) (by kernel_rfl) rfl (fun _ _ _ h => h) (Or.inr ⟨by rfl, rfl⟩) trivial ?_
      try simp only [lA, lS, lZ, Act.put, lI, lW, lX]
      refine htk (i := 20) (v := undef) (by kernel_rfl) rfl (fun _ _ _ h => h) (Or.inr ⟨by rfl, rfl⟩) trivial ?_
      try simp only [lA, lS, lZ, Act.put, lI, lW, lX]
      refine wpAnyHT_end (by kernel_rfl) ?_
      simp only [List.drop_succ_cons, List.drop_zero]
      go_wp2_with fail
      first | go_returns | skip
      exact HP.out _ _ (by simp only [Bool.false_eq_true, false_iff]; exact fun h => absurd (HB2.out.2 (HPR.out.1 (HBD.out h.2.1)).2.1) (by simp)) HFD.out
    | true =>
    by_cases h0 : t = 0
    case pos =>
      subst h0
      have HK := hid (HNX.out (HPR.out.2 ⟨HB1.out.1 rfl, HB2.out.1 rfl, fun h => absurd h (by omega)⟩))
      refine wp_region_tail (S := fun W => (True)) 21 22 rfl (by kernel_rfl) (by kernel_rfl) ?_
      refine htk (i := 0) (v := ?_) (by kernel_rfl) rfl (fun _ _ _ h => h) (Or.inl ⟨by rfl, ?_⟩) trivial ?_
      rotate_left 1
      · (intro W hSw; obtain _ := hSw; (try simp only [lA, lZ]); go_simp; try with_reducible rfl)
      try simp only [lA, lZ, Act.put, lI, lW, lX]
      refine htk (i := 1) (v := ?_) (by kernel_rfl) rfl (fun _ _ _ h => h) (Or.inl ⟨by rfl, ?_⟩) trivial ?_
      rotate_left 1
      · (intro W hSw; obtain _ := hSw; (try simp only [lA, lS, lZ]); go_simp; try with_reducible rfl)
      try simp only [lA, lS, lZ, Act.put, lI, lW, lX]
      refine htk (i := 2) (v := ?_) (by kernel_rfl) rfl (fun _ _ _ h => h) (Or.inl ⟨by rfl, ?_⟩) trivial ?_
      rotate_left 1
      · (intro W hSw; obtain _ := hSw; (try simp only [lA, lS, lZ]); go_simp; try with_reducible rfl)
      try simp only [lA, lS, lZ, Act.put, lI, lW, lX]
      refine htk (i := 3) (v := ?_) (by kernel_rfl) rfl (fun _ _ _ h => h) (Or.inl ⟨by rfl, ?_⟩) trivial ?_
      rotate_left 1
      · (intro W hSw; obtain _ := hSw; (try simp only [lA, lS, lZ]); go_simp; try with_reducible rfl)
      try simp only [lA, lS, lZ, Act.put, lI, lW, lX]
      refine htk (i := 4) (v := ?_) (by kernel_rfl) rfl (fun _ _ _ h => h) (Or.inl ⟨by rfl, ?_⟩) trivial ?_
      rotate_left 1
      · (intro W hSw; obtain _ := hSw; (try simp only [lA, lS, lZ]); go_simp; try with_reducible rfl)
      try simp only [lA, lS, lZ, Act.put, lI, lW, lX]
      refine htk (i := 5) (v := ?_) (by kernel_rfl) rfl (fun _ _ _ h => h) (Or.inl ⟨by rfl, ?_⟩) trivial ?_
      rotate_left 1
      · (intro W hSw; obtain _ := hSw; (try simp only [lA, lS, lZ]); go_simp; try with_reducible rfl)
      try simp only [lA, lS, lZ, Act.put, lI, lW, lX]
      refine htk (i := 6) (v := ?_) (by kernel_rfl) rfl (fun _ _ _ h => h) (Or.inl ⟨by rfl, ?_⟩) trivial ?_
      rotate_left 1
      · (intro W hSw; obtain _ := hSw; (try simp only [lA, lS, lZ]); go_simp; try with_reducible rfl)
      try simp only [lA, lS, lZ, Act.put, lI, lW, lX]
      refine htk (i := 7) (v := ?_) (by kernel_rfl) rfl (fun _ _ _ h => h) (Or.inl ⟨by rfl, ?_⟩) trivial ?_
      rotate_left 1
      · (intro W hSw; obtain _ := hSw; (try simp only [lA, lS, lZ]); go_simp; try with_reducible rfl)
      try simp only [lA, lS, lZ, Act.put, lI, lW, lX]
      refine htk (i := 8) (v := ?_) (by kernel_rfl) rfl (fun _ _ _ h => h) (Or.inl ⟨by rfl, ?_⟩) trivial ?_
      rotate_left 1
      · (intro W hSw; obtain _ := hSw; (try simp only [lA, lS, lZ]); go_simp; try with_reducible rfl)
      try simp only [lA, lS, lZ, Act.put, lI, lW, lX]
      refine htk (i := 9) (v := ?_) (by kernel_rfl) rfl (fun _ _ _ h => h) (Or.inl ⟨by rfl, ?_⟩) trivial ?_
      rotate_left 1
      · (intro W hSw; obtain _ := hSw; (try simp only [lA, lS, lZ]); go_simp; try with_reducible rfl)
      try simp only [lA, lS, lZ, Act.put, lI, lW, lX]
      refine htk (i := 10) (v := undef) (by kernel_rfl) rfl (fun _ _ _ h => h) (Or.inr ⟨by rfl, rfl⟩) trivial ?_
      try simp only [lA, lS, lZ, Act.put, lI, lW, lX]
      refine htk (i := 11) (v := undef) (by kernel_rfl) rfl (fun _ _ _ h => h) (Or.inr ⟨by rfl, rfl⟩) trivial ?_
      try simp only [lA, lS, lZ, Act.put, lI, lW, lX]
      refine htk (i := 12) (v := undef) (by kernel_rfl) rfl (fun _ _ _ h => h) (Or.inr ⟨by rfl, rfl⟩) trivial ?_
      try simp only [lA, lS, lZ, Act.put, lI, lW, lX]
      refine htk (i := 13) (v := undef) (by kernel_rfl) rfl (fun _ _ _ h => h) (Or.inr ⟨by rfl, rfl⟩) trivial ?_
      try simp only [lA, lS, lZ, Act.put, lI, lW, lX]
      refine htk (i := 14) (v := undef) (by kernel_rfl) rfl (fun _ _ _ h => h) (Or.inr ⟨by rfl, rfl⟩) trivial ?_
      try simp only [lA, lS, lZ, Act.put, lI, lW, lX]
      refine htk (i := 15) (v := undef) (by kernel_rfl) rfl (fun _ _ _ h => h) (Or.inr ⟨by rfl, rfl⟩) trivial ?_
      try simp only [lA, lS, lZ, Act.put, lI, lW, lX]
      refine htk (i := 16) (v := undef) (by kernel_rfl) rfl (fun _ _ _ h => h) (Or.inr ⟨by rfl, rfl⟩) trivial ?_
      try simp only [lA, lS, lZ, Act.put, lI, lW, lX]
      refine htk (i := 17) (v := undef) (by kernel_rfl) rfl (fun _ _ _ h => h) (Or.inr ⟨by rfl, rfl⟩) trivial ?_
      try simp only [lA, lS, lZ, Act.put, lI, lW, lX]
      refine htk (i := 18) (v := undef) (by kernel_rfl) rfl (fun _ _ _ h => h) (Or.inr ⟨by rfl, rfl⟩) trivial ?_
      try simp only [lA, lS, lZ, Act.put, lI, lW, lX]
      refine htk (i := 19) (v := undef) (by kernel_rfl) rfl (fun _ _ _ h => h) (Or.inr ⟨by rfl, rfl⟩) trivial ?_
      try simp only [lA, lS, lZ, Act.put, lI, lW, lX]
      refine htk (i := 20) (v := ?_) (by kernel_rfl) rfl (fun _ _ _ h => h) (Or.inl ⟨by rfl, ?_⟩) trivial ?_
      rotate_left 1
      · (intro W hSw; obtain _ := hSw; (try simp only [lA, lS, lZ]); go_simp; try with_reducible rfl)
      try simp only [lA, lS, lZ, Act.put, lI, lW, lX]
      refine wpAnyHT_end (by kernel_rfl) ?_
      simp only [List.drop_succ_cons, List.drop_zero]
      go_wp2_with fail
      go_roundw
      case rel => exact ⟨0 + 1, by omega, rfl, by go_num, HK, hid (HFQ.out.drew)⟩
      case measure => first | (simp [intOf]; done) | (simp [intOf]; omega)
    obtain ⟨u, rfl⟩ : ∃ u, t = u + 1 := ⟨t - 1, by omega⟩
    have i0 : (0 : Int) < (u : Int) + 1 := by omega
    have i1 : (0 : Int) ≤ (u : Int) + 1 := by omega
    have u0 : (0 : Int) ≤ (u : Int) := by omega
    have u1 : (u : Int) < (pn : Int) := by omega
    have uw : IntKind.i64.wrap ((u : Int) + 1 - 1) = (u : Int) := by rw [IntKind.wrap_i64]; omega
    have uw2 : IntKind.i64.wrap (u : Int) = (u : Int) := by rw [IntKind.wrap_i64]; omega
    have hpv := HPV.out (by omega) wq HFR.out
    rw [Nat.add_sub_cancel] at hpv
    clear h0
    have hpd : wq.drew.cell? ⟨g, o + u * 2, none⟩ = some (.string pv) := hpv
    have yd : wq.drew.cell? ⟨b, 7, none⟩ = some (.slice (some ⟨g, o, none⟩) pn pc) := y7
    have qd : wq.drew.cell? ⟨q, 0, none⟩ = some (.string nm) := q0
    by_cases hlb : Op.bytesLess pv.toList nm.toList = true
    case neg =>
      have hlf : Op.bytesLess pv.toList nm.toList = false := by simpa using hlb
      have HK : Hid (¬ PrAt P (u + 1)) := hid (fun h => hlb ((HPR.out.1 h).2.2 (by omega)))
      clear hlb
      refine wp_region_tail (S := fun W => (W.cell? ⟨g, o + u * 2, none⟩ = some (.string pv) ∧ W.cell? ⟨b, 7, none⟩ = some (.slice (some ⟨g, o, none⟩) pn pc) ∧ W.cell? ⟨q, 0, none⟩ = some (.string nm))) 21 22 rfl (by kernel_rfl) (by kernel_rfl) ?_
      refine htk (i := 0) (v := ?_) (by kernel_rfl) rfl (fun _ _ _ h => h) (Or.inl ⟨by rfl, ?_⟩) ⟨hpd, yd, qd⟩ ?_
      rotate_left 1
      · (intro W hSw; obtain ⟨s1, s2, s3⟩ := hSw; (try simp only [lA, lZ]); go_simp; try with_reducible rfl)
      try simp only [lA, lZ, Act.put, lI, lW, lX]
      refine htk (i := 1) (v := ?_) (by kernel_rfl) rfl (fun _ _ _ h => h) (Or.inl ⟨by rfl, ?_⟩) ⟨hpd, yd, qd⟩ ?_
      rotate_left 1
      · (intro W hSw; obtain ⟨s1, s2, s3⟩ := hSw; (try simp only [lA, lS, lZ]); go_simp; try with_reducible rfl)
      try simp only [lA, lS, lZ, Act.put, lI, lW, lX]
      refine htk (i := 2) (v := ?_) (by kernel_rfl) rfl (fun _ _ _ h => h) (Or.inl ⟨by rfl, ?_⟩) ⟨hpd, yd, qd⟩ ?_
      rotate_left 1
      · (intro W hSw; obtain ⟨s1, s2, s3⟩ := hSw; (try simp only [lA, lS, lZ]); go_simp; try with_reducible rfl)
      try simp only [lA, lS, lZ, Act.put, lI, lW, lX]
      refine htk (i := 3) (v := ?_) (by kernel_rfl) rfl (fun _ _ _ h => h) (Or.inl ⟨by rfl, ?_⟩) ⟨hpd, yd, qd⟩ ?_
      rotate_left 1
      · (intro W hSw; obtain ⟨s1, s2, s3⟩ := hSw; (try simp only [lA, lS, lZ]); go_simp; try with_reducible rfl)
      try simp only [lA, lS, lZ, Act.put, lI, lW, lX]
      refine htk (i := 4) (v := ?_) (by kernel_rfl) rfl (fun _ _ _ h => h) (Or.inl ⟨by rfl, ?_⟩) ⟨hpd, yd, qd⟩ ?_
      rotate_left 1
      · (intro W hSw; obtain ⟨s1, s2, s3⟩ := hSw; (try simp only [lA, lS, lZ]); go_simp; try with_reducible rfl)
      try simp only [lA, lS, lZ, Act.put, lI, lW, lX]
      refine htk (i := 5) (v := ?_) (by kernel_rfl) rfl (fun _ _ _ h => h) (Or.inl ⟨by rfl, ?_⟩) ⟨hpd, yd, qd⟩ ?_
      rotate_left 1
      · (intro W hSw; obtain ⟨s1, s2, s3⟩ := hSw; (try simp only [lA, lS, lZ]); go_simp; try with_reducible rfl)
      try simp only [lA, lS, lZ, Act.put, lI, lW, lX]
      refine htk (i := 6) (v := ?_) (by kernel_rfl) rfl (fun _ _ _ h => h) (Or.inl ⟨by rfl, ?_⟩) ⟨hpd, yd, qd⟩ ?_
      rotate_left 1
      · (intro W hSw; obtain ⟨s1, s2, s3⟩ := hSw; (try simp only [lA, lS, lZ]); go_simp; try with_reducible rfl)
      try simp only [lA, lS, lZ, Act.put, lI, lW, lX]
      refine htk (i := 7) (v := ?_) (by kernel_rfl) rfl (fun _ _ _ h => h) (Or.inl ⟨by rfl, ?_⟩) ⟨hpd, yd, qd⟩ ?_
      rotate_left 1
      · (intro W hSw; obtain ⟨s1, s2, s3⟩ := hSw; (try simp only [lA, lS, lZ]); go_simp; try with_reducible rfl)
      try simp only [lA, lS, lZ, Act.put, lI, lW, lX]
      refine htk (i := 8) (v := ?_) (by kernel_rfl) rfl (fun _ _ _ h => h) (Or.inl ⟨by rfl, ?_⟩) ⟨hpd, yd, qd⟩ ?_
      rotate_left 1
      · (intro W hSw; obtain ⟨s1, s2, s3⟩ := hSw; (try simp only [lA, lS, lZ]); go_simp; try with_reducible rfl)
      try simp only [lA, lS, lZ, Act.put, lI, lW, lX]
      refine htk (i := 9) (v := ?_) (by kernel_rfl) rfl (fun _ _ _ h => h) (Or.inl ⟨by rfl, ?_⟩) ⟨hpd, yd, qd⟩ ?_
      rotate_left 1
      · (intro W hSw; obtain ⟨s1, s2, s3⟩ := hSw; (try simp only [lA, lS, lZ]); go_simp; try with_reducible rfl)
      try simp only [lA, lS, lZ, Act.put, lI, lW, lX]
      refine htk (i := 10) (v := ?_) (by kernel_rfl) rfl (fun _ _ _ h => h) (Or.inl ⟨by rfl, ?_⟩) ⟨hpd, yd, qd⟩ ?_
      rotate_left 1
      · (intro W hSw; obtain ⟨s1, s2, s3⟩ := hSw; (try simp only [lA, lS, lZ]); go_simp; try with_reducible rfl)
      try simp only [lA, lS, lZ, Act.put, lI, lW, lX]
      refine htk (i := 11) (v := ?_) (by kernel_rfl) rfl (fun _ _ _ h => h) (Or.inl ⟨by rfl, ?_⟩) ⟨hpd, yd, qd⟩ ?_
      rotate_left 1
      · (intro W hSw; obtain ⟨s1, s2, s3⟩ := hSw; (try simp only [lA, lS, lZ]); go_simp; try with_reducible rfl)
      try simp only [lA, lS, lZ, Act.put, lI, lW, lX]
      refine htk (i := 12) (v := ?_) (by kernel_rfl) rfl (fun _ _ _ h => h) (Or.inl ⟨by rfl, ?_⟩) ⟨hpd, yd, qd⟩ ?_
      rotate_left 1
      · (intro W hSw; obtain ⟨s1, s2, s3⟩ := hSw; (try simp only [lA, lS, lZ]); go_simp; try with_reducible rfl)
      try simp only [lA, lS, lZ, Act.put, lI, lW, lX]
      refine htk (i := 13) (v := ?_) (by kernel_rfl) rfl (fun _ _ _ h => h) (Or.inl ⟨by rfl, ?_⟩) ⟨hpd, yd, qd⟩ ?_
      rotate_left 1
      · (intro W hSw; obtain ⟨s1, s2, s3⟩ := hSw; (try simp only [lA, lS, lZ]); go_simp; try with_reducible rfl)
      try simp only [lA, lS, lZ, Act.put, lI, lW, lX]
      refine htk (i := 14) (v := ?_) (by kernel_rfl) rfl (fun _ _ _ h => h) (Or.inl ⟨by rfl, ?_⟩) ⟨hpd, yd, qd⟩ ?_
      rotate_left 1
      · (intro W hSw; obtain ⟨s1, s2, s3⟩ := hSw; (try simp only [lA, lS, lZ]); go_simp; try with_reducible rfl)
      try simp only [lA, lS, lZ, Act.put, lI, lW, lX]
      refine htk (i := 15) (v := ?_) (by kernel_rfl) rfl (fun _ _ _ h => h) (Or.inl ⟨by rfl, ?_⟩) ⟨hpd, yd, qd⟩ ?_
      rotate_left 1
      · (intro W hSw; obtain ⟨s1, s2, s3⟩ := hSw; (try simp only [lA, lS, lZ]); go_simp; try with_reducible rfl)
      try simp only [lA, lS, lZ, Act.put, lI, lW, lX]
      refine htk (i := 16) (v := ?_) (by kernel_rfl) rfl (fun _ _ _ h => h) (Or.inl ⟨by rfl, ?_⟩) ⟨hpd, yd, qd⟩ ?_
      rotate_left 1
      · (intro W hSw; obtain ⟨s1, s2, s3⟩ := hSw; (try simp only [lA, lS, lZ]); go_simp; try with_reducible rfl)
      try simp only [lA, lS, lZ, Act.put, lI, lW, lX]
      refine htk (i := 17) (v := ?_) (by kernel_rfl) rfl (fun _ _ _ h => h) (Or.inl ⟨by rfl, ?_⟩) ⟨hpd, yd, qd⟩ ?_
      rotate_left 1
      · (intro W hSw; obtain ⟨s1, s2, s3⟩ := hSw; (try simp only [lA, lS, lZ]); go_simp; try with_reducible rfl)
      try simp only [lA, lS, lZ, Act.put, lI, lW, lX]
      refine htk (i := 18) (v := ?_) (by kernel_rfl) rfl (fun _ _ _ h => h) (Or.inl ⟨by rfl, ?_⟩) ⟨hpd, yd, qd⟩ ?_
      rotate_left 1
      · (intro W hSw; obtain ⟨s1, s2, s3⟩ := hSw; (try simp only [lA, lS, lZ]); go_simp; try with_reducible rfl)
      try simp only [lA, lS, lZ, Act.put, lI, lW, lX]
      refine htk (i := 19) (v := ?_) (by kernel_rfl) rfl (fun _ _ _ h => h) (Or.inl ⟨by rfl, ?_⟩) ⟨hpd, yd, qd⟩ ?_
      rotate_left 1
      · (intro W hSw; obtain ⟨s1, s2, s3⟩ := hSw; (try simp only [lA, lS, lZ]); go_simp; try with_reducible rfl)
      try simp only [lA, lS, lZ, Act.put, lI, lW, lX]
      refine htk (i := 20) (v := ?_) (by kernel_rfl) rfl (fun _ _ _ h => h) (Or.inl ⟨by rfl, ?_⟩) ⟨hpd, yd, qd⟩ ?_
      rotate_left 1
      · (intro W hSw; obtain ⟨s1, s2, s3⟩ := hSw; (try simp only [lA, lS, lZ]); go_simp; try with_reducible rfl)
      try simp only [lA, lS, lZ, Act.put, lI, lW, lX]
      refine wpAnyHT_end (by kernel_rfl) ?_
      simp only [List.drop_succ_cons, List.drop_zero]
      go_wp2_with fail
      first | go_returns | skip
      exact HP.out _ _ (by simp only [Bool.false_eq_true, false_iff]; exact fun h => HK.out (HBD.out h.2.1)) HFD.out
    have HK := hid (HNX.out (HPR.out.2 ⟨HB1.out.1 rfl, HB2.out.1 rfl, fun _ => hlb⟩))
    refine wp_region_tail (S := fun W => (W.cell? ⟨g, o + u * 2, none⟩ = some (.string pv) ∧ W.cell? ⟨b, 7, none⟩ = some (.slice (some ⟨g, o, none⟩) pn pc) ∧ W.cell? ⟨q, 0, none⟩ = some (.string nm))) 21 22 rfl (by kernel_rfl) (by kernel_rfl) ?_
    refine htk (i := 0) (v := ?_) (by kernel_rfl) rfl (fun _ _ _ h => h) (Or.inl ⟨by rfl, ?_⟩) ⟨hpd, yd, qd⟩ ?_
    rotate_left 1
    · (intro W hSw; obtain ⟨s1, s2, s3⟩ := hSw; (try simp only [lA, lZ]); go_simp; try with_reducible rfl)
    try simp only [lA, lZ, Act.put, lI, lW, lX]
    refine htk (i := 1) (v := ?_) (by kernel_rfl) rfl (fun _ _ _ h => h) (Or.inl ⟨by rfl, ?_⟩) ⟨hpd, yd, qd⟩ ?_
    rotate_left 1
    · (intro W hSw; obtain ⟨s1, s2, s3⟩ := hSw; (try simp only [lA, lS, lZ]); go_simp; try with_reducible rfl)
    try simp only [lA, lS, lZ, Act.put, lI, lW, lX]
    refine htk (i := 2) (v := ?_) (by kernel_rfl) rfl (fun _ _ _ h => h) (Or.inl ⟨by rfl, ?_⟩) ⟨hpd, yd, qd⟩ ?_
    rotate_left 1
    · (intro W hSw; obtain ⟨s1, s2, s3⟩ := hSw; (try simp only [lA, lS, lZ]); go_simp; try with_reducible rfl)
    try simp only [lA, lS, lZ, Act.put, lI, lW, lX]
    refine htk (i := 3) (v := ?_) (by kernel_rfl) rfl (fun _ _ _ h => h) (Or.inl ⟨by rfl, ?_⟩) ⟨hpd, yd, qd⟩ ?_
    rotate_left 1
    · (intro W hSw; obtain ⟨s1, s2, s3⟩ := hSw; (try simp only [lA, lS, lZ]); go_simp; try with_reducible rfl)
    try simp only [lA, lS, lZ, Act.put, lI, lW, lX]
    refine htk (i := 4) (v := ?_) (by kernel_rfl) rfl (fun _ _ _ h => h) (Or.inl ⟨by rfl, ?_⟩) ⟨hpd, yd, qd⟩ ?_
    rotate_left 1
    · (intro W hSw; obtain ⟨s1, s2, s3⟩ := hSw; (try simp only [lA, lS, lZ]); go_simp; try with_reducible rfl)
    try simp only [lA, lS, lZ, Act.put, lI, lW, lX]
    refine htk (i := 5) (v := ?_) (by kernel_rfl) rfl (fun _ _ _ h => h) (Or.inl ⟨by rfl, ?_⟩) ⟨hpd, yd, qd⟩ ?_
    rotate_left 1
    · (intro W hSw; obtain ⟨s1, s2, s3⟩ := hSw; (try simp only [lA, lS, lZ]); go_simp; try with_reducible rfl)
    try simp only [lA, lS, lZ, Act.put, lI, lW, lX]
    refine htk (i := 6) (v := ?_) (by kernel_rfl) rfl (fun _ _ _ h => h) (Or.inl ⟨by rfl, ?_⟩) ⟨hpd, yd, qd⟩ ?_
    rotate_left 1
    · (intro W hSw; obtain ⟨s1, s2, s3⟩ := hSw; (try simp only [lA, lS, lZ]); go_simp; try with_reducible rfl)
    try simp only [lA, lS, lZ, Act.put, lI, lW, lX]
    refine htk (i := 7) (v := ?_) (by kernel_rfl) rfl (fun _ _ _ h => h) (Or.inl ⟨by rfl, ?_⟩) ⟨hpd, yd, qd⟩ ?_
    rotate_left 1
    · (intro W hSw; obtain ⟨s1, s2, s3⟩ := hSw; (try simp only [lA, lS, lZ]); go_simp; try with_reducible rfl)
    try simp only [lA, lS, lZ, Act.put, lI, lW, lX]
    refine htk (i := 8) (v := ?_) (by kernel_rfl) rfl (fun _ _ _ h => h) (Or.inl ⟨by rfl, ?_⟩) ⟨hpd, yd, qd⟩ ?_
    rotate_left 1
    · (intro W hSw; obtain ⟨s1, s2, s3⟩ := hSw; (try simp only [lA, lS, lZ]); go_simp; try with_reducible rfl)
    try simp only [lA, lS, lZ, Act.put, lI, lW, lX]
    refine htk (i := 9) (v := ?_) (by kernel_rfl) rfl (fun _ _ _ h => h) (Or.inl ⟨by rfl, ?_⟩) ⟨hpd, yd, qd⟩ ?_
    rotate_left 1
    · (intro W hSw; obtain ⟨s1, s2, s3⟩ := hSw; (try simp only [lA, lS, lZ]); go_simp; try with_reducible rfl)
    try simp only [lA, lS, lZ, Act.put, lI, lW, lX]
    refine htk (i := 10) (v := ?_) (by kernel_rfl) rfl (fun _ _ _ h => h) (Or.inl ⟨by rfl, ?_⟩) ⟨hpd, yd, qd⟩ ?_
    rotate_left 1
    · (intro W hSw; obtain ⟨s1, s2, s3⟩ := hSw; (try simp only [lA, lS, lZ]); go_simp; try with_reducible rfl)
    try simp only [lA, lS, lZ, Act.put, lI, lW, lX]
    refine htk (i := 11) (v := ?_) (by kernel_rfl) rfl (fun _ _ _ h => h) (Or.inl ⟨by rfl, ?_⟩) ⟨hpd, yd, qd⟩ ?_
    rotate_left 1
    · (intro W hSw; obtain ⟨s1, s2, s3⟩ := hSw; (try simp only [lA, lS, lZ]); go_simp; try with_reducible rfl)
    try simp only [lA, lS, lZ, Act.put, lI, lW, lX]
    refine htk (i := 12) (v := ?_) (by kernel_rfl) rfl (fun _ _ _ h => h) (Or.inl ⟨by rfl, ?_⟩) ⟨hpd, yd, qd⟩ ?_
    rotate_left 1
    · (intro W hSw; obtain ⟨s1, s2, s3⟩ := hSw; (try simp only [lA, lS, lZ]); go_simp; try with_reducible rfl)
    try simp only [lA, lS, lZ, Act.put, lI, lW, lX]
    refine htk (i := 13) (v := ?_) (by kernel_rfl) rfl (fun _ _ _ h => h) (Or.inl ⟨by rfl, ?_⟩) ⟨hpd, yd, qd⟩ ?_
    rotate_left 1
    · (intro W hSw; obtain ⟨s1, s2, s3⟩ := hSw; (try simp only [lA, lS, lZ]); go_simp; try with_reducible rfl)
    try simp only [lA, lS, lZ, Act.put, lI, lW, lX]
    refine htk (i := 14) (v := ?_) (by kernel_rfl) rfl (fun _ _ _ h => h) (Or.inl ⟨by rfl, ?_⟩) ⟨hpd, yd, qd⟩ ?_
    rotate_left 1
    · (intro W hSw; obtain ⟨s1, s2, s3⟩ := hSw; (try simp only [lA, lS, lZ]); go_simp; try with_reducible rfl)
    try simp only [lA, lS, lZ, Act.put, lI, lW, lX]
    refine htk (i := 15) (v := ?_) (by kernel_rfl) rfl (fun _ _ _ h => h) (Or.inl ⟨by rfl, ?_⟩) ⟨hpd, yd, qd⟩ ?_
    rotate_left 1
    · (intro W hSw; obtain ⟨s1, s2, s3⟩ := hSw; (try simp only [lA, lS, lZ]); go_simp; try with_reducible rfl)
    try simp only [lA, lS, lZ, Act.put, lI, lW, lX]
    refine htk (i := 16) (v := ?_) (by kernel_rfl) rfl (fun _ _ _ h => h) (Or.inl ⟨by rfl, ?_⟩) ⟨hpd, yd, qd⟩ ?_
    rotate_left 1
    · (intro W hSw; obtain ⟨s1, s2, s3⟩ := hSw; (try simp only [lA, lS, lZ]); go_simp; try with_reducible rfl)
    try simp only [lA, lS, lZ, Act.put, lI, lW, lX]
    refine htk (i := 17) (v := ?_) (by kernel_rfl) rfl (fun _ _ _ h => h) (Or.inl ⟨by rfl, ?_⟩) ⟨hpd, yd, qd⟩ ?_
    rotate_left 1
    · (intro W hSw; obtain ⟨s1, s2, s3⟩ := hSw; (try simp only [lA, lS, lZ]); go_simp; try with_reducible rfl)
    try simp only [lA, lS, lZ, Act.put, lI, lW, lX]
    refine htk (i := 18) (v := ?_) (by kernel_rfl) rfl (fun _ _ _ h => h) (Or.inl ⟨by rfl, ?_⟩) ⟨hpd, yd, qd⟩ ?_
    rotate_left 1
    · (intro W hSw; obtain ⟨s1, s2, s3⟩ := hSw; (try simp only [lA, lS, lZ]); go_simp; try with_reducible rfl)
    try simp only [lA, lS, lZ, Act.put, lI, lW, lX]
    refine htk (i := 19) (v := ?_) (by kernel_rfl) rfl (fun _ _ _ h => h) (Or.inl ⟨by rfl, ?_⟩) ⟨hpd, yd, qd⟩ ?_
    rotate_left 1
    · (intro W hSw; obtain ⟨s1, s2, s3⟩ := hSw; (try simp only [lA, lS, lZ]); go_simp; try with_reducible rfl)
    try simp only [lA, lS, lZ, Act.put, lI, lW, lX]
    refine htk (i := 20) (v := ?_) (by kernel_rfl) rfl (fun _ _ _ h => h) (Or.inl ⟨by rfl, ?_⟩) ⟨hpd, yd, qd⟩ ?_
    rotate_left 1
    · (intro W hSw; obtain ⟨s1, s2, s3⟩ := hSw; (try simp only [lA, lS, lZ]); go_simp; try with_reducible rfl)
    try simp only [lA, lS, lZ, Act.put, lI, lW, lX]
    refine wpAnyHT_end (by kernel_rfl) ?_
    simp only [List.drop_succ_cons, List.drop_zero]
    go_wp2_with fail
    go_roundw
    case rel => exact ⟨u + 1 + 1, by omega, rfl, by go_num, HK, hid (HFQ.out.drew)⟩
    case measure => first | (simp [intOf]; done) | (simp [intOf]; omega)
end
end Go.Proofs.YtajfjkfnmmfhmaaGreatDoor
