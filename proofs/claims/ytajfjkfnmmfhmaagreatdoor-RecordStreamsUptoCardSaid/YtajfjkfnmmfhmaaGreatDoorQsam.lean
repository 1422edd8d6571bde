/- Records, the document's side: a part's beginning. -/
import Derived.Deep.Cut
import Derived.Deep.DeepCutAuto
import Derived.Deep.CutBlock
import Derived.Test.YtajfjkfnmmfhmaaGreatDoorQsak
import Derived.Test.YtajfjkfnmmfhmaaGreatDoorQsal
import Derived.Test.YtajfjkfnmmfhmaaGreatDoorQsaj
namespace Go.Proofs.YtajfjkfnmmfhmaaGreatDoor
set_option maxRecDepth 100000
set_option maxHeartbeats 25600000
section
open Go.RowKit Go.Lib
theorem x_name (s : ByteArray) : ((⟨#[120]⟩ : ByteArray) ++ s).data.toList = 120 :: s.data.toList := by simp
theorem refBegin_any (r : Rc) (P : List Pr) (w : World) (hr : RdP w r.pp P) (hl : P.length = r.pn) (hm : r.pn ≤ 9223372036854775807) (hs : r.name.size ≤ 140737488355328) (hv : ∀ i, i < P.length → (prA P i).2.size ≤ 9223372036854775807) :
  Calls Tryz.prog 33 #[.agg r.arr] w fun e w' => e = .returned (.bool (decide (MayBg r P))) ∧ Frm [] w w' := by
 obtain ⟨PO, hPO⟩ : ∃ PO : Ending → World → Prop, (fun e w' => e = .returned (.bool (decide (MayBg r P))) ∧ Frm [] w w') = PO := ⟨_, rfl⟩
 rw [hPO]
 have HP : Hid (∀ x w', (x = true ↔ MayBg r P) → Frm [] w w' → PO (.returned (.bool x)) w') := hid (fun x w' h h2 => by rw [← hPO]; exact ⟨by rw [bool_decR h], h2⟩)
 obtain ⟨wb, hwb⟩ := eX (w.alloc (.cells r.arr 26))
 have hrow := heap_alloc_new w (.cells r.arr 26)
 have hfb : Frm [] w wb := by rw [← hwb]; exact (Frm.refl _ _).alloc _
 obtain ⟨b, hb⟩ := eX (w.heap.size)
 rw [hwb, hb] at hrow
 have HX := hid (fun V (hf : Frm [] wb V) => rc_cells (hf.heap hrow (by simp)))
 have HFB := hid hfb
 have HRP := hid (fun V (hf : Frm [] wb V) => hr.kept (hfb.trans hf (by simp)) (by simp))
 have HL := hid hl
 have HWB := hid hwb
 have HB := hid hb
 have HV := hid hv
 unfold MayBg BgRest at HP
 clear hPO hwb hrow hfb hb hr hl hv
 obtain ⟨kind, name, typ, frm, guid, origin, snap, pp, pn, pc, obj, at_, many, kp, kn, kc, dp, dl, dc⟩ := r
 unfold Rc.arr at HWB ⊢
 simp only at HP HX HRP HL HWB hm hs ⊢
 go_enter Tryz.func33, Tryz.ntmps33
 go_upto_region 1 with fail
 try rw [HB.out]
 try rw [HWB.out]
 clear HB HWB
 obtain ⟨x0, x1, x2, x3, x4, x5, x6, x7, x8, x9, x10, x11, x12⟩ := HX.out wb (Frm.refl _ _)
 go_cut [3] from 11 to 25 (fun v wx => ∃ x, v = .bool x ∧ (x = true ↔ NmOk name.data.toList) ∧ Hid (Frm [] wb wx))
 case first =>
  have HNU := hid (nameU_root name.data.toList)
  by_cases hn : name = ⟨#[]⟩
  case pos =>
   subst hn
   go_wp2_with fail
   go_meet
   case rel => exact ⟨_, rfl, ⟨fun _ => Or.inl rfl, fun _ => rfl⟩, hid (Frm.refl _ _)⟩
  have hne : name.data.toList ≠ [] := fun h => hn (by rw [← str_txB name]; simp [tx, h, strOfNums])
  have hb1 : (name.toList == []) = false := by rw [Lib.toList_data]; exact beq_eq_false_iff_ne.2 hne
  have hsz : 0 < name.size := by
   have h : name.data.size = name.size := rfl
   have h2 : name.data.toList.length ≠ 0 := fun h => hne (List.eq_nil_of_length_eq_zero h)
   rw [Array.length_toList] at h2; omega
  have hsz1 : (0 : Int) < (name.size : Int) := by omega
  have HNE := hid hne
  have hro : rootU name.data.toList ↔ name[0].toNat = 47 := by
   unfold rootU
   rw [List.head?_eq_getElem?, Array.getElem?_toList, Array.getElem?_eq_getElem hsz]
   constructor
   ·intro h; have := Option.some.inj h; exact congrArg UInt8.toNat this
   ·intro h; exact congrArg some (UInt8.toNat_inj.1 h)
  by_cases h47 : name[0].toNat = 47
  case neg =>
   have i2 : ((name[0].toNat : Int) == 47) = false := by rw [beq_eq_false_iff_ne]; omega
   have HNR : Hid (¬ rootU name.data.toList) := hid (fun h => h47 (hro.1 h))
   clear hro hne hn h47
   go_wp2_with fail
   go_meet
   case rel => exact ⟨_, rfl, ⟨fun h => by simp at h, fun h => absurd h (by rw [HNU.out]; exact fun h => h.elim HNE.out (fun h => HNR.out h.1))⟩, hid (Frm.refl _ _)⟩
  have i2 : ((name[0].toNat : Int) == 47) = true := by rw [beq_iff_eq]; omega
  have HNR : Hid (rootU name.data.toList) := hid (hro.2 h47)
  have HRN := hid (fun W => refName_any (⟨#[120]⟩ ++ name) W)
  rw [x_name] at HRN
  obtain ⟨B, hB⟩ := eX (decide (NameU (120 :: name.data.toList)))
  rw [hB] at HRN
  have HBB : Hid (B = true ↔ NameU (120 :: name.data.toList)) := hid (by rw [← hB]; exact decide_eq_true_iff)
  clear hB hro hne hn h47
  go_wp2_with fail
  refine (HRN.out _).mono ?_
  rintro e w1 ⟨rfl, rfl⟩
  go_wp2_with fail
  go_meet
  case rel => exact ⟨_, rfl, ⟨fun h => by rw [HNU.out]; exact Or.inr ⟨HNR.out, HBB.out.1 (by simpa using h)⟩, fun h => by
   rw [HNU.out] at h
   have h2 := HBB.out.2 (h.elim (fun h => absurd h HNE.out) (fun h => h.2))
   rw [h2]⟩, hid (Frm.refl _ _)⟩
 obtain ⟨NB, rfl, hx, hwc⟩ := hcut
 have HNM := hid hx
 have HWC := hid hwc.out
 clear hx hwc x0 x1 x2 x3 x4 x5 x6 x7 x8 x9 x10 x11 x12
 generalize wc = w2 at *
 have HPS := hid (fun W => refPart_any snap W)
 obtain ⟨SB, hSB⟩ := eX (decide (PartL (tx snap)))
 rw [hSB] at HPS
 have HSB : Hid (SB = true ↔ PartL (tx snap)) := hid (by rw [← hSB]; exact decide_eq_true_iff)
 clear hSB
 obtain ⟨x0, x1, x2, x3, x4, x5, x6, x7, x8, x9, x10, x11, x12⟩ := HX.out w2 HWC.out
 go_upto_region 3 with (refine (HPS.out _).mono ?_; rintro e w9 ⟨rfl, h9⟩; subst w9)
 go_cut [5] from 29 to 56 (fun v wx => ∃ x, v = .bool x ∧ (x = true ↔ ((typ = 1 ∨ typ = 2) ∧ (0 ≤ frm ∧ frm ≤ 2199023255552) ∧ (1 ≤ guid ∧ guid ≤ 2199023255552))) ∧ wx = w2)
 case first =>
  by_cases c0 : 1 ≤ typ
  case neg =>
   have HK : Hid (¬ ((typ = 1 ∨ typ = 2) ∧ (0 ≤ frm ∧ frm ≤ 2199023255552) ∧ (1 ≤ guid ∧ guid ≤ 2199023255552))) := hid (by omega)
   go_wp2_with fail
   go_meet
   case rel => exact ⟨false, rfl, ⟨fun h => by simp at h, fun h => absurd h HK.out⟩, rfl⟩
  by_cases c1 : typ ≤ 2
  case neg =>
   have HK : Hid (¬ ((typ = 1 ∨ typ = 2) ∧ (0 ≤ frm ∧ frm ≤ 2199023255552) ∧ (1 ≤ guid ∧ guid ≤ 2199023255552))) := hid (by omega)
   go_wp2_with fail
   go_meet
   case rel => exact ⟨false, rfl, ⟨fun h => by simp at h, fun h => absurd h HK.out⟩, rfl⟩
  by_cases c2 : 0 ≤ frm
  case neg =>
   have HK : Hid (¬ ((typ = 1 ∨ typ = 2) ∧ (0 ≤ frm ∧ frm ≤ 2199023255552) ∧ (1 ≤ guid ∧ guid ≤ 2199023255552))) := hid (by omega)
   go_wp2_with fail
   go_meet
   case rel => exact ⟨false, rfl, ⟨fun h => by simp at h, fun h => absurd h HK.out⟩, rfl⟩
  by_cases c3 : frm ≤ 2199023255552
  case neg =>
   have HK : Hid (¬ ((typ = 1 ∨ typ = 2) ∧ (0 ≤ frm ∧ frm ≤ 2199023255552) ∧ (1 ≤ guid ∧ guid ≤ 2199023255552))) := hid (by omega)
   go_wp2_with fail
   go_meet
   case rel => exact ⟨false, rfl, ⟨fun h => by simp at h, fun h => absurd h HK.out⟩, rfl⟩
  by_cases c4 : 1 ≤ guid
  case neg =>
   have HK : Hid (¬ ((typ = 1 ∨ typ = 2) ∧ (0 ≤ frm ∧ frm ≤ 2199023255552) ∧ (1 ≤ guid ∧ guid ≤ 2199023255552))) := hid (by omega)
   go_wp2_with fail
   go_meet
   case rel => exact ⟨false, rfl, ⟨fun h => by simp at h, fun h => absurd h HK.out⟩, rfl⟩
  by_cases c5 : guid ≤ 2199023255552
  case neg =>
   have HK : Hid (¬ ((typ = 1 ∨ typ = 2) ∧ (0 ≤ frm ∧ frm ≤ 2199023255552) ∧ (1 ≤ guid ∧ guid ≤ 2199023255552))) := hid (by omega)
   go_wp2_with fail
   go_meet
   case rel => exact ⟨false, rfl, ⟨fun h => by simp at h, fun h => absurd h HK.out⟩, rfl⟩
  have HK : Hid ((typ = 1 ∨ typ = 2) ∧ (0 ≤ frm ∧ frm ≤ 2199023255552) ∧ (1 ≤ guid ∧ guid ≤ 2199023255552)) := hid (by omega)
  go_wp2_with fail
  go_meet
  case rel => exact ⟨true, rfl, ⟨fun _ => HK.out, fun _ => rfl⟩, rfl⟩
 obtain ⟨UB, rfl, hx, rfl⟩ := hcut
 have HUB := hid hx
 clear hx
 go_upto_region 4 with fail
 go_cut [6] from 57 to 69 (fun v wx => ∃ x, v = .bool x ∧ (x = true ↔ (origin = 0 ∨ (origin = 1 ∧ 0 < frm))) ∧ wx = wc)
 case first =>
  by_cases o0 : origin = 0
  case pos =>
   have b5 : (origin == 0) = true := by rw [beq_iff_eq]; exact o0
   have HK : Hid (origin = 0 ∨ (origin = 1 ∧ 0 < frm)) := hid (Or.inl o0)
   clear o0
   go_wp2_with fail
   go_meet
   case rel => exact ⟨true, rfl, ⟨fun _ => HK.out, fun _ => rfl⟩, rfl⟩
  have b5 : (origin == 0) = false := by rw [beq_eq_false_iff_ne]; exact o0
  by_cases o1 : origin = 1
  case neg =>
   have b6 : (origin == 1) = false := by rw [beq_eq_false_iff_ne]; exact o1
   have HK : Hid (¬ (origin = 0 ∨ (origin = 1 ∧ 0 < frm))) := hid (fun h => h.elim o0 (fun h => o1 h.1))
   clear o0 o1
   go_wp2_with fail
   go_meet
   case rel => exact ⟨false, rfl, ⟨fun h => by simp at h, fun h => absurd h HK.out⟩, rfl⟩
  have b6 : (origin == 1) = true := by rw [beq_iff_eq]; exact o1
  by_cases f0 : 0 < frm
  case neg =>
   have HK : Hid (¬ (origin = 0 ∨ (origin = 1 ∧ 0 < frm))) := hid (fun h => h.elim o0 (fun h => f0 h.2))
   clear o0 o1
   go_wp2_with fail
   go_meet
   case rel => exact ⟨false, rfl, ⟨fun h => by simp at h, fun h => absurd h HK.out⟩, rfl⟩
  have HK : Hid (origin = 0 ∨ (origin = 1 ∧ 0 < frm)) := hid (Or.inr ⟨o1, f0⟩)
  clear o0 o1
  go_wp2_with fail
  go_meet
  case rel => exact ⟨true, rfl, ⟨fun _ => HK.out, fun _ => rfl⟩, rfl⟩
 obtain ⟨OB, rfl, hx, rfl⟩ := hcut
 have HOB := hid hx
 clear hx
 generalize wc = w2 at *
 cases NB with
 | false =>
  go_wp2_with fail
  try go_returns
  exact HP.out _ _ (by simp only [Bool.false_eq_true, false_iff]; exact fun h => absurd (HNM.out.2 h.1) (by simp)) (HFB.out.trans HWC.out (by simp))
 | true =>
 cases SB with
 | false =>
  go_wp2_with fail
  try go_returns
  exact HP.out _ _ (by simp only [Bool.false_eq_true, false_iff]; exact fun ⟨_, _, _, _, _, _, h, _⟩ => absurd (HSB.out.2 h) (by simp)) (HFB.out.trans HWC.out (by simp))
 | true =>
 cases UB with
 | false =>
  go_wp2_with fail
  try go_returns
  exact HP.out _ _ (by simp only [Bool.false_eq_true, false_iff]; exact fun ⟨_, _, h1, h2, h3, _⟩ => absurd (HUB.out.2 ⟨h1, h2, h3⟩) (by simp)) (HFB.out.trans HWC.out (by simp))
 | true =>
 have HU := hid (HUB.out.1 rfl)
 cases OB with
 | false =>
  go_wp2_with fail
  try go_returns
  exact HP.out _ _ (by simp only [Bool.false_eq_true, false_iff]; exact fun ⟨_, _, _, h2, _, h, _⟩ => absurd (HOB.out.2 (h.imp id (fun h => ⟨h.1, by omega⟩))) (by simp)) (HFB.out.trans HWC.out (by simp))
 | true =>
 have HO := hid (HOB.out.1 rfl)
 have HN1 := hid (HNM.out.1 rfl)
 have HS1 := hid (HSB.out.1 rfl)
 clear HUB HOB HNM HSB
 by_cases p12 : pn ≤ 12
 case neg =>
  have HK := hid p12
  have i12 : (12 : Int) < (pn : Int) := by omega
  clear p12
  go_wp2_with fail
  try go_returns
  exact HP.out _ _ (by simp only [Bool.false_eq_true, false_iff]; exact fun ⟨_, _, _, _, _, _, _, h⟩ => HK.out h) (HFB.out.trans HWC.out (by simp))
 have HK12 := hid p12
 have i12 : ¬ (12 : Int) < (pn : Int) := by omega
 have HR : Hid (PropsOk P → MayBg ⟨kind, name, typ, frm, guid, origin, snap, pp, pn, pc, obj, at_, many, kp, kn, kc, dp, dl, dc⟩ P) := hid (fun h => ⟨HN1.out, h, HU.out.1, HU.out.2.1, HU.out.2.2, HO.out.imp id (fun h => ⟨h.1, by show frm ≠ 0; omega⟩), HS1.out, HK12.out⟩)
 go_wp2_with fail
 clear x0 x1 x2 x3 x4 x5 x6 x7 x8 x9 x10 x11 x12
 go_loopw [2, 7] (fun rv i wr => ∃ t : Nat, t ≤ pn ∧ rv = .bool false ∧ i = .int .i64 (t : Int) ∧ Hid (∀ j, j < t → PrAt P j) ∧ Hid (Frm [] wb wr)) (fun _ i _ => pn - (intOf i).toNat)
 case atStart => exact ⟨0, Nat.zero_le _, rfl, rfl, hid (fun j hj => by omega), HWC⟩
 case round =>
  obtain ⟨t, ht, rfl, rfl, hok, hf⟩ := hrel
  have HOK := hid hok.out
  have HF := hid hf.out
  clear hok hf
  by_cases hlt : t < pn
  case neg =>
   obtain rfl : t = pn := by omega
   have HPO : Hid (PropsOk P) := hid (fun i hi => HOK.out i (by rw [← HL.out]; exact hi))
   obtain ⟨y0, y1, y2, y3, y4, y5, y6, y7, y8, y9, y10, y11, y12⟩ := HX.out wr HF.out
   go_wp2_with fail
   try go_returns
   exact HP.out _ _ (by simp only [true_iff]; exact HR.out HPO.out) (HFB.out.trans HF.out (by simp))
  have t1 : (t : Int) < (pn : Int) := by omega
  have HSZ := hid (HV.out t (by rw [HL.out]; exact hlt))
  obtain ⟨g, o, rfl, hc⟩ := (HRP.out wr HF.out).at (i := t) (by rw [HL.out]; exact hlt)
  obtain ⟨z0, z1⟩ := hc t (by rw [HL.out]; exact hlt)
  rw [prA_get (by rw [HL.out]; exact hlt)] at z0 z1
  have HBD : Hid (PropsOk P → PrAt P t) := hid (fun h => h t (by rw [HL.out]; exact hlt))
  have HNX : Hid (PrAt P t → ∀ j, j < t + 1 → PrAt P j) := hid (fun h j hj => by
   by_cases hj2 : j < t
   ·exact HOK.out j hj2
   ·obtain rfl : j = t := by omega
    exact h)
  have HPV : Hid (0 < t → ∀ V, Frm [] wr V → V.cell? ⟨g, o + (t - 1) * 2, none⟩ = some (.string (prA P (t - 1)).1)) := hid (fun h0 V hV => by
   have h := (hc (t - 1) (by rw [HL.out]; omega)).1
   rw [prA_get (by rw [HL.out]; omega)] at h
   exact (hV.cell (p := ⟨g, o + (t - 1) * 2, none⟩) (World.block_lt_of_cell? _ _ h) (by simp)).trans h)
  have HPR : Hid (PrAt P t ↔ PartL (tx (prA P t).1) ∧ ValL (tx (prA P t).2) ∧ (0 < t → Op.bytesLess (prA P (t - 1)).1.toList (prA P t).1.toList = true)) := hid Iff.rfl
  obtain ⟨pv, hpv⟩ := eX ((prA P (t - 1)).1)
  obtain ⟨nm, hnm⟩ := eX ((prA P t).1)
  obtain ⟨vl, hvl⟩ := eX ((prA P t).2)
  rw [hpv] at HPV HPR
  rw [hnm] at z0 HPR
  rw [hvl] at z1 HPR HSZ
  obtain ⟨y0, y1, y2, y3, y4, y5, y6, y7, y8, y9, y10, y11, y12⟩ := HX.out wr HF.out
  clear y0 y1 y2 y3 y4 y5 y6 y8 y9 y10 y11 y12 hc hpv hnm hvl HOK
  obtain ⟨wq, hwq⟩ := eX (wr.alloc (.cells #[.string nm, .string vl] 70))
  have hrowq := heap_alloc_new wr (.cells #[.string nm, .string vl] 70)
  have hfq : Frm [] wr wq := by rw [← hwq]; exact (Frm.refl _ _).alloc _
  obtain ⟨q, hq⟩ := eX (wr.heap.size)
  rw [hwq, hq] at hrowq
  have HWQ := hid hwq
  have HQ := hid hq
  have HFQ : Hid (Frm [] wb wq) := hid (HF.out.trans hfq (by simp))
  have q0 := cR 0 (.string nm) hrowq
  have q1 := cR 1 (.string vl) hrowq
  have HFR := hid hfq
  clear hwq hq hrowq hfq
  go_upto_region 11 with fail
  try rw [HQ.out]
  try rw [HWQ.out]
  clear HQ HWQ z0 z1 y7
  have HPA := hid (fun W => refPart_any nm W)
  have HVA := hid (fun W => refValue_any vl HSZ.out W)
  obtain ⟨B1, hB1⟩ := eX (decide (PartL (tx nm)))
  obtain ⟨B2, hB2⟩ := eX (decide (ValL (tx vl)))
  rw [hB1] at HPA
  rw [hB2] at HVA
  have HB1 : Hid (B1 = true ↔ PartL (tx nm)) := hid (by rw [← hB1]; exact decide_eq_true_iff)
  have HB2 : Hid (B2 = true ↔ ValL (tx vl)) := hid (by rw [← hB2]; exact decide_eq_true_iff)
  clear hB1 hB2 HSZ
  go_upto_region 12 with (refine (HPA.out _).mono ?_; rintro e w9 ⟨rfl, h9⟩; subst w9)
  go_wp2_with fail
  refine (HVA.out _).mono ?_
  rintro e w9 ⟨rfl, h9⟩
  subst w9
  go_wp2_with fail
  obtain ⟨y0, y1, y2, y3, y4, y5, y6, y7, y8, y9, y10, y11, y12⟩ := HX.out wq HFQ.out
  clear y0 y1 y2 y3 y4 y5 y6 y8 y9 y10 y11 y12
  have HFD : Hid (Frm [] w wq.drew) := hid (HFB.out.trans (HFQ.out.drew) (by simp))
  cases B1 with
  | false =>
   refine wp_region_tail (S := fun W => (True)) 21 22 rfl (by kernel_rfl) (by kernel_rfl) ?_
   refine hI (i := 0) (v := ?_) rfl ?_ trivial ?_
   rotate_left 1
   ·rintro W _; (try simp only [lA, lZ]); go_simp; try with_reducible rfl
   try simp only [lA, lZ, Act.put, lI, lW, lX]
   refine hI (i := 1) (v := ?_) rfl ?_ trivial ?_
   rotate_left 1
   ·rintro W _; (try simp only [lA, lS, lZ]); go_simp; try with_reducible rfl
   try simp only [lA, lS, lZ, Act.put, lI, lW, lX]
   refine hI (i := 2) (v := ?_) rfl ?_ trivial ?_
   rotate_left 1
   ·rintro W _; (try simp only [lA, lS, lZ]); go_simp; try with_reducible rfl
   try simp only [lA, lS, lZ, Act.put, lI, lW, lX]
   refine hU (i := 3) rfl trivial ?_
   try simp only [lA, lS, lZ, Act.put, lI, lW, lX]
   refine hU (i := 4) rfl trivial ?_
   try simp only [lA, lS, lZ, Act.put, lI, lW, lX]
   refine hI (i := 5) (v := ?_) rfl ?_ trivial ?_
   rotate_left 1
   ·rintro W _; (try simp only [lA, lS, lZ]); go_simp; try with_reducible rfl
   try simp only [lA, lS, lZ, Act.put, lI, lW, lX]
   refine hI (i := 6) (v := ?_) rfl ?_ trivial ?_
   rotate_left 1
   ·rintro W _; (try simp only [lA, lS, lZ]); go_simp; try with_reducible rfl
   try simp only [lA, lS, lZ, Act.put, lI, lW, lX]
   refine hU (i := 7) rfl trivial ?_
   try simp only [lA, lS, lZ, Act.put, lI, lW, lX]
   refine hU (i := 8) rfl trivial ?_
   try simp only [lA, lS, lZ, Act.put, lI, lW, lX]
   refine hU (i := 9) rfl trivial ?_
   try simp only [lA, lS, lZ, Act.put, lI, lW, lX]
   refine hU (i := 10) rfl trivial ?_
   try simp only [lA, lS, lZ, Act.put, lI, lW, lX]
   refine hU (i := 11) rfl trivial ?_
   try simp only [lA, lS, lZ, Act.put, lI, lW, lX]
   refine hU (i := 12) rfl trivial ?_
   try simp only [lA, lS, lZ, Act.put, lI, lW, lX]
   refine hU (i := 13) rfl trivial ?_
   try simp only [lA, lS, lZ, Act.put, lI, lW, lX]
   refine hU (i := 14) rfl trivial ?_
   try simp only [lA, lS, lZ, Act.put, lI, lW, lX]
   refine hU (i := 15) rfl trivial ?_
   try simp only [lA, lS, lZ, Act.put, lI, lW, lX]
   refine hU (i := 16) rfl trivial ?_
   try simp only [lA, lS, lZ, Act.put, lI, lW, lX]
   refine hU (i := 17) rfl trivial ?_
   try simp only [lA, lS, lZ, Act.put, lI, lW, lX]
   refine hU (i := 18) rfl trivial ?_
   try simp only [lA, lS, lZ, Act.put, lI, lW, lX]
   refine hU (i := 19) rfl trivial ?_
   try simp only [lA, lS, lZ, Act.put, lI, lW, lX]
   refine hU (i := 20) rfl trivial ?_
   try simp only [lA, lS, lZ, Act.put, lI, lW, lX]
   refine wpAnyHT_end (by kernel_rfl) ?_
   simp only [List.drop_succ_cons, List.drop_zero]
   go_wp2_with fail
   try go_returns
   exact HP.out _ _ (by simp only [Bool.false_eq_true, false_iff]; exact fun h => absurd (HB1.out.2 (HPR.out.1 (HBD.out h.2.1)).1) (by simp)) HFD.out
  | true =>
  cases B2 with
  | false =>
   refine wp_region_tail (S := fun W => (True)) 21 22 rfl (by kernel_rfl) (by kernel_rfl) ?_
   refine hI (i := 0) (v := ?_) rfl ?_ trivial ?_
   rotate_left 1
   ·rintro W _; (try simp only [lA, lZ]); go_simp; try with_reducible rfl
   try simp only [lA, lZ, Act.put, lI, lW, lX]
   refine hI (i := 1) (v := ?_) rfl ?_ trivial ?_
   rotate_left 1
   ·rintro W _; (try simp only [lA, lS, lZ]); go_simp; try with_reducible rfl
   try simp only [lA, lS, lZ, Act.put, lI, lW, lX]
   refine hI (i := 2) (v := ?_) rfl ?_ trivial ?_
   rotate_left 1
   ·rintro W _; (try simp only [lA, lS, lZ]); go_simp; try with_reducible rfl
   try simp only [lA, lS, lZ, Act.put, lI, lW, lX]
   refine hI (i := 3) (v := ?_) rfl ?_ trivial ?_
   rotate_left 1
   ·rintro W _; (try simp only [lA, lS, lZ]); go_simp; try with_reducible rfl
   try simp only [lA, lS, lZ, Act.put, lI, lW, lX]
   refine hI (i := 4) (v := ?_) rfl ?_ trivial ?_
   rotate_left 1
   ·rintro W _; (try simp only [lA, lS, lZ]); go_simp; try with_reducible rfl
   try simp only [lA, lS, lZ, Act.put, lI, lW, lX]
   refine hI (i := 5) (v := ?_) rfl ?_ trivial ?_
   rotate_left 1
   ·rintro W _; (try simp only [lA, lS, lZ]); go_simp; try with_reducible rfl
   try simp only [lA, lS, lZ, Act.put, lI, lW, lX]
   refine hI (i := 6) (v := ?_) rfl ?_ trivial ?_
   rotate_left 1
   ·rintro W _; (try simp only [lA, lS, lZ]); go_simp; try with_reducible rfl
   try simp only [lA, lS, lZ, Act.put, lI, lW, lX]
   refine hU (i := 7) rfl trivial ?_
   try simp only [lA, lS, lZ, Act.put, lI, lW, lX]
   refine hU (i := 8) rfl trivial ?_
   try simp only [lA, lS, lZ, Act.put, lI, lW, lX]
   refine hU (i := 9) rfl trivial ?_
   try simp only [lA, lS, lZ, Act.put, lI, lW, lX]
   refine hU (i := 10) rfl trivial ?_
   try simp only [lA, lS, lZ, Act.put, lI, lW, lX]
   refine hU (i := 11) rfl trivial ?_
   try simp only [lA, lS, lZ, Act.put, lI, lW, lX]
   refine hU (i := 12) rfl trivial ?_
   try simp only [lA, lS, lZ, Act.put, lI, lW, lX]
   refine hU (i := 13) rfl trivial ?_
   try simp only [lA, lS, lZ, Act.put, lI, lW, lX]
   refine hU (i := 14) rfl trivial ?_
   try simp only [lA, lS, lZ, Act.put, lI, lW, lX]
   refine hU (i := 15) rfl trivial ?_
   try simp only [lA, lS, lZ, Act.put, lI, lW, lX]
   refine hU (i := 16) rfl trivial ?_
   try simp only [lA, lS, lZ, Act.put, lI, lW, lX]
   refine hU (i := 17) rfl trivial ?_
   try simp only [lA, lS, lZ, Act.put, lI, lW, lX]
   refine hU (i := 18) rfl trivial ?_
   try simp only [lA, lS, lZ, Act.put, lI, lW, lX]
   refine hU (i := 19) rfl trivial ?_
   try simp only [lA, lS, lZ, Act.put, lI, lW, lX]
   refine hU (i := 20) rfl trivial ?_
   try simp only [lA, lS, lZ, Act.put, lI, lW, lX]
   refine wpAnyHT_end (by kernel_rfl) ?_
   simp only [List.drop_succ_cons, List.drop_zero]
   go_wp2_with fail
   try go_returns
   exact HP.out _ _ (by simp only [Bool.false_eq_true, false_iff]; exact fun h => absurd (HB2.out.2 (HPR.out.1 (HBD.out h.2.1)).2.1) (by simp)) HFD.out
  | true =>
  by_cases h0 : t = 0
  case pos =>
   subst h0
   have HK := hid (HNX.out (HPR.out.2 ⟨HB1.out.1 rfl, HB2.out.1 rfl, fun h => absurd h (by omega)⟩))
   refine wp_region_tail (S := fun W => (True)) 21 22 rfl (by kernel_rfl) (by kernel_rfl) ?_
   refine hI (i := 0) (v := ?_) rfl ?_ trivial ?_
   rotate_left 1
   ·rintro W _; (try simp only [lA, lZ]); go_simp; try with_reducible rfl
   try simp only [lA, lZ, Act.put, lI, lW, lX]
   refine hI (i := 1) (v := ?_) rfl ?_ trivial ?_
   rotate_left 1
   ·rintro W _; (try simp only [lA, lS, lZ]); go_simp; try with_reducible rfl
   try simp only [lA, lS, lZ, Act.put, lI, lW, lX]
   refine hI (i := 2) (v := ?_) rfl ?_ trivial ?_
   rotate_left 1
   ·rintro W _; (try simp only [lA, lS, lZ]); go_simp; try with_reducible rfl
   try simp only [lA, lS, lZ, Act.put, lI, lW, lX]
   refine hI (i := 3) (v := ?_) rfl ?_ trivial ?_
   rotate_left 1
   ·rintro W _; (try simp only [lA, lS, lZ]); go_simp; try with_reducible rfl
   try simp only [lA, lS, lZ, Act.put, lI, lW, lX]
   refine hI (i := 4) (v := ?_) rfl ?_ trivial ?_
   rotate_left 1
   ·rintro W _; (try simp only [lA, lS, lZ]); go_simp; try with_reducible rfl
   try simp only [lA, lS, lZ, Act.put, lI, lW, lX]
   refine hI (i := 5) (v := ?_) rfl ?_ trivial ?_
   rotate_left 1
   ·rintro W _; (try simp only [lA, lS, lZ]); go_simp; try with_reducible rfl
   try simp only [lA, lS, lZ, Act.put, lI, lW, lX]
   refine hI (i := 6) (v := ?_) rfl ?_ trivial ?_
   rotate_left 1
   ·rintro W _; (try simp only [lA, lS, lZ]); go_simp; try with_reducible rfl
   try simp only [lA, lS, lZ, Act.put, lI, lW, lX]
   refine hI (i := 7) (v := ?_) rfl ?_ trivial ?_
   rotate_left 1
   ·rintro W _; (try simp only [lA, lS, lZ]); go_simp; try with_reducible rfl
   try simp only [lA, lS, lZ, Act.put, lI, lW, lX]
   refine hI (i := 8) (v := ?_) rfl ?_ trivial ?_
   rotate_left 1
   ·rintro W _; (try simp only [lA, lS, lZ]); go_simp; try with_reducible rfl
   try simp only [lA, lS, lZ, Act.put, lI, lW, lX]
   refine hI (i := 9) (v := ?_) rfl ?_ trivial ?_
   rotate_left 1
   ·rintro W _; (try simp only [lA, lS, lZ]); go_simp; try with_reducible rfl
   try simp only [lA, lS, lZ, Act.put, lI, lW, lX]
   refine hU (i := 10) rfl trivial ?_
   try simp only [lA, lS, lZ, Act.put, lI, lW, lX]
   refine hU (i := 11) rfl trivial ?_
   try simp only [lA, lS, lZ, Act.put, lI, lW, lX]
   refine hU (i := 12) rfl trivial ?_
   try simp only [lA, lS, lZ, Act.put, lI, lW, lX]
   refine hU (i := 13) rfl trivial ?_
   try simp only [lA, lS, lZ, Act.put, lI, lW, lX]
   refine hU (i := 14) rfl trivial ?_
   try simp only [lA, lS, lZ, Act.put, lI, lW, lX]
   refine hU (i := 15) rfl trivial ?_
   try simp only [lA, lS, lZ, Act.put, lI, lW, lX]
   refine hU (i := 16) rfl trivial ?_
   try simp only [lA, lS, lZ, Act.put, lI, lW, lX]
   refine hU (i := 17) rfl trivial ?_
   try simp only [lA, lS, lZ, Act.put, lI, lW, lX]
   refine hU (i := 18) rfl trivial ?_
   try simp only [lA, lS, lZ, Act.put, lI, lW, lX]
   refine hU (i := 19) rfl trivial ?_
   try simp only [lA, lS, lZ, Act.put, lI, lW, lX]
   refine hI (i := 20) (v := ?_) rfl ?_ trivial ?_
   rotate_left 1
   ·rintro W _; (try simp only [lA, lS, lZ]); go_simp; try with_reducible rfl
   try simp only [lA, lS, lZ, Act.put, lI, lW, lX]
   refine wpAnyHT_end (by kernel_rfl) ?_
   simp only [List.drop_succ_cons, List.drop_zero]
   go_wp2_with fail
   go_roundw
   case rel => exact ⟨0 + 1, by omega, rfl, by go_num, HK, hid (HFQ.out.drew)⟩
   case measure => simp [intOf] <;> omega
  obtain ⟨u, rfl⟩ : ∃ u, t = u + 1 := ⟨t - 1, by omega⟩
  have i0 : (0 : Int) < (u : Int) + 1 := by omega
  have i1 : (0 : Int) ≤ (u : Int) + 1 := by omega
  have u0 : (0 : Int) ≤ (u : Int) := by omega
  have u1 : (u : Int) < (pn : Int) := by omega
  have uw : IntKind.i64.wrap ((u : Int) + 1 - 1) = (u : Int) := by rw [IntKind.wrap_i64]; omega
  have uw2 : IntKind.i64.wrap (u : Int) = (u : Int) := by rw [IntKind.wrap_i64]; omega
  have hpv := HPV.out (by omega) wq HFR.out
  rw [Nat.add_sub_cancel] at hpv
  clear h0
  have hpd : wq.drew.cell? ⟨g, o + u * 2, none⟩ = some (.string pv) := hpv
  have yd : wq.drew.cell? ⟨b, 7, none⟩ = some (.slice (some ⟨g, o, none⟩) pn pc) := y7
  have qd : wq.drew.cell? ⟨q, 0, none⟩ = some (.string nm) := q0
  by_cases hlb : Op.bytesLess pv.toList nm.toList = true
  case neg =>
   have hlf : Op.bytesLess pv.toList nm.toList = false := by simpa using hlb
   have HK : Hid (¬ PrAt P (u + 1)) := hid (fun h => hlb ((HPR.out.1 h).2.2 (by omega)))
   clear hlb
   refine wp_region_tail (S := fun W => (W.cell? ⟨g, o + u * 2, none⟩ = some (.string pv) ∧ W.cell? ⟨b, 7, none⟩ = some (.slice (some ⟨g, o, none⟩) pn pc) ∧ W.cell? ⟨q, 0, none⟩ = some (.string nm))) 21 22 rfl (by kernel_rfl) (by kernel_rfl) ?_
   refine hI (i := 0) (v := ?_) rfl ?_ ⟨hpd, yd, qd⟩ ?_
   rotate_left 1
   ·rintro W ⟨s1, s2, s3⟩; (try simp only [lA, lZ]); go_simp; try with_reducible rfl
   try simp only [lA, lZ, Act.put, lI, lW, lX]
   refine hI (i := 1) (v := ?_) rfl ?_ ⟨hpd, yd, qd⟩ ?_
   rotate_left 1
   ·rintro W ⟨s1, s2, s3⟩; (try simp only [lA, lS, lZ]); go_simp; try with_reducible rfl
   try simp only [lA, lS, lZ, Act.put, lI, lW, lX]
   refine hI (i := 2) (v := ?_) rfl ?_ ⟨hpd, yd, qd⟩ ?_
   rotate_left 1
   ·rintro W ⟨s1, s2, s3⟩; (try simp only [lA, lS, lZ]); go_simp; try with_reducible rfl
   try simp only [lA, lS, lZ, Act.put, lI, lW, lX]
   refine hI (i := 3) (v := ?_) rfl ?_ ⟨hpd, yd, qd⟩ ?_
   rotate_left 1
   ·rintro W ⟨s1, s2, s3⟩; (try simp only [lA, lS, lZ]); go_simp; try with_reducible rfl
   try simp only [lA, lS, lZ, Act.put, lI, lW, lX]
   refine hI (i := 4) (v := ?_) rfl ?_ ⟨hpd, yd, qd⟩ ?_
   rotate_left 1
   ·rintro W ⟨s1, s2, s3⟩; (try simp only [lA, lS, lZ]); go_simp; try with_reducible rfl
   try simp only [lA, lS, lZ, Act.put, lI, lW, lX]
   refine hI (i := 5) (v := ?_) rfl ?_ ⟨hpd, yd, qd⟩ ?_
   rotate_left 1
   ·rintro W ⟨s1, s2, s3⟩; (try simp only [lA, lS, lZ]); go_simp; try with_reducible rfl
   try simp only [lA, lS, lZ, Act.put, lI, lW, lX]
   refine hI (i := 6) (v := ?_) rfl ?_ ⟨hpd, yd, qd⟩ ?_
   rotate_left 1
   ·rintro W ⟨s1, s2, s3⟩; (try simp only [lA, lS, lZ]); go_simp; try with_reducible rfl
   try simp only [lA, lS, lZ, Act.put, lI, lW, lX]
   refine hI (i := 7) (v := ?_) rfl ?_ ⟨hpd, yd, qd⟩ ?_
   rotate_left 1
   ·rintro W ⟨s1, s2, s3⟩; (try simp only [lA, lS, lZ]); go_simp; try with_reducible rfl
   try simp only [lA, lS, lZ, Act.put, lI, lW, lX]
   refine hI (i := 8) (v := ?_) rfl ?_ ⟨hpd, yd, qd⟩ ?_
   rotate_left 1
   ·rintro W ⟨s1, s2, s3⟩; (try simp only [lA, lS, lZ]); go_simp; try with_reducible rfl
   try simp only [lA, lS, lZ, Act.put, lI, lW, lX]
   refine hI (i := 9) (v := ?_) rfl ?_ ⟨hpd, yd, qd⟩ ?_
   rotate_left 1
   ·rintro W ⟨s1, s2, s3⟩; (try simp only [lA, lS, lZ]); go_simp; try with_reducible rfl
   try simp only [lA, lS, lZ, Act.put, lI, lW, lX]
   refine hI (i := 10) (v := ?_) rfl ?_ ⟨hpd, yd, qd⟩ ?_
   rotate_left 1
   ·rintro W ⟨s1, s2, s3⟩; (try simp only [lA, lS, lZ]); go_simp; try with_reducible rfl
   try simp only [lA, lS, lZ, Act.put, lI, lW, lX]
   refine hI (i := 11) (v := ?_) rfl ?_ ⟨hpd, yd, qd⟩ ?_
   rotate_left 1
   ·rintro W ⟨s1, s2, s3⟩; (try simp only [lA, lS, lZ]); go_simp; try with_reducible rfl
   try simp only [lA, lS, lZ, Act.put, lI, lW, lX]
   refine hI (i := 12) (v := ?_) rfl ?_ ⟨hpd, yd, qd⟩ ?_
   rotate_left 1
   ·rintro W ⟨s1, s2, s3⟩; (try simp only [lA, lS, lZ]); go_simp; try with_reducible rfl
   try simp only [lA, lS, lZ, Act.put, lI, lW, lX]
   refine hI (i := 13) (v := ?_) rfl ?_ ⟨hpd, yd, qd⟩ ?_
   rotate_left 1
   ·rintro W ⟨s1, s2, s3⟩; (try simp only [lA, lS, lZ]); go_simp; try with_reducible rfl
   try simp only [lA, lS, lZ, Act.put, lI, lW, lX]
   refine hI (i := 14) (v := ?_) rfl ?_ ⟨hpd, yd, qd⟩ ?_
   rotate_left 1
   ·rintro W ⟨s1, s2, s3⟩; (try simp only [lA, lS, lZ]); go_simp; try with_reducible rfl
   try simp only [lA, lS, lZ, Act.put, lI, lW, lX]
   refine hI (i := 15) (v := ?_) rfl ?_ ⟨hpd, yd, qd⟩ ?_
   rotate_left 1
   ·rintro W ⟨s1, s2, s3⟩; (try simp only [lA, lS, lZ]); go_simp; try with_reducible rfl
   try simp only [lA, lS, lZ, Act.put, lI, lW, lX]
   refine hI (i := 16) (v := ?_) rfl ?_ ⟨hpd, yd, qd⟩ ?_
   rotate_left 1
   ·rintro W ⟨s1, s2, s3⟩; (try simp only [lA, lS, lZ]); go_simp; try with_reducible rfl
   try simp only [lA, lS, lZ, Act.put, lI, lW, lX]
   refine hI (i := 17) (v := ?_) rfl ?_ ⟨hpd, yd, qd⟩ ?_
   rotate_left 1
   ·rintro W ⟨s1, s2, s3⟩; (try simp only [lA, lS, lZ]); go_simp; try with_reducible rfl
   try simp only [lA, lS, lZ, Act.put, lI, lW, lX]
   refine hI (i := 18) (v := ?_) rfl ?_ ⟨hpd, yd, qd⟩ ?_
   rotate_left 1
   ·rintro W ⟨s1, s2, s3⟩; (try simp only [lA, lS, lZ]); go_simp; try with_reducible rfl
   try simp only [lA, lS, lZ, Act.put, lI, lW, lX]
   refine hI (i := 19) (v := ?_) rfl ?_ ⟨hpd, yd, qd⟩ ?_
   rotate_left 1
   ·rintro W ⟨s1, s2, s3⟩; (try simp only [lA, lS, lZ]); go_simp; try with_reducible rfl
   try simp only [lA, lS, lZ, Act.put, lI, lW, lX]
   refine hI (i := 20) (v := ?_) rfl ?_ ⟨hpd, yd, qd⟩ ?_
   rotate_left 1
   ·rintro W ⟨s1, s2, s3⟩; (try simp only [lA, lS, lZ]); go_simp; try with_reducible rfl
   try simp only [lA, lS, lZ, Act.put, lI, lW, lX]
   refine wpAnyHT_end (by kernel_rfl) ?_
   simp only [List.drop_succ_cons, List.drop_zero]
   go_wp2_with fail
   try go_returns
   exact HP.out _ _ (by simp only [Bool.false_eq_true, false_iff]; exact fun h => HK.out (HBD.out h.2.1)) HFD.out
  have HK := hid (HNX.out (HPR.out.2 ⟨HB1.out.1 rfl, HB2.out.1 rfl, fun _ => hlb⟩))
  refine wp_region_tail (S := fun W => (W.cell? ⟨g, o + u * 2, none⟩ = some (.string pv) ∧ W.cell? ⟨b, 7, none⟩ = some (.slice (some ⟨g, o, none⟩) pn pc) ∧ W.cell? ⟨q, 0, none⟩ = some (.string nm))) 21 22 rfl (by kernel_rfl) (by kernel_rfl) ?_
  refine hI (i := 0) (v := ?_) rfl ?_ ⟨hpd, yd, qd⟩ ?_
  rotate_left 1
  ·rintro W ⟨s1, s2, s3⟩; (try simp only [lA, lZ]); go_simp; try with_reducible rfl
  try simp only [lA, lZ, Act.put, lI, lW, lX]
  refine hI (i := 1) (v := ?_) rfl ?_ ⟨hpd, yd, qd⟩ ?_
  rotate_left 1
  ·rintro W ⟨s1, s2, s3⟩; (try simp only [lA, lS, lZ]); go_simp; try with_reducible rfl
  try simp only [lA, lS, lZ, Act.put, lI, lW, lX]
  refine hI (i := 2) (v := ?_) rfl ?_ ⟨hpd, yd, qd⟩ ?_
  rotate_left 1
  ·rintro W ⟨s1, s2, s3⟩; (try simp only [lA, lS, lZ]); go_simp; try with_reducible rfl
  try simp only [lA, lS, lZ, Act.put, lI, lW, lX]
  refine hI (i := 3) (v := ?_) rfl ?_ ⟨hpd, yd, qd⟩ ?_
  rotate_left 1
  ·rintro W ⟨s1, s2, s3⟩; (try simp only [lA, lS, lZ]); go_simp; try with_reducible rfl
  try simp only [lA, lS, lZ, Act.put, lI, lW, lX]
  refine hI (i := 4) (v := ?_) rfl ?_ ⟨hpd, yd, qd⟩ ?_
  rotate_left 1
  ·rintro W ⟨s1, s2, s3⟩; (try simp only [lA, lS, lZ]); go_simp; try with_reducible rfl
  try simp only [lA, lS, lZ, Act.put, lI, lW, lX]
  refine hI (i := 5) (v := ?_) rfl ?_ ⟨hpd, yd, qd⟩ ?_
  rotate_left 1
  ·rintro W ⟨s1, s2, s3⟩; (try simp only [lA, lS, lZ]); go_simp; try with_reducible rfl
  try simp only [lA, lS, lZ, Act.put, lI, lW, lX]
  refine hI (i := 6) (v := ?_) rfl ?_ ⟨hpd, yd, qd⟩ ?_
  rotate_left 1
  ·rintro W ⟨s1, s2, s3⟩; (try simp only [lA, lS, lZ]); go_simp; try with_reducible rfl
  try simp only [lA, lS, lZ, Act.put, lI, lW, lX]
  refine hI (i := 7) (v := ?_) rfl ?_ ⟨hpd, yd, qd⟩ ?_
  rotate_left 1
  ·rintro W ⟨s1, s2, s3⟩; (try simp only [lA, lS, lZ]); go_simp; try with_reducible rfl
  try simp only [lA, lS, lZ, Act.put, lI, lW, lX]
  refine hI (i := 8) (v := ?_) rfl ?_ ⟨hpd, yd, qd⟩ ?_
  rotate_left 1
  ·rintro W ⟨s1, s2, s3⟩; (try simp only [lA, lS, lZ]); go_simp; try with_reducible rfl
  try simp only [lA, lS, lZ, Act.put, lI, lW, lX]
  refine hI (i := 9) (v := ?_) rfl ?_ ⟨hpd, yd, qd⟩ ?_
  rotate_left 1
  ·rintro W ⟨s1, s2, s3⟩; (try simp only [lA, lS, lZ]); go_simp; try with_reducible rfl
  try simp only [lA, lS, lZ, Act.put, lI, lW, lX]
  refine hI (i := 10) (v := ?_) rfl ?_ ⟨hpd, yd, qd⟩ ?_
  rotate_left 1
  ·rintro W ⟨s1, s2, s3⟩; (try simp only [lA, lS, lZ]); go_simp; try with_reducible rfl
  try simp only [lA, lS, lZ, Act.put, lI, lW, lX]
  refine hI (i := 11) (v := ?_) rfl ?_ ⟨hpd, yd, qd⟩ ?_
  rotate_left 1
  ·rintro W ⟨s1, s2, s3⟩; (try simp only [lA, lS, lZ]); go_simp; try with_reducible rfl
  try simp only [lA, lS, lZ, Act.put, lI, lW, lX]
  refine hI (i := 12) (v := ?_) rfl ?_ ⟨hpd, yd, qd⟩ ?_
  rotate_left 1
  ·rintro W ⟨s1, s2, s3⟩; (try simp only [lA, lS, lZ]); go_simp; try with_reducible rfl
  try simp only [lA, lS, lZ, Act.put, lI, lW, lX]
  refine hI (i := 13) (v := ?_) rfl ?_ ⟨hpd, yd, qd⟩ ?_
  rotate_left 1
  ·rintro W ⟨s1, s2, s3⟩; (try simp only [lA, lS, lZ]); go_simp; try with_reducible rfl
  try simp only [lA, lS, lZ, Act.put, lI, lW, lX]
  refine hI (i := 14) (v := ?_) rfl ?_ ⟨hpd, yd, qd⟩ ?_
  rotate_left 1
  ·rintro W ⟨s1, s2, s3⟩; (try simp only [lA, lS, lZ]); go_simp; try with_reducible rfl
  try simp only [lA, lS, lZ, Act.put, lI, lW, lX]
  refine hI (i := 15) (v := ?_) rfl ?_ ⟨hpd, yd, qd⟩ ?_
  rotate_left 1
  ·rintro W ⟨s1, s2, s3⟩; (try simp only [lA, lS, lZ]); go_simp; try with_reducible rfl
  try simp only [lA, lS, lZ, Act.put, lI, lW, lX]
  refine hI (i := 16) (v := ?_) rfl ?_ ⟨hpd, yd, qd⟩ ?_
  rotate_left 1
  ·rintro W ⟨s1, s2, s3⟩; (try simp only [lA, lS, lZ]); go_simp; try with_reducible rfl
  try simp only [lA, lS, lZ, Act.put, lI, lW, lX]
  refine hI (i := 17) (v := ?_) rfl ?_ ⟨hpd, yd, qd⟩ ?_
  rotate_left 1
  ·rintro W ⟨s1, s2, s3⟩; (try simp only [lA, lS, lZ]); go_simp; try with_reducible rfl
  try simp only [lA, lS, lZ, Act.put, lI, lW, lX]
  refine hI (i := 18) (v := ?_) rfl ?_ ⟨hpd, yd, qd⟩ ?_
  rotate_left 1
  ·rintro W ⟨s1, s2, s3⟩; (try simp only [lA, lS, lZ]); go_simp; try with_reducible rfl
  try simp only [lA, lS, lZ, Act.put, lI, lW, lX]
  refine hI (i := 19) (v := ?_) rfl ?_ ⟨hpd, yd, qd⟩ ?_
  rotate_left 1
  ·rintro W ⟨s1, s2, s3⟩; (try simp only [lA, lS, lZ]); go_simp; try with_reducible rfl
  try simp only [lA, lS, lZ, Act.put, lI, lW, lX]
  refine hI (i := 20) (v := ?_) rfl ?_ ⟨hpd, yd, qd⟩ ?_
  rotate_left 1
  ·rintro W ⟨s1, s2, s3⟩; (try simp only [lA, lS, lZ]); go_simp; try with_reducible rfl
  try simp only [lA, lS, lZ, Act.put, lI, lW, lX]
  refine wpAnyHT_end (by kernel_rfl) ?_
  simp only [List.drop_succ_cons, List.drop_zero]
  go_wp2_with fail
  go_roundw
  case rel => exact ⟨u + 1 + 1, by omega, rfl, by go_num, HK, hid (HFQ.out.drew)⟩
  case measure => simp [intOf] <;> omega
end
section
open Go.RowKit Go.Lib
def PvOk (P : List Pr) : Prop := ∀ i, i < P.length → (prA P i).2.size ≤ 9223372036854775807
theorem refCheck_1 (r : Rc) (P : List Pr) (K D : List Int) (w : World) (hr : RcOk w r P K D) (hs : r.name.size ≤ 140737488355328) (_hv : PvOk P) (hkd : r.kind = 1) :
  Calls Tryz.prog 13 #[.agg r.arr] w fun e w' => e = .returned (.int .i64 (if RcMay r P K D then 0 else 200)) ∧ Frm [] w w' := by
 obtain ⟨PO, hPO⟩ : ∃ PO : Ending → World → Prop, (fun e w' => e = .returned (.int .i64 (if RcMay r P K D then 0 else 200)) ∧ Frm [] w w') = PO := ⟨_, rfl⟩
 rw [hPO]
 have HP0 : Hid (∀ w', RcMay r P K D → Frm [] w w' → PO (.returned (.int .i64 0)) w') := hid (fun w' h h2 => by rw [← hPO]; exact ⟨by rw [if_pos h], h2⟩)
 have HP1 : Hid (∀ w', ¬ RcMay r P K D → Frm [] w w' → PO (.returned (.int .i64 200)) w') := hid (fun w' h h2 => by rw [← hPO]; exact ⟨by rw [if_neg h], h2⟩)
 obtain ⟨wb, hwb⟩ := eX (w.alloc (.cells r.arr 26))
 have hrow := heap_alloc_new w (.cells r.arr 26)
 have hfb : Frm [] w wb := by rw [← hwb]; exact (Frm.refl _ _).alloc _
 obtain ⟨b, hb⟩ := eX (w.heap.size)
 rw [hwb, hb] at hrow
 have HX := hid (fun V (hf : Frm [] wb V) => rc_cells (hf.heap hrow (by simp)))
 have HFB := hid hfb
 have HWB := hid hwb
 have HB := hid hb
 have HON := hid (fun W => refOnly_any r 3 (by omega) W)
 obtain ⟨B, hB⟩ : ∃ B, decide (sumB (fldB r) 12 ||| 3 = 3) = B := ⟨_, rfl⟩
 rw [hB] at HON
 have hMY : RcMay r P K D ↔ MayPk r ∧ B = true := by rw [rcMay_1 P K D hkd, ← onlyR_3 r P K D hr.pl hr.kl hr.dn, ← hB, decide_eq_true_iff]
 have HB1C := hid (fun W => refPart_any r.name W)
 obtain ⟨B1, hB1⟩ := eX (decide (PartL (tx r.name)))
 rw [hB1] at HB1C
 have HB1 : Hid (B1 = true ↔ PartL (tx r.name)) := hid (by rw [← hB1]; exact decide_eq_true_iff)
 clear hB1
 unfold MayPk at hMY
 have HMY := hid hMY
 clear hPO hwb hrow hfb hb hr hB hMY
 obtain ⟨kind, name, typ, frm, guid, origin, snap, pp, pn, pc, obj, at_, many, kp, kn, kc, dp, dl, dc⟩ := r
 simp only at hkd
 subst hkd
 unfold Rc.arr at HWB HON ⊢
 simp only at HX HWB HON HMY HB1C HB1 hs ⊢
 go_enter Tryz.func13, Tryz.ntmps13
 go_upto_region 2 with fail
 try rw [HB.out]
 try rw [HWB.out]
 clear HB HWB
 obtain ⟨x0, x1, x2, x3, x4, x5, x6, x7, x8, x9, x10, x11, x12⟩ := HX.out wb (Frm.refl _ _)
 go_cut [4] from 5 to 12 (fun v wx => ∃ x, v = .bool x ∧ (x = true ↔ (1 ≤ obj ∧ obj ≤ 1048576)) ∧ wx = wb)
 case first =>
  by_cases c0 : 1 ≤ obj
  case neg =>
   have HK : Hid (¬ (1 ≤ obj ∧ obj ≤ 1048576)) := hid (by omega)
   go_wp2_with fail
   go_meet
   case rel => exact ⟨false, rfl, ⟨fun h => by simp at h, fun h => absurd h HK.out⟩, rfl⟩
  by_cases c1 : obj ≤ 1048576
  case neg =>
   have HK : Hid (¬ (1 ≤ obj ∧ obj ≤ 1048576)) := hid (by omega)
   go_wp2_with fail
   go_meet
   case rel => exact ⟨false, rfl, ⟨fun h => by simp at h, fun h => absurd h HK.out⟩, rfl⟩
  have HK : Hid (1 ≤ obj ∧ obj ≤ 1048576) := hid ⟨c0, c1⟩
  go_wp2_with fail
  go_meet
  case rel => exact ⟨true, rfl, ⟨fun _ => HK.out, fun _ => rfl⟩, rfl⟩
 obtain ⟨OB, rfl, hx, rfl⟩ := hcut
 have HOB := hid hx
 clear hx
 generalize wc = w0 at *
 obtain ⟨x0, x1, x2, x3, x4, x5, x6, x7, x8, x9, x10, x11, x12⟩ := HX.out w0 (Frm.refl _ _)
 go_wp2_with fail
 refine (HON.out _).mono ?_
 rintro e w1 ⟨rfl, hf1⟩
 have HF1 := hid hf1
 have HFF : Hid (Frm [] w w1) := hid (HFB.out.trans hf1 (by simp))
 clear hf1 x0 x1 x2 x3 x4 x5 x6 x7 x8 x9 x10 x11 x12
 obtain ⟨x0, x1, x2, x3, x4, x5, x6, x7, x8, x9, x10, x11, x12⟩ := HX.out w1 HF1.out
 cases B with
 | false =>
  go_wp2_with fail
  try go_returns
  exact HP1.out _ (by rw [HMY.out]; exact fun h => absurd h.2 (by simp)) HFF.out
 | true =>
 go_wp2_with fail
 refine (HB1C.out _).mono ?_
 rintro e w2 ⟨rfl, rfl⟩
 cases B1 with
 | false =>
  go_wp2_with fail
  try go_returns
  exact HP1.out _ (by rw [HMY.out]; exact fun h => absurd (HB1.out.2 h.1.1) (by simp)) HFF.out
 | true =>
 by_cases c2 : 1 ≤ many
 case neg =>
  have HK := hid c2
  have dk := decide_eq_false c2
  go_wp2_with fail
  try go_returns
  exact HP1.out _ (by rw [HMY.out]; exact fun h => absurd h.1.2.1 (by have := HK.out; omega)) HFF.out
 have Hc2 := hid c2
 by_cases c3 : many ≤ 120
 case neg =>
  have HK := hid c3
  have dk := decide_eq_false c3
  go_wp2_with fail
  try go_returns
  exact HP1.out _ (by rw [HMY.out]; exact fun h => absurd h.1.2.2 (by have := HK.out; omega)) HFF.out
 have Hc3 := hid c3
 go_wp2_with fail
 try go_returns
 exact HP0.out _ (by rw [HMY.out]; exact ⟨⟨HB1.out.1 (by trivial), Hc2.out, Hc3.out⟩, by trivial⟩) HFF.out
theorem refCheck_2 (r : Rc) (P : List Pr) (K D : List Int) (w : World) (hr : RcOk w r P K D) (hs : r.name.size ≤ 140737488355328) (hv : PvOk P) (hkd : r.kind = 2) :
  Calls Tryz.prog 13 #[.agg r.arr] w fun e w' => e = .returned (.int .i64 (if RcMay r P K D then 0 else 200)) ∧ Frm [] w w' := by
 obtain ⟨PO, hPO⟩ : ∃ PO : Ending → World → Prop, (fun e w' => e = .returned (.int .i64 (if RcMay r P K D then 0 else 200)) ∧ Frm [] w w') = PO := ⟨_, rfl⟩
 rw [hPO]
 have HP0 : Hid (∀ w', RcMay r P K D → Frm [] w w' → PO (.returned (.int .i64 0)) w') := hid (fun w' h h2 => by rw [← hPO]; exact ⟨by rw [if_pos h], h2⟩)
 have HP1 : Hid (∀ w', ¬ RcMay r P K D → Frm [] w w' → PO (.returned (.int .i64 200)) w') := hid (fun w' h h2 => by rw [← hPO]; exact ⟨by rw [if_neg h], h2⟩)
 obtain ⟨wb, hwb⟩ := eX (w.alloc (.cells r.arr 26))
 have hrow := heap_alloc_new w (.cells r.arr 26)
 have hfb : Frm [] w wb := by rw [← hwb]; exact (Frm.refl _ _).alloc _
 obtain ⟨b, hb⟩ := eX (w.heap.size)
 rw [hwb, hb] at hrow
 have HX := hid (fun V (hf : Frm [] wb V) => rc_cells (hf.heap hrow (by simp)))
 have HFB := hid hfb
 have HWB := hid hwb
 have HB := hid hb
 have HON := hid (fun W => refOnly_any r 253 (by omega) W)
 obtain ⟨B, hB⟩ : ∃ B, decide (sumB (fldB r) 12 ||| 253 = 253) = B := ⟨_, rfl⟩
 rw [hB] at HON
 have hMY : RcMay r P K D ↔ MayBg r P ∧ B = true := by rw [rcMay_2 P K D hkd, ← onlyR_253 r P K D hr.kl hr.dn, ← hB, decide_eq_true_iff]
 have HB1C := hid (fun W (hf : Frm [] w W) => refBegin_any r P W (hr.pr.kept hf (by simp)) hr.pl hr.mx.1 hs hv)
 obtain ⟨B1, hB1⟩ := eX (decide (MayBg r P))
 rw [hB1] at HB1C
 have HB1 : Hid (B1 = true ↔ MayBg r P) := hid (by rw [← hB1]; exact decide_eq_true_iff)
 clear hB1
 have HMY := hid hMY
 clear hPO hwb hrow hfb hb hr hv hB hMY
 obtain ⟨kind, name, typ, frm, guid, origin, snap, pp, pn, pc, obj, at_, many, kp, kn, kc, dp, dl, dc⟩ := r
 simp only at hkd
 subst hkd
 unfold Rc.arr at HWB HON HB1C ⊢
 simp only at HX HWB HON HMY HB1C HB1 hs ⊢
 go_enter Tryz.func13, Tryz.ntmps13
 go_upto_region 2 with fail
 try rw [HB.out]
 try rw [HWB.out]
 clear HB HWB
 obtain ⟨x0, x1, x2, x3, x4, x5, x6, x7, x8, x9, x10, x11, x12⟩ := HX.out wb (Frm.refl _ _)
 go_cut [4] from 5 to 12 (fun v wx => ∃ x, v = .bool x ∧ (x = true ↔ (1 ≤ obj ∧ obj ≤ 1048576)) ∧ wx = wb)
 case first =>
  by_cases c0 : 1 ≤ obj
  case neg =>
   have HK : Hid (¬ (1 ≤ obj ∧ obj ≤ 1048576)) := hid (by omega)
   go_wp2_with fail
   go_meet
   case rel => exact ⟨false, rfl, ⟨fun h => by simp at h, fun h => absurd h HK.out⟩, rfl⟩
  by_cases c1 : obj ≤ 1048576
  case neg =>
   have HK : Hid (¬ (1 ≤ obj ∧ obj ≤ 1048576)) := hid (by omega)
   go_wp2_with fail
   go_meet
   case rel => exact ⟨false, rfl, ⟨fun h => by simp at h, fun h => absurd h HK.out⟩, rfl⟩
  have HK : Hid (1 ≤ obj ∧ obj ≤ 1048576) := hid ⟨c0, c1⟩
  go_wp2_with fail
  go_meet
  case rel => exact ⟨true, rfl, ⟨fun _ => HK.out, fun _ => rfl⟩, rfl⟩
 obtain ⟨OB, rfl, hx, rfl⟩ := hcut
 have HOB := hid hx
 clear hx
 generalize wc = w0 at *
 obtain ⟨x0, x1, x2, x3, x4, x5, x6, x7, x8, x9, x10, x11, x12⟩ := HX.out w0 (Frm.refl _ _)
 go_wp2_with fail
 refine (HON.out _).mono ?_
 rintro e w1 ⟨rfl, hf1⟩
 have HF1 := hid hf1
 have HFF : Hid (Frm [] w w1) := hid (HFB.out.trans hf1 (by simp))
 clear hf1 x0 x1 x2 x3 x4 x5 x6 x7 x8 x9 x10 x11 x12
 obtain ⟨x0, x1, x2, x3, x4, x5, x6, x7, x8, x9, x10, x11, x12⟩ := HX.out w1 HF1.out
 cases B with
 | false =>
  go_wp2_with fail
  try go_returns
  exact HP1.out _ (by rw [HMY.out]; exact fun h => absurd h.2 (by simp)) HFF.out
 | true =>
 go_wp2_with fail
 refine (HB1C.out _ HFF.out).mono ?_
 rintro e w2 ⟨rfl, hf2⟩
 have HF2 : Hid (Frm [] w w2) := hid (HFF.out.trans hf2 (by simp))
 have HX2 := hid (HX.out w2 (HF1.out.trans hf2 (by simp)))
 clear hf2 x0 x1 x2 x3 x4 x5 x6 x7 x8 x9 x10 x11 x12
 obtain ⟨x0, x1, x2, x3, x4, x5, x6, x7, x8, x9, x10, x11, x12⟩ := HX2.out
 cases B1 with
 | false =>
  go_wp2_with fail
  try go_returns
  exact HP1.out _ (by rw [HMY.out]; exact fun h => absurd (HB1.out.2 h.1) (by simp)) HF2.out
 | true =>
 go_wp2_with fail
 try go_returns
 exact HP0.out _ (by rw [HMY.out]; exact ⟨HB1.out.1 (by trivial), by trivial⟩) HF2.out
theorem refCheck_3 (r : Rc) (P : List Pr) (K D : List Int) (w : World) (hr : RcOk w r P K D) (hs : r.name.size ≤ 140737488355328) (_hv : PvOk P) (hkd : r.kind = 3) :
  Calls Tryz.prog 13 #[.agg r.arr] w fun e w' => e = .returned (.int .i64 (if RcMay r P K D then 0 else 200)) ∧ Frm [] w w' := by
 obtain ⟨PO, hPO⟩ : ∃ PO : Ending → World → Prop, (fun e w' => e = .returned (.int .i64 (if RcMay r P K D then 0 else 200)) ∧ Frm [] w w') = PO := ⟨_, rfl⟩
 rw [hPO]
 have HP0 : Hid (∀ w', RcMay r P K D → Frm [] w w' → PO (.returned (.int .i64 0)) w') := hid (fun w' h h2 => by rw [← hPO]; exact ⟨by rw [if_pos h], h2⟩)
 have HP1 : Hid (∀ w', ¬ RcMay r P K D → Frm [] w w' → PO (.returned (.int .i64 200)) w') := hid (fun w' h h2 => by rw [← hPO]; exact ⟨by rw [if_neg h], h2⟩)
 obtain ⟨wb, hwb⟩ := eX (w.alloc (.cells r.arr 26))
 have hrow := heap_alloc_new w (.cells r.arr 26)
 have hfb : Frm [] w wb := by rw [← hwb]; exact (Frm.refl _ _).alloc _
 obtain ⟨b, hb⟩ := eX (w.heap.size)
 rw [hwb, hb] at hrow
 have HX := hid (fun V (hf : Frm [] wb V) => rc_cells (hf.heap hrow (by simp)))
 have HFB := hid hfb
 have HWB := hid hwb
 have HB := hid hb
 have HON := hid (fun W => refOnly_any r 1024 (by omega) W)
 obtain ⟨B, hB⟩ : ∃ B, decide (sumB (fldB r) 12 ||| 1024 = 1024) = B := ⟨_, rfl⟩
 rw [hB] at HON
 have hMY : RcMay r P K D ↔ MayLv r K ∧ B = true := by rw [rcMay_3 P K D hkd, ← onlyR_1024 r P K D hr.pl hr.dn, ← hB, decide_eq_true_iff]
 have HB1C := hid (fun W (hf : Frm [] w W) => refRising_any r.kp r.kn r.kc K (1) (1048576) W hr.kl hr.mx.2 (hr.kr.kept hf (by simp)))
 obtain ⟨B1, hB1⟩ := eX (decide (RiseL K 1 1048576 ∧ r.kn ≤ 240))
 rw [hB1] at HB1C
 have HB1 : Hid (B1 = true ↔ RiseL K 1 1048576 ∧ r.kn ≤ 240) := hid (by rw [← hB1]; exact decide_eq_true_iff)
 clear hB1
 unfold MayLv at hMY
 have HMY := hid hMY
 clear hPO hwb hrow hfb hb hr hB hMY
 obtain ⟨kind, name, typ, frm, guid, origin, snap, pp, pn, pc, obj, at_, many, kp, kn, kc, dp, dl, dc⟩ := r
 simp only at hkd
 subst hkd
 unfold Rc.arr at HWB HON ⊢
 simp only at HX HWB HON HMY HB1C HB1 hs ⊢
 go_enter Tryz.func13, Tryz.ntmps13
 go_upto_region 2 with fail
 try rw [HB.out]
 try rw [HWB.out]
 clear HB HWB
 obtain ⟨x0, x1, x2, x3, x4, x5, x6, x7, x8, x9, x10, x11, x12⟩ := HX.out wb (Frm.refl _ _)
 go_cut [4] from 5 to 12 (fun v wx => ∃ x, v = .bool x ∧ (x = true ↔ (1 ≤ obj ∧ obj ≤ 1048576)) ∧ wx = wb)
 case first =>
  by_cases c0 : 1 ≤ obj
  case neg =>
   have HK : Hid (¬ (1 ≤ obj ∧ obj ≤ 1048576)) := hid (by omega)
   go_wp2_with fail
   go_meet
   case rel => exact ⟨false, rfl, ⟨fun h => by simp at h, fun h => absurd h HK.out⟩, rfl⟩
  by_cases c1 : obj ≤ 1048576
  case neg =>
   have HK : Hid (¬ (1 ≤ obj ∧ obj ≤ 1048576)) := hid (by omega)
   go_wp2_with fail
   go_meet
   case rel => exact ⟨false, rfl, ⟨fun h => by simp at h, fun h => absurd h HK.out⟩, rfl⟩
  have HK : Hid (1 ≤ obj ∧ obj ≤ 1048576) := hid ⟨c0, c1⟩
  go_wp2_with fail
  go_meet
  case rel => exact ⟨true, rfl, ⟨fun _ => HK.out, fun _ => rfl⟩, rfl⟩
 obtain ⟨OB, rfl, hx, rfl⟩ := hcut
 have HOB := hid hx
 clear hx
 generalize wc = w0 at *
 obtain ⟨x0, x1, x2, x3, x4, x5, x6, x7, x8, x9, x10, x11, x12⟩ := HX.out w0 (Frm.refl _ _)
 go_wp2_with fail
 refine (HON.out _).mono ?_
 rintro e w1 ⟨rfl, hf1⟩
 have HF1 := hid hf1
 have HFF : Hid (Frm [] w w1) := hid (HFB.out.trans hf1 (by simp))
 clear hf1 x0 x1 x2 x3 x4 x5 x6 x7 x8 x9 x10 x11 x12
 obtain ⟨x0, x1, x2, x3, x4, x5, x6, x7, x8, x9, x10, x11, x12⟩ := HX.out w1 HF1.out
 cases B with
 | false =>
  go_wp2_with fail
  try go_returns
  exact HP1.out _ (by rw [HMY.out]; exact fun h => absurd h.2 (by simp)) HFF.out
 | true =>
 go_wp2_with fail
 refine (HB1C.out _ HFF.out).mono ?_
 rintro e w2 ⟨rfl, hf2⟩
 have HF2 : Hid (Frm [] w w2) := hid (HFF.out.trans hf2 (by simp))
 have HX2 := hid (HX.out w2 (HF1.out.trans hf2 (by simp)))
 clear hf2 x0 x1 x2 x3 x4 x5 x6 x7 x8 x9 x10 x11 x12
 obtain ⟨x0, x1, x2, x3, x4, x5, x6, x7, x8, x9, x10, x11, x12⟩ := HX2.out
 cases B1 with
 | false =>
  go_wp2_with fail
  try go_returns
  exact HP1.out _ (by rw [HMY.out]; exact fun h => absurd (HB1.out.2 ⟨h.1.2, h.1.1⟩) (by simp)) HF2.out
 | true =>
 go_wp2_with fail
 try go_returns
 exact HP0.out _ (by rw [HMY.out]; exact ⟨⟨(HB1.out.1 (by trivial)).2, (HB1.out.1 (by trivial)).1⟩, by trivial⟩) HF2.out
theorem refCheck_4 (r : Rc) (P : List Pr) (K D : List Int) (w : World) (hr : RcOk w r P K D) (hs : r.name.size ≤ 140737488355328) (_hv : PvOk P) (hkd : r.kind = 4) :
  Calls Tryz.prog 13 #[.agg r.arr] w fun e w' => e = .returned (.int .i64 (if RcMay r P K D then 0 else 200)) ∧ Frm [] w w' := by
 obtain ⟨PO, hPO⟩ : ∃ PO : Ending → World → Prop, (fun e w' => e = .returned (.int .i64 (if RcMay r P K D then 0 else 200)) ∧ Frm [] w w') = PO := ⟨_, rfl⟩
 rw [hPO]
 have HP0 : Hid (∀ w', RcMay r P K D → Frm [] w w' → PO (.returned (.int .i64 0)) w') := hid (fun w' h h2 => by rw [← hPO]; exact ⟨by rw [if_pos h], h2⟩)
 have HP1 : Hid (∀ w', ¬ RcMay r P K D → Frm [] w w' → PO (.returned (.int .i64 200)) w') := hid (fun w' h h2 => by rw [← hPO]; exact ⟨by rw [if_neg h], h2⟩)
 obtain ⟨wb, hwb⟩ := eX (w.alloc (.cells r.arr 26))
 have hrow := heap_alloc_new w (.cells r.arr 26)
 have hfb : Frm [] w wb := by rw [← hwb]; exact (Frm.refl _ _).alloc _
 obtain ⟨b, hb⟩ := eX (w.heap.size)
 rw [hwb, hb] at hrow
 have HX := hid (fun V (hf : Frm [] wb V) => rc_cells (hf.heap hrow (by simp)))
 have HFB := hid hfb
 have HWB := hid hwb
 have HB := hid hb
 have HON := hid (fun W => refOnly_any r 1280 (by omega) W)
 obtain ⟨B, hB⟩ : ∃ B, decide (sumB (fldB r) 12 ||| 1280 = 1280) = B := ⟨_, rfl⟩
 rw [hB] at HON
 have hMY : RcMay r P K D ↔ MayNd r K ∧ B = true := by rw [rcMay_4 P K D hkd, ← onlyR_1280 r P K D hr.pl hr.dn, ← hB, decide_eq_true_iff]
 have HB1C := hid (fun W (hf : Frm [] w W) => refRising_any r.kp r.kn r.kc K (-1) (255) W hr.kl hr.mx.2 (hr.kr.kept hf (by simp)))
 obtain ⟨B1, hB1⟩ := eX (decide (RiseL K (-1) 255 ∧ r.kn ≤ 240))
 rw [hB1] at HB1C
 have HB1 : Hid (B1 = true ↔ RiseL K (-1) 255 ∧ r.kn ≤ 240) := hid (by rw [← hB1]; exact decide_eq_true_iff)
 clear hB1
 unfold MayNd at hMY
 have HMY := hid hMY
 clear hPO hwb hrow hfb hb hr hB hMY
 obtain ⟨kind, name, typ, frm, guid, origin, snap, pp, pn, pc, obj, at_, many, kp, kn, kc, dp, dl, dc⟩ := r
 simp only at hkd
 subst hkd
 unfold Rc.arr at HWB HON ⊢
 simp only at HX HWB HON HMY HB1C HB1 hs ⊢
 go_enter Tryz.func13, Tryz.ntmps13
 go_upto_region 2 with fail
 try rw [HB.out]
 try rw [HWB.out]
 clear HB HWB
 obtain ⟨x0, x1, x2, x3, x4, x5, x6, x7, x8, x9, x10, x11, x12⟩ := HX.out wb (Frm.refl _ _)
 go_cut [4] from 5 to 12 (fun v wx => ∃ x, v = .bool x ∧ (x = true ↔ (1 ≤ obj ∧ obj ≤ 1048576)) ∧ wx = wb)
 case first =>
  by_cases c0 : 1 ≤ obj
  case neg =>
   have HK : Hid (¬ (1 ≤ obj ∧ obj ≤ 1048576)) := hid (by omega)
   go_wp2_with fail
   go_meet
   case rel => exact ⟨false, rfl, ⟨fun h => by simp at h, fun h => absurd h HK.out⟩, rfl⟩
  by_cases c1 : obj ≤ 1048576
  case neg =>
   have HK : Hid (¬ (1 ≤ obj ∧ obj ≤ 1048576)) := hid (by omega)
   go_wp2_with fail
   go_meet
   case rel => exact ⟨false, rfl, ⟨fun h => by simp at h, fun h => absurd h HK.out⟩, rfl⟩
  have HK : Hid (1 ≤ obj ∧ obj ≤ 1048576) := hid ⟨c0, c1⟩
  go_wp2_with fail
  go_meet
  case rel => exact ⟨true, rfl, ⟨fun _ => HK.out, fun _ => rfl⟩, rfl⟩
 obtain ⟨OB, rfl, hx, rfl⟩ := hcut
 have HOB := hid hx
 clear hx
 generalize wc = w0 at *
 obtain ⟨x0, x1, x2, x3, x4, x5, x6, x7, x8, x9, x10, x11, x12⟩ := HX.out w0 (Frm.refl _ _)
 go_wp2_with fail
 refine (HON.out _).mono ?_
 rintro e w1 ⟨rfl, hf1⟩
 have HF1 := hid hf1
 have HFF : Hid (Frm [] w w1) := hid (HFB.out.trans hf1 (by simp))
 clear hf1 x0 x1 x2 x3 x4 x5 x6 x7 x8 x9 x10 x11 x12
 obtain ⟨x0, x1, x2, x3, x4, x5, x6, x7, x8, x9, x10, x11, x12⟩ := HX.out w1 HF1.out
 cases B with
 | false =>
  go_wp2_with fail
  try go_returns
  exact HP1.out _ (by rw [HMY.out]; exact fun h => absurd h.2 (by simp)) HFF.out
 | true =>
 cases OB with
 | false =>
  go_wp2_with fail
  try go_returns
  exact HP1.out _ (by rw [HMY.out]; exact fun h => absurd (HOB.out.2 h.1.1) (by simp)) HFF.out
 | true =>
 have HO1 := hid (HOB.out.1 rfl)
 by_cases c2 : (1 : Int) ≤ (kn : Int)
 case neg =>
  have HK := hid c2
  have dk := decide_eq_false c2
  go_wp2_with fail
  try go_returns
  exact HP1.out _ (by rw [HMY.out]; exact fun h => absurd h.1.2.1.1 (by have := HK.out; omega)) HFF.out
 have Hc2 := hid c2
 go_wp2_with fail
 refine (HB1C.out _ HFF.out).mono ?_
 rintro e w2 ⟨rfl, hf2⟩
 have HF2 : Hid (Frm [] w w2) := hid (HFF.out.trans hf2 (by simp))
 have HX2 := hid (HX.out w2 (HF1.out.trans hf2 (by simp)))
 clear hf2 x0 x1 x2 x3 x4 x5 x6 x7 x8 x9 x10 x11 x12
 obtain ⟨x0, x1, x2, x3, x4, x5, x6, x7, x8, x9, x10, x11, x12⟩ := HX2.out
 cases B1 with
 | false =>
  go_wp2_with fail
  try go_returns
  exact HP1.out _ (by rw [HMY.out]; exact fun h => absurd (HB1.out.2 ⟨h.1.2.2, by have := h.1.2.1.2; omega⟩) (by simp)) HF2.out
 | true =>
 go_wp2_with fail
 try go_returns
 exact HP0.out _ (by rw [HMY.out]; exact ⟨⟨HO1.out, ⟨Hc2.out, by have := (HB1.out.1 (by trivial)).2; omega⟩, (HB1.out.1 (by trivial)).1⟩, by trivial⟩) HF2.out
theorem refCheck_5 (r : Rc) (P : List Pr) (K D : List Int) (w : World) (hr : RcOk w r P K D) (hs : r.name.size ≤ 140737488355328) (_hv : PvOk P) (hkd : r.kind = 5) :
  Calls Tryz.prog 13 #[.agg r.arr] w fun e w' => e = .returned (.int .i64 (if RcMay r P K D then 0 else 200)) ∧ Frm [] w w' := by
 obtain ⟨PO, hPO⟩ : ∃ PO : Ending → World → Prop, (fun e w' => e = .returned (.int .i64 (if RcMay r P K D then 0 else 200)) ∧ Frm [] w w') = PO := ⟨_, rfl⟩
 rw [hPO]
 have HP0 : Hid (∀ w', RcMay r P K D → Frm [] w w' → PO (.returned (.int .i64 0)) w') := hid (fun w' h h2 => by rw [← hPO]; exact ⟨by rw [if_pos h], h2⟩)
 have HP1 : Hid (∀ w', ¬ RcMay r P K D → Frm [] w w' → PO (.returned (.int .i64 200)) w') := hid (fun w' h h2 => by rw [← hPO]; exact ⟨by rw [if_neg h], h2⟩)
 obtain ⟨wb, hwb⟩ := eX (w.alloc (.cells r.arr 26))
 have hrow := heap_alloc_new w (.cells r.arr 26)
 have hfb : Frm [] w wb := by rw [← hwb]; exact (Frm.refl _ _).alloc _
 obtain ⟨b, hb⟩ := eX (w.heap.size)
 rw [hwb, hb] at hrow
 have HX := hid (fun V (hf : Frm [] wb V) => rc_cells (hf.heap hrow (by simp)))
 have HFB := hid hfb
 have HWB := hid hwb
 have HB := hid hb
 have HON := hid (fun W => refOnly_any r 2816 (by omega) W)
 obtain ⟨B, hB⟩ : ∃ B, decide (sumB (fldB r) 12 ||| 2816 = 2816) = B := ⟨_, rfl⟩
 rw [hB] at HON
 have hMY : RcMay r P K D ↔ MayWr r ∧ B = true := by rw [rcMay_5 P K D hkd, ← onlyR_2816 r P K D hr.pl hr.kl, ← hB, decide_eq_true_iff]
 unfold MayWr at hMY
 have HMY := hid hMY
 clear hPO hwb hrow hfb hb hr hB hMY
 obtain ⟨kind, name, typ, frm, guid, origin, snap, pp, pn, pc, obj, at_, many, kp, kn, kc, dp, dl, dc⟩ := r
 simp only at hkd
 subst hkd
 unfold Rc.arr at HWB HON ⊢
 simp only at HX HWB HON HMY hs ⊢
 go_enter Tryz.func13, Tryz.ntmps13
 go_upto_region 2 with fail
 try rw [HB.out]
 try rw [HWB.out]
 clear HB HWB
 obtain ⟨x0, x1, x2, x3, x4, x5, x6, x7, x8, x9, x10, x11, x12⟩ := HX.out wb (Frm.refl _ _)
 go_cut [4] from 5 to 12 (fun v wx => ∃ x, v = .bool x ∧ (x = true ↔ (1 ≤ obj ∧ obj ≤ 1048576)) ∧ wx = wb)
 case first =>
  by_cases c0 : 1 ≤ obj
  case neg =>
   have HK : Hid (¬ (1 ≤ obj ∧ obj ≤ 1048576)) := hid (by omega)
   go_wp2_with fail
   go_meet
   case rel => exact ⟨false, rfl, ⟨fun h => by simp at h, fun h => absurd h HK.out⟩, rfl⟩
  by_cases c1 : obj ≤ 1048576
  case neg =>
   have HK : Hid (¬ (1 ≤ obj ∧ obj ≤ 1048576)) := hid (by omega)
   go_wp2_with fail
   go_meet
   case rel => exact ⟨false, rfl, ⟨fun h => by simp at h, fun h => absurd h HK.out⟩, rfl⟩
  have HK : Hid (1 ≤ obj ∧ obj ≤ 1048576) := hid ⟨c0, c1⟩
  go_wp2_with fail
  go_meet
  case rel => exact ⟨true, rfl, ⟨fun _ => HK.out, fun _ => rfl⟩, rfl⟩
 obtain ⟨OB, rfl, hx, rfl⟩ := hcut
 have HOB := hid hx
 clear hx
 generalize wc = w0 at *
 obtain ⟨x0, x1, x2, x3, x4, x5, x6, x7, x8, x9, x10, x11, x12⟩ := HX.out w0 (Frm.refl _ _)
 go_wp2_with fail
 refine (HON.out _).mono ?_
 rintro e w1 ⟨rfl, hf1⟩
 have HF1 := hid hf1
 have HFF : Hid (Frm [] w w1) := hid (HFB.out.trans hf1 (by simp))
 clear hf1 x0 x1 x2 x3 x4 x5 x6 x7 x8 x9 x10 x11 x12
 obtain ⟨x0, x1, x2, x3, x4, x5, x6, x7, x8, x9, x10, x11, x12⟩ := HX.out w1 HF1.out
 cases B with
 | false =>
  go_wp2_with fail
  try go_returns
  exact HP1.out _ (by rw [HMY.out]; exact fun h => absurd h.2 (by simp)) HFF.out
 | true =>
 cases OB with
 | false =>
  go_wp2_with fail
  try go_returns
  exact HP1.out _ (by rw [HMY.out]; exact fun h => absurd (HOB.out.2 h.1.1) (by simp)) HFF.out
 | true =>
 have HO1 := hid (HOB.out.1 rfl)
 by_cases c2 : -1 ≤ at_
 case neg =>
  have HK := hid c2
  have dk := decide_eq_false c2
  go_wp2_with fail
  try go_returns
  exact HP1.out _ (by rw [HMY.out]; exact fun h => absurd h.1.2.1.1 (by have := HK.out; omega)) HFF.out
 have Hc2 := hid c2
 by_cases c3 : at_ ≤ 255
 case neg =>
  have HK := hid c3
  have dk := decide_eq_false c3
  go_wp2_with fail
  try go_returns
  exact HP1.out _ (by rw [HMY.out]; exact fun h => absurd h.1.2.1.2 (by have := HK.out; omega)) HFF.out
 have Hc3 := hid c3
 by_cases c4 : (1 : Int) ≤ (dl : Int)
 case neg =>
  have HK := hid c4
  have dk := decide_eq_false c4
  go_wp2_with fail
  try go_returns
  exact HP1.out _ (by rw [HMY.out]; exact fun h => absurd h.1.2.2.1 (by have := HK.out; omega)) HFF.out
 have Hc4 := hid c4
 by_cases c5 : (dl : Int) ≤ 256
 case neg =>
  have HK := hid c5
  have dk := decide_eq_false c5
  go_wp2_with fail
  try go_returns
  exact HP1.out _ (by rw [HMY.out]; exact fun h => absurd h.1.2.2.2 (by have := HK.out; omega)) HFF.out
 have Hc5 := hid c5
 go_wp2_with fail
 try go_returns
 exact HP0.out _ (by rw [HMY.out]; exact ⟨⟨HO1.out, ⟨Hc2.out, Hc3.out⟩, Hc4.out, Hc5.out⟩, by trivial⟩) HFF.out
theorem refCheck_6 (r : Rc) (P : List Pr) (K D : List Int) (w : World) (hr : RcOk w r P K D) (hs : r.name.size ≤ 140737488355328) (_hv : PvOk P) (hkd : r.kind = 6) :
  Calls Tryz.prog 13 #[.agg r.arr] w fun e w' => e = .returned (.int .i64 (if RcMay r P K D then 0 else 200)) ∧ Frm [] w w' := by
 obtain ⟨PO, hPO⟩ : ∃ PO : Ending → World → Prop, (fun e w' => e = .returned (.int .i64 (if RcMay r P K D then 0 else 200)) ∧ Frm [] w w') = PO := ⟨_, rfl⟩
 rw [hPO]
 have HP0 : Hid (∀ w', RcMay r P K D → Frm [] w w' → PO (.returned (.int .i64 0)) w') := hid (fun w' h h2 => by rw [← hPO]; exact ⟨by rw [if_pos h], h2⟩)
 have HP1 : Hid (∀ w', ¬ RcMay r P K D → Frm [] w w' → PO (.returned (.int .i64 200)) w') := hid (fun w' h h2 => by rw [← hPO]; exact ⟨by rw [if_neg h], h2⟩)
 obtain ⟨wb, hwb⟩ := eX (w.alloc (.cells r.arr 26))
 have hrow := heap_alloc_new w (.cells r.arr 26)
 have hfb : Frm [] w wb := by rw [← hwb]; exact (Frm.refl _ _).alloc _
 obtain ⟨b, hb⟩ := eX (w.heap.size)
 rw [hwb, hb] at hrow
 have HX := hid (fun V (hf : Frm [] wb V) => rc_cells (hf.heap hrow (by simp)))
 have HFB := hid hfb
 have HWB := hid hwb
 have HB := hid hb
 have HON := hid (fun W => refOnly_any r 2 (by omega) W)
 obtain ⟨B, hB⟩ : ∃ B, decide (sumB (fldB r) 12 ||| 2 = 2) = B := ⟨_, rfl⟩
 rw [hB] at HON
 have hMY : RcMay r P K D ↔ MayCn r ∧ B = true := by rw [rcMay_6 P K D hkd, ← onlyR_2 r P K D hr.pl hr.kl hr.dn, ← hB, decide_eq_true_iff]
 unfold MayCn at hMY
 have HMY := hid hMY
 clear hPO hwb hrow hfb hb hr hB hMY
 obtain ⟨kind, name, typ, frm, guid, origin, snap, pp, pn, pc, obj, at_, many, kp, kn, kc, dp, dl, dc⟩ := r
 simp only at hkd
 subst hkd
 unfold Rc.arr at HWB HON ⊢
 simp only at HX HWB HON HMY hs ⊢
 go_enter Tryz.func13, Tryz.ntmps13
 go_upto_region 2 with fail
 try rw [HB.out]
 try rw [HWB.out]
 clear HB HWB
 obtain ⟨x0, x1, x2, x3, x4, x5, x6, x7, x8, x9, x10, x11, x12⟩ := HX.out wb (Frm.refl _ _)
 go_cut [4] from 5 to 12 (fun v wx => ∃ x, v = .bool x ∧ (x = true ↔ (1 ≤ obj ∧ obj ≤ 1048576)) ∧ wx = wb)
 case first =>
  by_cases c0 : 1 ≤ obj
  case neg =>
   have HK : Hid (¬ (1 ≤ obj ∧ obj ≤ 1048576)) := hid (by omega)
   go_wp2_with fail
   go_meet
   case rel => exact ⟨false, rfl, ⟨fun h => by simp at h, fun h => absurd h HK.out⟩, rfl⟩
  by_cases c1 : obj ≤ 1048576
  case neg =>
   have HK : Hid (¬ (1 ≤ obj ∧ obj ≤ 1048576)) := hid (by omega)
   go_wp2_with fail
   go_meet
   case rel => exact ⟨false, rfl, ⟨fun h => by simp at h, fun h => absurd h HK.out⟩, rfl⟩
  have HK : Hid (1 ≤ obj ∧ obj ≤ 1048576) := hid ⟨c0, c1⟩
  go_wp2_with fail
  go_meet
  case rel => exact ⟨true, rfl, ⟨fun _ => HK.out, fun _ => rfl⟩, rfl⟩
 obtain ⟨OB, rfl, hx, rfl⟩ := hcut
 have HOB := hid hx
 clear hx
 generalize wc = w0 at *
 obtain ⟨x0, x1, x2, x3, x4, x5, x6, x7, x8, x9, x10, x11, x12⟩ := HX.out w0 (Frm.refl _ _)
 go_wp2_with fail
 refine (HON.out _).mono ?_
 rintro e w1 ⟨rfl, hf1⟩
 have HF1 := hid hf1
 have HFF : Hid (Frm [] w w1) := hid (HFB.out.trans hf1 (by simp))
 clear hf1 x0 x1 x2 x3 x4 x5 x6 x7 x8 x9 x10 x11 x12
 obtain ⟨x0, x1, x2, x3, x4, x5, x6, x7, x8, x9, x10, x11, x12⟩ := HX.out w1 HF1.out
 cases B with
 | false =>
  go_wp2_with fail
  try go_returns
  exact HP1.out _ (by rw [HMY.out]; exact fun h => absurd h.2 (by simp)) HFF.out
 | true =>
 by_cases c2 : 1 ≤ many
 case neg =>
  have HK := hid c2
  have dk := decide_eq_false c2
  go_wp2_with fail
  try go_returns
  exact HP1.out _ (by rw [HMY.out]; exact fun h => absurd h.1.1 (by have := HK.out; omega)) HFF.out
 have Hc2 := hid c2
 by_cases c3 : many ≤ 1048576
 case neg =>
  have HK := hid c3
  have dk := decide_eq_false c3
  go_wp2_with fail
  try go_returns
  exact HP1.out _ (by rw [HMY.out]; exact fun h => absurd h.1.2 (by have := HK.out; omega)) HFF.out
 have Hc3 := hid c3
 go_wp2_with fail
 try go_returns
 exact HP0.out _ (by rw [HMY.out]; exact ⟨⟨Hc2.out, Hc3.out⟩, by trivial⟩) HFF.out
theorem refCheck_7 (r : Rc) (P : List Pr) (K D : List Int) (w : World) (hr : RcOk w r P K D) (hs : r.name.size ≤ 140737488355328) (_hv : PvOk P) (hkd : r.kind = 7) :
  Calls Tryz.prog 13 #[.agg r.arr] w fun e w' => e = .returned (.int .i64 (if RcMay r P K D then 0 else 200)) ∧ Frm [] w w' := by
 obtain ⟨PO, hPO⟩ : ∃ PO : Ending → World → Prop, (fun e w' => e = .returned (.int .i64 (if RcMay r P K D then 0 else 200)) ∧ Frm [] w w') = PO := ⟨_, rfl⟩
 rw [hPO]
 have HP0 : Hid (∀ w', RcMay r P K D → Frm [] w w' → PO (.returned (.int .i64 0)) w') := hid (fun w' h h2 => by rw [← hPO]; exact ⟨by rw [if_pos h], h2⟩)
 have HP1 : Hid (∀ w', ¬ RcMay r P K D → Frm [] w w' → PO (.returned (.int .i64 200)) w') := hid (fun w' h h2 => by rw [← hPO]; exact ⟨by rw [if_neg h], h2⟩)
 obtain ⟨wb, hwb⟩ := eX (w.alloc (.cells r.arr 26))
 have hrow := heap_alloc_new w (.cells r.arr 26)
 have hfb : Frm [] w wb := by rw [← hwb]; exact (Frm.refl _ _).alloc _
 obtain ⟨b, hb⟩ := eX (w.heap.size)
 rw [hwb, hb] at hrow
 have HX := hid (fun V (hf : Frm [] wb V) => rc_cells (hf.heap hrow (by simp)))
 have HFB := hid hfb
 have HWB := hid hwb
 have HB := hid hb
 have HON := hid (fun W => refOnly_any r 2 (by omega) W)
 obtain ⟨B, hB⟩ : ∃ B, decide (sumB (fldB r) 12 ||| 2 = 2) = B := ⟨_, rfl⟩
 rw [hB] at HON
 have hMY : RcMay r P K D ↔ MayCn r ∧ B = true := by rw [rcMay_7 P K D hkd, ← onlyR_2 r P K D hr.pl hr.kl hr.dn, ← hB, decide_eq_true_iff]
 unfold MayCn at hMY
 have HMY := hid hMY
 clear hPO hwb hrow hfb hb hr hB hMY
 obtain ⟨kind, name, typ, frm, guid, origin, snap, pp, pn, pc, obj, at_, many, kp, kn, kc, dp, dl, dc⟩ := r
 simp only at hkd
 subst hkd
 unfold Rc.arr at HWB HON ⊢
 simp only at HX HWB HON HMY hs ⊢
 go_enter Tryz.func13, Tryz.ntmps13
 go_upto_region 2 with fail
 try rw [HB.out]
 try rw [HWB.out]
 clear HB HWB
 obtain ⟨x0, x1, x2, x3, x4, x5, x6, x7, x8, x9, x10, x11, x12⟩ := HX.out wb (Frm.refl _ _)
 go_cut [4] from 5 to 12 (fun v wx => ∃ x, v = .bool x ∧ (x = true ↔ (1 ≤ obj ∧ obj ≤ 1048576)) ∧ wx = wb)
 case first =>
  by_cases c0 : 1 ≤ obj
  case neg =>
   have HK : Hid (¬ (1 ≤ obj ∧ obj ≤ 1048576)) := hid (by omega)
   go_wp2_with fail
   go_meet
   case rel => exact ⟨false, rfl, ⟨fun h => by simp at h, fun h => absurd h HK.out⟩, rfl⟩
  by_cases c1 : obj ≤ 1048576
  case neg =>
   have HK : Hid (¬ (1 ≤ obj ∧ obj ≤ 1048576)) := hid (by omega)
   go_wp2_with fail
   go_meet
   case rel => exact ⟨false, rfl, ⟨fun h => by simp at h, fun h => absurd h HK.out⟩, rfl⟩
  have HK : Hid (1 ≤ obj ∧ obj ≤ 1048576) := hid ⟨c0, c1⟩
  go_wp2_with fail
  go_meet
  case rel => exact ⟨true, rfl, ⟨fun _ => HK.out, fun _ => rfl⟩, rfl⟩
 obtain ⟨OB, rfl, hx, rfl⟩ := hcut
 have HOB := hid hx
 clear hx
 generalize wc = w0 at *
 obtain ⟨x0, x1, x2, x3, x4, x5, x6, x7, x8, x9, x10, x11, x12⟩ := HX.out w0 (Frm.refl _ _)
 go_wp2_with fail
 refine (HON.out _).mono ?_
 rintro e w1 ⟨rfl, hf1⟩
 have HF1 := hid hf1
 have HFF : Hid (Frm [] w w1) := hid (HFB.out.trans hf1 (by simp))
 clear hf1 x0 x1 x2 x3 x4 x5 x6 x7 x8 x9 x10 x11 x12
 obtain ⟨x0, x1, x2, x3, x4, x5, x6, x7, x8, x9, x10, x11, x12⟩ := HX.out w1 HF1.out
 cases B with
 | false =>
  go_wp2_with fail
  try go_returns
  exact HP1.out _ (by rw [HMY.out]; exact fun h => absurd h.2 (by simp)) HFF.out
 | true =>
 by_cases c2 : 1 ≤ many
 case neg =>
  have HK := hid c2
  have dk := decide_eq_false c2
  go_wp2_with fail
  try go_returns
  exact HP1.out _ (by rw [HMY.out]; exact fun h => absurd h.1.1 (by have := HK.out; omega)) HFF.out
 have Hc2 := hid c2
 by_cases c3 : many ≤ 1048576
 case neg =>
  have HK := hid c3
  have dk := decide_eq_false c3
  go_wp2_with fail
  try go_returns
  exact HP1.out _ (by rw [HMY.out]; exact fun h => absurd h.1.2 (by have := HK.out; omega)) HFF.out
 have Hc3 := hid c3
 go_wp2_with fail
 try go_returns
 exact HP0.out _ (by rw [HMY.out]; exact ⟨⟨Hc2.out, Hc3.out⟩, by trivial⟩) HFF.out
theorem refCheck_no (r : Rc) (P : List Pr) (K D : List Int) (w : World) (_hr : RcOk w r P K D) (hs : r.name.size ≤ 140737488355328) (_hv : PvOk P) (hkd : ¬ (1 ≤ r.kind ∧ r.kind ≤ 7)) :
  Calls Tryz.prog 13 #[.agg r.arr] w fun e w' => e = .returned (.int .i64 (if RcMay r P K D then 0 else 200)) ∧ Frm [] w w' := by
 obtain ⟨PO, hPO⟩ : ∃ PO : Ending → World → Prop, (fun e w' => e = .returned (.int .i64 (if RcMay r P K D then 0 else 200)) ∧ Frm [] w w') = PO := ⟨_, rfl⟩
 rw [hPO]
 have HP0 : Hid (∀ w', RcMay r P K D → Frm [] w w' → PO (.returned (.int .i64 0)) w') := hid (fun w' h h2 => by rw [← hPO]; exact ⟨by rw [if_pos h], h2⟩)
 have HP1 : Hid (∀ w', ¬ RcMay r P K D → Frm [] w w' → PO (.returned (.int .i64 200)) w') := hid (fun w' h h2 => by rw [← hPO]; exact ⟨by rw [if_neg h], h2⟩)
 obtain ⟨wb, hwb⟩ := eX (w.alloc (.cells r.arr 26))
 have hrow := heap_alloc_new w (.cells r.arr 26)
 have hfb : Frm [] w wb := by rw [← hwb]; exact (Frm.refl _ _).alloc _
 obtain ⟨b, hb⟩ := eX (w.heap.size)
 rw [hwb, hb] at hrow
 have HX := hid (fun V (hf : Frm [] wb V) => rc_cells (hf.heap hrow (by simp)))
 have HFB := hid hfb
 have HWB := hid hwb
 have HB := hid hb
 have HMY : Hid (¬ RcMay r P K D) := hid (fun h => hkd (rcMay_kind h))
 clear hPO hwb hrow hfb hb
 obtain ⟨kind, name, typ, frm, guid, origin, snap, pp, pn, pc, obj, at_, many, kp, kn, kc, dp, dl, dc⟩ := r
 unfold Rc.arr at HWB ⊢
 simp only at HX HWB HMY hkd hs ⊢
 go_enter Tryz.func13, Tryz.ntmps13
 go_upto_region 2 with fail
 try rw [HB.out]
 try rw [HWB.out]
 clear HB HWB
 obtain ⟨x0, x1, x2, x3, x4, x5, x6, x7, x8, x9, x10, x11, x12⟩ := HX.out wb (Frm.refl _ _)
 go_cut [4] from 5 to 12 (fun v wx => ∃ x, v = .bool x ∧ (x = true ↔ (1 ≤ obj ∧ obj ≤ 1048576)) ∧ wx = wb)
 case first =>
  by_cases c0 : 1 ≤ obj
  case neg =>
   have HK : Hid (¬ (1 ≤ obj ∧ obj ≤ 1048576)) := hid (by omega)
   go_wp2_with fail
   go_meet
   case rel => exact ⟨false, rfl, ⟨fun h => by simp at h, fun h => absurd h HK.out⟩, rfl⟩
  by_cases c1 : obj ≤ 1048576
  case neg =>
   have HK : Hid (¬ (1 ≤ obj ∧ obj ≤ 1048576)) := hid (by omega)
   go_wp2_with fail
   go_meet
   case rel => exact ⟨false, rfl, ⟨fun h => by simp at h, fun h => absurd h HK.out⟩, rfl⟩
  have HK : Hid (1 ≤ obj ∧ obj ≤ 1048576) := hid ⟨c0, c1⟩
  go_wp2_with fail
  go_meet
  case rel => exact ⟨true, rfl, ⟨fun _ => HK.out, fun _ => rfl⟩, rfl⟩
 obtain ⟨OB, rfl, hx, rfl⟩ := hcut
 have HOB := hid hx
 clear hx
 generalize wc = w0 at *
 obtain ⟨x0, x1, x2, x3, x4, x5, x6, x7, x8, x9, x10, x11, x12⟩ := HX.out w0 (Frm.refl _ _)
 have k1 : (kind == 1) = false := by rw [beq_eq_false_iff_ne]; omega
 have k2 : (kind == 2) = false := by rw [beq_eq_false_iff_ne]; omega
 have k3 : (kind == 3) = false := by rw [beq_eq_false_iff_ne]; omega
 have k4 : (kind == 4) = false := by rw [beq_eq_false_iff_ne]; omega
 have k5 : (kind == 5) = false := by rw [beq_eq_false_iff_ne]; omega
 have k6 : (kind == 6) = false := by rw [beq_eq_false_iff_ne]; omega
 have k7 : (kind == 7) = false := by rw [beq_eq_false_iff_ne]; omega
 clear hkd
 go_wp2_with fail
 try go_returns
 exact HP1.out _ HMY.out HFB.out
theorem refCheck_any (r : Rc) (P : List Pr) (K D : List Int) (w : World) (hr : RcOk w r P K D) (hs : r.name.size ≤ 140737488355328) (hv : PvOk P) :
  Calls Tryz.prog 13 #[.agg r.arr] w fun e w' => e = .returned (.int .i64 (if RcMay r P K D then 0 else 200)) ∧ Frm [] w w' := by
 by_cases h : 1 ≤ r.kind ∧ r.kind ≤ 7
 case neg => exact refCheck_no r P K D w hr hs hv h
 have h7 : r.kind = 1 ∨ r.kind = 2 ∨ r.kind = 3 ∨ r.kind = 4 ∨ r.kind = 5 ∨ r.kind = 6 ∨ r.kind = 7 := by omega
 rcases h7 with h | h | h | h | h | h | h
 ·exact refCheck_1 r P K D w hr hs hv h
 ·exact refCheck_2 r P K D w hr hs hv h
 ·exact refCheck_3 r P K D w hr hs hv h
 ·exact refCheck_4 r P K D w hr hs hv h
 ·exact refCheck_5 r P K D w hr hs hv h
 ·exact refCheck_6 r P K D w hr hs hv h
 ·exact refCheck_7 r P K D w hr hs hv h
end
end Go.Proofs.YtajfjkfnmmfhmaaGreatDoor
