/- Records: a part's beginning. -/
import Derived.Deep.CutBlock
import Derived.BigQuiet
import Derived.Test.YtajfjkfnmmfhmaaGreatDoorQrae
import Derived.Test.YtajfjkfnmmfhmaaGreatDoorQrad
namespace Go.Proofs.YtajfjkfnmmfhmaaGreatDoor
set_option maxRecDepth 100000
set_option maxHeartbeats 25600000
section
open Go.RowKit Go.Lib
theorem rc_cells {V : World} {b : Nat} {r : Rc} {T : TypeId} (h : V.heap[b]? = some (.cells r.arr T (0, 0))) : V.cell? ⟨b, 0, none⟩ = some (.int .i64 r.kind) ∧ V.cell? ⟨b, 1, none⟩ = some (.string r.name) ∧ V.cell? ⟨b, 2, none⟩ = some (.int .i64 r.typ) ∧ V.cell? ⟨b, 3, none⟩ = some (.int .i64 r.frm) ∧ V.cell? ⟨b, 4, none⟩ = some (.int .i64 r.guid) ∧ V.cell? ⟨b, 5, none⟩ = some (.int .i64 r.origin) ∧ V.cell? ⟨b, 6, none⟩ = some (.string r.snap) ∧ V.cell? ⟨b, 7, none⟩ = some (.slice r.pp r.pn r.pc) ∧ V.cell? ⟨b, 8, none⟩ = some (.int .i64 r.obj) ∧ V.cell? ⟨b, 9, none⟩ = some (.int .i64 r.at_) ∧ V.cell? ⟨b, 10, none⟩ = some (.int .i64 r.many) ∧ V.cell? ⟨b, 11, none⟩ = some (.slice r.kp r.kn r.kc) ∧ V.cell? ⟨b, 12, none⟩ = some (.slice r.dp r.dl r.dc) := by
 refine ⟨?_, ?_, ?_, ?_, ?_, ?_, ?_, ?_, ?_, ?_, ?_, ?_, ?_⟩ <;> (rw [cell_of_row _ _ _ _ _ _ h]; rfl)
def NmOk (l : List UInt8) : Prop := l = [] ∨ (rootU l ∧ PartsU (l.drop 1) 7)
instance (l : List UInt8) : Decidable (NmOk l) := by unfold NmOk; infer_instance
def prA (P : List Pr) (i : Nat) : Pr := P.getD i (⟨#[]⟩, ⟨#[]⟩)
theorem prA_get {P : List Pr} {i : Nat} (h : i < P.length) : P[i] = prA P i := by
 unfold prA
 rw [List.getD_eq_getElem?_getD, List.getElem?_eq_getElem h]
 rfl
def PrAt (P : List Pr) (i : Nat) : Prop := PartL (tx (prA P i).1) ∧ ValL (tx (prA P i).2) ∧ (0 < i → Op.bytesLess (prA P (i - 1)).1.toList (prA P i).1.toList = true)
def PropsOk (P : List Pr) : Prop := ∀ i, i < P.length → PrAt P i
instance (P : List Pr) (i : Nat) : Decidable (PrAt P i) := by unfold PrAt; infer_instance
instance (P : List Pr) : Decidable (PropsOk P) := by unfold PropsOk; infer_instance
def BgRest (r : Rc) : Prop := (r.typ = 1 ∨ r.typ = 2) ∧ (0 ≤ r.frm ∧ r.frm ≤ 2199023255552) ∧ (1 ≤ r.guid ∧ r.guid ≤ 2199023255552) ∧ (r.origin = 0 ∨ (r.origin = 1 ∧ r.frm ≠ 0)) ∧ PartL (tx r.snap) ∧ r.pn ≤ 12
instance (r : Rc) : Decidable (BgRest r) := by unfold BgRest; infer_instance
def MayBg (r : Rc) (P : List Pr) : Prop := NmOk r.name.data.toList ∧ PropsOk P ∧ BgRest r
instance (r : Rc) (P : List Pr) : Decidable (MayBg r P) := by unfold MayBg; infer_instance
theorem mayBegin_any (r : Rc) (P : List Pr) (w : World) (hr : RdP w r.pp P) (hl : P.length = r.pn) (hm : r.pn ≤ 9223372036854775807) (hs : r.name.size ≤ 9223372036854775806) :
  Calls Tryz.prog 52 #[.agg r.arr] w fun e w' => e = .returned (.bool (decide (MayBg r P))) ∧ Frm [] w w' := by
 obtain ⟨PO, hPO⟩ : ∃ PO : Ending → World → Prop, (fun e w' => e = .returned (.bool (decide (MayBg r P))) ∧ Frm [] w w') = PO := ⟨_, rfl⟩
 rw [hPO]
 have HP : Hid (∀ x w', (x = true ↔ MayBg r P) → Frm [] w w' → PO (.returned (.bool x)) w') := hid (fun x w' h h2 => by rw [← hPO]; exact ⟨by rw [bool_decR h], h2⟩)
 obtain ⟨wb, hwb⟩ := eX (w.alloc (.cells r.arr 26))
 have hrow := heap_alloc_new w (.cells r.arr 26)
 have hfb : Frm [] w wb := by rw [← hwb]; exact (Frm.refl _ _).alloc _
 obtain ⟨b, hb⟩ := eX (w.heap.size)
 rw [hwb, hb] at hrow
 have HX := hid (fun V (hf : Frm [] wb V) => rc_cells (hf.heap hrow (by simp)))
 have HFB := hid hfb
 have HRP := hid (fun V (hf : Frm [] wb V) => hr.kept (hfb.trans hf (by simp)) (by simp))
 have HL := hid hl
 have HWB := hid hwb
 have HB := hid hb
 unfold MayBg BgRest at HP
 clear hPO hwb hrow hfb hb hr hl
 obtain ⟨kind, name, typ, frm, guid, origin, snap, pp, pn, pc, obj, at_, many, kp, kn, kc, dp, dl, dc⟩ := r
 unfold Rc.arr at HWB ⊢
 simp only at HP HX HRP HL HWB hm hs ⊢
 have HHP := hid (fun W => hasPreC_any name W)
 go_enter Tryz.func52, Tryz.ntmps52
 go_upto_region 1 with fail
 try rw [HB.out]
 try rw [HWB.out]
 clear HB HWB
 obtain ⟨x0, x1, x2, x3, x4, x5, x6, x7, x8, x9, x10, x11, x12⟩ := HX.out wb (Frm.refl _ _)
 go_cut [20] from 5 to 19 (fun v wx => ∃ x, v = .bool x ∧ (x = false ↔ NmOk name.data.toList) ∧ Hid (Frm [] wb wx))
 case first =>
  by_cases hn : name = ⟨#[]⟩
  case pos =>
   subst hn
   go_wp2_with fail
   go_meet
   case rel => exact ⟨_, rfl, ⟨fun _ => Or.inl rfl, fun _ => rfl⟩, hid (Frm.refl _ _)⟩
  have hne : name.data.toList ≠ [] := fun h => hn (by rw [← str_txB name]; simp [tx, h, strOfNums])
  have hb1 : (name.toList == []) = false := by rw [Lib.toList_data]; exact beq_eq_false_iff_ne.2 hne
  have hb2 : (name.toList != []) = true := by rw [bne, hb1]; rfl
  by_cases hro : rootU name.data.toList
  case neg =>
   have HNR := hid hro
   have HNE := hid hne
   have hh := fun W => HHP.out W
   rw [decide_eq_false hro] at hh
   have HH := hid hh
   clear hro hh hn hne
   go_wp2_with fail
   refine (HH.out _).mono ?_
   rintro e w1 ⟨rfl, rfl⟩
   go_wp2_with fail
   go_meet
   case rel => exact ⟨_, rfl, ⟨fun h => by simp at h, fun h => absurd h (by unfold NmOk; exact fun h => h.elim HNE.out (fun h => HNR.out h.1))⟩, hid (Frm.refl _ _)⟩
  have hsz : 1 ≤ name.size := by
   have h : name.data.size = name.size := rfl
   have h2 : name.data.toList.length ≠ 0 := fun h => hne (List.eq_nil_of_length_eq_zero h)
   rw [Array.length_toList] at h2; omega
  have hsz1 : (1 : Int) ≤ (name.size : Int) := by omega
  have hdr : (name.extract 1 name.size).data.toList = name.data.toList.drop 1 := by
   simp
   try exact List.take_of_length_le (by simp)
  have HPT := hid (fun W => parts_any (name.extract 1 name.size) (by simp; omega) 7 (by omega) W)
  rw [hdr] at HPT
  have hh := fun W => HHP.out W
  rw [decide_eq_true hro] at hh
  have HH := hid hh
  have HNE := hid hne
  have HRO := hid hro
  obtain ⟨B, hB⟩ := eX (decide (PartsU (name.data.toList.drop 1) 7))
  rw [hB] at HPT
  have HBB : Hid (B = true ↔ PartsU (name.data.toList.drop 1) 7) := hid (by rw [← hB]; exact decide_eq_true_iff)
  clear hB hh hro hne hn hdr hsz
  go_wp2_with fail
  refine (HH.out _).mono ?_
  rintro e w1 ⟨rfl, rfl⟩
  go_wp2_with fail
  refine (HPT.out _).mono ?_
  rintro e w2 ⟨rfl, hf2⟩
  have HF2 := hid hf2
  clear hf2
  go_wp2_with fail
  go_meet
  case rel => exact ⟨_, rfl, ⟨fun h => Or.inr ⟨HRO.out, HBB.out.1 (by simpa using h)⟩, fun h => by
   unfold NmOk at h
   have h2 := HBB.out.2 (h.elim (fun h => absurd h HNE.out) (fun h => h.2))
   rw [h2]; rfl⟩, HF2⟩
 obtain ⟨x, rfl, hx, hwc⟩ := hcut
 have HXN := hid hx
 have HWC := hid hwc.out
 clear hx hwc x0 x1 x2 x3 x4 x5 x6 x7 x8 x9 x10 x11 x12
 generalize wc = w2 at *
 cases x with
 | true =>
  go_wp2_with fail
  try go_returns
  exact HP.out _ _ (by simp only [Bool.false_eq_true, false_iff]; exact fun h => absurd (HXN.out.2 h.1) (by simp)) (HFB.out.trans HWC.out (by simp))
 | false =>
 have HNM := hid (HXN.out.1 rfl)
 clear HXN
 obtain ⟨x0, x1, x2, x3, x4, x5, x6, x7, x8, x9, x10, x11, x12⟩ := HX.out w2 HWC.out
 go_wp2_with fail
 clear x0 x1 x2 x3 x4 x5 x6 x7 x8 x9 x10 x11 x12
 go_loopw [2, 24] (fun rv i wr => ∃ t : Nat, t ≤ pn ∧ rv = .bool false ∧ i = .int .i64 (t : Int) ∧ Hid (∀ j, j < t → PrAt P j) ∧ Hid (Frm [] wb wr)) (fun _ i _ => pn - (intOf i).toNat)
 case atStart => exact ⟨0, Nat.zero_le _, rfl, rfl, hid (fun j hj => by omega), HWC⟩
 case round =>
  obtain ⟨t, ht, rfl, rfl, hok, hf⟩ := hrel
  have HOK := hid hok.out
  have HF := hid hf.out
  clear hok hf
  by_cases hlt : t < pn
  case pos =>
   have t1 : (t : Int) < (pn : Int) := by omega
   obtain ⟨g, o, rfl, hc⟩ := (HRP.out wr HF.out).at (i := t) (by rw [HL.out]; exact hlt)
   obtain ⟨z0, z1⟩ := hc t (by rw [HL.out]; exact hlt)
   rw [prA_get (by rw [HL.out]; exact hlt)] at z0 z1
   have HBD : Hid (PropsOk P → PrAt P t) := hid (fun h => h t (by rw [HL.out]; exact hlt))
   have HNX : Hid (PrAt P t → ∀ j, j < t + 1 → PrAt P j) := hid (fun h j hj => by
    by_cases hj2 : j < t
    ·exact HOK.out j hj2
    ·obtain rfl : j = t := by omega
     exact h)
   have HPV : Hid (0 < t → ∀ V, Frm [] wr V → V.cell? ⟨g, o + (t - 1) * 2, none⟩ = some (.string (prA P (t - 1)).1)) := hid (fun h0 V hV => by
    have h := (hc (t - 1) (by rw [HL.out]; omega)).1
    rw [prA_get (by rw [HL.out]; omega)] at h
    exact (hV.cell (p := ⟨g, o + (t - 1) * 2, none⟩) (World.block_lt_of_cell? _ _ h) (by simp)).trans h)
   have HPR : Hid (PrAt P t ↔ PartL (tx (prA P t).1) ∧ ValL (tx (prA P t).2) ∧ (0 < t → Op.bytesLess (prA P (t - 1)).1.toList (prA P t).1.toList = true)) := hid Iff.rfl
   obtain ⟨pv, hpv⟩ := eX ((prA P (t - 1)).1)
   obtain ⟨nm, hnm⟩ := eX ((prA P t).1)
   obtain ⟨vl, hvl⟩ := eX ((prA P t).2)
   rw [hpv] at HPV HPR
   rw [hnm] at z0 HPR
   rw [hvl] at z1 HPR
   obtain ⟨y0, y1, y2, y3, y4, y5, y6, y7, y8, y9, y10, y11, y12⟩ := HX.out wr HF.out
   clear y0 y1 y2 y3 y4 y5 y6 y8 y9 y10 y11 y12 hc hpv hnm hvl HOK
   obtain ⟨wq, hwq⟩ := eX (wr.alloc (.cells #[.string nm, .string vl] 70))
   have hrowq := heap_alloc_new wr (.cells #[.string nm, .string vl] 70)
   have hfq : Frm [] wr wq := by rw [← hwq]; exact (Frm.refl _ _).alloc _
   obtain ⟨q, hq⟩ := eX (wr.heap.size)
   rw [hwq, hq] at hrowq
   have HWQ := hid hwq
   have HQ := hid hq
   have HFQ : Hid (Frm [] wb wq) := hid (HF.out.trans hfq (by simp))
   have q0 := cR 0 (.string nm) hrowq
   have q1 := cR 1 (.string vl) hrowq
   have HFR := hid hfq
   clear hwq hq hrowq hfq
   go_upto_region 6 with fail
   try rw [HQ.out]
   try rw [HWQ.out]
   clear HQ HWQ z0 z1 y7
   obtain ⟨y0, y1, y2, y3, y4, y5, y6, y7, y8, y9, y10, y11, y12⟩ := HX.out wq HFQ.out
   clear y0 y1 y2 y3 y4 y5 y6 y8 y9 y10 y11 y12
   by_cases h0 : t = 0
   case pos =>
    subst h0
    by_cases hp : PartL (tx nm)
    case neg =>
     have hh := fun W => partW_any nm W
     rw [decide_eq_false hp] at hh
     have HH := hid hh
     have HK : Hid (¬ PrAt P (0)) := hid (fun h => hp (HPR.out.1 h).1)
     clear hh hp
     go_quiet ((go_at_call 91; with_reducible exact Calls.quiet_of_same (HH.out _)))
     go_wp2_with fail
     try go_returns
     exact HP.out _ _ (by simp only [Bool.false_eq_true, false_iff]; exact fun h => HK.out (HBD.out h.2.1)) (HFB.out.trans (HFQ.out.trans ((Frm.refl [] wq).drewN _) (by simp)) (by simp))
    have hh := fun W => partW_any nm W
    rw [decide_eq_true hp] at hh
    have HH := hid hh
    have HPL := hid hp
    clear hh hp
    by_cases hv : ValL (tx vl)
    case neg =>
     have hh := fun W => value_anyR vl W
     rw [decide_eq_false hv] at hh
     have HV := hid hh
     have HK : Hid (¬ PrAt P (0)) := hid (fun h => hv (HPR.out.1 h).2.1)
     clear hh hv
     go_quiet (first | (go_at_call 91; with_reducible exact Calls.quiet_of_same (HH.out _)) | (go_at_call 96; with_reducible exact Calls.quiet_of_same (HV.out _)))
     go_wp2_with fail
     try go_returns
     exact HP.out _ _ (by simp only [Bool.false_eq_true, false_iff]; exact fun h => HK.out (HBD.out h.2.1)) (HFB.out.trans (HFQ.out.trans ((Frm.refl [] wq).drewN _) (by simp)) (by simp))
    have hh := fun W => value_anyR vl W
    rw [decide_eq_true hv] at hh
    have HV := hid hh
    have HVL := hid hv
    clear hh hv
    have HK := hid (HNX.out (HPR.out.2 ⟨HPL.out, HVL.out, fun h => absurd h (by omega)⟩))
    go_quiet (first | (go_at_call 91; with_reducible exact Calls.quiet_of_same (HH.out _)) | (go_at_call 96; with_reducible exact Calls.quiet_of_same (HV.out _)))
    go_wp2_with fail
    go_roundw
    case rel => exact ⟨0 + 1, by omega, rfl, by go_num, HK, hid (HFQ.out.trans ((Frm.refl [] wq).drewN _) (by simp))⟩
    case measure => simp [intOf] <;> omega
   obtain ⟨u, rfl⟩ : ∃ u, t = u + 1 := ⟨t - 1, by omega⟩
   have i0 : (0 : Int) < (u : Int) + 1 := by omega
   have u0 : (0 : Int) ≤ (u : Int) := by omega
   have u1 : (u : Int) < (pn : Int) := by omega
   have uw : IntKind.i64.wrap ((u : Int) + 1 - 1) = (u : Int) := by rw [IntKind.wrap_i64]; omega
   have uw2 : IntKind.i64.wrap (u : Int) = (u : Int) := by rw [IntKind.wrap_i64]; omega
   have hpv := HPV.out (by omega) wq HFR.out
   rw [Nat.add_sub_cancel] at hpv
   clear h0
   by_cases hp : PartL (tx nm)
   case neg =>
    have hh := fun W => partW_any nm W
    rw [decide_eq_false hp] at hh
    have HH := hid hh
    have HK : Hid (¬ PrAt P (u + 1)) := hid (fun h => hp (HPR.out.1 h).1)
    clear hh hp
    go_quiet ((go_at_call 91; with_reducible exact Calls.quiet_of_same (HH.out _)))
    go_wp2_with fail
    try go_returns
    exact HP.out _ _ (by simp only [Bool.false_eq_true, false_iff]; exact fun h => HK.out (HBD.out h.2.1)) (HFB.out.trans (HFQ.out.trans ((Frm.refl [] wq).drewN _) (by simp)) (by simp))
   have hh := fun W => partW_any nm W
   rw [decide_eq_true hp] at hh
   have HH := hid hh
   have HPL := hid hp
   clear hh hp
   by_cases hv : ValL (tx vl)
   case neg =>
    have hh := fun W => value_anyR vl W
    rw [decide_eq_false hv] at hh
    have HV := hid hh
    have HK : Hid (¬ PrAt P (u + 1)) := hid (fun h => hv (HPR.out.1 h).2.1)
    clear hh hv
    go_quiet (first | (go_at_call 91; with_reducible exact Calls.quiet_of_same (HH.out _)) | (go_at_call 96; with_reducible exact Calls.quiet_of_same (HV.out _)))
    go_wp2_with fail
    try go_returns
    exact HP.out _ _ (by simp only [Bool.false_eq_true, false_iff]; exact fun h => HK.out (HBD.out h.2.1)) (HFB.out.trans (HFQ.out.trans ((Frm.refl [] wq).drewN _) (by simp)) (by simp))
   have hh := fun W => value_anyR vl W
   rw [decide_eq_true hv] at hh
   have HV := hid hh
   have HVL := hid hv
   clear hh hv
   by_cases hlb : Op.bytesLess pv.toList nm.toList = true
   case neg =>
    have hlf : Op.bytesLess pv.toList nm.toList = false := by simpa using hlb
    have HK : Hid (¬ PrAt P (u + 1)) := hid (fun h => hlb ((HPR.out.1 h).2.2 (by omega)))
    clear hlb
    go_quiet (first | (go_at_call 91; with_reducible exact Calls.quiet_of_same (HH.out _)) | (go_at_call 96; with_reducible exact Calls.quiet_of_same (HV.out _)))
    go_wp2_with fail
    try go_returns
    exact HP.out _ _ (by simp only [Bool.false_eq_true, false_iff]; exact fun h => HK.out (HBD.out h.2.1)) (HFB.out.trans (HFQ.out.trans ((Frm.refl [] wq).drewN _) (by simp)) (by simp))
   have HK := hid (HNX.out (HPR.out.2 ⟨HPL.out, HVL.out, fun _ => hlb⟩))
   go_quiet (first | (go_at_call 91; with_reducible exact Calls.quiet_of_same (HH.out _)) | (go_at_call 96; with_reducible exact Calls.quiet_of_same (HV.out _)))
   go_wp2_with fail
   go_roundw
   case rel => exact ⟨u + 1 + 1, by omega, rfl, by go_num, HK, hid (HFQ.out.trans ((Frm.refl [] wq).drewN _) (by simp))⟩
   case measure => simp [intOf] <;> omega
  obtain rfl : t = pn := by omega
  have HPO : Hid (PropsOk P) := hid (fun i hi => HOK.out i (by rw [← HL.out]; exact hi))
  obtain ⟨y0, y1, y2, y3, y4, y5, y6, y7, y8, y9, y10, y11, y12⟩ := HX.out wr HF.out
  have HC3 := hid (fun W => within_anyR frm 0 2199023255552 W)
  have HC4 := hid (fun W => within_anyR guid 1 2199023255552 W)
  have HC5 := hid (fun W => partW_any snap W)
  obtain ⟨B3, hB3⟩ := eX (decide (0 ≤ frm ∧ frm ≤ 2199023255552))
  obtain ⟨B4, hB4⟩ := eX (decide (1 ≤ guid ∧ guid ≤ 2199023255552))
  obtain ⟨B5, hB5⟩ := eX (decide (PartL (tx snap)))
  rw [hB3] at HC3
  rw [hB4] at HC4
  rw [hB5] at HC5
  have HB3 : Hid (B3 = true ↔ 0 ≤ frm ∧ frm ≤ 2199023255552) := hid (by rw [← hB3]; exact decide_eq_true_iff)
  have HB4 : Hid (B4 = true ↔ 1 ≤ guid ∧ guid ≤ 2199023255552) := hid (by rw [← hB4]; exact decide_eq_true_iff)
  have HB5 : Hid (B5 = true ↔ PartL (tx snap)) := hid (by rw [← hB5]; exact decide_eq_true_iff)
  clear hB3 hB4 hB5 HOK y0 y1 y8 y9 y10 y11 y12
  by_cases t1 : typ = 1
  case pos =>
   have HT : Hid (typ = 1 ∨ typ = 2) := hid (Or.inl t1)
   have b1 : (typ == 1) = true := by rw [beq_iff_eq]; exact t1
   clear t1
   go_wp2_with fail
   refine (HC3.out _).mono ?_
   rintro e v3 ⟨rfl, rfl⟩
   cases B3 with
   | false =>
    go_wp2_with fail
    try go_returns
    exact HP.out _ _ (by simp only [Bool.false_eq_true, false_iff]; exact fun ⟨_, _, h1, h2, h3, h4, h5, h6⟩ => absurd (HB3.out.2 h2) (by simp)) (HFB.out.trans HF.out (by simp))
   | true =>
   go_wp2_with fail
   refine (HC4.out _).mono ?_
   rintro e v4 ⟨rfl, rfl⟩
   cases B4 with
   | false =>
    go_wp2_with fail
    try go_returns
    exact HP.out _ _ (by simp only [Bool.false_eq_true, false_iff]; exact fun ⟨_, _, h1, h2, h3, h4, h5, h6⟩ => absurd (HB4.out.2 h3) (by simp)) (HFB.out.trans HF.out (by simp))
   | true =>
   by_cases o0 : origin = 0
   case pos =>
    have HO : Hid (origin = 0 ∨ (origin = 1 ∧ frm ≠ 0)) := hid (Or.inl o0)
    have b5 : (origin == 0) = true := by rw [beq_iff_eq]; exact o0
    clear o0
    go_wp2_with fail
    refine (HC5.out _).mono ?_
    rintro e v5 ⟨rfl, rfl⟩
    cases B5 with
    | false =>
     go_wp2_with fail
     try go_returns
     exact HP.out _ _ (by simp only [Bool.false_eq_true, false_iff]; exact fun ⟨_, _, h1, h2, h3, h4, h5, h6⟩ => absurd (HB5.out.2 h5) (by simp)) (HFB.out.trans HF.out (by simp))
    | true =>
    by_cases p12 : t ≤ 12
    case neg =>
     have HK := hid p12
     have i12 : ¬ (t : Int) ≤ 12 := by omega
     clear p12
     go_wp2_with fail
     try go_returns
     exact HP.out _ _ ⟨fun h => False.elim (by first | (simp at h; done) | (simp at h; omega) | (have := of_decide_eq_true h; omega)), fun h => absurd h.2.2.2.2.2.2.2 HK.out⟩ (HFB.out.trans HF.out (by simp))
    have HK := hid p12
    have i12 : (t : Int) ≤ 12 := by omega
    clear p12
    go_wp2_with fail
    try go_returns
    exact HP.out _ _ (by simp only [true_iff]; exact ⟨HNM.out, HPO.out, HT.out, HB3.out.1 (by trivial), HB4.out.1 (by trivial), HO.out, HB5.out.1 (by trivial), HK.out⟩) (HFB.out.trans HF.out (by simp))
   have b5 : (origin == 0) = false := by rw [beq_eq_false_iff_ne]; exact o0
   by_cases o1 : origin = 1
   case neg =>
    have HK : Hid (¬ (origin = 0 ∨ (origin = 1 ∧ frm ≠ 0))) := hid (fun h => h.elim o0 (fun h => o1 h.1))
    have b6 : (origin == 1) = false := by rw [beq_eq_false_iff_ne]; exact o1
    clear o0 o1
    go_wp2_with fail
    try go_returns
    exact HP.out _ _ (by simp only [Bool.false_eq_true, false_iff]; exact fun ⟨_, _, h1, h2, h3, h4, h5, h6⟩ => HK.out h4) (HFB.out.trans HF.out (by simp))
   have b6 : (origin == 1) = true := by rw [beq_iff_eq]; exact o1
   by_cases f0 : frm = 0
   case pos =>
    have HK : Hid (¬ (origin = 0 ∨ (origin = 1 ∧ frm ≠ 0))) := hid (fun h => h.elim o0 (fun h => h.2 f0))
    have b7 : (frm != 0) = false := by rw [f0]; rfl
    clear o0 o1 f0
    go_wp2_with fail
    try go_returns
    exact HP.out _ _ (by simp only [Bool.false_eq_true, false_iff]; exact fun ⟨_, _, h1, h2, h3, h4, h5, h6⟩ => HK.out h4) (HFB.out.trans HF.out (by simp))
   have HO : Hid (origin = 0 ∨ (origin = 1 ∧ frm ≠ 0)) := hid (Or.inr ⟨o1, f0⟩)
   have b7 : (frm != 0) = true := by rw [bne_iff_ne]; exact f0
   clear o0 o1 f0
   go_wp2_with fail
   refine (HC5.out _).mono ?_
   rintro e v5 ⟨rfl, rfl⟩
   cases B5 with
   | false =>
    go_wp2_with fail
    try go_returns
    exact HP.out _ _ (by simp only [Bool.false_eq_true, false_iff]; exact fun ⟨_, _, h1, h2, h3, h4, h5, h6⟩ => absurd (HB5.out.2 h5) (by simp)) (HFB.out.trans HF.out (by simp))
   | true =>
   by_cases p12 : t ≤ 12
   case neg =>
    have HK := hid p12
    have i12 : ¬ (t : Int) ≤ 12 := by omega
    clear p12
    go_wp2_with fail
    try go_returns
    exact HP.out _ _ ⟨fun h => False.elim (by first | (simp at h; done) | (simp at h; omega) | (have := of_decide_eq_true h; omega)), fun h => absurd h.2.2.2.2.2.2.2 HK.out⟩ (HFB.out.trans HF.out (by simp))
   have HK := hid p12
   have i12 : (t : Int) ≤ 12 := by omega
   clear p12
   go_wp2_with fail
   try go_returns
   exact HP.out _ _ (by simp only [true_iff]; exact ⟨HNM.out, HPO.out, HT.out, HB3.out.1 (by trivial), HB4.out.1 (by trivial), HO.out, HB5.out.1 (by trivial), HK.out⟩) (HFB.out.trans HF.out (by simp))
  have b1 : (typ == 1) = false := by rw [beq_eq_false_iff_ne]; exact t1
  by_cases t2 : typ = 2
  case pos =>
   have HT : Hid (typ = 1 ∨ typ = 2) := hid (Or.inr t2)
   have b2 : (typ == 2) = true := by rw [beq_iff_eq]; exact t2
   clear t1 t2
   go_wp2_with fail
   refine (HC3.out _).mono ?_
   rintro e v3 ⟨rfl, rfl⟩
   cases B3 with
   | false =>
    go_wp2_with fail
    try go_returns
    exact HP.out _ _ (by simp only [Bool.false_eq_true, false_iff]; exact fun ⟨_, _, h1, h2, h3, h4, h5, h6⟩ => absurd (HB3.out.2 h2) (by simp)) (HFB.out.trans HF.out (by simp))
   | true =>
   go_wp2_with fail
   refine (HC4.out _).mono ?_
   rintro e v4 ⟨rfl, rfl⟩
   cases B4 with
   | false =>
    go_wp2_with fail
    try go_returns
    exact HP.out _ _ (by simp only [Bool.false_eq_true, false_iff]; exact fun ⟨_, _, h1, h2, h3, h4, h5, h6⟩ => absurd (HB4.out.2 h3) (by simp)) (HFB.out.trans HF.out (by simp))
   | true =>
   by_cases o0 : origin = 0
   case pos =>
    have HO : Hid (origin = 0 ∨ (origin = 1 ∧ frm ≠ 0)) := hid (Or.inl o0)
    have b5 : (origin == 0) = true := by rw [beq_iff_eq]; exact o0
    clear o0
    go_wp2_with fail
    refine (HC5.out _).mono ?_
    rintro e v5 ⟨rfl, rfl⟩
    cases B5 with
    | false =>
     go_wp2_with fail
     try go_returns
     exact HP.out _ _ (by simp only [Bool.false_eq_true, false_iff]; exact fun ⟨_, _, h1, h2, h3, h4, h5, h6⟩ => absurd (HB5.out.2 h5) (by simp)) (HFB.out.trans HF.out (by simp))
    | true =>
    by_cases p12 : t ≤ 12
    case neg =>
     have HK := hid p12
     have i12 : ¬ (t : Int) ≤ 12 := by omega
     clear p12
     go_wp2_with fail
     try go_returns
     exact HP.out _ _ ⟨fun h => False.elim (by first | (simp at h; done) | (simp at h; omega) | (have := of_decide_eq_true h; omega)), fun h => absurd h.2.2.2.2.2.2.2 HK.out⟩ (HFB.out.trans HF.out (by simp))
    have HK := hid p12
    have i12 : (t : Int) ≤ 12 := by omega
    clear p12
    go_wp2_with fail
    try go_returns
    exact HP.out _ _ (by simp only [true_iff]; exact ⟨HNM.out, HPO.out, HT.out, HB3.out.1 (by trivial), HB4.out.1 (by trivial), HO.out, HB5.out.1 (by trivial), HK.out⟩) (HFB.out.trans HF.out (by simp))
   have b5 : (origin == 0) = false := by rw [beq_eq_false_iff_ne]; exact o0
   by_cases o1 : origin = 1
   case neg =>
    have HK : Hid (¬ (origin = 0 ∨ (origin = 1 ∧ frm ≠ 0))) := hid (fun h => h.elim o0 (fun h => o1 h.1))
    have b6 : (origin == 1) = false := by rw [beq_eq_false_iff_ne]; exact o1
    clear o0 o1
    go_wp2_with fail
    try go_returns
    exact HP.out _ _ (by simp only [Bool.false_eq_true, false_iff]; exact fun ⟨_, _, h1, h2, h3, h4, h5, h6⟩ => HK.out h4) (HFB.out.trans HF.out (by simp))
   have b6 : (origin == 1) = true := by rw [beq_iff_eq]; exact o1
   by_cases f0 : frm = 0
   case pos =>
    have HK : Hid (¬ (origin = 0 ∨ (origin = 1 ∧ frm ≠ 0))) := hid (fun h => h.elim o0 (fun h => h.2 f0))
    have b7 : (frm != 0) = false := by rw [f0]; rfl
    clear o0 o1 f0
    go_wp2_with fail
    try go_returns
    exact HP.out _ _ (by simp only [Bool.false_eq_true, false_iff]; exact fun ⟨_, _, h1, h2, h3, h4, h5, h6⟩ => HK.out h4) (HFB.out.trans HF.out (by simp))
   have HO : Hid (origin = 0 ∨ (origin = 1 ∧ frm ≠ 0)) := hid (Or.inr ⟨o1, f0⟩)
   have b7 : (frm != 0) = true := by rw [bne_iff_ne]; exact f0
   clear o0 o1 f0
   go_wp2_with fail
   refine (HC5.out _).mono ?_
   rintro e v5 ⟨rfl, rfl⟩
   cases B5 with
   | false =>
    go_wp2_with fail
    try go_returns
    exact HP.out _ _ (by simp only [Bool.false_eq_true, false_iff]; exact fun ⟨_, _, h1, h2, h3, h4, h5, h6⟩ => absurd (HB5.out.2 h5) (by simp)) (HFB.out.trans HF.out (by simp))
   | true =>
   by_cases p12 : t ≤ 12
   case neg =>
    have HK := hid p12
    have i12 : ¬ (t : Int) ≤ 12 := by omega
    clear p12
    go_wp2_with fail
    try go_returns
    exact HP.out _ _ ⟨fun h => False.elim (by first | (simp at h; done) | (simp at h; omega) | (have := of_decide_eq_true h; omega)), fun h => absurd h.2.2.2.2.2.2.2 HK.out⟩ (HFB.out.trans HF.out (by simp))
   have HK := hid p12
   have i12 : (t : Int) ≤ 12 := by omega
   clear p12
   go_wp2_with fail
   try go_returns
   exact HP.out _ _ (by simp only [true_iff]; exact ⟨HNM.out, HPO.out, HT.out, HB3.out.1 (by trivial), HB4.out.1 (by trivial), HO.out, HB5.out.1 (by trivial), HK.out⟩) (HFB.out.trans HF.out (by simp))
  have HK : Hid (¬ (typ = 1 ∨ typ = 2)) := hid (fun h => h.elim t1 t2)
  have b2 : (typ == 2) = false := by rw [beq_eq_false_iff_ne]; exact t2
  clear t1 t2
  go_wp2_with fail
  try go_returns
  exact HP.out _ _ (by simp only [Bool.false_eq_true, false_iff]; exact fun ⟨_, _, h1, h2, h3, h4, h5, h6⟩ => HK.out h1) (HFB.out.trans HF.out (by simp))
end
section
section
variable {P : Program} {ops : Array Oper} {Q : Exit → Act → World → Prop} {md : Region.Mode} {S : World → Prop}
theorem wpAnyHT_two {n i j : Nat} {L : Array Bool → Act → World → Prop} {oi oj : Oper} {fuel : Nat} {listed : Array Bool} {a : Act} {w : World} (hi : ops[i]? = some oi) (hj : ops[j]? = some oj) (hr : Region.ready md ops listed = [i, j]) (hin : decide (i < n) = true) (hjn : decide (j < n) = true)
  (h1 : ∀ K' : Act → World → Prop, (∀ a w, S w → wpAnyHT P md ops Q S n L fuel (listed.setIfInBounds i true) a w → K' a w) → if Region.wanted oi (yielded ops a.tmps) = true then Oper.wp P oi a w K' Q else K' (a.put oi.dst undef) w)
  (h2 : ∀ K' : Act → World → Prop, (∀ a w, S w → wpAnyHT P md ops Q S n L fuel (listed.setIfInBounds j true) a w → K' a w) → if Region.wanted oj (yielded ops a.tmps) = true then Oper.wp P oj a w K' Q else K' (a.put oj.dst undef) w) :
  wpAnyHT P md ops Q S n L (fuel + 1) listed a w := by
 refine ⟨by rw [hr]; simp, fun k hk => ?_⟩
 rw [hr, List.mem_cons, List.mem_singleton] at hk
 rcases hk with rfl | rfl
 ·exact ⟨of_decide_eq_true hin, wpOp_step hi (fun K' hK => h1 K' (fun a w hS hW => hK a w ⟨hS, hW⟩))⟩
 ·exact ⟨of_decide_eq_true hjn, wpOp_step hj (fun K' hK => h2 K' (fun a w hS hW => hK a w ⟨hS, hW⟩))⟩
end
end
section
section
variable {P : Program} {ops : Array Oper} {Q : Exit → Act → World → Prop} {md : Region.Mode} {S S' : World → Prop}
theorem wpAnyHT_str {n : Nat} {L : Array Bool → Act → World → Prop} (hS : ∀ w, S' w → S w) (f : Nat) : ∀ (listed : Array Bool) (a : Act) (w : World), wpAnyHT P md ops Q S' n L f listed a w → wpAnyHT P md ops Q S n L f listed a w := by
 induction f with
 | zero => exact fun _ _ _ h => h
 | succ f ih => exact fun _ _ _ h => ⟨h.1, fun i hi => ⟨(h.2 i hi).1, wpOp_mono (fun _ _ hh => ⟨hS _ hh.1, ih _ _ _ hh.2⟩) (h.2 i hi).2⟩⟩
end
end
end Go.Proofs.YtajfjkfnmmfhmaaGreatDoor
