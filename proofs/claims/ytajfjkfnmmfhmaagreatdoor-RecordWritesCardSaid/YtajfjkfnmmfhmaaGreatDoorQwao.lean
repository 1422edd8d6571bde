/- Records: record.same. Records: which records of a kind may be (without a part's beginning). Two operations may come up next, in either order. Speaks of no program. A region that draws its order: the condition on the world may be made stronger on the way. Speaks of no program. -/
import Derived.Test.YtajfjkfnmmfhmaaGreatDoorQwak
import Derived.Test.YtajfjkfnmmfhmaaGreatDoorQwai
namespace Go.Proofs.YtajfjkfnmmfhmaaGreatDoor
section
open Go.RowKit Go.Lib
set_option maxRecDepth 100000
set_option maxHeartbeats 12800000 in
theorem sameR_any (r s : Rc) (P Q : List Pr) (K L D E : List Int) (w : World) (hr : RcOk w r P K D) (hs : RcOk w s Q L E) :
    Calls Tryz.prog 24 #[.agg r.arr, .agg s.arr] w fun e w' => e = .returned (.bool (decide (SameR r s P Q K L D E))) ∧ Frm [] w w' := by
  obtain ⟨PO, hPO⟩ : ∃ PO : Ending → World → Prop, (fun e w' => e = .returned (.bool (decide (SameR r s P Q K L D E))) ∧ Frm [] w w') = PO := ⟨_, rfl⟩
  rw [hPO]
  have HP : Hid (∀ x w', (x = true ↔ SameR r s P Q K L D E) → Frm [] w w' → PO (.returned (.bool x)) w') := hid (fun x w' h h2 => by rw [← hPO]; exact ⟨by rw [bool_decR h], h2⟩)
  have HEP := hid (fun W (hf : Frm [] w W) => eqP_any r.pp s.pp r.pn r.pc s.pn s.pc P Q W hr.pl hs.pl hr.mx.1 (hr.pr.kept hf (by simp)) (hs.pr.kept hf (by simp)))
  have HEK := hid (fun W (hf : Frm [] w W) => eqI_any r.kp s.kp r.kn r.kc s.kn s.kc K L W hr.kl hs.kl hr.mx.2 (hr.kr.kept hf (by simp)) (hs.kr.kept hf (by simp)))
  have HED := hid (fun W (hf : Frm [] w W) => bytesEq_any r.dp s.dp r.dl r.dc s.dl s.dc D E W (hr.dr.kept hf (by simp)) (hs.dr.kept hf (by simp)) hr.dn hs.dn hr.db hs.db)
  clear hPO hr hs
  obtain ⟨PP, hPP⟩ : ∃ PP, decide (P = Q) = PP := ⟨_, rfl⟩
  obtain ⟨KK, hKK⟩ : ∃ KK, decide (K = L) = KK := ⟨_, rfl⟩
  obtain ⟨DD, hDD⟩ : ∃ DD, decide (D = E) = DD := ⟨_, rfl⟩
  rw [hPP] at HEP
  rw [hKK] at HEK
  rw [hDD] at HED
  have HSR : Hid (SameR r s P Q K L D E ↔ r.kind = s.kind ∧ r.name = s.name ∧ r.typ = s.typ ∧ r.frm = s.frm ∧ r.guid = s.guid ∧ r.origin = s.origin ∧ r.snap = s.snap ∧ PP = true ∧ r.obj = s.obj ∧ r.at_ = s.at_ ∧ r.many = s.many ∧ KK = true ∧ DD = true) := hid (by rw [← hPP, ← hKK, ← hDD]; simp only [decide_eq_true_eq]; exact Iff.rfl)
  obtain ⟨SR, hSR⟩ : ∃ SR : Prop, SameR r s P Q K L D E = SR := ⟨_, rfl⟩
  rw [hSR] at HP HSR
  clear hPP hKK hDD hSR
  obtain ⟨kind, name, typ, frm, guid, origin, snap, pp, pn, pc, obj, at_, many, kp, kn, kc, dp, dl, dc⟩ := r
  obtain ⟨kind', name', typ', frm', guid', origin', snap', pp', pn', pc', obj', at', many', kp', kn', kc', dp', dl', dc'⟩ := s
  unfold Rc.arr
  simp only at HEP HEK HED HSR ⊢
  obtain ⟨wb, hwb⟩ : ∃ z, (w.alloc (.cells #[.int .i64 kind, .string name, .int .i64 typ, .int .i64 frm, .int .i64 guid, .int .i64 origin, .string snap, .slice pp pn pc, .int .i64 obj, .int .i64 at_, .int .i64 many, .slice kp kn kc, .slice dp dl dc] 26)).alloc (.cells #[.int .i64 kind', .string name', .int .i64 typ', .int .i64 frm', .int .i64 guid', .int .i64 origin', .string snap', .slice pp' pn' pc', .int .i64 obj', .int .i64 at', .int .i64 many', .slice kp' kn' kc', .slice dp' dl' dc'] 26) = z := ⟨_, rfl⟩
  have HFB : Hid (Frm [] w ((w.alloc (.cells #[.int .i64 kind, .string name, .int .i64 typ, .int .i64 frm, .int .i64 guid, .int .i64 origin, .string snap, .slice pp pn pc, .int .i64 obj, .int .i64 at_, .int .i64 many, .slice kp kn kc, .slice dp dl dc] 26)).alloc (.cells #[.int .i64 kind', .string name', .int .i64 typ', .int .i64 frm', .int .i64 guid', .int .i64 origin', .string snap', .slice pp' pn' pc', .int .i64 obj', .int .i64 at', .int .i64 many', .slice kp' kn' kc', .slice dp' dl' dc'] 26))) := hid (((Frm.refl _ _).alloc _).alloc _)
  clear hwb
  have HCL : Hid (∀ V, Frm [] ((w.alloc (.cells #[.int .i64 kind, .string name, .int .i64 typ, .int .i64 frm, .int .i64 guid, .int .i64 origin, .string snap, .slice pp pn pc, .int .i64 obj, .int .i64 at_, .int .i64 many, .slice kp kn kc, .slice dp dl dc] 26)).alloc (.cells #[.int .i64 kind', .string name', .int .i64 typ', .int .i64 frm', .int .i64 guid', .int .i64 origin', .string snap', .slice pp' pn' pc', .int .i64 obj', .int .i64 at', .int .i64 many', .slice kp' kn' kc', .slice dp' dl' dc'] 26)) V →
      (V.cell? ⟨w.heap.size, 8, none⟩ = some (.int .i64 obj) ∧ V.cell? ⟨w.heap.size, 9, none⟩ = some (.int .i64 at_) ∧ V.cell? ⟨w.heap.size, 10, none⟩ = some (.int .i64 many) ∧ V.cell? ⟨w.heap.size, 11, none⟩ = some (.slice kp kn kc) ∧ V.cell? ⟨w.heap.size, 12, none⟩ = some (.slice dp dl dc)) ∧
      (V.cell? ⟨w.heap.size + 1, 8, none⟩ = some (.int .i64 obj') ∧ V.cell? ⟨w.heap.size + 1, 9, none⟩ = some (.int .i64 at') ∧ V.cell? ⟨w.heap.size + 1, 10, none⟩ = some (.int .i64 many') ∧ V.cell? ⟨w.heap.size + 1, 11, none⟩ = some (.slice kp' kn' kc') ∧ V.cell? ⟨w.heap.size + 1, 12, none⟩ = some (.slice dp' dl' dc'))) := hid (fun V hf => by
    have h1 := heap_alloc_new w (.cells #[.int .i64 kind, .string name, .int .i64 typ, .int .i64 frm, .int .i64 guid, .int .i64 origin, .string snap, .slice pp pn pc, .int .i64 obj, .int .i64 at_, .int .i64 many, .slice kp kn kc, .slice dp dl dc] 26)
    have h2 := heap_alloc_new (w.alloc (.cells #[.int .i64 kind, .string name, .int .i64 typ, .int .i64 frm, .int .i64 guid, .int .i64 origin, .string snap, .slice pp pn pc, .int .i64 obj, .int .i64 at_, .int .i64 many, .slice kp kn kc, .slice dp dl dc] 26)) (.cells #[.int .i64 kind', .string name', .int .i64 typ', .int .i64 frm', .int .i64 guid', .int .i64 origin', .string snap', .slice pp' pn' pc', .int .i64 obj', .int .i64 at', .int .i64 many', .slice kp' kn' kc', .slice dp' dl' dc'] 26)
    have e1 := hf.heap (((Frm.refl [] _).alloc _).heap h1 (by simp)) (by simp)
    have e2 := hf.heap h2 (by simp)
    have e3 : (w.alloc (.cells #[.int .i64 kind, .string name, .int .i64 typ, .int .i64 frm, .int .i64 guid, .int .i64 origin, .string snap, .slice pp pn pc, .int .i64 obj, .int .i64 at_, .int .i64 many, .slice kp kn kc, .slice dp dl dc] 26)).heap.size = w.heap.size + 1 := by simp
    rw [e3] at e2
    refine ⟨⟨?_, ?_, ?_, ?_, ?_⟩, ⟨?_, ?_, ?_, ?_, ?_⟩⟩ <;> first | (rw [cell_of_row _ _ _ _ _ _ e1]; rfl) | (rw [cell_of_row _ _ _ _ _ _ e2]; rfl))
  go_enter Tryz.func24, Tryz.ntmps24
  by_cases h0 : kind = kind'
  case neg =>
    have hb : (kind == kind') = false := by rw [beq_eq_false_iff_ne]; exact h0
    have HK := hid h0
    clear h0
    go_wp2_with fail
    first | go_returns | skip
    exact HP.out _ _ (by rw [HSR.out]; simp [HK.out]) HFB.out
  subst h0
  by_cases h1 : name = name'
  case neg =>
    have hb : (name.toList == name'.toList) = false := by rw [ba_beq]; exact decide_eq_false h1
    have HK := hid h1
    clear h1
    go_wp2_with fail
    first | go_returns | skip
    exact HP.out _ _ (by rw [HSR.out]; simp [HK.out]) HFB.out
  subst h1
  by_cases h2 : typ = typ'
  case neg =>
    have hb : (typ == typ') = false := by rw [beq_eq_false_iff_ne]; exact h2
    have HK := hid h2
    clear h2
    go_wp2_with fail
    first | go_returns | skip
    exact HP.out _ _ (by rw [HSR.out]; simp [HK.out]) HFB.out
  subst h2
  by_cases h3 : frm = frm'
  case neg =>
    have hb : (frm == frm') = false := by rw [beq_eq_false_iff_ne]; exact h3
    have HK := hid h3
    clear h3
    go_wp2_with fail
    first | go_returns | skip
    exact HP.out _ _ (by rw [HSR.out]; simp [HK.out]) HFB.out
  subst h3
  by_cases h4 : guid = guid'
  case neg =>
    have hb : (guid == guid') = false := by rw [beq_eq_false_iff_ne]; exact h4
    have HK := hid h4
    clear h4
    go_wp2_with fail
    first | go_returns | skip
    exact HP.out _ _ (by rw [HSR.out]; simp [HK.out]) HFB.out
  subst h4
  by_cases h5 : origin = origin'
  case neg =>
    have hb : (origin == origin') = false := by rw [beq_eq_false_iff_ne]; exact h5
    have HK := hid h5
    clear h5
    go_wp2_with fail
    first | go_returns | skip
    exact HP.out _ _ (by rw [HSR.out]; simp [HK.out]) HFB.out
  subst h5
  by_cases h6 : snap = snap'
  case neg =>
    have hb : (snap.toList == snap'.toList) = false := by rw [ba_beq]; exact decide_eq_false h6
    have HK := hid h6
    clear h6
    go_wp2_with fail
    first | go_returns | skip
    exact HP.out _ _ (by rw [HSR.out]; simp [HK.out]) HFB.out
  subst h6
  by_cases h7 : PP = true
  case neg =>
    obtain rfl : PP = false := by simpa using h7
    clear h7
    go_wp2_with fail
    refine (HEP.out _ HFB.out).mono ?_
    rintro e w1 ⟨rfl, hf1⟩
    have HF1 : Hid (Frm [] w w1) := hid (HFB.out.trans hf1 (by simp))
    have HW1 := hid hf1
    obtain ⟨⟨x8, x9, x10, x11, x12⟩, ⟨y8, y9, y10, y11, y12⟩⟩ := HCL.out _ hf1
    clear hf1
    go_wp2_with fail
    first | go_returns | skip
    exact HP.out _ _ (by rw [HSR.out]; simp) HF1.out
  subst h7
  by_cases h8 : obj = obj'
  case neg =>
    have hb : (obj == obj') = false := by rw [beq_eq_false_iff_ne]; exact h8
    have HK := hid h8
    clear h8
    go_wp2_with fail
    refine (HEP.out _ HFB.out).mono ?_
    rintro e w1 ⟨rfl, hf1⟩
    have HF1 : Hid (Frm [] w w1) := hid (HFB.out.trans hf1 (by simp))
    have HW1 := hid hf1
    obtain ⟨⟨x8, x9, x10, x11, x12⟩, ⟨y8, y9, y10, y11, y12⟩⟩ := HCL.out _ hf1
    clear hf1
    go_wp2_with fail
    first | go_returns | skip
    exact HP.out _ _ (by rw [HSR.out]; simp [HK.out]) HF1.out
  subst h8
  by_cases h9 : at_ = at'
  case neg =>
    have hb : (at_ == at') = false := by rw [beq_eq_false_iff_ne]; exact h9
    have HK := hid h9
    clear h9
    go_wp2_with fail
    refine (HEP.out _ HFB.out).mono ?_
    rintro e w1 ⟨rfl, hf1⟩
    have HF1 : Hid (Frm [] w w1) := hid (HFB.out.trans hf1 (by simp))
    have HW1 := hid hf1
    obtain ⟨⟨x8, x9, x10, x11, x12⟩, ⟨y8, y9, y10, y11, y12⟩⟩ := HCL.out _ hf1
    clear hf1
    go_wp2_with fail
    first | go_returns | skip
    exact HP.out _ _ (by rw [HSR.out]; simp [HK.out]) HF1.out
  subst h9
  by_cases h10 : many = many'
  case neg =>
    have hb : (many == many') = false := by rw [beq_eq_false_iff_ne]; exact h10
    have HK := hid h10
    clear h10
    go_wp2_with fail
    refine (HEP.out _ HFB.out).mono ?_
    rintro e w1 ⟨rfl, hf1⟩
    have HF1 : Hid (Frm [] w w1) := hid (HFB.out.trans hf1 (by simp))
    have HW1 := hid hf1
    obtain ⟨⟨x8, x9, x10, x11, x12⟩, ⟨y8, y9, y10, y11, y12⟩⟩ := HCL.out _ hf1
    clear hf1
    go_wp2_with fail
    first | go_returns | skip
    exact HP.out _ _ (by rw [HSR.out]; simp [HK.out]) HF1.out
  subst h10
  by_cases h11 : KK = true
  case neg =>
    obtain rfl : KK = false := by simpa using h11
    clear h11
    go_wp2_with fail
    refine (HEP.out _ HFB.out).mono ?_
    rintro e w1 ⟨rfl, hf1⟩
    have HF1 : Hid (Frm [] w w1) := hid (HFB.out.trans hf1 (by simp))
    have HW1 := hid hf1
    obtain ⟨⟨x8, x9, x10, x11, x12⟩, ⟨y8, y9, y10, y11, y12⟩⟩ := HCL.out _ hf1
    clear hf1
    go_wp2_with fail
    refine (HEK.out _ HF1.out).mono ?_
    rintro e w2 ⟨rfl, hf2⟩
    have HF2 : Hid (Frm [] w w2) := hid (HF1.out.trans hf2 (by simp))
    obtain ⟨⟨u8, u9, u10, u11, u12⟩, ⟨v8, v9, v10, v11, v12⟩⟩ := HCL.out _ (HW1.out.trans hf2 (by simp))
    clear x8 x9 x10 x11 x12 y8 y9 y10 y11 y12
    clear hf2
    go_wp2_with fail
    first | go_returns | skip
    exact HP.out _ _ (by rw [HSR.out]; simp) HF2.out
  subst h11
  by_cases h12 : DD = true
  case neg =>
    obtain rfl : DD = false := by simpa using h12
    clear h12
    go_wp2_with fail
    refine (HEP.out _ HFB.out).mono ?_
    rintro e w1 ⟨rfl, hf1⟩
    have HF1 : Hid (Frm [] w w1) := hid (HFB.out.trans hf1 (by simp))
    have HW1 := hid hf1
    obtain ⟨⟨x8, x9, x10, x11, x12⟩, ⟨y8, y9, y10, y11, y12⟩⟩ := HCL.out _ hf1
    clear hf1
    go_wp2_with fail
    refine (HEK.out _ HF1.out).mono ?_
    rintro e w2 ⟨rfl, hf2⟩
    have HF2 : Hid (Frm [] w w2) := hid (HF1.out.trans hf2 (by simp))
    obtain ⟨⟨u8, u9, u10, u11, u12⟩, ⟨v8, v9, v10, v11, v12⟩⟩ := HCL.out _ (HW1.out.trans hf2 (by simp))
    clear x8 x9 x10 x11 x12 y8 y9 y10 y11 y12
    clear hf2
    go_wp2_with fail
    refine (HED.out _ HF2.out).mono ?_
    rintro e wd ⟨rfl, rfl⟩
    go_wp2_with fail
    first | go_returns | skip
    exact HP.out _ _ (by rw [HSR.out]; simp) HF2.out
  subst h12
  go_wp2_with fail
  refine (HEP.out _ HFB.out).mono ?_
  rintro e w1 ⟨rfl, hf1⟩
  have HF1 : Hid (Frm [] w w1) := hid (HFB.out.trans hf1 (by simp))
  have HW1 := hid hf1
  obtain ⟨⟨x8, x9, x10, x11, x12⟩, ⟨y8, y9, y10, y11, y12⟩⟩ := HCL.out _ hf1
  clear hf1
  go_wp2_with fail
  refine (HEK.out _ HF1.out).mono ?_
  rintro e w2 ⟨rfl, hf2⟩
  have HF2 : Hid (Frm [] w w2) := hid (HF1.out.trans hf2 (by simp))
  obtain ⟨⟨u8, u9, u10, u11, u12⟩, ⟨v8, v9, v10, v11, v12⟩⟩ := HCL.out _ (HW1.out.trans hf2 (by simp))
  clear x8 x9 x10 x11 x12 y8 y9 y10 y11 y12
  clear hf2
  go_wp2_with fail
  refine (HED.out _ HF2.out).mono ?_
  rintro e wd ⟨rfl, rfl⟩
  go_wp2_with fail
  first | go_returns | skip
  exact HP.out _ _ (by rw [HSR.out]; simp) HF2.out
end
section
open Go.RowKit Go.Lib
set_option maxRecDepth 100000
def MayCn (r : Rc) : Prop := 1 ≤ r.many ∧ r.many ≤ 1048576
instance (r : Rc) : Decidable (MayCn r) := by unfold MayCn; infer_instance
set_option maxHeartbeats 3200000 in
theorem mayCount_any (r : Rc) (w : World) : Calls Tryz.prog 44 #[.agg r.arr] w fun e w' => e = .returned (.bool (decide (MayCn r))) ∧ Frm [] w w' := by
  obtain ⟨PO, hPO⟩ : ∃ PO : Ending → World → Prop, (fun e w' => e = .returned (.bool (decide (MayCn r))) ∧ Frm [] w w') = PO := ⟨_, rfl⟩
  rw [hPO]
  have HP : Hid (∀ x w', (x = true ↔ MayCn r) → Frm [] w w' → PO (.returned (.bool x)) w') := hid (fun x w' h h2 => by rw [← hPO]; exact ⟨by rw [bool_decR h], h2⟩)
  clear hPO
  unfold MayCn at HP
  obtain ⟨kind, name, typ, frm, guid, origin, snap, pp, pn, pc, obj, at_, many, kp, kn, kc, dp, dl, dc⟩ := r
  unfold Rc.arr
  simp only at HP ⊢
  have HC := hid (fun W => within_anyR many 1 1048576 W)
  obtain ⟨B, hB⟩ : ∃ B, decide (1 ≤ many ∧ many ≤ 1048576) = B := ⟨_, rfl⟩
  rw [hB] at HC
  have HB : Hid (B = true ↔ 1 ≤ many ∧ many ≤ 1048576) := hid (by rw [← hB]; exact decide_eq_true_iff)
  clear hB
  go_enter Tryz.func44, Tryz.ntmps44
  go_wp2_with fail
  refine (HC.out _).mono ?_
  rintro e w1 ⟨rfl, rfl⟩
  go_wp2_with fail
  first | go_returns | skip
  exact HP.out _ _ HB.out ((Frm.refl _ _).alloc _)
def MayPk (r : Rc) : Prop := PartL (tx r.name) ∧ (1 ≤ r.many ∧ r.many ≤ 120)
instance (r : Rc) : Decidable (MayPk r) := by unfold MayPk; infer_instance
set_option maxHeartbeats 3200000 in
theorem mayPackage_any (r : Rc) (w : World) : Calls Tryz.prog 48 #[.agg r.arr] w fun e w' => e = .returned (.bool (decide (MayPk r))) ∧ Frm [] w w' := by
  obtain ⟨PO, hPO⟩ : ∃ PO : Ending → World → Prop, (fun e w' => e = .returned (.bool (decide (MayPk r))) ∧ Frm [] w w') = PO := ⟨_, rfl⟩
  rw [hPO]
  have HP : Hid (∀ x w', (x = true ↔ MayPk r) → Frm [] w w' → PO (.returned (.bool x)) w') := hid (fun x w' h h2 => by rw [← hPO]; exact ⟨by rw [bool_decR h], h2⟩)
  clear hPO
  unfold MayPk at HP
  obtain ⟨kind, name, typ, frm, guid, origin, snap, pp, pn, pc, obj, at_, many, kp, kn, kc, dp, dl, dc⟩ := r
  unfold Rc.arr
  simp only at HP ⊢
  have HC0 := hid (fun W => partW_any name W)
  obtain ⟨B0, hB0⟩ : ∃ B, decide (PartL (tx name)) = B := ⟨_, rfl⟩
  rw [hB0] at HC0
  have HB0 : Hid (B0 = true ↔ PartL (tx name)) := hid (by rw [← hB0]; exact decide_eq_true_iff)
  clear hB0
  have HC1 := hid (fun W => within_anyR many 1 120 W)
  obtain ⟨B1, hB1⟩ : ∃ B, decide (1 ≤ many ∧ many ≤ 120) = B := ⟨_, rfl⟩
  rw [hB1] at HC1
  have HB1 : Hid (B1 = true ↔ 1 ≤ many ∧ many ≤ 120) := hid (by rw [← hB1]; exact decide_eq_true_iff)
  clear hB1
  go_enter Tryz.func48, Tryz.ntmps48
  go_wp2_with fail
  refine (HC0.out _).mono ?_
  rintro e w1 ⟨rfl, rfl⟩
  cases B0 with
  | false =>
    go_wp2_with fail
    first | go_returns | skip
    exact HP.out _ _ (by simp only [Bool.false_eq_true, false_iff]; exact fun h => absurd (HB0.out.2 h.1) (by simp)) ((Frm.refl _ _).alloc _)
  | true =>
  have HT0 := hid (HB0.out.1 rfl)
  go_wp2_with fail
  refine (HC1.out _).mono ?_
  rintro e w2 ⟨rfl, rfl⟩
  go_wp2_with fail
  first | go_returns | skip
  exact HP.out _ _ (by rw [HB1.out]; exact ⟨fun h => ⟨HT0.out, h⟩, fun h => h.2⟩) ((Frm.refl _ _).alloc _)
def MayLv (r : Rc) (K : List Int) : Prop := r.kn ≤ 240 ∧ RiseL K 1 1048576
instance (r : Rc) (K : List Int) : Decidable (MayLv r K) := by unfold MayLv; infer_instance
set_option maxHeartbeats 3200000 in
theorem mayLive_any (r : Rc) (K : List Int) (w : World) (hr : RdI w r.kp K) (hl : K.length = r.kn) (hm : r.kn ≤ 9223372036854775807) : Calls Tryz.prog 56 #[.agg r.arr] w fun e w' => e = .returned (.bool (decide (MayLv r K))) ∧ Frm [] w w' := by
  obtain ⟨PO, hPO⟩ : ∃ PO : Ending → World → Prop, (fun e w' => e = .returned (.bool (decide (MayLv r K))) ∧ Frm [] w w') = PO := ⟨_, rfl⟩
  rw [hPO]
  have HP : Hid (∀ x w', (x = true ↔ MayLv r K) → Frm [] w w' → PO (.returned (.bool x)) w') := hid (fun x w' h h2 => by rw [← hPO]; exact ⟨by rw [bool_decR h], h2⟩)
  have HRK := hid (fun W (hf : Frm [] w W) lo hi => rise_any r.kp r.kn r.kc K lo hi W hl hm (hr.kept hf (by simp)))
  clear hPO
  unfold MayLv at HP
  obtain ⟨kind, name, typ, frm, guid, origin, snap, pp, pn, pc, obj, at_, many, kp, kn, kc, dp, dl, dc⟩ := r
  unfold Rc.arr
  simp only at HP ⊢
  have HC1 := hid (fun W (hf : Frm [] w W) => HRK.out W hf 1 1048576)
  obtain ⟨B1, hB1⟩ : ∃ B, decide (RiseL K 1 1048576) = B := ⟨_, rfl⟩
  rw [hB1] at HC1
  have HB1 : Hid (B1 = true ↔ RiseL K 1 1048576) := hid (by rw [← hB1]; exact decide_eq_true_iff)
  clear hB1
  clear hr
  go_enter Tryz.func56, Tryz.ntmps56
  by_cases c0 : kn ≤ 240
  case neg =>
    have HK := hid c0
    have i0 : ¬ (kn : Int) ≤ 240 := by omega
    clear c0
    go_wp2_with fail
    first | go_returns | skip
    exact HP.out _ _ (by simp only [Bool.false_eq_true, false_iff]; exact fun h => HK.out h.1) ((Frm.refl _ _).alloc _)
  have i0 : (kn : Int) ≤ 240 := by omega
  go_wp2_with fail
  refine (HC1.out _ ((Frm.refl _ _).alloc _)).mono ?_
  rintro e w2 ⟨rfl, rfl⟩
  go_wp2_with fail
  first | go_returns | skip
  exact HP.out _ _ (by rw [HB1.out]; exact ⟨fun h => ⟨c0, h⟩, fun h => h.2⟩) ((Frm.refl _ _).alloc _)
def MayNd (r : Rc) (K : List Int) : Prop := (1 ≤ r.obj ∧ r.obj ≤ 1048576) ∧ (1 ≤ (r.kn : Int) ∧ (r.kn : Int) ≤ 240) ∧ RiseL K (-1) 255
instance (r : Rc) (K : List Int) : Decidable (MayNd r K) := by unfold MayNd; infer_instance
set_option maxHeartbeats 3200000 in
theorem mayNode_any (r : Rc) (K : List Int) (w : World) (hr : RdI w r.kp K) (hl : K.length = r.kn) (hm : r.kn ≤ 9223372036854775807) : Calls Tryz.prog 60 #[.agg r.arr] w fun e w' => e = .returned (.bool (decide (MayNd r K))) ∧ Frm [] w w' := by
  obtain ⟨PO, hPO⟩ : ∃ PO : Ending → World → Prop, (fun e w' => e = .returned (.bool (decide (MayNd r K))) ∧ Frm [] w w') = PO := ⟨_, rfl⟩
  rw [hPO]
  have HP : Hid (∀ x w', (x = true ↔ MayNd r K) → Frm [] w w' → PO (.returned (.bool x)) w') := hid (fun x w' h h2 => by rw [← hPO]; exact ⟨by rw [bool_decR h], h2⟩)
  have HRK := hid (fun W (hf : Frm [] w W) lo hi => rise_any r.kp r.kn r.kc K lo hi W hl hm (hr.kept hf (by simp)))
  clear hPO
  unfold MayNd at HP
  obtain ⟨kind, name, typ, frm, guid, origin, snap, pp, pn, pc, obj, at_, many, kp, kn, kc, dp, dl, dc⟩ := r
  unfold Rc.arr
  simp only at HP ⊢
  have HC0 := hid (fun W => within_anyR obj 1 1048576 W)
  obtain ⟨B0, hB0⟩ : ∃ B, decide (1 ≤ obj ∧ obj ≤ 1048576) = B := ⟨_, rfl⟩
  rw [hB0] at HC0
  have HB0 : Hid (B0 = true ↔ 1 ≤ obj ∧ obj ≤ 1048576) := hid (by rw [← hB0]; exact decide_eq_true_iff)
  clear hB0
  have HC1 := hid (fun W => within_anyR (kn : Int) 1 240 W)
  obtain ⟨B1, hB1⟩ : ∃ B, decide (1 ≤ (kn : Int) ∧ (kn : Int) ≤ 240) = B := ⟨_, rfl⟩
  rw [hB1] at HC1
  have HB1 : Hid (B1 = true ↔ 1 ≤ (kn : Int) ∧ (kn : Int) ≤ 240) := hid (by rw [← hB1]; exact decide_eq_true_iff)
  clear hB1
  have HC2 := hid (fun W (hf : Frm [] w W) => HRK.out W hf (-1) 255)
  obtain ⟨B2, hB2⟩ : ∃ B, decide (RiseL K (-1) 255) = B := ⟨_, rfl⟩
  rw [hB2] at HC2
  have HB2 : Hid (B2 = true ↔ RiseL K (-1) 255) := hid (by rw [← hB2]; exact decide_eq_true_iff)
  clear hB2
  clear hr
  go_enter Tryz.func60, Tryz.ntmps60
  go_wp2_with fail
  refine (HC0.out _).mono ?_
  rintro e w1 ⟨rfl, rfl⟩
  cases B0 with
  | false =>
    go_wp2_with fail
    first | go_returns | skip
    exact HP.out _ _ (by simp only [Bool.false_eq_true, false_iff]; exact fun h => absurd (HB0.out.2 h.1) (by simp)) ((Frm.refl _ _).alloc _)
  | true =>
  have HT0 := hid (HB0.out.1 rfl)
  go_wp2_with fail
  refine (HC1.out _).mono ?_
  rintro e w2 ⟨rfl, rfl⟩
  cases B1 with
  | false =>
    go_wp2_with fail
    first | go_returns | skip
    exact HP.out _ _ (by simp only [Bool.false_eq_true, false_iff]; exact fun h => absurd (HB1.out.2 h.2.1) (by simp)) ((Frm.refl _ _).alloc _)
  | true =>
  have HT1 := hid (HB1.out.1 rfl)
  go_wp2_with fail
  refine (HC2.out _ ((Frm.refl _ _).alloc _)).mono ?_
  rintro e w3 ⟨rfl, rfl⟩
  go_wp2_with fail
  first | go_returns | skip
  exact HP.out _ _ (by rw [HB2.out]; exact ⟨fun h => ⟨HT0.out, HT1.out, h⟩, fun h => h.2.2⟩) ((Frm.refl _ _).alloc _)
def MayWr (r : Rc) : Prop := (1 ≤ r.obj ∧ r.obj ≤ 1048576) ∧ (-1 ≤ r.at_ ∧ r.at_ ≤ 255) ∧ (1 ≤ (r.dl : Int) ∧ (r.dl : Int) ≤ 256)
instance (r : Rc) : Decidable (MayWr r) := by unfold MayWr; infer_instance
set_option maxHeartbeats 3200000 in
theorem mayWrite_any (r : Rc) (w : World) : Calls Tryz.prog 64 #[.agg r.arr] w fun e w' => e = .returned (.bool (decide (MayWr r))) ∧ Frm [] w w' := by
  obtain ⟨PO, hPO⟩ : ∃ PO : Ending → World → Prop, (fun e w' => e = .returned (.bool (decide (MayWr r))) ∧ Frm [] w w') = PO := ⟨_, rfl⟩
  rw [hPO]
  have HP : Hid (∀ x w', (x = true ↔ MayWr r) → Frm [] w w' → PO (.returned (.bool x)) w') := hid (fun x w' h h2 => by rw [← hPO]; exact ⟨by rw [bool_decR h], h2⟩)
  clear hPO
  unfold MayWr at HP
  obtain ⟨kind, name, typ, frm, guid, origin, snap, pp, pn, pc, obj, at_, many, kp, kn, kc, dp, dl, dc⟩ := r
  unfold Rc.arr
  simp only at HP ⊢
  have HC0 := hid (fun W => within_anyR obj 1 1048576 W)
  obtain ⟨B0, hB0⟩ : ∃ B, decide (1 ≤ obj ∧ obj ≤ 1048576) = B := ⟨_, rfl⟩
  rw [hB0] at HC0
  have HB0 : Hid (B0 = true ↔ 1 ≤ obj ∧ obj ≤ 1048576) := hid (by rw [← hB0]; exact decide_eq_true_iff)
  clear hB0
  have HC1 := hid (fun W => within_anyR at_ (-1) 255 W)
  obtain ⟨B1, hB1⟩ : ∃ B, decide (-1 ≤ at_ ∧ at_ ≤ 255) = B := ⟨_, rfl⟩
  rw [hB1] at HC1
  have HB1 : Hid (B1 = true ↔ -1 ≤ at_ ∧ at_ ≤ 255) := hid (by rw [← hB1]; exact decide_eq_true_iff)
  clear hB1
  have HC2 := hid (fun W => within_anyR (dl : Int) 1 256 W)
  obtain ⟨B2, hB2⟩ : ∃ B, decide (1 ≤ (dl : Int) ∧ (dl : Int) ≤ 256) = B := ⟨_, rfl⟩
  rw [hB2] at HC2
  have HB2 : Hid (B2 = true ↔ 1 ≤ (dl : Int) ∧ (dl : Int) ≤ 256) := hid (by rw [← hB2]; exact decide_eq_true_iff)
  clear hB2
  go_enter Tryz.func64, Tryz.ntmps64
  go_wp2_with fail
  refine (HC0.out _).mono ?_
  rintro e w1 ⟨rfl, rfl⟩
  cases B0 with
  | false =>
    go_wp2_with fail
    first | go_returns | skip
    exact HP.out _ _ (by simp only [Bool.false_eq_true, false_iff]; exact fun h => absurd (HB0.out.2 h.1) (by simp)) ((Frm.refl _ _).alloc _)
  | true =>
  have HT0 := hid (HB0.out.1 rfl)
  go_wp2_with fail
  refine (HC1.out _).mono ?_
  rintro e w2 ⟨rfl, rfl⟩
  cases B1 with
  | false =>
    go_wp2_with fail
    first | go_returns | skip
    exact HP.out _ _ (by simp only [Bool.false_eq_true, false_iff]; exact fun h => absurd (HB1.out.2 h.2.1) (by simp)) ((Frm.refl _ _).alloc _)
  | true =>
  have HT1 := hid (HB1.out.1 rfl)
  go_wp2_with fail
  refine (HC2.out _).mono ?_
  rintro e w3 ⟨rfl, rfl⟩
  go_wp2_with fail
  first | go_returns | skip
  exact HP.out _ _ (by rw [HB2.out]; exact ⟨fun h => ⟨HT0.out, HT1.out, h⟩, fun h => h.2.2⟩) ((Frm.refl _ _).alloc _)
end
section
section
variable {P : Program} {ops : Array Oper} {Q : Exit → Act → World → Prop} {md : Region.Mode} {S : World → Prop}
theorem wpAnyHT_two {n i j : Nat} {L : Array Bool → Act → World → Prop} {oi oj : Oper} {fuel : Nat} {listed : Array Bool} {a : Act} {w : World} (hi : ops[i]? = some oi) (hj : ops[j]? = some oj) (hr : Region.ready md ops listed = [i, j]) (hin : decide (i < n) = true) (hjn : decide (j < n) = true)
    (h1 : ∀ K' : Act → World → Prop, (∀ a w, S w → wpAnyHT P md ops Q S n L fuel (listed.setIfInBounds i true) a w → K' a w) → if Region.wanted oi (yielded ops a.tmps) = true then Oper.wp P oi a w K' Q else K' (a.put oi.dst undef) w)
    (h2 : ∀ K' : Act → World → Prop, (∀ a w, S w → wpAnyHT P md ops Q S n L fuel (listed.setIfInBounds j true) a w → K' a w) → if Region.wanted oj (yielded ops a.tmps) = true then Oper.wp P oj a w K' Q else K' (a.put oj.dst undef) w) :
    wpAnyHT P md ops Q S n L (fuel + 1) listed a w := by
  refine ⟨by rw [hr]; simp, fun k hk => ?_⟩
  rw [hr, List.mem_cons, List.mem_singleton] at hk
  rcases hk with rfl | rfl
  · exact ⟨of_decide_eq_true hin, wpOp_step hi (fun K' hK => h1 K' (fun a w hS hW => hK a w ⟨hS, hW⟩))⟩
  · exact ⟨of_decide_eq_true hjn, wpOp_step hj (fun K' hK => h2 K' (fun a w hS hW => hK a w ⟨hS, hW⟩))⟩
end
end
section
section
variable {P : Program} {ops : Array Oper} {Q : Exit → Act → World → Prop} {md : Region.Mode} {S S' : World → Prop}
theorem wpAnyHT_str {n : Nat} {L : Array Bool → Act → World → Prop} (hS : ∀ w, S' w → S w) (f : Nat) : ∀ (listed : Array Bool) (a : Act) (w : World), wpAnyHT P md ops Q S' n L f listed a w → wpAnyHT P md ops Q S n L f listed a w := by
  induction f with
  | zero => exact fun _ _ _ h => h
  | succ f ih => exact fun _ _ _ h => ⟨h.1, fun i hi => ⟨(h.2 i hi).1, wpOp_mono (fun _ _ hh => ⟨hS _ hh.1, ih _ _ _ hh.2⟩) (h.2 i hi).2⟩⟩
end
end
end Go.Proofs.YtajfjkfnmmfhmaaGreatDoor
