/- Records, the document's side: no field beside those. -/
import Derived.Test.YtajfjkfnmmfhmaaGreatDoorQrao
import Derived.Test.YtajfjkfnmmfhmaaGreatDoorQrae
import Derived.Test.YtajfjkfnmmfhmaaGreatDoorQraf
import Derived.Deep.Cut
import Derived.Deep.DeepCutAuto
import Derived.Deep.CutBlock
namespace Go.Proofs.YtajfjkfnmmfhmaaGreatDoor
set_option maxRecDepth 100000
set_option maxHeartbeats 25600000
section
open Go.RowKit Go.Lib
theorem i64_orR (a b : Nat) (ha : a < 9223372036854775808) (hb : b < 9223372036854775808) : bits .or .i64 (a : Int) (b : Int) = ((a ||| b : Nat) : Int) := by
 have hx : a ||| b < 2 ^ 63 := Nat.or_lt_two_pow (by omega) (by omega)
 show IntKind.i64.wrap ((BitVec.ofInt 64 (a : Int) ||| BitVec.ofInt 64 (b : Int)).toNat : Int) = _
 rw [BitVec.toNat_or, ofInt_u64 a (by omega), ofInt_u64 b (by omega)]
 exact IntWalk.i64_in _ (by omega)
theorem refOnly_any (r : Rc) (m : Nat) (hm : m < 4096) (w : World) :
  Calls Tryz.prog 31 #[.agg r.arr, .int .i64 (m : Nat)] w fun e w' => e = .returned (.bool (decide (sumB (fldB r) 12 ||| m = m))) ∧ Frm [] w w' := by
 obtain ⟨PO, hPO⟩ : ∃ PO : Ending → World → Prop, (fun e w' => e = .returned (.bool (decide (sumB (fldB r) 12 ||| m = m))) ∧ Frm [] w w') = PO := ⟨_, rfl⟩
 rw [hPO]
 have HP : Hid (∀ x w', (x = true ↔ sumB (fldB r) 12 ||| m = m) → Frm [] w w' → PO (.returned (.bool x)) w') := hid (fun x w' h h2 => by rw [← hPO]; exact ⟨by rw [bool_decR h], h2⟩)
 have hrow := heap_alloc_new w (.cells r.arr 26)
 have hfa : Frm [] w (w.alloc (.cells r.arr 26)) := (Frm.refl _ _).alloc _
 obtain ⟨wa, hwa⟩ := eX (w.alloc (.cells r.arr 26))
 obtain ⟨ba, hba⟩ := eX (w.heap.size)
 rw [hwa, hba] at hrow
 rw [hwa] at hfa
 have HWA := hid hwa
 have HBA := hid hba
 have HROW := hid hrow
 have HFA := hid hfa
 have HF := hid (refFields_any r wa)
 have HLT := hid (sumB_lt (fldB r) 12)
 obtain ⟨n, hn⟩ := eX (sumB (fldB r) 12)
 rw [hn] at HP HF HLT
 clear hPO hrow hfa hwa hba hn
 obtain ⟨kind, name, typ, frm, guid, origin, snap, pp, pn, pc, obj, at_, many, kp, kn, kc, dp, dl, dc⟩ := r
 unfold Rc.arr at HWA HROW HF ⊢
 simp only at HWA HROW HF ⊢
 go_enter Tryz.func31, Tryz.ntmps31
 have z0 := cR 0 (.int .i64 kind) HROW.out
 have z1 := cR 1 (.string name) HROW.out
 have z2 := cR 2 (.int .i64 typ) HROW.out
 have z3 := cR 3 (.int .i64 frm) HROW.out
 have z4 := cR 4 (.int .i64 guid) HROW.out
 have z5 := cR 5 (.int .i64 origin) HROW.out
 have z6 := cR 6 (.string snap) HROW.out
 have z7 := cR 7 (.slice pp pn pc) HROW.out
 have z8 := cR 8 (.int .i64 obj) HROW.out
 have z9 := cR 9 (.int .i64 at_) HROW.out
 have z10 := cR 10 (.int .i64 many) HROW.out
 have z11 := cR 11 (.slice kp kn kc) HROW.out
 have z12 := cR 12 (.slice dp dl dc) HROW.out
 go_upto_region 1 with fail
 try rw [HBA.out]
 try rw [HWA.out]
 go_wp2_with fail
 refine HF.out.mono ?_
 rintro e w1 ⟨rfl, hf1⟩
 have HF1 : Hid (Frm [] w w1) := hid (HFA.out.trans hf1 (by simp))
 clear hf1 z0 z1 z2 z3 z4 z5 z6 z7 z8 z9 z10 z11 z12
 go_wp2_with fail
 try go_returns
 refine HP.out _ _ ?_ HF1.out
 have hlt := HLT.out
 rw [i64_orR n m (by omega) (by omega), beq_iff_eq]
 exact Int.ofNat_inj
theorem only_3 : ∀ b0 b1 b2 b3 b4 b5 b6 b7 b8 b9 b10 b11 : Bool, decide (sumB [b0, b1, b2, b3, b4, b5, b6, b7, b8, b9, b10, b11] 12 ||| 3 = 3) = (!b2 && !b3 && !b4 && !b5 && !b6 && !b7 && !b8 && !b9 && !b10 && !b11) := by decide +kernel
theorem only_253 : ∀ b0 b1 b2 b3 b4 b5 b6 b7 b8 b9 b10 b11 : Bool, decide (sumB [b0, b1, b2, b3, b4, b5, b6, b7, b8, b9, b10, b11] 12 ||| 253 = 253) = (!b1 && !b8 && !b9 && !b10 && !b11) := by decide +kernel
theorem only_1024 : ∀ b0 b1 b2 b3 b4 b5 b6 b7 b8 b9 b10 b11 : Bool, decide (sumB [b0, b1, b2, b3, b4, b5, b6, b7, b8, b9, b10, b11] 12 ||| 1024 = 1024) = (!b0 && !b1 && !b2 && !b3 && !b4 && !b5 && !b6 && !b7 && !b8 && !b9 && !b11) := by decide +kernel
theorem only_1280 : ∀ b0 b1 b2 b3 b4 b5 b6 b7 b8 b9 b10 b11 : Bool, decide (sumB [b0, b1, b2, b3, b4, b5, b6, b7, b8, b9, b10, b11] 12 ||| 1280 = 1280) = (!b0 && !b1 && !b2 && !b3 && !b4 && !b5 && !b6 && !b7 && !b9 && !b11) := by decide +kernel
theorem only_2816 : ∀ b0 b1 b2 b3 b4 b5 b6 b7 b8 b9 b10 b11 : Bool, decide (sumB [b0, b1, b2, b3, b4, b5, b6, b7, b8, b9, b10, b11] 12 ||| 2816 = 2816) = (!b0 && !b1 && !b2 && !b3 && !b4 && !b5 && !b6 && !b7 && !b10) := by decide +kernel
theorem only_2 : ∀ b0 b1 b2 b3 b4 b5 b6 b7 b8 b9 b10 b11 : Bool, decide (sumB [b0, b1, b2, b3, b4, b5, b6, b7, b8, b9, b10, b11] 12 ||| 2 = 2) = (!b0 && !b2 && !b3 && !b4 && !b5 && !b6 && !b7 && !b8 && !b9 && !b10 && !b11) := by decide +kernel
end
section
open Go.RowKit Go.Lib
theorem splitU_sumX : ∀ l, ((splitU l).map fun p => p.length + 1).sum = l.length + 1
 | [] => rfl
 | b :: l => by
  have ih := splitU_sumX l
  have hl := splitU_len l
  rw [splitU]
  by_cases hb : b = 47
  ·rw [if_pos hb]; simp [ih]; omega
  ·rw [if_neg hb]
   cases hs : splitU l with
   | nil => rw [hs] at hl; simp at hl
   | cons p ps => rw [hs] at ih; simp at ih ⊢; omega
theorem sum_le25X : ∀ L : List (List UInt8), (∀ p ∈ L, p.length ≤ 24) → (L.map fun p => p.length + 1).sum ≤ 25 * L.length
 | [], _ => by simp
 | p :: L, h => by
  have ih := sum_le25X L (fun q hq => h q (by simp [hq]))
  have := h p (by simp)
  simp only [List.map_cons, List.sum_cons, List.length_cons]; omega
theorem splitU_x (m : List UInt8) : splitU (120 :: 47 :: m) = [120] :: splitU m := by
 rw [splitU, if_neg (by decide), splitU, if_pos rfl]
theorem part_x : PartL (txU [120]) := by decide
theorem nameU_root (l : List UInt8) : NmOk l ↔ l = [] ∨ (rootU l ∧ NameU (120 :: l)) := by
 unfold NmOk
 cases l with
 | nil => simp
 | cons b m =>
  by_cases hb : b = 47
  ·subst hb
   have h : NameU (120 :: 47 :: m) ↔ PartsU m 7 := by
    unfold NameU PartsU
    rw [splitU_x]
    have hc : Lib.countByte (120 :: 47 :: m) 47 = Lib.countByte m 47 + 1 := by
     unfold Lib.countByte
     rw [List.count_cons_of_ne (by decide), List.count_cons_self]
    rw [hc]
    constructor
    ·rintro ⟨_, h1, h2⟩
     exact ⟨by omega, fun p hp => h2 p (List.mem_cons_of_mem _ hp)⟩
    ·rintro ⟨h1, h2⟩
     refine ⟨?_, by omega, fun p hp => ?_⟩
     ·have h3 := splitU_sumX m
      have h4 := sum_le25X (splitU m) (fun p hp => by
       have := (h2 p hp).1.2
       unfold txU at this
       simpa using this)
      rw [splitU_len] at h4
      simp only [List.length_cons]
      omega
     ·rcases List.mem_cons.1 hp with h | h
      ·rw [h]; exact part_x
      ·exact h2 p h
   rw [h]
   rfl
  ·have : ¬ rootU (b :: m) := by unfold rootU; simpa using hb
   simp [this]
theorem ba_emp (s : ByteArray) : (!(!s.toList.isEmpty)) = true ↔ s = ⟨#[]⟩ := by
 rw [Bool.not_not, Lib.toList_data, List.isEmpty_iff]
 constructor
 ·intro h; rw [← str_txB s]; simp [tx, h, strOfNums]
 ·intro h; rw [h]
theorem int_emp (x : Int) : (!(x != 0)) = true ↔ x = 0 := by simp
theorem len_emp {α : Type} {L : List α} {n : Nat} (h : L.length = n) : (!decide (0 < n)) = true ↔ L = [] := by
 subst h
 cases L <;> simp
theorem onlyR_3 (r : Rc) (P : List Pr) (K D : List Int) (hp : P.length = r.pn) (hk : K.length = r.kn) (hd : D.length = r.dl) : sumB (fldB r) 12 ||| 3 = 3 ↔ SameR r r.onlyPackage P [] K [] D [] := by
 refine decide_eq_true_iff.symm.trans ?_
 unfold fldB SameR Rc.onlyPackage
 rw [only_3]
 simp only [Bool.and_eq_true, int_emp, ba_emp, len_emp hp, len_emp hk, len_emp hd]
 constructor
 ·intro h; simp [h]
 ·intro h; simp [h]
theorem onlyR_253 (r : Rc) (P : List Pr) (K D : List Int) (hk : K.length = r.kn) (hd : D.length = r.dl) : sumB (fldB r) 12 ||| 253 = 253 ↔ SameR r r.onlyBegin P P K [] D [] := by
 refine decide_eq_true_iff.symm.trans ?_
 unfold fldB SameR Rc.onlyBegin
 rw [only_253]
 simp only [Bool.and_eq_true, int_emp, len_emp hk, len_emp hd]
 constructor
 ·intro h; simp [h]
 ·intro h; simp [h]
theorem onlyR_1024 (r : Rc) (P : List Pr) (K D : List Int) (hp : P.length = r.pn) (hd : D.length = r.dl) : sumB (fldB r) 12 ||| 1024 = 1024 ↔ SameR r r.onlyLive P [] K K D [] := by
 refine decide_eq_true_iff.symm.trans ?_
 unfold fldB SameR Rc.onlyLive
 rw [only_1024]
 simp only [Bool.and_eq_true, int_emp, ba_emp, len_emp hp, len_emp hd]
 constructor
 ·intro h; simp [h]
 ·intro h; simp [h]
theorem onlyR_1280 (r : Rc) (P : List Pr) (K D : List Int) (hp : P.length = r.pn) (hd : D.length = r.dl) : sumB (fldB r) 12 ||| 1280 = 1280 ↔ SameR r r.onlyNode P [] K K D [] := by
 refine decide_eq_true_iff.symm.trans ?_
 unfold fldB SameR Rc.onlyNode
 rw [only_1280]
 simp only [Bool.and_eq_true, int_emp, ba_emp, len_emp hp, len_emp hd]
 constructor
 ·intro h; simp [h]
 ·intro h; simp [h]
theorem onlyR_2816 (r : Rc) (P : List Pr) (K D : List Int) (hp : P.length = r.pn) (hk : K.length = r.kn) : sumB (fldB r) 12 ||| 2816 = 2816 ↔ SameR r r.onlyWrite P [] K [] D D := by
 refine decide_eq_true_iff.symm.trans ?_
 unfold fldB SameR Rc.onlyWrite
 rw [only_2816]
 simp only [Bool.and_eq_true, int_emp, ba_emp, len_emp hp, len_emp hk]
 constructor
 ·intro h; simp [h]
 ·intro h; simp [h]
theorem onlyR_2 (r : Rc) (P : List Pr) (K D : List Int) (hp : P.length = r.pn) (hk : K.length = r.kn) (hd : D.length = r.dl) : sumB (fldB r) 12 ||| 2 = 2 ↔ SameR r r.onlyCount P [] K [] D [] := by
 refine decide_eq_true_iff.symm.trans ?_
 unfold fldB SameR Rc.onlyCount
 rw [only_2]
 simp only [Bool.and_eq_true, int_emp, ba_emp, len_emp hp, len_emp hk, len_emp hd]
 constructor
 ·intro h; simp [h]
 ·intro h; simp [h]
end
section
open Go.RowKit Go.Lib
theorem x_name (s : ByteArray) : ((⟨#[120]⟩ : ByteArray) ++ s).data.toList = 120 :: s.data.toList := by simp
theorem refBegin_any (r : Rc) (P : List Pr) (w : World) (hr : RdP w r.pp P) (hl : P.length = r.pn) (hm : r.pn ≤ 9223372036854775807) (hs : r.name.size ≤ 140737488355328) (hv : ∀ i, i < P.length → (prA P i).2.size ≤ 9223372036854775807) :
  Calls Tryz.prog 33 #[.agg r.arr] w fun e w' => e = .returned (.bool (decide (MayBg r P))) ∧ Frm [] w w' := by
 obtain ⟨PO, hPO⟩ : ∃ PO : Ending → World → Prop, (fun e w' => e = .returned (.bool (decide (MayBg r P))) ∧ Frm [] w w') = PO := ⟨_, rfl⟩
 rw [hPO]
 have HP : Hid (∀ x w', (x = true ↔ MayBg r P) → Frm [] w w' → PO (.returned (.bool x)) w') := hid (fun x w' h h2 => by rw [← hPO]; exact ⟨by rw [bool_decR h], h2⟩)
 obtain ⟨wb, hwb⟩ := eX (w.alloc (.cells r.arr 26))
 have hrow := heap_alloc_new w (.cells r.arr 26)
 have hfb : Frm [] w wb := by rw [← hwb]; exact (Frm.refl _ _).alloc _
 obtain ⟨b, hb⟩ := eX (w.heap.size)
 rw [hwb, hb] at hrow
 have HX := hid (fun V (hf : Frm [] wb V) => rc_cells (hf.heap hrow (by simp)))
 have HFB := hid hfb
 have HRP := hid (fun V (hf : Frm [] wb V) => hr.kept (hfb.trans hf (by simp)) (by simp))
 have HL := hid hl
 have HWB := hid hwb
 have HB := hid hb
 have HV := hid hv
 unfold MayBg BgRest at HP
 clear hPO hwb hrow hfb hb hr hl hv
 obtain ⟨kind, name, typ, frm, guid, origin, snap, pp, pn, pc, obj, at_, many, kp, kn, kc, dp, dl, dc⟩ := r
 unfold Rc.arr at HWB ⊢
 simp only at HP HX HRP HL HWB hm hs ⊢
 go_enter Tryz.func33, Tryz.ntmps33
 go_upto_region 1 with fail
 try rw [HB.out]
 try rw [HWB.out]
 clear HB HWB
 obtain ⟨x0, x1, x2, x3, x4, x5, x6, x7, x8, x9, x10, x11, x12⟩ := HX.out wb (Frm.refl _ _)
 go_cut [3] from 11 to 25 (fun v wx => ∃ x, v = .bool x ∧ (x = true ↔ NmOk name.data.toList) ∧ Hid (Frm [] wb wx))
 case first =>
  have HNU := hid (nameU_root name.data.toList)
  by_cases hn : name = ⟨#[]⟩
  case pos =>
   subst hn
   go_wp2_with fail
   go_meet
   case rel => exact ⟨_, rfl, ⟨fun _ => Or.inl rfl, fun _ => rfl⟩, hid (Frm.refl _ _)⟩
  have hne : name.data.toList ≠ [] := fun h => hn (by rw [← str_txB name]; simp [tx, h, strOfNums])
  have hb1 : (name.toList == []) = false := by rw [Lib.toList_data]; exact beq_eq_false_iff_ne.2 hne
  have hsz : 0 < name.size := by
   have h : name.data.size = name.size := rfl
   have h2 : name.data.toList.length ≠ 0 := fun h => hne (List.eq_nil_of_length_eq_zero h)
   rw [Array.length_toList] at h2; omega
  have hsz1 : (0 : Int) < (name.size : Int) := by omega
  have HNE := hid hne
  have hro : rootU name.data.toList ↔ name[0].toNat = 47 := by
   unfold rootU
   rw [List.head?_eq_getElem?, Array.getElem?_toList, Array.getElem?_eq_getElem hsz]
   constructor
   ·intro h; have := Option.some.inj h; exact congrArg UInt8.toNat this
   ·intro h; exact congrArg some (UInt8.toNat_inj.1 h)
  by_cases h47 : name[0].toNat = 47
  case neg =>
   have i2 : ((name[0].toNat : Int) == 47) = false := by rw [beq_eq_false_iff_ne]; omega
   have HNR : Hid (¬ rootU name.data.toList) := hid (fun h => h47 (hro.1 h))
   clear hro hne hn h47
   go_wp2_with fail
   go_meet
   case rel => exact ⟨_, rfl, ⟨fun h => by simp at h, fun h => absurd h (by rw [HNU.out]; exact fun h => h.elim HNE.out (fun h => HNR.out h.1))⟩, hid (Frm.refl _ _)⟩
  have i2 : ((name[0].toNat : Int) == 47) = true := by rw [beq_iff_eq]; omega
  have HNR : Hid (rootU name.data.toList) := hid (hro.2 h47)
  have HRN := hid (fun W => refName_any (⟨#[120]⟩ ++ name) W)
  rw [x_name] at HRN
  obtain ⟨B, hB⟩ := eX (decide (NameU (120 :: name.data.toList)))
  rw [hB] at HRN
  have HBB : Hid (B = true ↔ NameU (120 :: name.data.toList)) := hid (by rw [← hB]; exact decide_eq_true_iff)
  clear hB hro hne hn h47
  go_wp2_with fail
  refine (HRN.out _).mono ?_
  rintro e w1 ⟨rfl, rfl⟩
  go_wp2_with fail
  go_meet
  case rel => exact ⟨_, rfl, ⟨fun h => by rw [HNU.out]; exact Or.inr ⟨HNR.out, HBB.out.1 (by simpa using h)⟩, fun h => by
   rw [HNU.out] at h
   have h2 := HBB.out.2 (h.elim (fun h => absurd h HNE.out) (fun h => h.2))
   rw [h2]⟩, hid (Frm.refl _ _)⟩
 obtain ⟨NB, rfl, hx, hwc⟩ := hcut
 have HNM := hid hx
 have HWC := hid hwc.out
 clear hx hwc x0 x1 x2 x3 x4 x5 x6 x7 x8 x9 x10 x11 x12
 generalize wc = w2 at *
 have HPS := hid (fun W => refPart_any snap W)
 obtain ⟨SB, hSB⟩ := eX (decide (PartL (tx snap)))
 rw [hSB] at HPS
 have HSB : Hid (SB = true ↔ PartL (tx snap)) := hid (by rw [← hSB]; exact decide_eq_true_iff)
 clear hSB
 obtain ⟨x0, x1, x2, x3, x4, x5, x6, x7, x8, x9, x10, x11, x12⟩ := HX.out w2 HWC.out
 go_upto_region 3 with (refine (HPS.out _).mono ?_; rintro e w9 ⟨rfl, h9⟩; subst w9)
 go_cut [5] from 29 to 56 (fun v wx => ∃ x, v = .bool x ∧ (x = true ↔ ((typ = 1 ∨ typ = 2) ∧ (0 ≤ frm ∧ frm ≤ 2199023255552) ∧ (1 ≤ guid ∧ guid ≤ 2199023255552))) ∧ wx = w2)
 case first =>
  by_cases c0 : 1 ≤ typ
  case neg =>
   have HK : Hid (¬ ((typ = 1 ∨ typ = 2) ∧ (0 ≤ frm ∧ frm ≤ 2199023255552) ∧ (1 ≤ guid ∧ guid ≤ 2199023255552))) := hid (by omega)
   go_wp2_with fail
   go_meet
   case rel => exact ⟨false, rfl, ⟨fun h => by simp at h, fun h => absurd h HK.out⟩, rfl⟩
  by_cases c1 : typ ≤ 2
  case neg =>
   have HK : Hid (¬ ((typ = 1 ∨ typ = 2) ∧ (0 ≤ frm ∧ frm ≤ 2199023255552) ∧ (1 ≤ guid ∧ guid ≤ 2199023255552))) := hid (by omega)
   go_wp2_with fail
   go_meet
   case rel => exact ⟨false, rfl, ⟨fun h => by simp at h, fun h => absurd h HK.out⟩, rfl⟩
  by_cases c2 : 0 ≤ frm
  case neg =>
   have HK : Hid (¬ ((typ = 1 ∨ typ = 2) ∧ (0 ≤ frm ∧ frm ≤ 2199023255552) ∧ (1 ≤ guid ∧ guid ≤ 2199023255552))) := hid (by omega)
   go_wp2_with fail
   go_meet
   case rel => exact ⟨false, rfl, ⟨fun h => by simp at h, fun h => absurd h HK.out⟩, rfl⟩
  by_cases c3 : frm ≤ 2199023255552
  case neg =>
   have HK : Hid (¬ ((typ = 1 ∨ typ = 2) ∧ (0 ≤ frm ∧ frm ≤ 2199023255552) ∧ (1 ≤ guid ∧ guid ≤ 2199023255552))) := hid (by omega)
   go_wp2_with fail
   go_meet
   case rel => exact ⟨false, rfl, ⟨fun h => by simp at h, fun h => absurd h HK.out⟩, rfl⟩
  by_cases c4 : 1 ≤ guid
  case neg =>
   have HK : Hid (¬ ((typ = 1 ∨ typ = 2) ∧ (0 ≤ frm ∧ frm ≤ 2199023255552) ∧ (1 ≤ guid ∧ guid ≤ 2199023255552))) := hid (by omega)
   go_wp2_with fail
   go_meet
   case rel => exact ⟨false, rfl, ⟨fun h => by simp at h, fun h => absurd h HK.out⟩, rfl⟩
  by_cases c5 : guid ≤ 2199023255552
  case neg =>
   have HK : Hid (¬ ((typ = 1 ∨ typ = 2) ∧ (0 ≤ frm ∧ frm ≤ 2199023255552) ∧ (1 ≤ guid ∧ guid ≤ 2199023255552))) := hid (by omega)
   go_wp2_with fail
   go_meet
   case rel => exact ⟨false, rfl, ⟨fun h => by simp at h, fun h => absurd h HK.out⟩, rfl⟩
  have HK : Hid ((typ = 1 ∨ typ = 2) ∧ (0 ≤ frm ∧ frm ≤ 2199023255552) ∧ (1 ≤ guid ∧ guid ≤ 2199023255552)) := hid (by omega)
  go_wp2_with fail
  go_meet
  case rel => exact ⟨true, rfl, ⟨fun _ => HK.out, fun _ => rfl⟩, rfl⟩
 obtain ⟨UB, rfl, hx, rfl⟩ := hcut
 have HUB := hid hx
 clear hx
 go_upto_region 4 with fail
 go_cut [6] from 57 to 69 (fun v wx => ∃ x, v = .bool x ∧ (x = true ↔ (origin = 0 ∨ (origin = 1 ∧ 0 < frm))) ∧ wx = wc)
 case first =>
  by_cases o0 : origin = 0
  case pos =>
   have b5 : (origin == 0) = true := by rw [beq_iff_eq]; exact o0
   have HK : Hid (origin = 0 ∨ (origin = 1 ∧ 0 < frm)) := hid (Or.inl o0)
   clear o0
   go_wp2_with fail
   go_meet
   case rel => exact ⟨true, rfl, ⟨fun _ => HK.out, fun _ => rfl⟩, rfl⟩
  have b5 : (origin == 0) = false := by rw [beq_eq_false_iff_ne]; exact o0
  by_cases o1 : origin = 1
  case neg =>
   have b6 : (origin == 1) = false := by rw [beq_eq_false_iff_ne]; exact o1
   have HK : Hid (¬ (origin = 0 ∨ (origin = 1 ∧ 0 < frm))) := hid (fun h => h.elim o0 (fun h => o1 h.1))
   clear o0 o1
   go_wp2_with fail
   go_meet
   case rel => exact ⟨false, rfl, ⟨fun h => by simp at h, fun h => absurd h HK.out⟩, rfl⟩
  have b6 : (origin == 1) = true := by rw [beq_iff_eq]; exact o1
  by_cases f0 : 0 < frm
  case neg =>
   have HK : Hid (¬ (origin = 0 ∨ (origin = 1 ∧ 0 < frm))) := hid (fun h => h.elim o0 (fun h => f0 h.2))
   clear o0 o1
   go_wp2_with fail
   go_meet
   case rel => exact ⟨false, rfl, ⟨fun h => by simp at h, fun h => absurd h HK.out⟩, rfl⟩
  have HK : Hid (origin = 0 ∨ (origin = 1 ∧ 0 < frm)) := hid (Or.inr ⟨o1, f0⟩)
  clear o0 o1
  go_wp2_with fail
  go_meet
  case rel => exact ⟨true, rfl, ⟨fun _ => HK.out, fun _ => rfl⟩, rfl⟩
 obtain ⟨OB, rfl, hx, rfl⟩ := hcut
 have HOB := hid hx
 clear hx
 generalize wc = w2 at *
 cases NB with
 | false =>
  go_wp2_with fail
  try go_returns
  exact HP.out _ _ (by simp only [Bool.false_eq_true, false_iff]; exact fun h => absurd (HNM.out.2 h.1) (by simp)) (HFB.out.trans HWC.out (by simp))
 | true =>
 cases SB with
 | false =>
  go_wp2_with fail
  try go_returns
  exact HP.out _ _ (by simp only [Bool.false_eq_true, false_iff]; exact fun ⟨_, _, _, _, _, _, h, _⟩ => absurd (HSB.out.2 h) (by simp)) (HFB.out.trans HWC.out (by simp))
 | true =>
 cases UB with
 | false =>
  go_wp2_with fail
  try go_returns
  exact HP.out _ _ (by simp only [Bool.false_eq_true, false_iff]; exact fun ⟨_, _, h1, h2, h3, _⟩ => absurd (HUB.out.2 ⟨h1, h2, h3⟩) (by simp)) (HFB.out.trans HWC.out (by simp))
 | true =>
 have HU := hid (HUB.out.1 rfl)
 cases OB with
 | false =>
  go_wp2_with fail
  try go_returns
  exact HP.out _ _ (by simp only [Bool.false_eq_true, false_iff]; exact fun ⟨_, _, _, h2, _, h, _⟩ => absurd (HOB.out.2 (h.imp id (fun h => ⟨h.1, by omega⟩))) (by simp)) (HFB.out.trans HWC.out (by simp))
 | true =>
 have HO := hid (HOB.out.1 rfl)
 have HN1 := hid (HNM.out.1 rfl)
 have HS1 := hid (HSB.out.1 rfl)
 clear HUB HOB HNM HSB
 by_cases p12 : pn ≤ 12
 case neg =>
  have HK := hid p12
  have i12 : (12 : Int) < (pn : Int) := by omega
  clear p12
  go_wp2_with fail
  try go_returns
  exact HP.out _ _ (by simp only [Bool.false_eq_true, false_iff]; exact fun ⟨_, _, _, _, _, _, _, h⟩ => HK.out h) (HFB.out.trans HWC.out (by simp))
 have HK12 := hid p12
 have i12 : ¬ (12 : Int) < (pn : Int) := by omega
 have HR : Hid (PropsOk P → MayBg ⟨kind, name, typ, frm, guid, origin, snap, pp, pn, pc, obj, at_, many, kp, kn, kc, dp, dl, dc⟩ P) := hid (fun h => ⟨HN1.out, h, HU.out.1, HU.out.2.1, HU.out.2.2, HO.out.imp id (fun h => ⟨h.1, by show frm ≠ 0; omega⟩), HS1.out, HK12.out⟩)
 go_wp2_with fail
 clear x0 x1 x2 x3 x4 x5 x6 x7 x8 x9 x10 x11 x12
 go_loopw [2, 7] (fun rv i wr => ∃ t : Nat, t ≤ pn ∧ rv = .bool false ∧ i = .int .i64 (t : Int) ∧ Hid (∀ j, j < t → PrAt P j) ∧ Hid (Frm [] wb wr)) (fun _ i _ => pn - (intOf i).toNat)
 case atStart => exact ⟨0, Nat.zero_le _, rfl, rfl, hid (fun j hj => by omega), HWC⟩
 case round =>
  obtain ⟨t, ht, rfl, rfl, hok, hf⟩ := hrel
  have HOK := hid hok.out
  have HF := hid hf.out
  clear hok hf
  by_cases hlt : t < pn
  case neg =>
   obtain rfl : t = pn := by omega
   have HPO : Hid (PropsOk P) := hid (fun i hi => HOK.out i (by rw [← HL.out]; exact hi))
   obtain ⟨y0, y1, y2, y3, y4, y5, y6, y7, y8, y9, y10, y11, y12⟩ := HX.out wr HF.out
   go_wp2_with fail
   try go_returns
   exact HP.out _ _ (by simp only [true_iff]; exact HR.out HPO.out) (HFB.out.trans HF.out (by simp))
  have t1 : (t : Int) < (pn : Int) := by omega
  have HSZ := hid (HV.out t (by rw [HL.out]; exact hlt))
  obtain ⟨g, o, rfl, hc⟩ := (HRP.out wr HF.out).at (i := t) (by rw [HL.out]; exact hlt)
  obtain ⟨z0, z1⟩ := hc t (by rw [HL.out]; exact hlt)
  rw [prA_get (by rw [HL.out]; exact hlt)] at z0 z1
  have HBD : Hid (PropsOk P → PrAt P t) := hid (fun h => h t (by rw [HL.out]; exact hlt))
  have HNX : Hid (PrAt P t → ∀ j, j < t + 1 → PrAt P j) := hid (fun h j hj => by
   by_cases hj2 : j < t
   ·exact HOK.out j hj2
   ·obtain rfl : j = t := by omega
    exact h)
  have HPV : Hid (0 < t → ∀ V, Frm [] wr V → V.cell? ⟨g, o + (t - 1) * 2, none⟩ = some (.string (prA P (t - 1)).1)) := hid (fun h0 V hV => by
   have h := (hc (t - 1) (by rw [HL.out]; omega)).1
   rw [prA_get (by rw [HL.out]; omega)] at h
   exact (hV.cell (p := ⟨g, o + (t - 1) * 2, none⟩) (World.block_lt_of_cell? _ _ h) (by simp)).trans h)
  have HPR : Hid (PrAt P t ↔ PartL (tx (prA P t).1) ∧ ValL (tx (prA P t).2) ∧ (0 < t → Op.bytesLess (prA P (t - 1)).1.toList (prA P t).1.toList = true)) := hid Iff.rfl
  obtain ⟨pv, hpv⟩ := eX ((prA P (t - 1)).1)
  obtain ⟨nm, hnm⟩ := eX ((prA P t).1)
  obtain ⟨vl, hvl⟩ := eX ((prA P t).2)
  rw [hpv] at HPV HPR
  rw [hnm] at z0 HPR
  rw [hvl] at z1 HPR HSZ
  obtain ⟨y0, y1, y2, y3, y4, y5, y6, y7, y8, y9, y10, y11, y12⟩ := HX.out wr HF.out
  clear y0 y1 y2 y3 y4 y5 y6 y8 y9 y10 y11 y12 hc hpv hnm hvl HOK
  obtain ⟨wq, hwq⟩ := eX (wr.alloc (.cells #[.string nm, .string vl] 70))
  have hrowq := heap_alloc_new wr (.cells #[.string nm, .string vl] 70)
  have hfq : Frm [] wr wq := by rw [← hwq]; exact (Frm.refl _ _).alloc _
  obtain ⟨q, hq⟩ := eX (wr.heap.size)
  rw [hwq, hq] at hrowq
  have HWQ := hid hwq
  have HQ := hid hq
  have HFQ : Hid (Frm [] wb wq) := hid (HF.out.trans hfq (by simp))
  have q0 := cR 0 (.string nm) hrowq
  have q1 := cR 1 (.string vl) hrowq
  have HFR := hid hfq
  clear hwq hq hrowq hfq
  go_upto_region 11 with fail
  try rw [HQ.out]
  try rw [HWQ.out]
  clear HQ HWQ z0 z1 y7
  have HPA := hid (fun W => refPart_any nm W)
  have HVA := hid (fun W => refValue_any vl HSZ.out W)
  obtain ⟨B1, hB1⟩ := eX (decide (PartL (tx nm)))
  obtain ⟨B2, hB2⟩ := eX (decide (ValL (tx vl)))
  rw [hB1] at HPA
  rw [hB2] at HVA
  have HB1 : Hid (B1 = true ↔ PartL (tx nm)) := hid (by rw [← hB1]; exact decide_eq_true_iff)
  have HB2 : Hid (B2 = true ↔ ValL (tx vl)) := hid (by rw [← hB2]; exact decide_eq_true_iff)
  clear hB1 hB2 HSZ
  go_upto_region 12 with (refine (HPA.out _).mono ?_; rintro e w9 ⟨rfl, h9⟩; subst w9)
  go_wp2_with fail
  refine (HVA.out _).mono ?_
  rintro e w9 ⟨rfl, h9⟩
  subst w9
  go_wp2_with fail
  obtain ⟨y0, y1, y2, y3, y4, y5, y6, y7, y8, y9, y10, y11, y12⟩ := HX.out wq HFQ.out
  clear y0 y1 y2 y3 y4 y5 y6 y8 y9 y10 y11 y12
  have HFD : Hid (Frm [] w wq.drew) := hid (HFB.out.trans (HFQ.out.drew) (by simp))
  cases B1 with
  | false =>
   refine wp_region_tail (S := fun W => (True)) 21 22 rfl (by kernel_rfl) (by kernel_rfl) ?_
   refine hI (i := 0) (v := ?_) rfl ?_ trivial ?_
   rotate_left 1
   ·rintro W _; (try simp only [lA, lZ]); go_simp; try with_reducible rfl
   try simp only [lA, lZ, Act.put, lI, lW, lX]
   refine hI (i := 1) (v := ?_) rfl ?_ trivial ?_
   rotate_left 1
   ·rintro W _; (try simp only [lA, lS, lZ]); go_simp; try with_reducible rfl
   try simp only [lA, lS, lZ, Act.put, lI, lW, lX]
   refine hI (i := 2) (v := ?_) rfl ?_ trivial ?_
   rotate_left 1
   ·rintro W _; (try simp only [lA, lS, lZ]); go_simp; try with_reducible rfl
   try simp only [lA, lS, lZ, Act.put, lI, lW, lX]
   refine hU (i := 3) rfl trivial ?_
   try simp only [lA, lS, lZ, Act.put, lI, lW, lX]
   refine hU (i := 4) rfl trivial ?_
   try simp only [lA, lS, lZ, Act.put, lI, lW, lX]
   refine hI (i := 5) (v := ?_) rfl ?_ trivial ?_
   rotate_left 1
   ·rintro W _; (try simp only [lA, lS, lZ]); go_simp; try with_reducible rfl
   try simp only [lA, lS, lZ, Act.put, lI, lW, lX]
   refine hI (i := 6) (v := ?_) rfl ?_ trivial ?_
   rotate_left 1
   ·rintro W _; (try simp only [lA, lS, lZ]); go_simp; try with_reducible rfl
   try simp only [lA, lS, lZ, Act.put, lI, lW, lX]
   refine hU (i := 7) rfl trivial ?_
   try simp only [lA, lS, lZ, Act.put, lI, lW, lX]
   refine hU (i := 8) rfl trivial ?_
   try simp only [lA, lS, lZ, Act.put, lI, lW, lX]
   refine hU (i := 9) rfl trivial ?_
   try simp only [lA, lS, lZ, Act.put, lI, lW, lX]
   refine hU (i := 10) rfl trivial ?_
   try simp only [lA, lS, lZ, Act.put, lI, lW, lX]
   refine hU (i := 11) rfl trivial ?_
   try simp only [lA, lS, lZ, Act.put, lI, lW, lX]
   refine hU (i := 12) rfl trivial ?_
   try simp only [lA, lS, lZ, Act.put, lI, lW, lX]
   refine hU (i := 13) rfl trivial ?_
   try simp only [lA, lS, lZ, Act.put, lI, lW, lX]
   refine hU (i := 14) rfl trivial ?_
   try simp only [lA, lS, lZ, Act.put, lI, lW, lX]
   refine hU (i := 15) rfl trivial ?_
   try simp only [lA, lS, lZ, Act.put, lI, lW, lX]
   refine hU (i := 16) rfl trivial ?_
   try simp only [lA, lS, lZ, Act.put, lI, lW, lX]
   refine hU (i := 17) rfl trivial ?_
   try simp only [lA, lS, lZ, Act.put, lI, lW, lX]
   refine hU (i := 18) rfl trivial ?_
   try simp only [lA, lS, lZ, Act.put, lI, lW, lX]
   refine hU (i := 19) rfl trivial ?_
   try simp only [lA, lS, lZ, Act.put, lI, lW, lX]
   refine hU (i := 20) rfl trivial ?_
   try simp only [lA, lS, lZ, Act.put, lI, lW, lX]
   refine wpAnyHT_end (by kernel_rfl) ?_
   simp only [List.drop_succ_cons, List.drop_zero]
   go_wp2_with fail
   try go_returns
   exact HP.out _ _ (by simp only [Bool.false_eq_true, false_iff]; exact fun h => absurd (HB1.out.2 (HPR.out.1 (HBD.out h.2.1)).1) (by simp)) HFD.out
  | true =>
  cases B2 with
  | false =>
   refine wp_region_tail (S := fun W => (True)) 21 22 rfl (by kernel_rfl) (by kernel_rfl) ?_
   refine hI (i := 0) (v := ?_) rfl ?_ trivial ?_
   rotate_left 1
   ·rintro W _; (try simp only [lA, lZ]); go_simp; try with_reducible rfl
   try simp only [lA, lZ, Act.put, lI, lW, lX]
   refine hI (i := 1) (v := ?_) rfl ?_ trivial ?_
   rotate_left 1
   ·rintro W _; (try simp only [lA, lS, lZ]); go_simp; try with_reducible rfl
   try simp only [lA, lS, lZ, Act.put, lI, lW, lX]
   refine hI (i := 2) (v := ?_) rfl ?_ trivial ?_
   rotate_left 1
   ·rintro W _; (try simp only [lA, lS, lZ]); go_simp; try with_reducible rfl
   try simp only [lA, lS, lZ, Act.put, lI, lW, lX]
   refine hI (i := 3) (v := ?_) rfl ?_ trivial ?_
   rotate_left 1
   ·rintro W _; (try simp only [lA, lS, lZ]); go_simp; try with_reducible rfl
   try simp only [lA, lS, lZ, Act.put, lI, lW, lX]
   refine hI (i := 4) (v := ?_) rfl ?_ trivial ?_
   rotate_left 1
   ·rintro W _; (try simp only [lA, lS, lZ]); go_simp; try with_reducible rfl
   try simp only [lA, lS, lZ, Act.put, lI, lW, lX]
   refine hI (i := 5) (v := ?_) rfl ?_ trivial ?_
   rotate_left 1
   ·rintro W _; (try simp only [lA, lS, lZ]); go_simp; try with_reducible rfl
   try simp only [lA, lS, lZ, Act.put, lI, lW, lX]
   refine hI (i := 6) (v := ?_) rfl ?_ trivial ?_
   rotate_left 1
   ·rintro W _; (try simp only [lA, lS, lZ]); go_simp; try with_reducible rfl
   try simp only [lA, lS, lZ, Act.put, lI, lW, lX]
   refine hU (i := 7) rfl trivial ?_
   try simp only [lA, lS, lZ, Act.put, lI, lW, lX]
   refine hU (i := 8) rfl trivial ?_
   try simp only [lA, lS, lZ, Act.put, lI, lW, lX]
   refine hU (i := 9) rfl trivial ?_
   try simp only [lA, lS, lZ, Act.put, lI, lW, lX]
   refine hU (i := 10) rfl trivial ?_
   try simp only [lA, lS, lZ, Act.put, lI, lW, lX]
   refine hU (i := 11) rfl trivial ?_
   try simp only [lA, lS, lZ, Act.put, lI, lW, lX]
   refine hU (i := 12) rfl trivial ?_
   try simp only [lA, lS, lZ, Act.put, lI, lW, lX]
   refine hU (i := 13) rfl trivial ?_
   try simp only [lA, lS, lZ, Act.put, lI, lW, lX]
   refine hU (i := 14) rfl trivial ?_
   try simp only [lA, lS, lZ, Act.put, lI, lW, lX]
   refine hU (i := 15) rfl trivial ?_
   try simp only [lA, lS, lZ, Act.put, lI, lW, lX]
   refine hU (i := 16) rfl trivial ?_
   try simp only [lA, lS, lZ, Act.put, lI, lW, lX]
   refine hU (i := 17) rfl trivial ?_
   try simp only [lA, lS, lZ, Act.put, lI, lW, lX]
   refine hU (i := 18) rfl trivial ?_
   try simp only [lA, lS, lZ, Act.put, lI, lW, lX]
   refine hU (i := 19) rfl trivial ?_
   try simp only [lA, lS, lZ, Act.put, lI, lW, lX]
   refine hU (i := 20) rfl trivial ?_
   try simp only [lA, lS, lZ, Act.put, lI, lW, lX]
   refine wpAnyHT_end (by kernel_rfl) ?_
   simp only [List.drop_succ_cons, List.drop_zero]
   go_wp2_with fail
   try go_returns
   exact HP.out _ _ (by simp only [Bool.false_eq_true, false_iff]; exact fun h => absurd (HB2.out.2 (HPR.out.1 (HBD.out h.2.1)).2.1) (by simp)) HFD.out
  | true =>
  by_cases h0 : t = 0
  case pos =>
   subst h0
   have HK := hid (HNX.out (HPR.out.2 ⟨HB1.out.1 rfl, HB2.out.1 rfl, fun h => absurd h (by omega)⟩))
   refine wp_region_tail (S := fun W => (True)) 21 22 rfl (by kernel_rfl) (by kernel_rfl) ?_
   refine hI (i := 0) (v := ?_) rfl ?_ trivial ?_
   rotate_left 1
   ·rintro W _; (try simp only [lA, lZ]); go_simp; try with_reducible rfl
   try simp only [lA, lZ, Act.put, lI, lW, lX]
   refine hI (i := 1) (v := ?_) rfl ?_ trivial ?_
   rotate_left 1
   ·rintro W _; (try simp only [lA, lS, lZ]); go_simp; try with_reducible rfl
   try simp only [lA, lS, lZ, Act.put, lI, lW, lX]
   refine hI (i := 2) (v := ?_) rfl ?_ trivial ?_
   rotate_left 1
   ·rintro W _; (try simp only [lA, lS, lZ]); go_simp; try with_reducible rfl
   try simp only [lA, lS, lZ, Act.put, lI, lW, lX]
   refine hI (i := 3) (v := ?_) rfl ?_ trivial ?_
   rotate_left 1
   ·rintro W _; (try simp only [lA, lS, lZ]); go_simp; try with_reducible rfl
   try simp only [lA, lS, lZ, Act.put, lI, lW, lX]
   refine hI (i := 4) (v := ?_) rfl ?_ trivial ?_
   rotate_left 1
   ·rintro W _; (try simp only [lA, lS, lZ]); go_simp; try with_reducible rfl
   try simp only [lA, lS, lZ, Act.put, lI, lW, lX]
   refine hI (i := 5) (v := ?_) rfl ?_ trivial ?_
   rotate_left 1
   ·rintro W _; (try simp only [lA, lS, lZ]); go_simp; try with_reducible rfl
   try simp only [lA, lS, lZ, Act.put, lI, lW, lX]
   refine hI (i := 6) (v := ?_) rfl ?_ trivial ?_
   rotate_left 1
   ·rintro W _; (try simp only [lA, lS, lZ]); go_simp; try with_reducible rfl
   try simp only [lA, lS, lZ, Act.put, lI, lW, lX]
   refine hI (i := 7) (v := ?_) rfl ?_ trivial ?_
   rotate_left 1
   ·rintro W _; (try simp only [lA, lS, lZ]); go_simp; try with_reducible rfl
   try simp only [lA, lS, lZ, Act.put, lI, lW, lX]
   refine hI (i := 8) (v := ?_) rfl ?_ trivial ?_
   rotate_left 1
   ·rintro W _; (try simp only [lA, lS, lZ]); go_simp; try with_reducible rfl
   try simp only [lA, lS, lZ, Act.put, lI, lW, lX]
   refine hI (i := 9) (v := ?_) rfl ?_ trivial ?_
   rotate_left 1
   ·rintro W _; (try simp only [lA, lS, lZ]); go_simp; try with_reducible rfl
   try simp only [lA, lS, lZ, Act.put, lI, lW, lX]
   refine hU (i := 10) rfl trivial ?_
   try simp only [lA, lS, lZ, Act.put, lI, lW, lX]
   refine hU (i := 11) rfl trivial ?_
   try simp only [lA, lS, lZ, Act.put, lI, lW, lX]
   refine hU (i := 12) rfl trivial ?_
   try simp only [lA, lS, lZ, Act.put, lI, lW, lX]
   refine hU (i := 13) rfl trivial ?_
   try simp only [lA, lS, lZ, Act.put, lI, lW, lX]
   refine hU (i := 14) rfl trivial ?_
   try simp only [lA, lS, lZ, Act.put, lI, lW, lX]
   refine hU (i := 15) rfl trivial ?_
   try simp only [lA, lS, lZ, Act.put, lI, lW, lX]
   refine hU (i := 16) rfl trivial ?_
   try simp only [lA, lS, lZ, Act.put, lI, lW, lX]
   refine hU (i := 17) rfl trivial ?_
   try simp only [lA, lS, lZ, Act.put, lI, lW, lX]
   refine hU (i := 18) rfl trivial ?_
   try simp only [lA, lS, lZ, Act.put, lI, lW, lX]
   refine hU (i := 19) rfl trivial ?_
   try simp only [lA, lS, lZ, Act.put, lI, lW, lX]
   refine hI (i := 20) (v := ?_) rfl ?_ trivial ?_
   rotate_left 1
   ·rintro W _; (try simp only [lA, lS, lZ]); go_simp; try with_reducible rfl
   try simp only [lA, lS, lZ, Act.put, lI, lW, lX]
   refine wpAnyHT_end (by kernel_rfl) ?_
   simp only [List.drop_succ_cons, List.drop_zero]
   go_wp2_with fail
   go_roundw
   case rel => exact ⟨0 + 1, by omega, rfl, by go_num, HK, hid (HFQ.out.drew)⟩
   case measure => simp [intOf] <;> omega
  obtain ⟨u, rfl⟩ : ∃ u, t = u + 1 := ⟨t - 1, by omega⟩
  have i0 : (0 : Int) < (u : Int) + 1 := by omega
  have i1 : (0 : Int) ≤ (u : Int) + 1 := by omega
  have u0 : (0 : Int) ≤ (u : Int) := by omega
  have u1 : (u : Int) < (pn : Int) := by omega
  have uw : IntKind.i64.wrap ((u : Int) + 1 - 1) = (u : Int) := by rw [IntKind.wrap_i64]; omega
  have uw2 : IntKind.i64.wrap (u : Int) = (u : Int) := by rw [IntKind.wrap_i64]; omega
  have hpv := HPV.out (by omega) wq HFR.out
  rw [Nat.add_sub_cancel] at hpv
  clear h0
  have hpd : wq.drew.cell? ⟨g, o + u * 2, none⟩ = some (.string pv) := hpv
  have yd : wq.drew.cell? ⟨b, 7, none⟩ = some (.slice (some ⟨g, o, none⟩) pn pc) := y7
  have qd : wq.drew.cell? ⟨q, 0, none⟩ = some (.string nm) := q0
  by_cases hlb : Op.bytesLess pv.toList nm.toList = true
  case neg =>
   have hlf : Op.bytesLess pv.toList nm.toList = false := by simpa using hlb
   have HK : Hid (¬ PrAt P (u + 1)) := hid (fun h => hlb ((HPR.out.1 h).2.2 (by omega)))
   clear hlb
   refine wp_region_tail (S := fun W => (W.cell? ⟨g, o + u * 2, none⟩ = some (.string pv) ∧ W.cell? ⟨b, 7, none⟩ = some (.slice (some ⟨g, o, none⟩) pn pc) ∧ W.cell? ⟨q, 0, none⟩ = some (.string nm))) 21 22 rfl (by kernel_rfl) (by kernel_rfl) ?_
   refine hI (i := 0) (v := ?_) rfl ?_ ⟨hpd, yd, qd⟩ ?_
   rotate_left 1
   ·rintro W ⟨s1, s2, s3⟩; (try simp only [lA, lZ]); go_simp; try with_reducible rfl
   try simp only [lA, lZ, Act.put, lI, lW, lX]
   refine hI (i := 1) (v := ?_) rfl ?_ ⟨hpd, yd, qd⟩ ?_
   rotate_left 1
   ·rintro W ⟨s1, s2, s3⟩; (try simp only [lA, lS, lZ]); go_simp; try with_reducible rfl
   try simp only [lA, lS, lZ, Act.put, lI, lW, lX]
   refine hI (i := 2) (v := ?_) rfl ?_ ⟨hpd, yd, qd⟩ ?_
   rotate_left 1
   ·rintro W ⟨s1, s2, s3⟩; (try simp only [lA, lS, lZ]); go_simp; try with_reducible rfl
   try simp only [lA, lS, lZ, Act.put, lI, lW, lX]
   refine hI (i := 3) (v := ?_) rfl ?_ ⟨hpd, yd, qd⟩ ?_
   rotate_left 1
   ·rintro W ⟨s1, s2, s3⟩; (try simp only [lA, lS, lZ]); go_simp; try with_reducible rfl
   try simp only [lA, lS, lZ, Act.put, lI, lW, lX]
   refine hI (i := 4) (v := ?_) rfl ?_ ⟨hpd, yd, qd⟩ ?_
   rotate_left 1
   ·rintro W ⟨s1, s2, s3⟩; (try simp only [lA, lS, lZ]); go_simp; try with_reducible rfl
   try simp only [lA, lS, lZ, Act.put, lI, lW, lX]
   refine hI (i := 5) (v := ?_) rfl ?_ ⟨hpd, yd, qd⟩ ?_
   rotate_left 1
   ·rintro W ⟨s1, s2, s3⟩; (try simp only [lA, lS, lZ]); go_simp; try with_reducible rfl
   try simp only [lA, lS, lZ, Act.put, lI, lW, lX]
   refine hI (i := 6) (v := ?_) rfl ?_ ⟨hpd, yd, qd⟩ ?_
   rotate_left 1
   ·rintro W ⟨s1, s2, s3⟩; (try simp only [lA, lS, lZ]); go_simp; try with_reducible rfl
   try simp only [lA, lS, lZ, Act.put, lI, lW, lX]
   refine hI (i := 7) (v := ?_) rfl ?_ ⟨hpd, yd, qd⟩ ?_
   rotate_left 1
   ·rintro W ⟨s1, s2, s3⟩; (try simp only [lA, lS, lZ]); go_simp; try with_reducible rfl
   try simp only [lA, lS, lZ, Act.put, lI, lW, lX]
   refine hI (i := 8) (v := ?_) rfl ?_ ⟨hpd, yd, qd⟩ ?_
   rotate_left 1
   ·rintro W ⟨s1, s2, s3⟩; (try simp only [lA, lS, lZ]); go_simp; try with_reducible rfl
   try simp only [lA, lS, lZ, Act.put, lI, lW, lX]
   refine hI (i := 9) (v := ?_) rfl ?_ ⟨hpd, yd, qd⟩ ?_
   rotate_left 1
   ·rintro W ⟨s1, s2, s3⟩; (try simp only [lA, lS, lZ]); go_simp; try with_reducible rfl
   try simp only [lA, lS, lZ, Act.put, lI, lW, lX]
   refine hI (i := 10) (v := ?_) rfl ?_ ⟨hpd, yd, qd⟩ ?_
   rotate_left 1
   ·rintro W ⟨s1, s2, s3⟩; (try simp only [lA, lS, lZ]); go_simp; try with_reducible rfl
   try simp only [lA, lS, lZ, Act.put, lI, lW, lX]
   refine hI (i := 11) (v := ?_) rfl ?_ ⟨hpd, yd, qd⟩ ?_
   rotate_left 1
   ·rintro W ⟨s1, s2, s3⟩; (try simp only [lA, lS, lZ]); go_simp; try with_reducible rfl
   try simp only [lA, lS, lZ, Act.put, lI, lW, lX]
   refine hI (i := 12) (v := ?_) rfl ?_ ⟨hpd, yd, qd⟩ ?_
   rotate_left 1
   ·rintro W ⟨s1, s2, s3⟩; (try simp only [lA, lS, lZ]); go_simp; try with_reducible rfl
   try simp only [lA, lS, lZ, Act.put, lI, lW, lX]
   refine hI (i := 13) (v := ?_) rfl ?_ ⟨hpd, yd, qd⟩ ?_
   rotate_left 1
   ·rintro W ⟨s1, s2, s3⟩; (try simp only [lA, lS, lZ]); go_simp; try with_reducible rfl
   try simp only [lA, lS, lZ, Act.put, lI, lW, lX]
   refine hI (i := 14) (v := ?_) rfl ?_ ⟨hpd, yd, qd⟩ ?_
   rotate_left 1
   ·rintro W ⟨s1, s2, s3⟩; (try simp only [lA, lS, lZ]); go_simp; try with_reducible rfl
   try simp only [lA, lS, lZ, Act.put, lI, lW, lX]
   refine hI (i := 15) (v := ?_) rfl ?_ ⟨hpd, yd, qd⟩ ?_
   rotate_left 1
   ·rintro W ⟨s1, s2, s3⟩; (try simp only [lA, lS, lZ]); go_simp; try with_reducible rfl
   try simp only [lA, lS, lZ, Act.put, lI, lW, lX]
   refine hI (i := 16) (v := ?_) rfl ?_ ⟨hpd, yd, qd⟩ ?_
   rotate_left 1
   ·rintro W ⟨s1, s2, s3⟩; (try simp only [lA, lS, lZ]); go_simp; try with_reducible rfl
   try simp only [lA, lS, lZ, Act.put, lI, lW, lX]
   refine hI (i := 17) (v := ?_) rfl ?_ ⟨hpd, yd, qd⟩ ?_
   rotate_left 1
   ·rintro W ⟨s1, s2, s3⟩; (try simp only [lA, lS, lZ]); go_simp; try with_reducible rfl
   try simp only [lA, lS, lZ, Act.put, lI, lW, lX]
   refine hI (i := 18) (v := ?_) rfl ?_ ⟨hpd, yd, qd⟩ ?_
   rotate_left 1
   ·rintro W ⟨s1, s2, s3⟩; (try simp only [lA, lS, lZ]); go_simp; try with_reducible rfl
   try simp only [lA, lS, lZ, Act.put, lI, lW, lX]
   refine hI (i := 19) (v := ?_) rfl ?_ ⟨hpd, yd, qd⟩ ?_
   rotate_left 1
   ·rintro W ⟨s1, s2, s3⟩; (try simp only [lA, lS, lZ]); go_simp; try with_reducible rfl
   try simp only [lA, lS, lZ, Act.put, lI, lW, lX]
   refine hI (i := 20) (v := ?_) rfl ?_ ⟨hpd, yd, qd⟩ ?_
   rotate_left 1
   ·rintro W ⟨s1, s2, s3⟩; (try simp only [lA, lS, lZ]); go_simp; try with_reducible rfl
   try simp only [lA, lS, lZ, Act.put, lI, lW, lX]
   refine wpAnyHT_end (by kernel_rfl) ?_
   simp only [List.drop_succ_cons, List.drop_zero]
   go_wp2_with fail
   try go_returns
   exact HP.out _ _ (by simp only [Bool.false_eq_true, false_iff]; exact fun h => HK.out (HBD.out h.2.1)) HFD.out
  have HK := hid (HNX.out (HPR.out.2 ⟨HB1.out.1 rfl, HB2.out.1 rfl, fun _ => hlb⟩))
  refine wp_region_tail (S := fun W => (W.cell? ⟨g, o + u * 2, none⟩ = some (.string pv) ∧ W.cell? ⟨b, 7, none⟩ = some (.slice (some ⟨g, o, none⟩) pn pc) ∧ W.cell? ⟨q, 0, none⟩ = some (.string nm))) 21 22 rfl (by kernel_rfl) (by kernel_rfl) ?_
  refine hI (i := 0) (v := ?_) rfl ?_ ⟨hpd, yd, qd⟩ ?_
  rotate_left 1
  ·rintro W ⟨s1, s2, s3⟩; (try simp only [lA, lZ]); go_simp; try with_reducible rfl
  try simp only [lA, lZ, Act.put, lI, lW, lX]
  refine hI (i := 1) (v := ?_) rfl ?_ ⟨hpd, yd, qd⟩ ?_
  rotate_left 1
  ·rintro W ⟨s1, s2, s3⟩; (try simp only [lA, lS, lZ]); go_simp; try with_reducible rfl
  try simp only [lA, lS, lZ, Act.put, lI, lW, lX]
  refine hI (i := 2) (v := ?_) rfl ?_ ⟨hpd, yd, qd⟩ ?_
  rotate_left 1
  ·rintro W ⟨s1, s2, s3⟩; (try simp only [lA, lS, lZ]); go_simp; try with_reducible rfl
  try simp only [lA, lS, lZ, Act.put, lI, lW, lX]
  refine hI (i := 3) (v := ?_) rfl ?_ ⟨hpd, yd, qd⟩ ?_
  rotate_left 1
  ·rintro W ⟨s1, s2, s3⟩; (try simp only [lA, lS, lZ]); go_simp; try with_reducible rfl
  try simp only [lA, lS, lZ, Act.put, lI, lW, lX]
  refine hI (i := 4) (v := ?_) rfl ?_ ⟨hpd, yd, qd⟩ ?_
  rotate_left 1
  ·rintro W ⟨s1, s2, s3⟩; (try simp only [lA, lS, lZ]); go_simp; try with_reducible rfl
  try simp only [lA, lS, lZ, Act.put, lI, lW, lX]
  refine hI (i := 5) (v := ?_) rfl ?_ ⟨hpd, yd, qd⟩ ?_
  rotate_left 1
  ·rintro W ⟨s1, s2, s3⟩; (try simp only [lA, lS, lZ]); go_simp; try with_reducible rfl
  try simp only [lA, lS, lZ, Act.put, lI, lW, lX]
  refine hI (i := 6) (v := ?_) rfl ?_ ⟨hpd, yd, qd⟩ ?_
  rotate_left 1
  ·rintro W ⟨s1, s2, s3⟩; (try simp only [lA, lS, lZ]); go_simp; try with_reducible rfl
  try simp only [lA, lS, lZ, Act.put, lI, lW, lX]
  refine hI (i := 7) (v := ?_) rfl ?_ ⟨hpd, yd, qd⟩ ?_
  rotate_left 1
  ·rintro W ⟨s1, s2, s3⟩; (try simp only [lA, lS, lZ]); go_simp; try with_reducible rfl
  try simp only [lA, lS, lZ, Act.put, lI, lW, lX]
  refine hI (i := 8) (v := ?_) rfl ?_ ⟨hpd, yd, qd⟩ ?_
  rotate_left 1
  ·rintro W ⟨s1, s2, s3⟩; (try simp only [lA, lS, lZ]); go_simp; try with_reducible rfl
  try simp only [lA, lS, lZ, Act.put, lI, lW, lX]
  refine hI (i := 9) (v := ?_) rfl ?_ ⟨hpd, yd, qd⟩ ?_
  rotate_left 1
  ·rintro W ⟨s1, s2, s3⟩; (try simp only [lA, lS, lZ]); go_simp; try with_reducible rfl
  try simp only [lA, lS, lZ, Act.put, lI, lW, lX]
  refine hI (i := 10) (v := ?_) rfl ?_ ⟨hpd, yd, qd⟩ ?_
  rotate_left 1
  ·rintro W ⟨s1, s2, s3⟩; (try simp only [lA, lS, lZ]); go_simp; try with_reducible rfl
  try simp only [lA, lS, lZ, Act.put, lI, lW, lX]
  refine hI (i := 11) (v := ?_) rfl ?_ ⟨hpd, yd, qd⟩ ?_
  rotate_left 1
  ·rintro W ⟨s1, s2, s3⟩; (try simp only [lA, lS, lZ]); go_simp; try with_reducible rfl
  try simp only [lA, lS, lZ, Act.put, lI, lW, lX]
  refine hI (i := 12) (v := ?_) rfl ?_ ⟨hpd, yd, qd⟩ ?_
  rotate_left 1
  ·rintro W ⟨s1, s2, s3⟩; (try simp only [lA, lS, lZ]); go_simp; try with_reducible rfl
  try simp only [lA, lS, lZ, Act.put, lI, lW, lX]
  refine hI (i := 13) (v := ?_) rfl ?_ ⟨hpd, yd, qd⟩ ?_
  rotate_left 1
  ·rintro W ⟨s1, s2, s3⟩; (try simp only [lA, lS, lZ]); go_simp; try with_reducible rfl
  try simp only [lA, lS, lZ, Act.put, lI, lW, lX]
  refine hI (i := 14) (v := ?_) rfl ?_ ⟨hpd, yd, qd⟩ ?_
  rotate_left 1
  ·rintro W ⟨s1, s2, s3⟩; (try simp only [lA, lS, lZ]); go_simp; try with_reducible rfl
  try simp only [lA, lS, lZ, Act.put, lI, lW, lX]
  refine hI (i := 15) (v := ?_) rfl ?_ ⟨hpd, yd, qd⟩ ?_
  rotate_left 1
  ·rintro W ⟨s1, s2, s3⟩; (try simp only [lA, lS, lZ]); go_simp; try with_reducible rfl
  try simp only [lA, lS, lZ, Act.put, lI, lW, lX]
  refine hI (i := 16) (v := ?_) rfl ?_ ⟨hpd, yd, qd⟩ ?_
  rotate_left 1
  ·rintro W ⟨s1, s2, s3⟩; (try simp only [lA, lS, lZ]); go_simp; try with_reducible rfl
  try simp only [lA, lS, lZ, Act.put, lI, lW, lX]
  refine hI (i := 17) (v := ?_) rfl ?_ ⟨hpd, yd, qd⟩ ?_
  rotate_left 1
  ·rintro W ⟨s1, s2, s3⟩; (try simp only [lA, lS, lZ]); go_simp; try with_reducible rfl
  try simp only [lA, lS, lZ, Act.put, lI, lW, lX]
  refine hI (i := 18) (v := ?_) rfl ?_ ⟨hpd, yd, qd⟩ ?_
  rotate_left 1
  ·rintro W ⟨s1, s2, s3⟩; (try simp only [lA, lS, lZ]); go_simp; try with_reducible rfl
  try simp only [lA, lS, lZ, Act.put, lI, lW, lX]
  refine hI (i := 19) (v := ?_) rfl ?_ ⟨hpd, yd, qd⟩ ?_
  rotate_left 1
  ·rintro W ⟨s1, s2, s3⟩; (try simp only [lA, lS, lZ]); go_simp; try with_reducible rfl
  try simp only [lA, lS, lZ, Act.put, lI, lW, lX]
  refine hI (i := 20) (v := ?_) rfl ?_ ⟨hpd, yd, qd⟩ ?_
  rotate_left 1
  ·rintro W ⟨s1, s2, s3⟩; (try simp only [lA, lS, lZ]); go_simp; try with_reducible rfl
  try simp only [lA, lS, lZ, Act.put, lI, lW, lX]
  refine wpAnyHT_end (by kernel_rfl) ?_
  simp only [List.drop_succ_cons, List.drop_zero]
  go_wp2_with fail
  go_roundw
  case rel => exact ⟨u + 1 + 1, by omega, rfl, by go_num, HK, hid (HFQ.out.drew)⟩
  case measure => simp [intOf] <;> omega
end
end Go.Proofs.YtajfjkfnmmfhmaaGreatDoor
