/- Records, the document's side: which fields a record has. Records, the document's side: no field beside those. Records: a record with the fields of its kind alone. -/
import Derived.Test.YtajfjkfnmmfhmaaGreatDoorQwah
import Derived.Test.YtajfjkfnmmfhmaaGreatDoorQwak
import Derived.Laws.EntriesVeiled
namespace Go.Proofs.YtajfjkfnmmfhmaaGreatDoor
section
open Go.RowKit Go.Lib
set_option maxRecDepth 100000
/-- Which fields a record has, in the document's order; their bits as one number. -/
def fldB (r : Rc) : List Bool := [!r.name.toList.isEmpty, r.many != 0, r.typ != 0, r.frm != 0, r.guid != 0, r.origin != 0, !r.snap.toList.isEmpty, decide (0 < r.pn), r.obj != 0, r.at_ != 0, decide (0 < r.kn), decide (0 < r.dl)]
def sumB (bs : List Bool) : Nat → Nat
  | 0 => 0
  | t + 1 => sumB bs t + (if bs.getD t false then 2 ^ t else 0)
theorem sumB_lt (bs : List Bool) : ∀ t, sumB bs t < 2 ^ t
  | 0 => by simp [sumB]
  | t + 1 => by
    have h := sumB_lt bs t
    rw [sumB, Nat.pow_succ]
    split <;> omega
set_option maxHeartbeats 6400000 in
theorem refFields_any (r : Rc) (w : World) :
    Calls Tryz.prog 76 #[.agg r.arr] w fun e w' => e = .returned (.int .i64 (sumB (fldB r) 12 : Nat)) ∧ Frm [] w w' := by
  obtain ⟨PO, hPO⟩ : ∃ PO : Ending → World → Prop, (fun e w' => e = .returned (.int .i64 (sumB (fldB r) 12 : Nat)) ∧ Frm [] w w') = PO := ⟨_, rfl⟩
  rw [hPO]
  have HP : Hid (∀ w', Frm [] w w' → PO (.returned (.int .i64 (sumB (fldB r) 12 : Nat))) w') := hid (fun w' h => by rw [← hPO]; exact ⟨rfl, h⟩)
  have HBS : Hid (fldB r = [!r.name.toList.isEmpty, r.many != 0, r.typ != 0, r.frm != 0, r.guid != 0, r.origin != 0, !r.snap.toList.isEmpty, decide (0 < r.pn), r.obj != 0, r.at_ != 0, decide (0 < r.kn), decide (0 < r.dl)]) := hid rfl
  obtain ⟨bs, hbs⟩ : ∃ z, fldB r = z := ⟨_, rfl⟩
  rw [hbs] at HP HBS
  have hrow := heap_alloc_new w (.cells r.arr 26)
  have hfa : Frm [] w (w.alloc (.cells r.arr 26)) := (Frm.refl _ _).alloc _
  obtain ⟨wa, hwa⟩ : ∃ z, w.alloc (.cells r.arr 26) = z := ⟨_, rfl⟩
  obtain ⟨ba, hba⟩ : ∃ z, w.heap.size = z := ⟨_, rfl⟩
  rw [hwa, hba] at hrow
  rw [hwa] at hfa
  have HWA := hid hwa
  have HBA := hid hba
  have HROW := hid hrow
  have HFA := hid hfa
  clear hPO hrow hfa hwa hba hbs
  obtain ⟨kind, name, typ, frm, guid, origin, snap, pp, pn, pc, obj, at_, many, kp, kn, kc, dp, dl, dc⟩ := r
  unfold Rc.arr at HWA HROW ⊢
  simp only at HWA HROW HBS ⊢
  go_enter Tryz.func76, Tryz.ntmps76
  have z1 : wa.cell? ⟨ba, 1, none⟩ = some (.string name) := by rw [cell_of_row _ _ _ _ _ _ HROW.out]; rfl
  have z2 : wa.cell? ⟨ba, 2, none⟩ = some (.int .i64 typ) := by rw [cell_of_row _ _ _ _ _ _ HROW.out]; rfl
  have z3 : wa.cell? ⟨ba, 3, none⟩ = some (.int .i64 frm) := by rw [cell_of_row _ _ _ _ _ _ HROW.out]; rfl
  have z4 : wa.cell? ⟨ba, 4, none⟩ = some (.int .i64 guid) := by rw [cell_of_row _ _ _ _ _ _ HROW.out]; rfl
  have z5 : wa.cell? ⟨ba, 5, none⟩ = some (.int .i64 origin) := by rw [cell_of_row _ _ _ _ _ _ HROW.out]; rfl
  have z6 : wa.cell? ⟨ba, 6, none⟩ = some (.string snap) := by rw [cell_of_row _ _ _ _ _ _ HROW.out]; rfl
  have z7 : wa.cell? ⟨ba, 7, none⟩ = some (.slice pp pn pc) := by rw [cell_of_row _ _ _ _ _ _ HROW.out]; rfl
  have z8 : wa.cell? ⟨ba, 8, none⟩ = some (.int .i64 obj) := by rw [cell_of_row _ _ _ _ _ _ HROW.out]; rfl
  have z9 : wa.cell? ⟨ba, 9, none⟩ = some (.int .i64 at_) := by rw [cell_of_row _ _ _ _ _ _ HROW.out]; rfl
  have z10 : wa.cell? ⟨ba, 10, none⟩ = some (.int .i64 many) := by rw [cell_of_row _ _ _ _ _ _ HROW.out]; rfl
  have z11 : wa.cell? ⟨ba, 11, none⟩ = some (.slice kp kn kc) := by rw [cell_of_row _ _ _ _ _ _ HROW.out]; rfl
  have z12 : wa.cell? ⟨ba, 12, none⟩ = some (.slice dp dl dc) := by rw [cell_of_row _ _ _ _ _ _ HROW.out]; rfl
  go_upto_region 1 with fail
  first | rw [HBA.out] | skip
  first | rw [HWA.out] | skip
  go_upto_region 3 with fail
  obtain ⟨a, ha⟩ : ∃ a, (#[.bool !name.toList.isEmpty, .bool (many != 0), .bool (typ != 0), .bool (frm != 0), .bool (guid != 0), .bool (origin != 0), .bool !snap.toList.isEmpty, .bool (decide (0 < pn)), .bool (obj != 0), .bool (at_ != 0), .bool (decide (0 < kn)), .bool (decide (0 < dl))] : Array Value) = a := ⟨_, rfl⟩
  have hae : a = (bs.map Value.bool).toArray := by rw [← ha, HBS.out]; rfl
  have hbl : bs.length = 12 := by rw [HBS.out]; rfl
  have hrb := heap_alloc_new wa (.cells a 4)
  have hfb : Frm [] wa (wa.alloc (.cells a 4)) := (Frm.refl _ _).alloc _
  rw [ha]
  obtain ⟨wb, hwb⟩ : ∃ z, wa.alloc (.cells a 4) = z := ⟨_, rfl⟩
  obtain ⟨bb, hbb⟩ : ∃ z, wa.heap.size = z := ⟨_, rfl⟩
  rw [hwb, hbb] at hrb
  rw [hwb] at hfb ⊢
  rw [hbb]
  have HFB : Hid (Frm [] w wb) := hid (HFA.out.trans hfb (by simp))
  have HEL : Hid (∀ t, t < 12 → wb.cell? ⟨bb, t, none⟩ = some (.bool (bs.getD t false))) := hid (fun t ht => by
    rw [cell_of_row _ _ _ _ _ _ hrb, hae, List.getElem?_toArray, List.getElem?_map, List.getD_eq_getElem?_getD, List.getElem?_eq_getElem (by omega)]
    rfl)
  clear ha hae hrb hfb hwb hbb z1 z2 z3 z4 z5 z6 z7 z8 z9 z10 z11 z12
  go_wp2_with fail
  go_loop [3, 5, 6] (fun n b i => ∃ t : Nat, t ≤ 12 ∧ n = .int .i64 (sumB bs t : Nat) ∧ b = .int .i64 (2 ^ t : Nat) ∧ i = .int .i64 (t : Int)) (fun _ _ i => 12 - (intOf i).toNat)
  case atStart => exact ⟨0, by omega, rfl, rfl, rfl⟩
  case round =>
    obtain ⟨t, ht, rfl, rfl, rfl⟩ := hrel
    by_cases hlt : t < 12
    case neg =>
      obtain rfl : t = 12 := by omega
      go_wp2_with fail
      first | go_returns | skip
      exact HP.out _ HFB.out
    have t1 : (t : Int) < 12 := by omega
    have z0 := HEL.out t hlt
    have hs := sumB_lt bs t
    have hp : 2 ^ t ≤ 2 ^ 11 := Nat.pow_le_pow_right (by omega) (by omega)
    have HST : Hid (sumB bs (t + 1) = sumB bs t + (if bs.getD t false then 2 ^ t else 0)) := hid rfl
    have HPT : Hid (2 ^ (t + 1) = 2 * 2 ^ t) := hid (by rw [Nat.pow_succ]; omega)
    obtain ⟨n, hn⟩ : ∃ n, sumB bs t = n := ⟨_, rfl⟩
    obtain ⟨m, hm⟩ : ∃ m, 2 ^ t = m := ⟨_, rfl⟩
    rw [hn] at hs HST ⊢
    rw [hm] at hs hp HST HPT ⊢
    obtain ⟨q, hq⟩ : ∃ q, bs.getD t false = q := ⟨_, rfl⟩
    rw [hq] at z0 HST
    clear hn hm hq
    cases q with
    | false =>
      go_wp2_with fail
      go_round
      case rel => exact ⟨t + 1, by omega, by rw [HST.out]; simp, by rw [HPT.out]; go_num, by go_num⟩
      case measure => first | (simp [intOf]; done) | (simp [intOf]; omega)
    | true =>
      go_wp2_with fail
      go_round
      case rel => exact ⟨t + 1, by omega, by rw [HST.out]; go_num, by rw [HPT.out]; go_num, by go_num⟩
      case measure => first | (simp [intOf]; done) | (simp [intOf]; omega)
end
section
open Go.RowKit Go.Lib
set_option maxRecDepth 100000
theorem i64_orR (a b : Nat) (ha : a < 9223372036854775808) (hb : b < 9223372036854775808) : bits .or .i64 (a : Int) (b : Int) = ((a ||| b : Nat) : Int) := by
  have hx : a ||| b < 2 ^ 63 := Nat.or_lt_two_pow (by omega) (by omega)
  show IntKind.i64.wrap ((BitVec.ofInt 64 (a : Int) ||| BitVec.ofInt 64 (b : Int)).toNat : Int) = _
  rw [BitVec.toNat_or, ofInt_u64 a (by omega), ofInt_u64 b (by omega)]
  exact IntWalk.i64_in _ (by omega)
set_option maxHeartbeats 6400000 in
theorem refOnly_any (r : Rc) (m : Nat) (hm : m < 4096) (w : World) :
    Calls Tryz.prog 31 #[.agg r.arr, .int .i64 (m : Nat)] w fun e w' => e = .returned (.bool (decide (sumB (fldB r) 12 ||| m = m))) ∧ Frm [] w w' := by
  obtain ⟨PO, hPO⟩ : ∃ PO : Ending → World → Prop, (fun e w' => e = .returned (.bool (decide (sumB (fldB r) 12 ||| m = m))) ∧ Frm [] w w') = PO := ⟨_, rfl⟩
  rw [hPO]
  have HP : Hid (∀ x w', (x = true ↔ sumB (fldB r) 12 ||| m = m) → Frm [] w w' → PO (.returned (.bool x)) w') := hid (fun x w' h h2 => by rw [← hPO]; exact ⟨by rw [bool_decR h], h2⟩)
  have hrow := heap_alloc_new w (.cells r.arr 26)
  have hfa : Frm [] w (w.alloc (.cells r.arr 26)) := (Frm.refl _ _).alloc _
  obtain ⟨wa, hwa⟩ : ∃ z, w.alloc (.cells r.arr 26) = z := ⟨_, rfl⟩
  obtain ⟨ba, hba⟩ : ∃ z, w.heap.size = z := ⟨_, rfl⟩
  rw [hwa, hba] at hrow
  rw [hwa] at hfa
  have HWA := hid hwa
  have HBA := hid hba
  have HROW := hid hrow
  have HFA := hid hfa
  have HF := hid (refFields_any r wa)
  have HLT := hid (sumB_lt (fldB r) 12)
  obtain ⟨n, hn⟩ : ∃ n, sumB (fldB r) 12 = n := ⟨_, rfl⟩
  rw [hn] at HP HF HLT
  clear hPO hrow hfa hwa hba hn
  obtain ⟨kind, name, typ, frm, guid, origin, snap, pp, pn, pc, obj, at_, many, kp, kn, kc, dp, dl, dc⟩ := r
  unfold Rc.arr at HWA HROW HF ⊢
  simp only at HWA HROW HF ⊢
  go_enter Tryz.func31, Tryz.ntmps31
  have z0 : wa.cell? ⟨ba, 0, none⟩ = some (.int .i64 kind) := by rw [cell_of_row _ _ _ _ _ _ HROW.out]; rfl
  have z1 : wa.cell? ⟨ba, 1, none⟩ = some (.string name) := by rw [cell_of_row _ _ _ _ _ _ HROW.out]; rfl
  have z2 : wa.cell? ⟨ba, 2, none⟩ = some (.int .i64 typ) := by rw [cell_of_row _ _ _ _ _ _ HROW.out]; rfl
  have z3 : wa.cell? ⟨ba, 3, none⟩ = some (.int .i64 frm) := by rw [cell_of_row _ _ _ _ _ _ HROW.out]; rfl
  have z4 : wa.cell? ⟨ba, 4, none⟩ = some (.int .i64 guid) := by rw [cell_of_row _ _ _ _ _ _ HROW.out]; rfl
  have z5 : wa.cell? ⟨ba, 5, none⟩ = some (.int .i64 origin) := by rw [cell_of_row _ _ _ _ _ _ HROW.out]; rfl
  have z6 : wa.cell? ⟨ba, 6, none⟩ = some (.string snap) := by rw [cell_of_row _ _ _ _ _ _ HROW.out]; rfl
  have z7 : wa.cell? ⟨ba, 7, none⟩ = some (.slice pp pn pc) := by rw [cell_of_row _ _ _ _ _ _ HROW.out]; rfl
  have z8 : wa.cell? ⟨ba, 8, none⟩ = some (.int .i64 obj) := by rw [cell_of_row _ _ _ _ _ _ HROW.out]; rfl
  have z9 : wa.cell? ⟨ba, 9, none⟩ = some (.int .i64 at_) := by rw [cell_of_row _ _ _ _ _ _ HROW.out]; rfl
  have z10 : wa.cell? ⟨ba, 10, none⟩ = some (.int .i64 many) := by rw [cell_of_row _ _ _ _ _ _ HROW.out]; rfl
  have z11 : wa.cell? ⟨ba, 11, none⟩ = some (.slice kp kn kc) := by rw [cell_of_row _ _ _ _ _ _ HROW.out]; rfl
  have z12 : wa.cell? ⟨ba, 12, none⟩ = some (.slice dp dl dc) := by rw [cell_of_row _ _ _ _ _ _ HROW.out]; rfl
  go_upto_region 1 with fail
  first | rw [HBA.out] | skip
  first | rw [HWA.out] | skip
  go_wp2_with fail
  refine HF.out.mono ?_
  rintro e w1 ⟨rfl, hf1⟩
  have HF1 : Hid (Frm [] w w1) := hid (HFA.out.trans hf1 (by simp))
  clear hf1 z0 z1 z2 z3 z4 z5 z6 z7 z8 z9 z10 z11 z12
  go_wp2_with fail
  first | go_returns | skip
  refine HP.out _ _ ?_ HF1.out
  have hlt := HLT.out
  rw [i64_orR n m (by omega) (by omega), beq_iff_eq]
  exact Int.ofNat_inj
theorem only_3 : ∀ b0 b1 b2 b3 b4 b5 b6 b7 b8 b9 b10 b11 : Bool, decide (sumB [b0, b1, b2, b3, b4, b5, b6, b7, b8, b9, b10, b11] 12 ||| 3 = 3) = (!b2 && !b3 && !b4 && !b5 && !b6 && !b7 && !b8 && !b9 && !b10 && !b11) := by decide +kernel
theorem only_253 : ∀ b0 b1 b2 b3 b4 b5 b6 b7 b8 b9 b10 b11 : Bool, decide (sumB [b0, b1, b2, b3, b4, b5, b6, b7, b8, b9, b10, b11] 12 ||| 253 = 253) = (!b1 && !b8 && !b9 && !b10 && !b11) := by decide +kernel
theorem only_1024 : ∀ b0 b1 b2 b3 b4 b5 b6 b7 b8 b9 b10 b11 : Bool, decide (sumB [b0, b1, b2, b3, b4, b5, b6, b7, b8, b9, b10, b11] 12 ||| 1024 = 1024) = (!b0 && !b1 && !b2 && !b3 && !b4 && !b5 && !b6 && !b7 && !b8 && !b9 && !b11) := by decide +kernel
theorem only_1280 : ∀ b0 b1 b2 b3 b4 b5 b6 b7 b8 b9 b10 b11 : Bool, decide (sumB [b0, b1, b2, b3, b4, b5, b6, b7, b8, b9, b10, b11] 12 ||| 1280 = 1280) = (!b0 && !b1 && !b2 && !b3 && !b4 && !b5 && !b6 && !b7 && !b9 && !b11) := by decide +kernel
theorem only_2816 : ∀ b0 b1 b2 b3 b4 b5 b6 b7 b8 b9 b10 b11 : Bool, decide (sumB [b0, b1, b2, b3, b4, b5, b6, b7, b8, b9, b10, b11] 12 ||| 2816 = 2816) = (!b0 && !b1 && !b2 && !b3 && !b4 && !b5 && !b6 && !b7 && !b10) := by decide +kernel
theorem only_2 : ∀ b0 b1 b2 b3 b4 b5 b6 b7 b8 b9 b10 b11 : Bool, decide (sumB [b0, b1, b2, b3, b4, b5, b6, b7, b8, b9, b10, b11] 12 ||| 2 = 2) = (!b0 && !b2 && !b3 && !b4 && !b5 && !b6 && !b7 && !b8 && !b9 && !b10 && !b11) := by decide +kernel
end
section
open Go.RowKit Go.Lib
set_option maxRecDepth 100000
def Rc.onlyCount (r : Rc) : Rc := ⟨r.kind, ⟨#[]⟩, 0, 0, 0, 0, ⟨#[]⟩, none, 0, 0, 0, 0, r.many, none, 0, 0, none, 0, 0⟩
set_option maxHeartbeats 3200000 in
theorem onlyCount_any (r : Rc) (w : World) : Calls Tryz.prog 45 #[.agg r.arr] w fun e w' => e = .returned (.agg r.onlyCount.arr) ∧ Frm [] w w' := by
  obtain ⟨PO, hPO⟩ : ∃ PO : Ending → World → Prop, (fun e w' => e = .returned (.agg r.onlyCount.arr) ∧ Frm [] w w') = PO := ⟨_, rfl⟩
  rw [hPO]
  have HP : Hid (∀ w', Frm [] w w' → PO (.returned (.agg r.onlyCount.arr)) w') := hid (fun w' h => by rw [← hPO]; exact ⟨rfl, h⟩)
  clear hPO
  obtain ⟨kind, name, typ, frm, guid, origin, snap, pp, pn, pc, obj, at_, many, kp, kn, kc, dp, dl, dc⟩ := r
  unfold Rc.onlyCount at HP
  unfold Rc.arr at HP ⊢
  simp only at HP ⊢
  have hbld : ∀ V, (Instr.build 26 #[(0, .int .i64 kind), (10, .int .i64 many)]).run Tryz.prog V = .ok (.agg #[.int .i64 kind, .string ⟨#[]⟩, .int .i64 0, .int .i64 0, .int .i64 0, .int .i64 0, .string ⟨#[]⟩, .slice none 0 0, .int .i64 0, .int .i64 0, .int .i64 many, .slice none 0 0, .slice none 0 0]) V := fun V => run_build V _ _ _ (by kernel_rfl)
  go_enter Tryz.func45, Tryz.ntmps45
  go_wp2_with fail
  refine bodyPost_ret (v := .agg #[.int .i64 kind, .string ⟨#[]⟩, .int .i64 0, .int .i64 0, .int .i64 0, .int .i64 0, .string ⟨#[]⟩, .slice none 0 0, .int .i64 0, .int .i64 0, .int .i64 many, .slice none 0 0, .slice none 0 0]) (by simp [results, Tryz.results45, go_sem]) rfl ?_
  exact HP.out _ (((Frm.refl _ _).alloc _).alloc _)
def Rc.onlyPackage (r : Rc) : Rc := ⟨r.kind, r.name, 0, 0, 0, 0, ⟨#[]⟩, none, 0, 0, 0, 0, r.many, none, 0, 0, none, 0, 0⟩
set_option maxHeartbeats 3200000 in
theorem onlyPackage_any (r : Rc) (w : World) : Calls Tryz.prog 49 #[.agg r.arr] w fun e w' => e = .returned (.agg r.onlyPackage.arr) ∧ Frm [] w w' := by
  obtain ⟨PO, hPO⟩ : ∃ PO : Ending → World → Prop, (fun e w' => e = .returned (.agg r.onlyPackage.arr) ∧ Frm [] w w') = PO := ⟨_, rfl⟩
  rw [hPO]
  have HP : Hid (∀ w', Frm [] w w' → PO (.returned (.agg r.onlyPackage.arr)) w') := hid (fun w' h => by rw [← hPO]; exact ⟨rfl, h⟩)
  clear hPO
  obtain ⟨kind, name, typ, frm, guid, origin, snap, pp, pn, pc, obj, at_, many, kp, kn, kc, dp, dl, dc⟩ := r
  unfold Rc.onlyPackage at HP
  unfold Rc.arr at HP ⊢
  simp only at HP ⊢
  have hbld : ∀ V, (Instr.build 26 #[(0, .int .i64 kind), (1, .string name), (10, .int .i64 many)]).run Tryz.prog V = .ok (.agg #[.int .i64 kind, .string name, .int .i64 0, .int .i64 0, .int .i64 0, .int .i64 0, .string ⟨#[]⟩, .slice none 0 0, .int .i64 0, .int .i64 0, .int .i64 many, .slice none 0 0, .slice none 0 0]) V := fun V => run_build V _ _ _ (by kernel_rfl)
  go_enter Tryz.func49, Tryz.ntmps49
  go_wp2_with fail
  refine bodyPost_ret (v := .agg #[.int .i64 kind, .string name, .int .i64 0, .int .i64 0, .int .i64 0, .int .i64 0, .string ⟨#[]⟩, .slice none 0 0, .int .i64 0, .int .i64 0, .int .i64 many, .slice none 0 0, .slice none 0 0]) (by simp [results, Tryz.results49, go_sem]) rfl ?_
  exact HP.out _ (((Frm.refl _ _).alloc _).alloc _)
def Rc.onlyBegin (r : Rc) : Rc := ⟨r.kind, r.name, r.typ, r.frm, r.guid, r.origin, r.snap, r.pp, r.pn, r.pc, 0, 0, 0, none, 0, 0, none, 0, 0⟩
set_option maxHeartbeats 3200000 in
theorem onlyBegin_any (r : Rc) (w : World) : Calls Tryz.prog 53 #[.agg r.arr] w fun e w' => e = .returned (.agg r.onlyBegin.arr) ∧ Frm [] w w' := by
  obtain ⟨PO, hPO⟩ : ∃ PO : Ending → World → Prop, (fun e w' => e = .returned (.agg r.onlyBegin.arr) ∧ Frm [] w w') = PO := ⟨_, rfl⟩
  rw [hPO]
  have HP : Hid (∀ w', Frm [] w w' → PO (.returned (.agg r.onlyBegin.arr)) w') := hid (fun w' h => by rw [← hPO]; exact ⟨rfl, h⟩)
  clear hPO
  obtain ⟨kind, name, typ, frm, guid, origin, snap, pp, pn, pc, obj, at_, many, kp, kn, kc, dp, dl, dc⟩ := r
  unfold Rc.onlyBegin at HP
  unfold Rc.arr at HP ⊢
  simp only at HP ⊢
  have hbld : ∀ V, (Instr.build 26 #[(0, .int .i64 kind), (1, .string name), (2, .int .i64 typ), (3, .int .i64 frm), (4, .int .i64 guid), (5, .int .i64 origin), (6, .string snap), (7, .slice pp pn pc)]).run Tryz.prog V = .ok (.agg #[.int .i64 kind, .string name, .int .i64 typ, .int .i64 frm, .int .i64 guid, .int .i64 origin, .string snap, .slice pp pn pc, .int .i64 0, .int .i64 0, .int .i64 0, .slice none 0 0, .slice none 0 0]) V := fun V => run_build V _ _ _ (by kernel_rfl)
  go_enter Tryz.func53, Tryz.ntmps53
  go_wp2_with fail
  refine bodyPost_ret (v := .agg #[.int .i64 kind, .string name, .int .i64 typ, .int .i64 frm, .int .i64 guid, .int .i64 origin, .string snap, .slice pp pn pc, .int .i64 0, .int .i64 0, .int .i64 0, .slice none 0 0, .slice none 0 0]) (by simp [results, Tryz.results53, go_sem]) rfl ?_
  exact HP.out _ (((Frm.refl _ _).alloc _).alloc _)
def Rc.onlyLive (r : Rc) : Rc := ⟨r.kind, ⟨#[]⟩, 0, 0, 0, 0, ⟨#[]⟩, none, 0, 0, 0, 0, 0, r.kp, r.kn, r.kc, none, 0, 0⟩
set_option maxHeartbeats 3200000 in
theorem onlyLive_any (r : Rc) (w : World) : Calls Tryz.prog 57 #[.agg r.arr] w fun e w' => e = .returned (.agg r.onlyLive.arr) ∧ Frm [] w w' := by
  obtain ⟨PO, hPO⟩ : ∃ PO : Ending → World → Prop, (fun e w' => e = .returned (.agg r.onlyLive.arr) ∧ Frm [] w w') = PO := ⟨_, rfl⟩
  rw [hPO]
  have HP : Hid (∀ w', Frm [] w w' → PO (.returned (.agg r.onlyLive.arr)) w') := hid (fun w' h => by rw [← hPO]; exact ⟨rfl, h⟩)
  clear hPO
  obtain ⟨kind, name, typ, frm, guid, origin, snap, pp, pn, pc, obj, at_, many, kp, kn, kc, dp, dl, dc⟩ := r
  unfold Rc.onlyLive at HP
  unfold Rc.arr at HP ⊢
  simp only at HP ⊢
  have hbld : ∀ V, (Instr.build 26 #[(0, .int .i64 kind), (11, .slice kp kn kc)]).run Tryz.prog V = .ok (.agg #[.int .i64 kind, .string ⟨#[]⟩, .int .i64 0, .int .i64 0, .int .i64 0, .int .i64 0, .string ⟨#[]⟩, .slice none 0 0, .int .i64 0, .int .i64 0, .int .i64 0, .slice kp kn kc, .slice none 0 0]) V := fun V => run_build V _ _ _ (by kernel_rfl)
  go_enter Tryz.func57, Tryz.ntmps57
  go_wp2_with fail
  refine bodyPost_ret (v := .agg #[.int .i64 kind, .string ⟨#[]⟩, .int .i64 0, .int .i64 0, .int .i64 0, .int .i64 0, .string ⟨#[]⟩, .slice none 0 0, .int .i64 0, .int .i64 0, .int .i64 0, .slice kp kn kc, .slice none 0 0]) (by simp [results, Tryz.results57, go_sem]) rfl ?_
  exact HP.out _ (((Frm.refl _ _).alloc _).alloc _)
def Rc.onlyNode (r : Rc) : Rc := ⟨r.kind, ⟨#[]⟩, 0, 0, 0, 0, ⟨#[]⟩, none, 0, 0, r.obj, 0, 0, r.kp, r.kn, r.kc, none, 0, 0⟩
set_option maxHeartbeats 3200000 in
theorem onlyNode_any (r : Rc) (w : World) : Calls Tryz.prog 61 #[.agg r.arr] w fun e w' => e = .returned (.agg r.onlyNode.arr) ∧ Frm [] w w' := by
  obtain ⟨PO, hPO⟩ : ∃ PO : Ending → World → Prop, (fun e w' => e = .returned (.agg r.onlyNode.arr) ∧ Frm [] w w') = PO := ⟨_, rfl⟩
  rw [hPO]
  have HP : Hid (∀ w', Frm [] w w' → PO (.returned (.agg r.onlyNode.arr)) w') := hid (fun w' h => by rw [← hPO]; exact ⟨rfl, h⟩)
  clear hPO
  obtain ⟨kind, name, typ, frm, guid, origin, snap, pp, pn, pc, obj, at_, many, kp, kn, kc, dp, dl, dc⟩ := r
  unfold Rc.onlyNode at HP
  unfold Rc.arr at HP ⊢
  simp only at HP ⊢
  have hbld : ∀ V, (Instr.build 26 #[(0, .int .i64 kind), (8, .int .i64 obj), (11, .slice kp kn kc)]).run Tryz.prog V = .ok (.agg #[.int .i64 kind, .string ⟨#[]⟩, .int .i64 0, .int .i64 0, .int .i64 0, .int .i64 0, .string ⟨#[]⟩, .slice none 0 0, .int .i64 obj, .int .i64 0, .int .i64 0, .slice kp kn kc, .slice none 0 0]) V := fun V => run_build V _ _ _ (by kernel_rfl)
  go_enter Tryz.func61, Tryz.ntmps61
  go_wp2_with fail
  refine bodyPost_ret (v := .agg #[.int .i64 kind, .string ⟨#[]⟩, .int .i64 0, .int .i64 0, .int .i64 0, .int .i64 0, .string ⟨#[]⟩, .slice none 0 0, .int .i64 obj, .int .i64 0, .int .i64 0, .slice kp kn kc, .slice none 0 0]) (by simp [results, Tryz.results61, go_sem]) rfl ?_
  exact HP.out _ (((Frm.refl _ _).alloc _).alloc _)
def Rc.onlyWrite (r : Rc) : Rc := ⟨r.kind, ⟨#[]⟩, 0, 0, 0, 0, ⟨#[]⟩, none, 0, 0, r.obj, r.at_, 0, none, 0, 0, r.dp, r.dl, r.dc⟩
set_option maxHeartbeats 3200000 in
theorem onlyWrite_any (r : Rc) (w : World) : Calls Tryz.prog 65 #[.agg r.arr] w fun e w' => e = .returned (.agg r.onlyWrite.arr) ∧ Frm [] w w' := by
  obtain ⟨PO, hPO⟩ : ∃ PO : Ending → World → Prop, (fun e w' => e = .returned (.agg r.onlyWrite.arr) ∧ Frm [] w w') = PO := ⟨_, rfl⟩
  rw [hPO]
  have HP : Hid (∀ w', Frm [] w w' → PO (.returned (.agg r.onlyWrite.arr)) w') := hid (fun w' h => by rw [← hPO]; exact ⟨rfl, h⟩)
  clear hPO
  obtain ⟨kind, name, typ, frm, guid, origin, snap, pp, pn, pc, obj, at_, many, kp, kn, kc, dp, dl, dc⟩ := r
  unfold Rc.onlyWrite at HP
  unfold Rc.arr at HP ⊢
  simp only at HP ⊢
  have hbld : ∀ V, (Instr.build 26 #[(0, .int .i64 kind), (8, .int .i64 obj), (9, .int .i64 at_), (12, .slice dp dl dc)]).run Tryz.prog V = .ok (.agg #[.int .i64 kind, .string ⟨#[]⟩, .int .i64 0, .int .i64 0, .int .i64 0, .int .i64 0, .string ⟨#[]⟩, .slice none 0 0, .int .i64 obj, .int .i64 at_, .int .i64 0, .slice none 0 0, .slice dp dl dc]) V := fun V => run_build V _ _ _ (by kernel_rfl)
  go_enter Tryz.func65, Tryz.ntmps65
  go_wp2_with fail
  refine bodyPost_ret (v := .agg #[.int .i64 kind, .string ⟨#[]⟩, .int .i64 0, .int .i64 0, .int .i64 0, .int .i64 0, .string ⟨#[]⟩, .slice none 0 0, .int .i64 obj, .int .i64 at_, .int .i64 0, .slice none 0 0, .slice dp dl dc]) (by simp [results, Tryz.results65, go_sem]) rfl ?_
  exact HP.out _ (((Frm.refl _ _).alloc _).alloc _)
end
end Go.Proofs.YtajfjkfnmmfhmaaGreatDoor
