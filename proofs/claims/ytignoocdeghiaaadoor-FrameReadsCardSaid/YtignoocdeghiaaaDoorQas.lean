/- Frames: the document's Asks and Request. The law FrameAsks, for any request. Inputs as they come in: a request. The listed variable of the laws of layer 2: what the row's condition gives; a world that meets it. The three listed variables of SumOf: what the row's condition gives; a world that meets it. -/
import Derived.Test.YtignoocdeghiaaaDoorQar
import Derived.Test.YtignoocdeghiaaaDoorQap
import Derived.Deep.CutBlock
import Derived.Test.YtignoocdeghiaaaDoorQad
import Derived.Test.YtignoocdeghiaaaDoorQac
import Derived.Test.YtignoocdeghiaaaDoorRows
import Derived.Test.YtignoocdeghiaaaDoorQah
import Derived.LaidLaws
import Derived.Lib.LaidTab
import Derived.LaidSub
namespace Go.Proofs.YtignoocdeghiaaaDoor
section
open Go.RowKit Go.Lib
set_option maxRecDepth 100000

theorem own_capG {w : World} {E : TypeId} {p : Option Addr} {n c : Nat} {zs : List Int} (h : Own w E (.slice p n c) zs) : zs.length = n ∧ n ≤ c ∧ (p = none → c = 0) := by
  obtain ⟨p', c', he, hle, hn, _⟩ := h.shape
  simp only [Value.slice.injEq] at he
  obtain ⟨rfl, h2, rfl⟩ := he
  exact ⟨h2.symm, by omega, fun hp => (hn hp).2⟩
theorem bodyQ_bd23 {r : Rq} {ds : List Int} (hd : ∀ z ∈ ds, 0 ≤ z ∧ z < 256) : ∀ z ∈ bodyQ r ds, 0 ≤ z ∧ z < 256 := fun z hz => inQ_bd (r := r) hd z (by unfold inQ; exact List.mem_append_right _ hz)
theorem bodyQ_len23 {r : Rq} {ds : List Int} (hm : MayQ r) (hl : ds.length = r.dl) : (bodyQ r ds).length ≤ 3100 := by
  have h := (inQ_len hm hl).2
  unfold inQ at h
  rw [List.length_append] at h
  omega
set_option maxHeartbeats 6400000 in
theorem asks_any (r : Rq) (w : World) : Calls Tryd.prog 29 #[.agg r.arr] w fun e w' => e = .returned (.bool (decide (MayQ r))) ∧ Frm [] w w' := by
  obtain ⟨PO, hPO⟩ : ∃ PO : Ending → World → Prop, (fun e w' => e = .returned (.bool (decide (MayQ r))) ∧ Frm [] w w') = PO := ⟨_, rfl⟩
  rw [hPO]
  have HP : Hid (∀ x w', (x = true ↔ MayQ r) → Frm [] w w' → PO (.returned (.bool x)) w') := hid (fun x w' h h2 => by rw [← hPO]; exact ⟨by rw [bool_dec h], h2⟩)
  clear hPO
  have HFA := hid ((Frm.refl [] w).alloc (.cells r.arr 24))
  have HROW := hid (heap_alloc_new w (.cells r.arr 24))
  obtain ⟨wa, hwa⟩ : ∃ z, w.alloc (.cells r.arr 24) = z := ⟨_, rfl⟩
  rw [hwa] at HFA HROW
  obtain ⟨bx, hbx⟩ : ∃ z, w.heap.size = z := ⟨_, rfl⟩
  rw [hbx] at HROW
  obtain ⟨q0, q1, q2, q3, q4, q5, q6, q7, q8, q9⟩ := rq_cells HROW.out
  obtain ⟨ses, id, verb, name, item, other, path, at_, many, dp, dl, dc⟩ := r
  unfold MayQ at HP
  unfold Rq.arr at hwa ⊢
  simp only at HP hwa q0 q1 q2 q3 q4 q5 q6 q7 q8 q9 ⊢
  clear HROW
  go_enter Tryd.func29, Tryd.ntmps29
  go_upto_region 1 with fail
  first | rw [hwa] | skip
  first | rw [hbx] | skip
  clear hwa hbx
  go_cut [3] from 5 to 32 (fun v wx => ∃ x, v = .bool x ∧ (x = true ↔ (1 ≤ ses ∧ ses ≤ 8 ∧ 1 ≤ id ∧ id ≤ 1073741824 ∧ 1 ≤ verb ∧ verb ≤ 255)) ∧ wx = wa)
  case first =>
    by_cases g0 : 1 ≤ ses
    case neg =>
      have N := hid g0
      go_wp2_with fail
      go_meet
      case rel => exact ⟨_, rfl, ⟨fun h => by simp at h, fun h => by have a := h.1; have b := N.out; omega⟩, rfl⟩
    by_cases g1 : ses ≤ 8
    case neg =>
      have N := hid g1
      go_wp2_with fail
      go_meet
      case rel => exact ⟨_, rfl, ⟨fun h => by simp at h, fun h => by have a := h.2.1; have b := N.out; omega⟩, rfl⟩
    by_cases g2 : 1 ≤ id
    case neg =>
      have N := hid g2
      go_wp2_with fail
      go_meet
      case rel => exact ⟨_, rfl, ⟨fun h => by simp at h, fun h => by have a := h.2.2.1; have b := N.out; omega⟩, rfl⟩
    by_cases g3 : id ≤ 1073741824
    case neg =>
      have N := hid g3
      go_wp2_with fail
      go_meet
      case rel => exact ⟨_, rfl, ⟨fun h => by simp at h, fun h => by have a := h.2.2.2.1; have b := N.out; omega⟩, rfl⟩
    by_cases g4 : 1 ≤ verb
    case neg =>
      have N := hid g4
      go_wp2_with fail
      go_meet
      case rel => exact ⟨_, rfl, ⟨fun h => by simp at h, fun h => by have a := h.2.2.2.2.1; have b := N.out; omega⟩, rfl⟩
    by_cases g5 : verb ≤ 255
    case neg =>
      have N := hid g5
      go_wp2_with fail
      go_meet
      case rel => exact ⟨_, rfl, ⟨fun h => by simp at h, fun h => by have a := h.2.2.2.2.2; have b := N.out; omega⟩, rfl⟩
    go_wp2_with fail
    go_meet
    case rel => exact ⟨_, rfl, ⟨fun _ => ⟨g0, g1, g2, g3, g4, g5⟩, fun _ => rfl⟩, rfl⟩
  obtain ⟨x, rfl, hx, hwc⟩ := hcut
  have hwr := hwc.symm
  clear hwc
  subst hwr
  have HX := hid hx
  clear hx
  go_upto_region 2 with fail
  go_cut [4] from 33 to 54 (fun v wx => ∃ y, v = .bool y ∧ (y = true ↔ ((name.size : Int) ≤ 240 ∧ (item.size : Int) ≤ 240 ∧ (other.size : Int) ≤ 240 ∧ (path.size : Int) ≤ 240)) ∧ wx = wa)
  case first =>
    by_cases g0 : (name.size : Int) ≤ 240
    case neg =>
      have N := hid g0
      go_wp2_with fail
      go_meet
      case rel => exact ⟨_, rfl, ⟨fun h => by simp at h, fun h => by have a := h.1; have b := N.out; omega⟩, rfl⟩
    by_cases g1 : (item.size : Int) ≤ 240
    case neg =>
      have N := hid g1
      go_wp2_with fail
      go_meet
      case rel => exact ⟨_, rfl, ⟨fun h => by simp at h, fun h => by have a := h.2.1; have b := N.out; omega⟩, rfl⟩
    by_cases g2 : (other.size : Int) ≤ 240
    case neg =>
      have N := hid g2
      go_wp2_with fail
      go_meet
      case rel => exact ⟨_, rfl, ⟨fun h => by simp at h, fun h => by have a := h.2.2.1; have b := N.out; omega⟩, rfl⟩
    by_cases g3 : (path.size : Int) ≤ 240
    case neg =>
      have N := hid g3
      go_wp2_with fail
      go_meet
      case rel => exact ⟨_, rfl, ⟨fun h => by simp at h, fun h => by have a := h.2.2.2; have b := N.out; omega⟩, rfl⟩
    go_wp2_with fail
    go_meet
    case rel => exact ⟨_, rfl, ⟨fun _ => ⟨g0, g1, g2, g3⟩, fun _ => rfl⟩, rfl⟩
  obtain ⟨y, rfl, hy, hwc⟩ := hcut
  have hwr := hwc.symm
  clear hwc
  subst hwr
  have HY := hid hy
  clear hy
  cases x with
  | false =>
    have N : Hid (¬ (1 ≤ ses ∧ ses ≤ 8 ∧ 1 ≤ id ∧ id ≤ 1073741824 ∧ 1 ≤ verb ∧ verb ≤ 255)) := hid (fun h => by have := HX.out.2 h; simp at this)
    go_wp2_with fail
    first | go_returns | skip
    exact HP.out _ _ ⟨fun h => by simp at h, fun h => absurd (by obtain ⟨⟨a1, a2⟩, ⟨a3, a4⟩, ⟨a5, a6⟩, _⟩ := h; exact ⟨a1, a2, a3, a4, a5, a6⟩) N.out⟩ HFA.out
  | true =>
  cases y with
  | false =>
    have N : Hid (¬ ((name.size : Int) ≤ 240 ∧ (item.size : Int) ≤ 240 ∧ (other.size : Int) ≤ 240 ∧ (path.size : Int) ≤ 240)) := hid (fun h => by have := HY.out.2 h; simp at this)
    go_wp2_with fail
    first | go_returns | skip
    exact HP.out _ _ ⟨fun h => by simp at h, fun h => absurd (by obtain ⟨_, _, _, b1, b2, b3, b4, _⟩ := h; exact ⟨by omega, by omega, by omega, by omega⟩) N.out⟩ HFA.out
  | true =>
  have HA : Hid (1 ≤ ses ∧ ses ≤ 8 ∧ 1 ≤ id ∧ id ≤ 1073741824 ∧ 1 ≤ verb ∧ verb ≤ 255) := hid (HX.out.1 rfl)
  have HB : Hid ((name.size : Int) ≤ 240 ∧ (item.size : Int) ≤ 240 ∧ (other.size : Int) ≤ 240 ∧ (path.size : Int) ≤ 240) := hid (HY.out.1 rfl)
  clear HX HY
  by_cases g0 : 0 ≤ at_
  case neg =>
    have N := hid g0
    go_wp2_with fail
    first | go_returns | skip
    exact HP.out _ _ ⟨fun h => by simp at h, fun h => by have b := N.out; obtain ⟨_, _, _, _, _, _, _, ⟨c0, c1⟩, ⟨c2, c3⟩, c4⟩ := h; omega⟩ HFA.out
  by_cases g1 : at_ ≤ 1099511627776
  case neg =>
    have N := hid g1
    go_wp2_with fail
    first | go_returns | skip
    exact HP.out _ _ ⟨fun h => by simp at h, fun h => by have b := N.out; obtain ⟨_, _, _, _, _, _, _, ⟨c0, c1⟩, ⟨c2, c3⟩, c4⟩ := h; omega⟩ HFA.out
  by_cases g2 : 0 ≤ many
  case neg =>
    have N := hid g2
    go_wp2_with fail
    first | go_returns | skip
    exact HP.out _ _ ⟨fun h => by simp at h, fun h => by have b := N.out; obtain ⟨_, _, _, _, _, _, _, ⟨c0, c1⟩, ⟨c2, c3⟩, c4⟩ := h; omega⟩ HFA.out
  by_cases g3 : many ≤ 1099511627776
  case neg =>
    have N := hid g3
    go_wp2_with fail
    first | go_returns | skip
    exact HP.out _ _ ⟨fun h => by simp at h, fun h => by have b := N.out; obtain ⟨_, _, _, _, _, _, _, ⟨c0, c1⟩, ⟨c2, c3⟩, c4⟩ := h; omega⟩ HFA.out
  by_cases g4 : (dl : Int) ≤ 2048
  case neg =>
    have N := hid g4
    go_wp2_with fail
    first | go_returns | skip
    exact HP.out _ _ ⟨fun h => by simp at h, fun h => by have b := N.out; obtain ⟨_, _, _, _, _, _, _, ⟨c0, c1⟩, ⟨c2, c3⟩, c4⟩ := h; omega⟩ HFA.out
  have HC : Hid (0 ≤ at_ ∧ at_ ≤ 1099511627776 ∧ 0 ≤ many ∧ many ≤ 1099511627776 ∧ (dl : Int) ≤ 2048) := hid ⟨g0, g1, g2, g3, g4⟩
  go_wp2_with fail
  first | go_returns | skip
  exact HP.out _ _ ⟨fun _ => by obtain ⟨a1, a2, a3, a4, a5, a6⟩ := HA.out; obtain ⟨b1, b2, b3, b4⟩ := HB.out; obtain ⟨c1, c2, c3, c4, c5⟩ := HC.out; exact ⟨⟨a1, a2⟩, ⟨a3, a4⟩, ⟨a5, a6⟩, by omega, by omega, by omega, by omega, ⟨c1, c2⟩, ⟨c3, c4⟩, by omega⟩, fun _ => rfl⟩ HFA.out
set_option maxHeartbeats 6400000 in
theorem refRequest_any (r : Rq) (ds : List Int) (w : World) (hd : Rd w r.dp ds) (hl : ds.length = r.dl) (hn : ds = [] → r.dp = none → r.dc = 0) (hz : ∀ z ∈ ds, 0 ≤ z ∧ z < 256) (hv : Vars w) :
    Calls Tryd.prog 11 #[.agg r.arr] w fun e w' => ∃ p n c, e = .returned (.tuple #[.slice p n c, .int .i64 (errQ r)]) ∧ BufF w none w' p n c (frmR r ds) := by
  obtain ⟨PO, hPO⟩ : ∃ PO : Ending → World → Prop, (fun e w' => ∃ p n c, e = .returned (.tuple #[.slice p n c, .int .i64 (errQ r)]) ∧ BufF w none w' p n c (frmR r ds)) = PO := ⟨_, rfl⟩
  rw [hPO]
  have HP1 : Hid (∀ w', ¬ MayQ r → Frm [] w w' → PO (.returned (.tuple #[.slice none 0 0, .int .i64 230])) w') := hid (fun w' h1 h2 => by rw [← hPO]; exact ⟨none, 0, 0, by unfold errQ; rw [if_neg h1], by unfold frmR; rw [if_neg h1]; exact ⟨Own.nil _ _, rfl, h2, by simp [blk]⟩⟩)
  have HP2 : Hid (∀ p n c w', MayQ r → BufF w none w' p n c (frm (inQ r ds)) → PO (.returned (.tuple #[.slice p n c, .int .i64 0])) w') := hid (fun p n c w' h1 h2 => by rw [← hPO]; exact ⟨p, n, c, by unfold errQ; rw [if_pos h1], by unfold frmR; rw [if_pos h1]; exact h2⟩)
  have HFA := hid ((Frm.refl [] w).alloc (.cells r.arr 24))
  have HROW := hid (heap_alloc_new w (.cells r.arr 24))
  obtain ⟨wa, hwa⟩ : ∃ z, w.alloc (.cells r.arr 24) = z := ⟨_, rfl⟩
  rw [hwa] at HFA HROW
  obtain ⟨bx, hbx⟩ : ∃ z, w.heap.size = z := ⟨_, rfl⟩
  rw [hbx] at HROW
  have HRC : Hid (∀ W : World, Frm [] wa W → W.heap[bx]? = some (.cells r.arr 24 (0, 0))) := hid (fun W hf => hf.heap HROW.out (by simp))
  have HAS := hid (asks_any r wa)
  have HV := hid hv
  have HBD := hid (bodyQ_bd23 (r := r) hz)
  have HBL := hid (fun (hm : MayQ r) => bodyQ_len23 (r := r) (ds := ds) hm hl)
  have HBO := hid (fun (hm : MayQ r) W (hf : Frm [] w W) => askBody_any r ds W hm (hd.kept hf (by simp)) hl hn)
  obtain ⟨q0, q1, q2, q3, q4, q5, q6, q7, q8, q9⟩ := rq_cells HROW.out
  have HEQ : Hid ([1] ++ bodyQ r ds = inQ r ds) := hid rfl
  obtain ⟨B, hB⟩ : ∃ z, bodyQ r ds = z := ⟨_, rfl⟩
  rw [hB] at HBD HBL HBO HEQ
  obtain ⟨FI, hFI⟩ : ∃ z, inQ r ds = z := ⟨_, rfl⟩
  rw [hFI] at HP2 HEQ
  clear hPO hd hl hn hz hv hB hFI
  by_cases hm : MayQ r
  case neg =>
    rw [decide_eq_false hm] at HAS
    have HM := hid hm
    obtain ⟨ses, id, verb, name, item, other, path, at_, many, dp, dl, dc⟩ := r
    unfold Rq.arr at HAS hwa ⊢
    simp only at HAS hwa q0 q1 q2 q3 q4 q5 q6 q7 q8 q9 ⊢
    clear hm HBO
    go_enter Tryd.func11, Tryd.ntmps11
    go_wp2_with fail
    refine HAS.out.mono ?_
    rintro e w1 ⟨rfl, hf1⟩
    have HF1 := hid (HFA.out.trans hf1 (by simp))
    clear hf1
    go_wp2_with fail
    first | go_returns | skip
    exact HP1.out _ HM.out HF1.out
  rw [decide_eq_true hm] at HAS
  have HM := hid hm
  have HBX := hid (fun W hf => HBO.out hm W hf)
  obtain ⟨ses, id, verb, name, item, other, path, at_, many, dp, dl, dc⟩ := r
  unfold Rq.arr at HAS HBX hwa HRC ⊢
  simp only at HAS HBX hwa HRC q0 q1 q2 q3 q4 q5 q6 q7 q8 q9 ⊢
  clear hm HBO
  go_enter Tryd.func11, Tryd.ntmps11
  go_wp2_with fail
  refine HAS.out.mono ?_
  rintro e w1 ⟨rfl, hf1⟩
  have HF1 := hid (HFA.out.trans hf1 (by simp))
  clear q0 q1 q2 q3 q4 q5 q6 q7 q8 q9
  obtain ⟨q0, q1, q2, q3, q4, q5, q6, q7, q8, q9⟩ := rq_cells (r := ⟨ses, id, verb, name, item, other, path, at_, many, dp, dl, dc⟩) (HRC.out w1 hf1)
  simp only at q0 q1 q2 q3 q4 q5 q6 q7 q8 q9
  clear hf1
  go_wp2_with fail
  refine (HBX.out _ HF1.out).mono ?_
  rintro e w2 ⟨p, n, c, rfl, hb⟩
  have HB2 := hid hb
  have hf2 : Frm [] w w2 := HF1.out.trans hb.nil.1 (by simp)
  have HFR := hid (framed_any 1 (by omega) (by omega) p n c B w2 hb.own.rd hb.len (fun h hp => by have := (own_capG hb.own).2.2 hp; exact this) HBD.out (by have h1 := HBL.out HM.out; have h2 := hb.len; omega) (HV.out.kept hf2))
  rw [HEQ.out] at HFR
  have HF2 := hid hf2
  clear hb hf2 q0 q1 q2 q3 q4 q5 q6 q7 q8 q9
  go_wp2_with fail
  refine HFR.out.mono ?_
  rintro e w3 ⟨p3, n3, c3, rfl, hb⟩
  have HB3 := hid hb
  clear hb
  go_wp2_with fail
  first | go_returns | skip
  exact HP2.out _ _ _ _ HM.out (BufF.pre HF2.out HB3.out)
end
section
open Go.RowKit Go.Lib
set_option maxRecDepth 100000

theorem frmR_len {r : Rq} {ds : List Int} (hl : ds.length = r.dl) : (frmR r ds).length ≤ 4096 := by
  unfold frmR
  split
  · rename_i h
    have := (inQ_len h hl).2
    rw [frm_len]
    omega
  · simp
set_option maxHeartbeats 12800000 in
theorem asksLaw_any (r : Rq) (ds : List Int) (w : World) (hd : Rd w r.dp ds) (hl : ds.length = r.dl) (hn : ds = [] → r.dp = none → r.dc = 0) (hz : ∀ z ∈ ds, 0 ≤ z ∧ z < 256) (hmx : r.dl ≤ 140737488355328) (hpr : Primes w) (hv : Vars w) :
    Calls Tryd.prog 3 #[.agg r.arr] w fun e w' => e = .returned (.bool true) ∧ Frm [] w w' := by
  obtain ⟨PO, hPO⟩ : ∃ PO : Ending → World → Prop, (fun e w' => e = .returned (.bool true) ∧ Frm [] w w') = PO := ⟨_, rfl⟩
  rw [hPO]
  have HP : Hid (∀ w', Frm [] w w' → PO (.returned (.bool true)) w') := hid (fun w' h => by rw [← hPO]; exact ⟨rfl, h⟩)
  have HFA := hid ((Frm.refl [] w).alloc (.cells r.arr 24))
  have HROW := hid (heap_alloc_new w (.cells r.arr 24))
  obtain ⟨wa, hwa⟩ : ∃ z, w.alloc (.cells r.arr 24) = z := ⟨_, rfl⟩
  rw [hwa] at HFA HROW
  obtain ⟨bx, hbx⟩ : ∃ z, w.heap.size = z := ⟨_, rfl⟩
  rw [hbx] at HROW
  have HAW := hid (awakeF_any wa (hpr.kept HFA.out))
  have HRC := hid (fun (W : World) (hf : Frm [] wa W) => rq_cells (r := r) (hf.heap HROW.out (by simp)))
  have HDK := hid (fun (W : World) (hf : Frm [] w W) => hd.kept hf (by simp))
  have HRQ := hid (fun (r' : Rq) (W : World) (h1 : Rd W r'.dp ds) (h2 : ds.length = r'.dl) (h3 : ds = [] → r'.dp = none → r'.dc = 0) (hf : Frm [] w W) => request_any r' ds W h1 h2 h3 hz (hpr.kept hf))
  have HRR := hid (fun (W : World) (hf : Frm [] w W) => refRequest_any r ds W (hd.kept hf (by simp)) hl hn hz (hv.kept hf))
  have HL := hid hl
  have HN := hid hn
  have HFL := hid (frmR_len hl)
  have HSAME : Hid (∀ p n c, n = r.dl → errQ ⟨r.ses, r.id, r.verb, r.name, r.item, r.other, r.path, r.at_, r.many, p, n, c⟩ = errQ r ∧ frmR ⟨r.ses, r.id, r.verb, r.name, r.item, r.other, r.path, r.at_, r.many, p, n, c⟩ ds = frmR r ds) := hid (fun p n c h => by subst h; exact ⟨rfl, rfl⟩)
  have HMX := hid hmx
  obtain ⟨FR, hFR⟩ : ∃ z, frmR r ds = z := ⟨_, rfl⟩
  obtain ⟨ER, hER⟩ : ∃ z, errQ r = z := ⟨_, rfl⟩
  rw [hFR] at HRR HFL HSAME
  rw [hER] at HRR HSAME
  clear hPO hd hl hn hz hmx hpr hv hFR hER
  obtain ⟨ses, id, verb, name, item, other, path, at_, many, dp, dl, dc⟩ := r
  unfold Rq.arr at HRR hwa HROW ⊢
  simp only at HRR HRC HL HN HSAME HMX hwa HROW ⊢
  have HWA := hid hwa
  have HBX := hid hbx
  clear hwa hbx
  go_enter Tryd.func3, Tryd.ntmps3
  go_upto_region 1 with fail
  first | rw [HWA.out] | skip
  first | rw [HBX.out] | skip
  clear HWA HBX
  go_wp2_with fail
  refine HAW.out.mono ?_
  rintro e w1 ⟨rfl, hf1⟩
  have HF1 := hid hf1
  clear hf1 HAW
  obtain ⟨q0, q1, q2, q3, q4, q5, q6, q7, q8, q9⟩ := HRC.out w1 HF1.out
  obtain ⟨w2, hw2⟩ : ∃ z, w1.alloc (.cells #[.int .i64 ses, .int .i64 id, .int .i64 verb, .string name, .string item, .string other, .string path, .int .i64 at_, .int .i64 many, .slice dp dl dc] 24) = z := ⟨_, rfl⟩
  have hrow2 := heap_alloc_new w1 (.cells #[.int .i64 ses, .int .i64 id, .int .i64 verb, .string name, .string item, .string other, .string path, .int .i64 at_, .int .i64 many, .slice dp dl dc] 24)
  obtain ⟨bq, hbq⟩ : ∃ z, w1.heap.size = z := ⟨_, rfl⟩
  have hf2 : Frm [] w1 w2 := by rw [← hw2]; exact (Frm.refl _ _).alloc _
  rw [hw2, hbq] at hrow2
  have HF2 : Hid (Frm [] wa w2) := hid (HF1.out.trans hf2 (by simp))
  have HROW2 := hid hrow2
  have HW2 := hid hw2
  have HBQ := hid hbq
  have HSZ : Hid (w1.heap.size = bq) := hid hbq
  clear hf2 hrow2 hw2 hbq
  go_upto_region 4 with fail
  first | rw [HBQ.out] | skip
  first | rw [HW2.out] | skip
  clear q0 q1 q2 q3 q4 q5 q6 q7 q8 q9 HW2 HBQ
  obtain ⟨q0, q1, q2, q3, q4, q5, q6, q7, q8, q9⟩ := HRC.out w2 HF2.out
  go_wp2_with (at_builtin; refine wpList_appB rfl _ _ 22 rfl 5 Tryd.underlying22 infoE none 0 0 [] rfl rfl (Own.nil _ _) dp dl dc ds rfl HL.out.symm HN.out (HDK.out _ (HFA.out.trans HF2.out (by simp))) (by rw [HL.out]; simp; exact HMX.out) ?_)
  intro xs p3 c3 w3 hxs ho3 hf3 hfr3
  obtain rfl : xs = ds := by simpa using hxs.out
  have hrow3 := hf3.out.heap HROW2.out (by simp [blk])
  have z9 : w3.cell? ⟨bq, 9, none⟩ = some (.slice dp dl dc) := by rw [cell_of_row _ _ _ _ _ _ hrow3]; rfl
  have y9 := frozen_of_row w3 bq 9 _ _ hrow3
  have hrow4 := heap_setCell_same w3 bq 9 _ _ (.slice p3 xs.length c3) hrow3
  simp only [List.setIfInBounds_toArray, List.set_cons_zero, List.set_cons_succ] at hrow4
  obtain ⟨w4, hw4⟩ : ∃ z, w3.setCell ⟨bq, 9, none⟩ (.slice p3 xs.length c3) = z := ⟨_, rfl⟩
  have hfs : Frm [bq] w3 w4 := by rw [← hw4]; exact (Frm.refl _ _).setCell _ _ (by simp)
  rw [hw4] at hrow4
  have hpq : bq ∉ blk p3 := fun hm => by
    rcases hfr3.out bq hm with h | h
    · simp [blk] at h
    · have := lt_of_heap HROW2.out; omega
  have HO4 : Hid (Own w4 5 (.slice p3 xs.length c3) xs) := hid (ho3.out.kept hfs (by rw [own_blk]; exact fun k hk hm => by rw [List.mem_singleton] at hm; subst hm; exact hpq hk))
  have HF4 : Hid (Frm [] wa w4) := hid ((HF2.out.trans hf3.out (by simp [blk])).trans hfs (fun i hi hlt => by rw [List.mem_singleton] at hi; have h1 := HF1.out.size; have h2 := HSZ.out; omega))
  have HROW4 := hid hrow4
  obtain ⟨s1, s2⟩ := HSAME.out p3 xs.length c3 HL.out
  have hrq := HRQ.out ⟨ses, id, verb, name, item, other, path, at_, many, p3, xs.length, c3⟩ w4 HO4.out.rd rfl (fun h hp => (own_capG HO4.out).2.2 hp) (HFA.out.trans HF4.out (by simp))
  have HRQ1 := hid (hrq.mono (fun e w' h => h.one rfl))
  rw [s1, s2] at HRQ1
  unfold Rq.arr at HRQ1
  simp only at HRQ1
  have hwz : w3.setCell ⟨bq, 9, none⟩ (.slice p3 xs.length c3) = w4 := hw4
  clear hxs ho3 hf3 hfr3 hfs hrow3 hrow4 hpq s1 s2 hrq hw4 q0 q1 q2 q3 q4 q5 q6 q7 q8 q9 HRQ HSAME
  go_upto_region 5 with fail
  first | rw [hwz] | skip
  clear hwz z9 y9
  obtain ⟨q0, q1, q2, q3, q4, q5, q6, q7, q8, q9⟩ := rq_cells (r := ⟨ses, id, verb, name, item, other, path, at_, many, p3, xs.length, c3⟩) HROW4.out
  simp only at q0 q1 q2 q3 q4 q5 q6 q7 q8 q9
  go_wp2_with fail
  refine HRQ1.out.mono ?_
  rintro e w5 ⟨p5, n5, c5, rfl, hn5, ho5, hb5, hf5⟩
  have HF5 : Hid (Frm [] wa w5) := hid (HF4.out.trans hf5 (by simp))
  have HO5 := hid ho5
  have HN5 := hid hn5
  have cv1 := cv_any (P := Tryd.prog) (w := w5) 22 5 9 Tryd.underlying22 Tryd.underlying5 Tryd.underlying9 (HO4.out.kept hf5 (by simp)).rd c3 rfl
  have cv2 := cv_any (P := Tryd.prog) (w := w5) 22 5 9 Tryd.underlying22 Tryd.underlying5 Tryd.underlying9 (HDK.out _ (HFA.out.trans HF5.out (by simp))) dc HL.out
  have x9 : w5.cell? ⟨bq, 9, none⟩ = some (.slice p3 xs.length c3) := by rw [cell_of_row _ _ _ _ _ _ (hf5.heap HROW4.out (by simp))]; rfl
  clear q0 q1 q2 q3 q4 q5 q6 q7 q8 q9 hf5 ho5 hn5 hb5 HRQ1
  obtain ⟨q0, q1, q2, q3, q4, q5, q6, q7, q8, q9⟩ := HRC.out w5 HF5.out
  go_upto_region 7 with fail
  clear cv1 cv2 x9
  go_wp2_with fail
  refine (HRR.out _ (HFA.out.trans HF5.out (by simp))).mono ?_
  rintro e w6 ⟨p6, n6, c6, rfl, hb6⟩
  have HF6 : Hid (Frm [] wa w6) := hid (HF5.out.trans hb6.nil.1 (by simp))
  have cv1 := cv_any (P := Tryd.prog) (w := w6) 22 5 9 Tryd.underlying22 Tryd.underlying5 Tryd.underlying9 (HO5.out.kept hb6.nil.1 (by simp)).rd c5 HN5.out
  have cv2 := cv_any (P := Tryd.prog) (w := w6) 22 5 9 Tryd.underlying22 Tryd.underlying5 Tryd.underlying9 hb6.own.rd c6 hb6.len
  have hle : (n5 : Int) ≤ 4096 := by have h1 := HFL.out; have h2 := HN5.out; omega
  clear q0 q1 q2 q3 q4 q5 q6 q7 q8 q9 hb6
  go_wp2_with fail
  first | go_returns | skip
  exact HP.out _ (HFA.out.trans HF6.out (by simp))
end
section
open Go.RowKit Go.ChangeShapes Go.WideShapes
set_option maxRecDepth 100000
section
variable {H : Type} {enc : TypeId × Value → H} {W : World}
theorem req_came {b0 : Nat} {v : Value} {d : DataW H} {q : List MemPlace} (hv : Value.okWide Tryd.prog W .any b0 24 v) (h : DataW.Trod enc Tryd.prog W 0 (fun _ => true) true 24 v d q) (hw : ∀ n ∈ d.weights Tryd.prog 24, n ≤ reachBytes) :
    ∃ r : Rq, v = .agg r.arr ∧ Came W r.dp r.dl r.dc ∧ r.dl ≤ 140737488351232 := by
  obtain ⟨cs, rfl, hsz⟩ := okWide_struct Tryd.underlying24 hv
  have h10 : Tryd.prog.cellsOf 24 = 10 := by kernel_rfl
  have hs1 : Tryd.prog.cellsOf 22 = 1 := by kernel_rfl
  have hi1 : Tryd.prog.cellsOf 3 = 1 := by kernel_rfl
  have ht1 : Tryd.prog.cellsOf 9 = 1 := by kernel_rfl
  rw [h10] at hsz
  obtain ⟨fuel, hf⟩ := h
  obtain ⟨xs, n, _, hxe, _, hxl, hF⟩ := DataW.trod_struct Tryd.underlying24 hf
  obtain ⟨l⟩ := cs
  match l, hsz with
  | [c0, c1, c2, c3, c4, c5, c6, c7, c8, c9], _ =>
    have g0 := hF 0 _ rfl
    have g1 := hF 1 _ rfl
    have g2 := hF 2 _ rfl
    have g3 := hF 3 _ rfl
    have g4 := hF 4 _ rfl
    have g5 := hF 5 _ rfl
    have g6 := hF 6 _ rfl
    have g7 := hF 7 _ rfl
    have g8 := hF 8 _ rfl
    have g9 := hF 9 _ rfl
    match xs, hxl with
    | [x0, x1, x2, x3, x4, x5, x6, x7, x8, x9], _ =>
      simp [Value.cells, hs1, hi1, ht1] at g0 g1 g2 g3 g4 g5 g6 g7 g8 g9
      obtain ⟨z0, e0, _, _⟩ := DataW.trod_int Tryd.underlying3 g0
      obtain ⟨z1, e1, _, _⟩ := DataW.trod_int Tryd.underlying3 g1
      obtain ⟨z2, e2, _, _⟩ := DataW.trod_int Tryd.underlying3 g2
      obtain ⟨z3, e3, _, _⟩ := DataW.trod_string Tryd.underlying9 g3
      obtain ⟨z4, e4, _, _⟩ := DataW.trod_string Tryd.underlying9 g4
      obtain ⟨z5, e5, _, _⟩ := DataW.trod_string Tryd.underlying9 g5
      obtain ⟨z6, e6, _, _⟩ := DataW.trod_string Tryd.underlying9 g6
      obtain ⟨z7, e7, _, _⟩ := DataW.trod_int Tryd.underlying3 g7
      obtain ⟨z8, e8, _, _⟩ := DataW.trod_int Tryd.underlying3 g8
      obtain ⟨p, len, cap, e9, hc⟩ := came_cells g9
      have hlen := came_len g9 (fun n hn => hw n (by
        rw [(Prod.mk.inj hxe).1]
        simp only [DataW.weights, Tryd.underlying24]
        exact DataW.weights_mem_each (j := 9) rfl rfl n hn)) p len cap e9
      simp only [List.cons.injEq, and_true] at e0 e1 e2 e3 e4 e5 e6 e7 e8 e9
      subst e0 e1 e2 e3 e4 e5 e6 e7 e8 e9
      exact ⟨⟨z0, z1, z2, z3, z4, z5, z6, z7, z8, p, len, cap⟩, rfl, hc, hlen⟩
end
end
section
open Go.ChangeShapes Go.WideShapes Go.ChangeAt Go.RowKit
set_option maxRecDepth 100000

theorem bulk_lits {H : Type} (k : IntKind) (zs : List Int) : Rows.uptoBulkAll (H := H) (lits k zs) = zs.length := by
  induction zs with
  | nil => rfl
  | cons z zs ih =>
    have e : (lits k (z :: zs) : List (DataW H)) = .lit (.int k z) :: lits k zs := rfl
    rw [e, Rows.uptoBulkAll, ih, List.length_cons]
    simp only [Rows.uptoBulk]
    omega
theorem g_primes : Tryd.prog.globalNamed "undercroft/sum.primes" = some 2 := by kernel_rfl
theorem g_primesType : (Tryd.prog.globals[2]?).map (·.type) = some 127 := by kernel_rfl
theorem cells_u32 : Tryd.prog.cellsOf 120 = 1 := by kernel_rfl
theorem cells_tab : Tryd.prog.cellsOf 127 = 64 := by kernel_rfl
theorem primes_of_laid {W : World} (h : laidMetH Tryd.prog [("undercroft/sum.primes", Rows.laid_undercroft_sum_primes)] W) : Primes W := by
  have h2 : laidMet Tryd.prog [("undercroft/sum.primes", Lib.tabData .u32 PR)] W := h
  have hT : Lib.TabIs Tryd.prog W "undercroft/sum.primes" .u32 PR := Lib.tabIs_of_head g_primes g_primesType Tryd.underlying127 Tryd.underlying120 cells_u32 cells_tab h2
  exact fun t ht => hT.cell g_primes t ht
/-- The settled world, the variable holding what its initialiser lays. -/
noncomputable def laidW (os : Os) : World :=
  { World.holding Tryd.prog os ⟨#[], #[], []⟩ with heap := (World.holding Tryd.prog os ⟨#[], #[], []⟩).heap.modify 2 fun
      | .cells _ t frozen => .cells (PR.map fun z => Value.int .u32 z).toArray t frozen
      | o => o }
theorem laid_met (os : Os) (args : Array Value) : laidMet Tryd.prog [("undercroft/sum.primes", Rows.laid_undercroft_sum_primes)] ((laidW os).forCall (fun _ _ => 0) ⟨#[], args, []⟩).memory :=
  laidMet_of_run' 8 (by kernel_rfl) (by kernel_rfl)
end
section
open Go.ChangeShapes Go.WideShapes Go.ChangeAt Go.RowKit
set_option maxRecDepth 100000

def FI : List Int := [1779033703, 3144134277, 1013904242, 2773480762, 1359893119, 2600822924, 528734635, 1541459225]
theorem g_first : Tryd.prog.globalNamed "undercroft/undercroftref02.first" = some 0 := by kernel_rfl
theorem g_firstType : (Tryd.prog.globals[0]?).map (·.type) = some 121 := by kernel_rfl
theorem g_rounds : Tryd.prog.globalNamed "undercroft/undercroftref02.rounds" = some 1 := by kernel_rfl
theorem g_roundsType : (Tryd.prog.globals[1]?).map (·.type) = some 127 := by kernel_rfl
theorem cells_tab8 : Tryd.prog.cellsOf 121 = 8 := by kernel_rfl
theorem keep_one {W : World} {l : List (String × DataW Unit)} (name : String) {d : DataW Unit} (h : laidMet Tryd.prog l W) (hl : l.filter (fun x => x.1 == name) = [(name, d)]) : laidMet Tryd.prog [(name, d)] W := by
  have h2 := h.filter (fun x => x.1 == name)
  rwa [hl] at h2
theorem vars_of_laid {W : World} (h : laidMetH Tryd.prog [("undercroft/sum.primes", Rows.laid_undercroft_sum_primes), ("undercroft/undercroftref02.first", Rows.laid_undercroft_undercroftref02_first), ("undercroft/undercroftref02.rounds", Rows.laid_undercroft_undercroftref02_rounds)] W) : Primes W ∧ Vars W := by
  have h2 : laidMet Tryd.prog [("undercroft/sum.primes", Lib.tabData .u32 PR), ("undercroft/undercroftref02.first", Lib.tabData .u32 FI), ("undercroft/undercroftref02.rounds", Lib.tabData .u32 PR)] W := h
  have hT : Lib.TabIs Tryd.prog W "undercroft/sum.primes" .u32 PR := Lib.tabIs_of_head g_primes g_primesType Tryd.underlying127 Tryd.underlying120 cells_u32 cells_tab h2
  have hF : Lib.TabIs Tryd.prog W "undercroft/undercroftref02.first" .u32 FI := Lib.tabIs_of_head (rest := []) g_first g_firstType Tryd.underlying121 Tryd.underlying120 cells_u32 cells_tab8 (keep_one _ h2 rfl)
  have hR : Lib.TabIs Tryd.prog W "undercroft/undercroftref02.rounds" .u32 PR := Lib.tabIs_of_head (rest := []) g_rounds g_roundsType Tryd.underlying127 Tryd.underlying120 cells_u32 cells_tab (keep_one _ h2 rfl)
  refine ⟨fun t ht => hT.cell g_primes t ht, ⟨fun t ht => hR.cell g_rounds t ht, fun t ht => ?_⟩⟩
  rw [hF.cell g_first t ht]
  have h8 : t = 0 ∨ t = 1 ∨ t = 2 ∨ t = 3 ∨ t = 4 ∨ t = 5 ∨ t = 6 ∨ t = 7 := by omega
  rcases h8 with rfl | rfl | rfl | rfl | rfl | rfl | rfl | rfl <;> rfl
/-- The settled world, the variables holding what their initialisers lay. -/
noncomputable def laidW3 (os : Os) : World :=
  { laidW os with heap := ((laidW os).heap.modify 0 fun
      | .cells _ t frozen => .cells (FI.map fun z => Value.int .u32 z).toArray t frozen
      | o => o).modify 1 fun
      | .cells _ t frozen => .cells (PR.map fun z => Value.int .u32 z).toArray t frozen
      | o => o }
theorem laid_met3 (os : Os) (args : Array Value) : laidMet Tryd.prog [("undercroft/sum.primes", Rows.laid_undercroft_sum_primes), ("undercroft/undercroftref02.first", Rows.laid_undercroft_undercroftref02_first), ("undercroft/undercroftref02.rounds", Rows.laid_undercroft_undercroftref02_rounds)] ((laidW3 os).forCall (fun _ _ => 0) ⟨#[], args, []⟩).memory :=
  laidMet_of_run' 8 (by kernel_rfl) (by kernel_rfl)
end
end Go.Proofs.YtignoocdeghiaaaDoor
