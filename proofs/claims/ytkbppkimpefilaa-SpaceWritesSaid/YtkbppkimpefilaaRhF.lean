/- The document's sets: Many, Find, Clone. -/
import Derived.Test.YtkbppkimpefilaaRhE
import Derived.Test.YtkbppkimpefilaaRgJ
import Derived.Test.YtkbppkimpefilaaRgK
namespace Go.Proofs.Ytkbppkimpefilaa
open Go.RowKit Go.Lib
set_option maxRecDepth 100000

set_option maxHeartbeats 3200000 in
theorem rsum_any (rb : Nat) (p : Option Addr) (c : Nat) (l : List Sp) (w : World) (h : RRef w rb p c l) (hN : Norm 0 l) (hl : l.length ≤ 4096) :
    Calls Try.prog 80 #[.pointer (some ⟨rb, 0, none⟩)] w fun e w' => e = .returned (.int .i64 (sumM l)) ∧ Frm [] w w' := by
  have HR := hid h
  have HN := hid hN
  obtain ⟨L, hL⟩ : ∃ q, l.length = q := ⟨_, rfl⟩
  rw [hL] at hl
  have HL := hid hL
  clear h hN hL
  go_enter Try.func80, Try.ntmps80
  go_wp2_with fail
  go_loopw [4, 3] (fun i s3 wr => ∃ t : Nat, ∃ z : Int, t ≤ L ∧ i = .int .i64 (t : Int) ∧ s3 = .int .i64 z ∧ Hid (z = sumM (l.take t)) ∧ Hid (Frm [] w wr)) (fun i _ _ => L - (intOf i).toNat)
  case atStart => exact ⟨0, 0, Nat.zero_le _, rfl, rfl, hid (by simp [sumM]), hid (Frm.refl _ _)⟩
  case round =>
    obtain ⟨t, z, ht, rfl, rfl, hz, hin⟩ := hrel
    have x0 := (HR.out.k0 hin.out).cell
    rw [HL.out] at x0
    by_cases hlt : t < L
    · have t1 : (t : Int) < (L : Int) := by omega
      obtain ⟨y, hy⟩ : ∃ y, l[t]? = some y := ⟨_, List.getElem?_eq_getElem (by have := HL.out; omega)⟩
      obtain ⟨g, hg, y0, y1⟩ := (HR.out.k0 hin.out).own.at hy
      subst hg
      have hb := sumM_bound HN.out t
      rw [← hz.out] at hb
      obtain ⟨hb1, hb2⟩ := hb
      have hye := HN.out.at hy
      have hym : 1 ≤ y.m ∧ y.m ≤ 1099511627776 := by unfold Sp.e at hye; omega
      obtain ⟨hm1, hm2⟩ := hym
      have HZ : Hid (z + y.m = sumM (l.take (t + 1))) := hid (by rw [sumM_take hy, hz.out])
      clear hye hy
      go_wp2_with fail
      go_roundw
      case rel => exact ⟨t + 1, z + y.m, by omega, by go_num, by first | rfl | (congr 1; go_num), HZ, hin⟩
      case measure => simp [intOf]; omega
    · obtain rfl : L = t := by omega
      have HFIN : Hid (z = sumM l) := hid (by rw [hz.out, List.take_of_length_le (by rw [HL.out]; exact Nat.le_refl _)])
      go_wp2_with fail
      go_returns
      exact ⟨by rw [HFIN.out]; rfl, hin.out⟩
set_option maxHeartbeats 6400000 in
theorem rfind_any (rb : Nat) (p : Option Addr) (c : Nat) (l : List Sp) (many from_ : Int) (w : World) (h : RRef w rb p c l) (hN : Norm 0 l) (hl : l.length ≤ 4096) (hm : -9223372036854775808 ≤ many ∧ many ≤ 9223372036854775807) (hf : -9223372036854775808 ≤ from_ ∧ from_ ≤ 9223372036854775807) :
    Calls Try.prog 77 #[.pointer (some ⟨rb, 0, none⟩), .int .i64 many, .int .i64 from_] w fun e w' => e = .returned (.tuple #[.int .i64 (findR l many from_).1, .bool (findR l many from_).2]) ∧ Frm [] w w' := by
  obtain ⟨PO, hPO⟩ : ∃ PO : Ending → World → Prop, (fun e w' => e = .returned (.tuple #[.int .i64 (findR l many from_).1, .bool (findR l many from_).2]) ∧ Frm [] w w') = PO := ⟨_, rfl⟩
  rw [hPO]
  have HP : Hid (∀ a b w', findR l many from_ = (a, b) → Frm [] w w' → PO (.returned (.tuple #[.int .i64 a, .bool b])) w') := hid (fun a b w' h1 h2 => by rw [← hPO]; refine ⟨?_, h2⟩; rw [h1])
  clear hPO
  obtain ⟨hm1, hm2⟩ := hm
  obtain ⟨hf1, hf2⟩ := hf
  have HR := hid h
  have HN := hid hN
  obtain ⟨L, hL⟩ : ∃ q, l.length = q := ⟨_, rfl⟩
  rw [hL] at hl
  have HL := hid hL
  clear h hN hL
  go_enter Try.func77, Try.ntmps77
  by_cases b1 : many < 1
  · have HFR : Hid (findR l many from_ = (0, false)) := hid (by unfold findR; rw [if_pos (Or.inl b1)])
    go_wp2_with fail
    first | go_returns | skip
    exact HP.out _ _ _ HFR.out (Frm.refl _ _)
  by_cases b2 : from_ < 0
  · have HFR : Hid (findR l many from_ = (0, false)) := hid (by unfold findR; rw [if_pos (Or.inr b2)])
    go_wp2_with fail
    first | go_returns | skip
    exact HP.out _ _ _ HFR.out (Frm.refl _ _)
  have HNB : Hid (1 ≤ many ∧ 0 ≤ from_) := hid ⟨by omega, by omega⟩
  go_wp2_with fail
  go_loopw [8, 9, 6, 7] (fun i s9 s6 s7 wr => ∃ t : Nat, t ≤ L ∧ i = .int .i64 (t : Int) ∧ s6 = .int .i64 0 ∧ s7 = .bool false ∧ Hid ((∀ j y, j < t → l[j]? = some y → ¬ (mx9 y.a from_ ≤ y.e ∧ many ≤ y.e - mx9 y.a from_)) ∧ Frm [] w wr)) (fun i _ _ _ _ => L - (intOf i).toNat)
  case atStart => exact ⟨0, Nat.zero_le _, rfl, rfl, rfl, hid ⟨fun j y h => by omega, Frm.refl _ _⟩⟩
  case round =>
    obtain ⟨t, ht, rfl, rfl, rfl, hin⟩ := hrel
    have x0 := (HR.out.k0 hin.out.2).cell
    rw [HL.out] at x0
    by_cases hlt : t < L
    · have t1 : (t : Int) < (L : Int) := by omega
      obtain ⟨y, hy⟩ : ∃ y, l[t]? = some y := ⟨_, List.getElem?_eq_getElem (by have := HL.out; omega)⟩
      obtain ⟨g, hg, y0, y1⟩ := (HR.out.k0 hin.out.2).own.at hy
      subst hg
      have HY := hid hy
      have hya := HN.out.at hy
      have hye : y.e = y.a + y.m := rfl
      have HYE := hid hye
      have hyb : 0 ≤ y.a ∧ 1 ≤ y.m ∧ y.a + y.m ≤ 1099511627776 := by omega
      obtain ⟨yb1, yb2, yb3⟩ := hyb
      have HNEXT : Hid (¬ (mx9 y.a from_ ≤ y.e ∧ many ≤ y.e - mx9 y.a from_) → ∀ j y, j < t + 1 → l[j]? = some y → ¬ (mx9 y.a from_ ≤ y.e ∧ many ≤ y.e - mx9 y.a from_)) := hid (fun hn j z hj hz => by
        rcases Nat.lt_succ_iff_lt_or_eq.1 hj with h | rfl
        · exact hin.out.1 j z h hz
        · rw [HY.out] at hz; cases hz; exact hn)
      have HWR : Hid (IntKind.i64.wrap (y.a + y.m) = y.a + y.m) := hid (by rw [IntKind.wrap_i64]; omega)
      clear hy hya hye
      by_cases hmx : y.a < from_
      · have hgt : from_ > y.a := hmx
        have HMX : Hid (mx9 y.a from_ = from_) := hid (by unfold mx9; rw [if_pos hmx])
        by_cases hle : from_ ≤ y.a + y.m
        · have d3 : decide (from_ ≤ IntKind.i64.wrap (y.a + y.m)) = true := by rw [HWR.out]; exact decide_eq_true hle
          have d3' : decide (from_ ≤ y.a + y.m) = true := decide_eq_true hle
          have hsub : IntKind.i64.wrap (IntKind.i64.wrap (y.a + y.m) - from_) = y.a + y.m - from_ := by rw [HWR.out, IntKind.wrap_i64]; omega
          by_cases hfit : many ≤ y.a + y.m - from_
          · have HFR : Hid (findR l many from_ = (from_, true)) := hid (findR_hit HNB.out hin.out.1 HY.out HMX.out ⟨by rw [HYE.out]; exact hle, by rw [HYE.out]; exact hfit⟩)
            have d4 : decide (many ≤ IntKind.i64.wrap (IntKind.i64.wrap (y.a + y.m) - from_)) = true := by rw [hsub]; exact decide_eq_true hfit
            have d4' : decide (many ≤ y.a + y.m - from_) = true := decide_eq_true hfit
            clear hsub
            go_upto_region 9 with fail
            go_quiet (fail)
            go_wp2_with fail
            first | go_returns | skip
            exact HP.out _ _ _ HFR.out (hin.out.2.drewN _)
          · have HNX := hid (HNEXT.out (fun h => hfit (by have := h.2; rw [HMX.out, HYE.out] at this; exact this)))
            have d4 : decide (many ≤ IntKind.i64.wrap (IntKind.i64.wrap (y.a + y.m) - from_)) = false := by rw [hsub]; exact decide_eq_false hfit
            have d4' : decide (many ≤ y.a + y.m - from_) = false := decide_eq_false hfit
            clear hsub
            go_upto_region 9 with fail
            go_quiet (fail)
            go_wp2_with fail
            go_roundw
            case rel => exact ⟨t + 1, by omega, by go_num, rfl, rfl, hid ⟨HNX.out, hin.out.2.drewN _⟩⟩
            case measure => simp [intOf]; omega
        · have HNX := hid (HNEXT.out (fun h => hle (by have := h.1; rw [HMX.out, HYE.out] at this; exact this)))
          have d3 : decide (from_ ≤ IntKind.i64.wrap (y.a + y.m)) = false := by rw [HWR.out]; exact decide_eq_false hle
          have d3' : decide (from_ ≤ y.a + y.m) = false := decide_eq_false hle
          go_upto_region 9 with fail
          go_quiet (fail)
          go_wp2_with fail
          go_roundw
          case rel => exact ⟨t + 1, by omega, by go_num, rfl, rfl, hid ⟨HNX.out, hin.out.2.drewN _⟩⟩
          case measure => simp [intOf]; omega
      · have HMX : Hid (mx9 y.a from_ = y.a) := hid (by unfold mx9; rw [if_neg hmx])
        have hgt : ¬ from_ > y.a := hmx
        by_cases hle : y.a ≤ y.a + y.m
        · have d3 : decide (y.a ≤ IntKind.i64.wrap (y.a + y.m)) = true := by rw [HWR.out]; exact decide_eq_true hle
          have d3' : decide (y.a ≤ y.a + y.m) = true := decide_eq_true hle
          have hsub : IntKind.i64.wrap (IntKind.i64.wrap (y.a + y.m) - y.a) = y.a + y.m - y.a := by rw [HWR.out, IntKind.wrap_i64]; omega
          by_cases hfit : many ≤ y.a + y.m - y.a
          · have HFR : Hid (findR l many from_ = (y.a, true)) := hid (findR_hit HNB.out hin.out.1 HY.out HMX.out ⟨by rw [HYE.out]; exact hle, by rw [HYE.out]; exact hfit⟩)
            have d4 : decide (many ≤ IntKind.i64.wrap (IntKind.i64.wrap (y.a + y.m) - y.a)) = true := by rw [hsub]; exact decide_eq_true hfit
            have d4' : decide (many ≤ y.a + y.m - y.a) = true := decide_eq_true hfit
            clear hsub
            go_upto_region 9 with fail
            go_quiet (fail)
            go_wp2_with fail
            first | go_returns | skip
            exact HP.out _ _ _ HFR.out (hin.out.2.drewN _)
          · have HNX := hid (HNEXT.out (fun h => hfit (by have := h.2; rw [HMX.out, HYE.out] at this; exact this)))
            have d4 : decide (many ≤ IntKind.i64.wrap (IntKind.i64.wrap (y.a + y.m) - y.a)) = false := by rw [hsub]; exact decide_eq_false hfit
            have d4' : decide (many ≤ y.a + y.m - y.a) = false := decide_eq_false hfit
            clear hsub
            go_upto_region 9 with fail
            go_quiet (fail)
            go_wp2_with fail
            go_roundw
            case rel => exact ⟨t + 1, by omega, by go_num, rfl, rfl, hid ⟨HNX.out, hin.out.2.drewN _⟩⟩
            case measure => simp [intOf]; omega
        · omega
    · obtain rfl : L = t := by omega
      have HFR : Hid (findR l many from_ = (0, false)) := hid (findR_none HNB.out (fun j y hj hy => hin.out.1 j y (by have := HL.out; omega) hy))
      go_wp2_with fail
      first | go_returns | skip
      exact HP.out _ _ _ HFR.out hin.out.2
end Go.Proofs.Ytkbppkimpefilaa
