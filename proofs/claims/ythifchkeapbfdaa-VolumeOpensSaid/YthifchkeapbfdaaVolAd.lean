/- VolumeDoes: the walk. -/
import Derived.Test.YthifchkeapbfdaaVolAb
import Derived.Test.YthifchkeapbfdaaVolAc
namespace Go.Proofs.Ythifchkeapbfdaa
open Go.RowKit
set_option maxRecDepth 100000

theorem does_any (W0 : World) (pb rb rg vb vg : Nat) (bs : List Int) (o : OpD) (hok : OpOk W0 o) (hbl : o.bl ≤ 140737488351232) (w : World) (hi : PairI W0 pb rb rg vb vg bs bs w) :
    Calls Try.prog 18 #[.pointer (some ⟨pb, 0, none⟩), .agg #[.int .i64 o.kind, .int .i64 o.at_, .int .i64 o.many, .slice o.p o.bl o.bc]] w (PostP W0 pb rb rg) := by
  have hb := pickV_bd (c := o.kind) (n := 5) (by decide)
  by_cases h0 : pickV o.kind 5 = 0
  · exact does_write W0 pb rb rg vb vg bs o hok hbl h0 w hi
  by_cases h1 : pickV o.kind 5 = 1
  · exact does_disc W0 pb rb rg vb vg bs o hok h1 w hi
  by_cases h2 : pickV o.kind 5 = 2
  · exact does_read W0 pb rb rg vb vg bs o hok h2 w hi
  by_cases h3 : pickV o.kind 5 = 3
  · exact does_cells W0 pb rb rg vb vg bs o hok h3 w hi
  exact does_open W0 pb rb rg vb vg bs o hok (by omega) w hi
/-- No operation of a list has more bytes than a row may hold. -/
def BigO (w : World) (p : Option Addr) (len : Nat) : Prop := ∀ g o d i, p = some ⟨g, o, none⟩ → i < len → OpAt w g (o + i * 4) d → d.bl ≤ 140737488351232
set_option maxHeartbeats 1600000 in
theorem plays_any (W0 : World) (pb rb rg vb vg : Nat) (bs : List Int) (q : Option Addr) (m c2 : Nat) (hcl : CameO W0 q m c2) (hbig : BigO W0 q m) (w : World) (hi : PairI W0 pb rb rg vb vg bs bs w) :
    Calls Try.prog 8 #[.pointer (some ⟨pb, 0, none⟩), .slice q m c2] w (PostP W0 pb rb rg) := by
  have HCL := hid hcl
  have HBIG := hid hbig
  have HI := hid hi
  have hm : m ≤ 9223372036854775807 := by have := hcl.1; have := hcl.2.1; omega
  clear hcl hbig hi
  go_enter Try.func8, Try.ntmps8
  go_wp2_with fail
  go_loopw [5] (fun i wr => ∃ (t vb vg : Nat) (bs : List Int), t ≤ m ∧ i = .int .i64 t ∧ Hid (PairI W0 pb rb rg vb vg bs bs wr)) (fun i _ => m - (intOf i).toNat)
  case atStart => exact ⟨0, vb, vg, bs, Nat.zero_le _, rfl, HI⟩
  case round =>
    clear HI
    obtain ⟨t, vb, vg, bs, ht, rfl, hinv⟩ := hrel
    by_cases hlt : t < m
    · obtain ⟨g, o, rfl, d, hat0, hok⟩ : ∃ g o, q = some ⟨g, o, none⟩ ∧ ∃ d, OpAt W0 g (o + t * 4) d ∧ OpOk W0 d := by
        rcases HCL.out.2.2 with h | ⟨g, o, rfl, h⟩
        · omega
        · obtain ⟨d, h1, h2⟩ := h t hlt
          exact ⟨g, o, rfl, d, h1, h2⟩
      have hbl := HBIG.out g o d t rfl hlt hat0
      obtain ⟨k0, k1, k2, k3⟩ := hat0.kept hinv.out.f
      have HD := hid (does_any W0 pb rb rg vb vg bs d hok hbl wr hinv.out)
      have t0 : (0 : Int) ≤ (t : Int) := by omega
      have t1 : (t : Int) < (m : Int) := by omega
      clear hat0 hok hbl
      go_wp2_with fail
      refine HD.out.mono ?_
      rintro e w2 ⟨rfl, vb2, vg2, bs2, hi2⟩
      have HI2 := hid hi2
      clear hi2
      go_wp2_with fail
      go_roundw
      case rel => exact ⟨t + 1, vb2, vg2, bs2, by omega, by go_num, HI2⟩
      case measure => simp [intOf]; omega
    · obtain rfl : t = m := by omega
      have HD := hid (does_any W0 pb rb rg vb vg bs ⟨3, 0, 0, none, 0, 0⟩ ⟨by decide, by decide, by decide, [], rfl, Or.inl rfl, by simp, fun _ _ => rfl, by simp, by simp⟩ (by simp) wr hinv.out)
      clear hlt
      go_wp2_with fail
      refine HD.out.mono ?_
      rintro e w2 ⟨rfl, vb2, vg2, bs2, hi2⟩
      have HI2 := hid hi2
      clear hi2
      go_wp2_with fail
      go_returns
      exact ⟨rfl, _, _, _, HI2.out⟩
set_option maxHeartbeats 1600000 in
theorem voldoes_any (size : Int) (q : Option Addr) (m c2 : Nat) (w : World) (hcl : CameO w q m c2) (hbig : BigO w q m) :
    Calls Try.prog 3 #[.int .i64 size, .slice q m c2] w fun e w' => e = .returned (.bool true) ∧ Frm [] w w' := by
  have HCL := hid hcl
  have HBIG := hid hbig
  clear hcl hbig
  by_cases hbad : size < 256 ∨ 16384 < size ∨ size % 256 ≠ 0
  · have HB := hid hbad
    clear hbad
    go_enter Try.func3, Try.ntmps3
    go_wp2_with fail
    refine (awakeV_any _).mono ?_
    rintro e w1 ⟨rfl, hf1⟩
    have HF1 := hid hf1
    clear hf1
    go_wp2_with fail
    refine (volNew_bad size HB.out _).mono ?_
    rintro e w2 ⟨rfl, rfl⟩
    go_wp2_with fail
    refine (refVNew_bad size HB.out _).mono ?_
    rintro e w2 ⟨rfl, rfl⟩
    go_wp2_with fail
    go_returns
    exact ⟨rfl, HF1.out⟩
  · obtain ⟨n, rfl⟩ : ∃ n : Nat, size = n := ⟨size.toNat, by omega⟩
    have hn1 : 256 ≤ n := by omega
    have hn2 : n ≤ 16384 := by omega
    have hn3 : n % 256 = 0 := by omega
    have HN3 := hid hn3
    clear hbad hn3
    go_enter Try.func3, Try.ntmps3
    go_wp2_with fail
    refine (awakeV_any _).mono ?_
    rintro e w1 ⟨rfl, hf1⟩
    have HF1 := hid hf1
    clear hf1
    go_wp2_with fail
    refine (volNew_ok n hn1 hn2 HN3.out _).mono ?_
    rintro e w2 ⟨vb, vg, rfl, hv2, hf2, hvb, hvg⟩
    have HV2 := hid hv2
    have HF2 := hid (HF1.out.trans hf2 (by simp))
    have hsz1 := HF1.out.size
    have hsz2 := hf2.size
    clear hv2 hf2
    go_wp2_with fail
    refine (refVNew_ok n hn1 hn2 HN3.out _).mono ?_
    rintro e w3 ⟨rb, rg, rfl, hr3, hf3, hrb, hrg⟩
    have hvc := HV2.out.cells
    obtain ⟨y1, y2, _, _⟩ := hvc
    have hrc := hr3.cells
    obtain ⟨y3, y4, _, _⟩ := hrc
    have hfa : Frm [] w3 (w3.alloc (.cells #[.pointer (some ⟨vb, 0, none⟩), .pointer (some ⟨rb, 0, none⟩)] 33)) := (Frm.refl _ _).alloc _
    have HI : Hid (PairI w w3.heap.size rb rg vb vg (List.replicate n 0) (List.replicate n 0) (w3.alloc (.cells #[.pointer (some ⟨vb, 0, none⟩), .pointer (some ⟨rb, 0, none⟩)] 33))) := hid (by
      have hsz3 := hf3.size
      exact ⟨heap_alloc_new _ _, (HV2.out.kept hf3 (by simp) (by simp)).kept hfa (by simp) (by simp), hr3.kept hfa (by simp) (by simp), rfl, by omega, by omega, by omega, by omega, by omega, by omega, by omega, by omega, by omega, by omega, (HF2.out.trans hf3 (by simp)).trans hfa (by simp)⟩)
    have HP := hid (plays_any w w3.heap.size rb rg vb vg (List.replicate n 0) q m c2 HCL.out HBIG.out _ HI.out)
    clear hr3 hf3 hfa
    go_wp2_with fail
    refine HP.out.mono ?_
    rintro e w5 ⟨rfl, vb2, vg2, bs2, hi5⟩
    have HI5 := hid hi5
    clear hi5
    go_wp2_with fail
    go_returns
    exact ⟨rfl, HI5.out.f⟩
end Go.Proofs.Ythifchkeapbfdaa
