/- RangesMany, walked. -/
import Derived.Test.YtbgochkmplacaaaRgL
import Derived.Deep.DeepCutAuto
namespace Go.Proofs.Ytbgochkmplacaaa
open Go.RowKit Go.Lib
set_option maxRecDepth 100000

/-- A set of the law's own. -/
structure SM (w0 wr : World) (sb : Nat) (p : Option Addr) (c : Nat) (l : List Sp) : Prop where
  rs : RSet wr sb p c l
  nm : Norm 0 l
  ln : l.length ≤ 4096
  mn : Mine w0 wr sb p
theorem SM.k0 {w0 wr w' : World} {sb : Nat} {p : Option Addr} {c : Nat} {l : List Sp} (h : SM w0 wr sb p c l) (hf : Frm [] wr w') : SM w0 w' sb p c l := ⟨h.rs.k0 hf, h.nm, h.ln, h.mn.k0 hf⟩
theorem SM.add {w0 wr w' : World} {sb : Nat} {p p' : Option Addr} {c c' : Nat} {l l' : List Sp} (h : SM w0 wr sb p c l) (h1 : RSet w' sb p' c' l') (h2 : Norm 0 l') (h3 : l'.length ≤ 4096) (h4 : Frm (sb :: blk p) wr w') (h5 : ∀ k ∈ blk p', k ∈ blk p ∨ wr.heap.size ≤ k) : SM w0 w' sb p' c' l' := ⟨h1, h2, h3, h.mn.step h4 h5⟩
set_option maxHeartbeats 12800000 in
theorem rmany_any (f bt : Int) (hf : -9223372036854775808 ≤ f ∧ f ≤ 9223372036854775807) (hb : -9223372036854775808 ≤ bt ∧ bt ≤ 9223372036854775807) (w : World) :
    Calls Try.prog 4 #[.int .i64 f, .int .i64 bt] w fun e w' => e = .returned (.bool true) ∧ Frm [] w w' := by
  obtain ⟨hf1, hf2⟩ := hf
  obtain ⟨hb1, hb2⟩ := hb
  have HNW := hid (fun w => new9_any w)
  go_enter Try.func4, Try.ntmps4
  go_wp2_with fail
  refine (awake9_any _).mono ?_
  rintro e w1 ⟨rfl, hf1'⟩
  have HF1 := hid hf1'
  clear hf1'
  go_wp2_with fail
  refine (HNW.out _).mono ?_
  rintro e w2 ⟨sb, rfl, h1, hf2', hl1⟩
  have HS := hid (show SM w w2 sb none 0 [] from ⟨h1, trivial, by simp, HF1.out.trans hf2' (by simp), by have := HF1.out.size; omega, by simp [blk]⟩)
  clear h1 hf2' hl1 HNW HF1
  by_cases c1 : f < 0
  · go_wp2_with fail
    first | go_returns | skip
    exact ⟨rfl, HS.out.mn.1⟩
  by_cases c2 : 1000 < f
  · go_wp2_with fail
    first | go_returns | skip
    exact ⟨rfl, HS.out.mn.1⟩
  have f0 : 0 ≤ f := by omega
  have f1 : f ≤ 1000 := by omega
  go_wp2_with fail
  go_loopw [7, 8, 4] (fun i s8 s4 wr => ∃ (n : Nat) (p : Option Addr) (c : Nat) (l : List Sp), n ≤ 4096 ∧ i = .int .i64 (n : Int) ∧ Hid (SM w wr sb p c l ∧ l.length = n ∧ sumM l = n ∧ ∀ m, Mem9 l m ↔ f ≤ m ∧ m < f + 2 * n ∧ (m - f) % 2 = 0)) (fun i _ _ _ => 4096 - (intOf i).toNat)
  case atStart => exact ⟨0, none, 0, [], Nat.zero_le _, rfl, hid ⟨HS.out, rfl, rfl, fun m => ⟨fun h => (mem9_nil h).elim, fun h => by omega⟩⟩⟩
  case round =>
    clear HS
    obtain ⟨n, p, c, l, hn, rfl, hin⟩ := hrel
    by_cases hlt : n < 4096
    · have HAD := hid (add_any sb p c l ⟨f + 2 * n, 1⟩ wr hin.out.1.rs hin.out.1.nm hin.out.1.ln (by unfold Sp.In; simp only; omega))
      go_wp2_with fail
      refine HAD.out.mono ?_
      rintro e w3 ⟨E, l', p', c', rfl, ha, h1, h2, h3, h4, h5⟩
      have ht := ha.tell hin.out.1.nm (by unfold May9; simp only; omega) (fun m q1 q2 h => by rw [hin.out.2.2.2] at h; simp only at q1; omega) 0 0 (Or.inr ⟨rfl, fun h => by rw [hin.out.2.2.2] at h; simp only at h; omega⟩) (Or.inr ⟨rfl, fun h => by rw [hin.out.2.2.2] at h; simp only [Sp.e] at h; omega⟩)
      have hln := hin.out.2.1
      rcases ht with ⟨_, rfl, hm, hl, hsum⟩ | ⟨q1, _, _⟩
      · have HN : Hid (SM w w3 sb p' c' l' ∧ l'.length = n + 1 ∧ sumM l' = ((n + 1 : Nat) : Int) ∧ ∀ m, Mem9 l' m ↔ f ≤ m ∧ m < f + 2 * ((n + 1 : Nat) : Int) ∧ (m - f) % 2 = 0) := hid ⟨hin.out.1.add h1 h2 h3 h4 h5, by omega, by rw [hsum, hin.out.2.2.1]; simp only; omega, fun m => by rw [hm, hin.out.2.2.2]; simp only [Sp.e]; omega⟩
        clear hm hl hsum ha h1 h2 h3 h4 h5 hln HAD
        go_wp2_with fail
        go_roundw
        case rel => exact ⟨n + 1, p', c', l', by omega, by go_num, HN⟩
        case measure => simp [intOf]; omega
      · omega
    · have hne : n = 4096 := by omega
      have HIN : Hid (SM w wr sb p c l ∧ l.length = 4096 ∧ sumM l = 4096 ∧ ∀ m, Mem9 l m ↔ f ≤ m ∧ m < f + 8192 ∧ (m - f) % 2 = 0) := hid (by
        have h := hin.out
        rw [hne] at h
        exact ⟨h.1, h.2.1, h.2.2.1, fun m => by rw [h.2.2.2]; omega⟩)
      subst hne
      clear hin
      have HA1 := hid (add_any sb p c l ⟨f + 8192, 1⟩ wr HIN.out.1.rs HIN.out.1.nm HIN.out.1.ln (by unfold Sp.In; simp only; omega))
      go_wp2_with fail
      refine HA1.out.mono ?_
      rintro e w3 ⟨E, l', p', c', rfl, ha, h1, h2, h3, h4, h5⟩
      have ht := ha.tell HIN.out.1.nm (by unfold May9; simp only; omega) (fun m q1 q2 h => by rw [HIN.out.2.2.2] at h; simp only at q1; omega) 0 0 (Or.inr ⟨rfl, fun h => by rw [HIN.out.2.2.2] at h; simp only at h; omega⟩) (Or.inr ⟨rfl, fun h => by rw [HIN.out.2.2.2] at h; simp only [Sp.e] at h; omega⟩)
      obtain ⟨rfl, rfl⟩ : E = 2 ∧ l' = l := by
        have hln := HIN.out.2.1
        rcases ht with ⟨q1, _⟩ | ⟨_, q2, q3⟩
        · omega
        · exact ⟨q2, q3⟩
      have HS1 := hid (HIN.out.1.add h1 h2 h3 h4 h5)
      have HM1 := hid HIN.out.2
      clear ht ha h1 h2 h3 h4 h5 HA1 HIN
      have HA2 := hid (add_any sb p' c' l' ⟨f + 8190 + 1, 1⟩ w3 HS1.out.rs HS1.out.nm HS1.out.ln (by unfold Sp.In; simp only; omega))
      go_wp2_with fail
      refine HA2.out.mono ?_
      rintro e w4 ⟨E, l2, p2, c2, rfl, ha, h1, h2, h3, h4, h5⟩
      have ht := ha.tell HS1.out.nm (by unfold May9; simp only; omega) (fun m q1 q2 h => by rw [HM1.out.2.2] at h; simp only [Sp.e] at q1 q2; omega) 1 0 (Or.inl ⟨rfl, by rw [HM1.out.2.2]; simp only; omega⟩) (Or.inr ⟨rfl, fun h => by rw [HM1.out.2.2] at h; simp only [Sp.e] at h; omega⟩)
      have hln := HM1.out.1
      obtain ⟨hEE, hm2, hl2, hs2⟩ : E = 0 ∧ (∀ m, Mem9 l2 m ↔ (f ≤ m ∧ m < f + 8192 ∧ (m - f) % 2 = 0) ∨ m = f + 8191) ∧ l2.length = 4096 ∧ sumM l2 = 4097 := by
        rcases ht with ⟨_, q2, q3, q4, q5⟩ | ⟨q1, _⟩
        · exact ⟨q2, fun m => by rw [q3, HM1.out.2.2]; simp only [Sp.e]; omega, by omega, by rw [q5, HM1.out.2.1]; simp only; omega⟩
        · omega
      subst hEE
      have HS2 := hid (HS1.out.add h1 h2 h3 h4 h5)
      have HM2 : Hid (l2.length = 4096 ∧ sumM l2 = 4097 ∧ ∀ m, Mem9 l2 m ↔ (f ≤ m ∧ m < f + 8192 ∧ (m - f) % 2 = 0) ∨ m = f + 8191) := hid ⟨hl2, hs2, hm2⟩
      clear ht ha h1 h2 h3 h4 h5 HA2 HM1 HS1 hm2 hl2 hs2 hln
      have hr1 : bt.tmod 4095 < 4095 := Int.tmod_lt_of_pos _ (by omega)
      have hr2 : -4095 < bt.tmod 4095 := Int.lt_tmod_of_pos _ (by omega)
      go_upto_region 14 with fail
      obtain ⟨r, hr⟩ : ∃ r, bt.tmod 4095 = r := ⟨_, rfl⟩
      rw [hr] at hr1 hr2 ⊢
      clear hr
      go_upto_if 60 with fail
      go_cut [11] (fun s wx => ∃ k : Nat, k < 4095 ∧ s = .int .i64 (k : Int) ∧ wx = w4)
      case first =>
        by_cases h0 : r < 0
        · go_wp2_with fail
          go_meet
          case rel => exact ⟨(r + 4095).toNat, by omega, by rw [Int.toNat_of_nonneg (by omega)], rfl⟩
        · go_wp2_with fail
          go_meet
          case rel => exact ⟨r.toNat, by omega, by rw [Int.toNat_of_nonneg (by omega)], rfl⟩
      obtain ⟨k, hk, rfl, rfl⟩ := hcut
      have HA3 := hid (add_any sb p2 c2 l2 ⟨f + 2 * k + 1, 1⟩ wc HS2.out.rs HS2.out.nm HS2.out.ln (by unfold Sp.In; simp only; omega))
      clear hr1 hr2
      go_wp2_with fail
      refine HA3.out.mono ?_
      rintro e w5 ⟨E, l3, p3, c3, rfl, ha, h1, h2, h3, h4, h5⟩
      have ht := ha.tell HS2.out.nm (by unfold May9; simp only; omega) (fun m q1 q2 h => by rw [HM2.out.2.2] at h; simp only [Sp.e] at q1 q2; omega) 1 1 (Or.inl ⟨rfl, by rw [HM2.out.2.2]; simp only; omega⟩) (Or.inl ⟨rfl, by rw [HM2.out.2.2]; simp only [Sp.e]; omega⟩)
      have hln := HM2.out.1
      obtain ⟨hEE, hm3, hl3, hs3⟩ : E = 0 ∧ (∀ m, Mem9 l3 m ↔ (f ≤ m ∧ m < f + 8192 ∧ (m - f) % 2 = 0) ∨ m = f + 8191 ∨ m = f + 2 * k + 1) ∧ l3.length = 4095 ∧ sumM l3 = 4098 := by
        rcases ht with ⟨_, q2, q3, q4, q5⟩ | ⟨q1, _⟩
        · exact ⟨q2, fun m => by rw [q3, HM2.out.2.2]; simp only [Sp.e]; omega, by omega, by rw [q5, HM2.out.2.1]; simp only; omega⟩
        · omega
      subst hEE
      have HS3 := hid (HS2.out.add h1 h2 h3 h4 h5)
      have HM3 : Hid (l3.length = 4095 ∧ sumM l3 = 4098 ∧ ∀ m, Mem9 l3 m ↔ (f ≤ m ∧ m < f + 8192 ∧ (m - f) % 2 = 0) ∨ m = f + 8191 ∨ m = f + 2 * k + 1) := hid ⟨hl3, hs3, hm3⟩
      clear ht ha h1 h2 h3 h4 h5 HA3 HM2 HS2 hm3 hl3 hs3 hln
      have HAL := hid (all9_any sb p3 c3 l3 w5 HS3.out.rs (by have := HM3.out.1; omega))
      rw [HM3.out.1] at HAL
      go_wp2_with fail
      refine HAL.out.mono ?_
      rintro e w6 ⟨pa, ca, rfl, _, hfa, _⟩
      have HS4 := hid (HS3.out.k0 hfa)
      clear hfa HAL HS3
      have HA4 := hid (add_any sb p3 c3 l3 ⟨f + 12288, 5⟩ w6 HS4.out.rs HS4.out.nm HS4.out.ln (by unfold Sp.In; simp only; omega))
      go_wp2_with fail
      refine HA4.out.mono ?_
      rintro e w7 ⟨E, l4, p4, c4, rfl, ha, h1, h2, h3, h4, h5⟩
      have ht := ha.tell HS4.out.nm (by unfold May9; simp only; omega) (fun m q1 q2 h => by rw [HM3.out.2.2] at h; simp only [Sp.e] at q1 q2; omega) 0 0 (Or.inr ⟨rfl, fun h => by rw [HM3.out.2.2] at h; simp only at h; omega⟩) (Or.inr ⟨rfl, fun h => by rw [HM3.out.2.2] at h; simp only [Sp.e] at h; omega⟩)
      have hln := HM3.out.1
      obtain ⟨hEE, hm4, hl4, hs4⟩ : E = 0 ∧ (∀ m, Mem9 l4 m ↔ (f ≤ m ∧ m < f + 8192 ∧ (m - f) % 2 = 0) ∨ m = f + 8191 ∨ m = f + 2 * k + 1 ∨ (f + 12288 ≤ m ∧ m < f + 12293)) ∧ l4.length = 4096 ∧ sumM l4 = 4103 := by
        rcases ht with ⟨_, q2, q3, q4, q5⟩ | ⟨q1, _⟩
        · exact ⟨q2, fun m => by rw [q3, HM3.out.2.2]; simp only [Sp.e]; omega, by omega, by rw [q5, HM3.out.2.1]; simp only; omega⟩
        · omega
      subst hEE
      have HS5 := hid (HS4.out.add h1 h2 h3 h4 h5)
      have HM4 : Hid (l4.length = 4096 ∧ sumM l4 = 4103 ∧ ∀ m, Mem9 l4 m ↔ (f ≤ m ∧ m < f + 8192 ∧ (m - f) % 2 = 0) ∨ m = f + 8191 ∨ m = f + 2 * k + 1 ∨ (f + 12288 ≤ m ∧ m < f + 12293)) := hid ⟨hl4, hs4, hm4⟩
      clear ht ha h1 h2 h3 h4 h5 HA4 HM3 HS4 hm4 hl4 hs4 hln
      have HR := hid (rem_any sb p4 c4 l4 ⟨f + 12288 + 2, 1⟩ w7 HS5.out.rs HS5.out.nm HS5.out.ln (by unfold Sp.In; simp only; omega))
      go_wp2_with fail
      refine HR.out.mono ?_
      rintro e w8 ⟨E, l5, p5, c5, rfl, ha, h1, h2, h3, h4, h5⟩
      obtain ⟨hEE, hll⟩ := ha.long HS5.out.nm ⟨by unfold May9; simp only; omega, fun m q1 q2 => by rw [HM4.out.2.2]; simp only [Sp.e] at q1 q2; omega⟩ (by rw [HM4.out.2.2]; simp only; omega) (by rw [HM4.out.2.2]; simp only [Sp.e]; omega) HM4.out.1
      subst hEE hll
      have HS6 := hid (HS5.out.add h1 h2 h3 h4 h5)
      clear ha h1 h2 h3 h4 h5 HR HS5
      have HMA := hid (many9_any sb p5 c5 l5 w8 HS6.out.rs HS6.out.nm HS6.out.ln)
      rw [HM4.out.2.1] at HMA
      go_wp2_with fail
      refine HMA.out.mono ?_
      rintro e w9 ⟨rfl, hf9⟩
      have HFIN := hid (HS6.out.k0 hf9).mn.1
      clear hf9 HMA HS6
      go_wp2_with fail
      first | go_returns | skip
      exact ⟨rfl, HFIN.out⟩
end Go.Proofs.Ytbgochkmplacaaa
