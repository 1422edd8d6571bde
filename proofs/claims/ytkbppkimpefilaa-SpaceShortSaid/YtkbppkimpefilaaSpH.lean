/- SpaceShort, walked. -/
import Derived.Test.YtkbppkimpefilaaRowT
import Derived.Deep.CutBlock
namespace Go.Proofs.Ytkbppkimpefilaa
open Go.RowKit Go.Lib
set_option maxRecDepth 100000

theorem RepC.toE {m r : List Sp} {E : Int} (h : RepC (toE m) E r) (hn : Norm 0 m) (hl : m.length ≤ 4096) : E = 0 ∧ r = m := by
  have hc := chkE_toE (B := []) hn (fun y hy => by simp at hy) (by simpa using hl)
  rw [List.append_nil] at hc
  rcases h with ⟨a, _⟩ | ⟨_, h⟩
  · exact absurd hc a
  · have h2 : RepR (Go.Proofs.Ytkbppkimpefilaa.toE m ++ []) [] E r := by rw [List.append_nil]; exact h
    obtain ⟨h3, h4⟩ := RepR.lay (A := []) h2 hn (by simpa using hl)
    exact ⟨h3, h4⟩
theorem RepC.len {es : List Sq} {r : List Sp} {E : Int} (h : RepC es E r) : r.length ≤ es.length := by
  rcases h with ⟨_, _, rfl⟩ | ⟨_, h⟩
  · simp
  · have := h.len; simpa using this
set_option maxHeartbeats 25600000 in
theorem spaceshort_any (p : Option Addr) (n c : Nat) (es : List Sq) (q : Option Addr) (m d : Nat) (w : World) (h : CameE w p n c es) (h' : Came w q m d) (hm : m ≤ 140737488351232) :
    Calls Try.prog 5 #[.slice p n c, .slice q m d] w fun e w' => e = .returned (.bool true) ∧ Frm [] w w' := by
  obtain ⟨h1, h2, h3, h4, h5, h6⟩ := h
  obtain ⟨bs, b1, b2, b3, b4, b5, b6⟩ := h'
  subst b1
  have HR := hid (fun W (hf : Frm [] w W) => h1.kept hf (by simp))
  have HN := hid h2
  have HIN := hid h3
  have HRD := hid (fun W (hf : Frm [] w W) => b2.kept hf (by simp))
  have HB := hid b3
  have HAW := hid (awake10_any w)
  have HBL : Hid (bs.length ≤ 140737488351232) := hid hm
  clear h1 h2 h3 h6 b2 b3 b4
  obtain ⟨m, hmm⟩ : ∃ q, bs.length = q := ⟨_, rfl⟩
  rw [hmm]
  have HM := hid hmm
  rw [hmm] at hm b5
  clear hmm
  go_enter Try.func5, Try.ntmps5
  go_wp2_with fail
  refine HAW.out.mono ?_
  rintro e w1 ⟨rfl, hf1⟩
  have HF1 := hid hf1
  clear hf1 HAW
  go_wp2_with fail
  refine (repE_any p n c es w1 (HR.out _ HF1.out) HN.out HIN.out (by omega)).mono ?_
  rintro e w2 ⟨E, r, hc, hf2, hh⟩
  obtain ⟨sv, rfl, hsv⟩ : ∃ sv, e = .returned (.tuple #[sv, .int .i64 E]) ∧ (E = 0 → ∃ sb ps cs, sv = .pointer (some ⟨sb, 0, none⟩) ∧ RSet w2 sb ps cs r ∧ Norm 0 r ∧ r.length ≤ 4096) := by
    rcases hh with ⟨hE, rfl⟩ | ⟨rfl, sb, ps, cs, rfl, q1, q2, q3, q4⟩
    · exact ⟨_, rfl, fun h => absurd h hE⟩
    · exact ⟨_, rfl, fun _ => ⟨sb, ps, cs, rfl, q1, q2, q3⟩⟩
  have HSV := hid hsv
  have HF2 := hid (HF1.out.trans hf2 (by simp))
  have HC := hid hc
  have HCO := hid (conE_any p n c es w2 (HR.out _ HF2.out) HN.out HIN.out (by omega))
  have HLN : Hid (r.length ≤ n) := hid (by have := hc.len; rw [HN.out] at this; exact this)
  clear hc hf2 HF1 hh hsv
  go_wp2_with fail
  refine HCO.out.mono ?_
  rintro e w3 ⟨E', r3, hc, hf3, z1, z2, pc, cc, rfl, z3, z4⟩
  obtain ⟨e1, e2⟩ := HC.out.det hc
  subst e1 e2
  have HF3 := hid (HF2.out.trans hf3 (by simp))
  have HF23 := hid hf3
  have HO3 := hid z3
  have HZ1 := hid z1
  have HLN2 := HLN.out
  obtain ⟨L, hL⟩ : ∃ q, r3.length = q := ⟨_, rfl⟩
  rw [hL] at HO3 z2 HLN2 ⊢
  have HL := hid hL
  clear hc hf3 z1 z3 z4 HCO HLN hL
  go_upto_if 40 with fail
  go_cut [15] (fun _ wx => Hid (Frm [] w wx))
  case first =>
    by_cases hE : E' = 0
    · subst hE
      obtain ⟨sb, ps, cs, rfl, q1, q2, q3⟩ := HSV.out rfl
      have HS := hid (fun W (hf : Frm [] w2 W) => q1.k0 hf)
      have HOK := hid (fun W (hf : Frm [] w3 W) => HO3.out.kept hf (by simp))
      have HIT : Hid (InE (toE r3)) := hid (by have := in_join (B := []) HZ1.out (fun y hy => by simp at hy); simpa using this)
      have HRE := hid (fun W (hf : Frm [] w3 W) => repE_any pc L cc (toE r3) W (HOK.out W hf).rv HO3.out.2 HIT.out (by omega))
      have HCE := hid (fun W (hf : Frm [] w3 W) => conE_any pc L cc (toE r3) W (HOK.out W hf).rv HO3.out.2 HIT.out (by omega))
      have HRT := hid (fun E r (h : RepC (toE r3) E r) => h.toE HZ1.out (by rw [HL.out]; exact z2))
      clear q1 HSV HO3 HIT
      go_wp2_with fail
      refine (HRE.out w3 (Frm.refl _ _)).mono ?_
      rintro e w4 ⟨E, r, hc, hf4, hh⟩
      obtain ⟨rfl, rfl⟩ := HRT.out E r hc
      rcases hh with ⟨hE, _⟩ | ⟨_, tb, pt, ct, rfl, t1, t2, t3, t4⟩
      · exact absurd rfl hE
      have HT := hid (fun W (hf : Frm [] w4 W) => t1.k0 hf)
      have HF4 := hid hf4
      clear hc hf4 t1 t2 t3 t4 HRE
      go_wp2_with fail
      refine (HCE.out w4 HF4.out).mono ?_
      rintro e w5 ⟨E, r5, hc, hf5, _, _, pd, cd, rfl, z3, _⟩
      obtain ⟨rfl, hr5⟩ := HRT.out E r5 hc
      rw [hr5] at z3
      have hl5 : r5.length = L := by rw [hr5, HL.out]
      rw [hl5]
      rw [HL.out] at z3
      have HO5 := hid z3
      have HF5 := hid hf5
      have HAS := hid (fun W (hf : Frm [] w2 W) => all9_any sb ps cs r W (HS.out W hf) (by rw [HL.out]; omega))
      have HAT := hid (fun W (hf : Frm [] w4 W) => all9_any tb pt ct r W (HT.out W hf) (by rw [HL.out]; omega))
      rw [HL.out] at HAS HAT
      clear hc hf5 z3 hr5 hl5 HCE HRT
      go_wp2_with fail
      refine (HAS.out w5 (HF23.out.trans (HF4.out.trans HF5.out (by simp)) (by simp))).mono ?_
      rintro e w6 ⟨pa, ca, rfl, ho6, hf6, _⟩
      have HO6 := hid ho6
      have HF6 := hid hf6
      clear ho6 hf6 HAS
      go_wp2_with fail
      refine (HAT.out w6 (HF5.out.trans HF6.out (by simp))).mono ?_
      rintro e w7 ⟨pb, cb, rfl, ho7, hf7, _⟩
      have HSA := hid (same9_any pa pb ca cb r L w7 (HO6.out.kept hf7 (by simp)) ho7 (by omega))
      have HF7 := hid (HF6.out.trans hf7 (by simp))
      clear ho7 hf7 HAT HO6 HF6
      go_wp2_with fail
      refine HSA.out.mono ?_
      rintro e w8 ⟨rfl, hf8⟩
      have HF8 := hid (HF7.out.trans hf8 (by simp))
      have HSB := hid (same10_any pc pd cc cd (toE r) L w8 (HOK.out w8 (HF4.out.trans (HF5.out.trans HF8.out (by simp)) (by simp))).rv (HO5.out.kept HF8.out (by simp)).rv HO5.out.2 (by omega))
      clear hf8 HSA HF7 HO5
      go_wp2_with fail
      refine HSB.out.mono ?_
      rintro e w9 ⟨rfl, hf9⟩
      have HF9 := hid (HF3.out.trans (HF4.out.trans (HF5.out.trans (HF8.out.trans hf9 (by simp)) (by simp)) (by simp)) (by simp))
      have hln : ¬ ((n : Int) < (L : Int)) := by omega
      clear hf9 HSB
      go_wp2_with fail
      go_meet
      case rel => exact HF9
    · have hb : (E' == 0) = false := by simpa using hE
      clear hE
      go_wp2_with fail
      go_meet
      case rel => exact HF3
  have HFA := hid hcut.out
  clear hcut HF23 HO3 HSV HZ1 z2 HLN2 HF3
  have HEN := hid (fun W (hf : Frm [] w W) => encE_any p n c es W (HR.out W hf) HN.out HIN.out (by omega))
  obtain ⟨C, hC⟩ : ∃ C, chkE es = C := ⟨_, rfl⟩
  rw [hC] at HEN
  have HCK := hid hC
  clear hC
  go_wp2_with fail
  refine (HEN.out _ HFA.out).mono ?_
  rintro e w5 h
  obtain ⟨px, nx, cx, rfl, hf5, hx⟩ : ∃ px nx cx, e = .returned (.tuple #[.slice px nx cx, .int .i64 C]) ∧ Frm [] w5 w5 ∧ (C = 0 → ∃ g, px = some ⟨g, 0, none⟩ ∧ nx = (spB es).length ∧ w5.heap[g]? = some (.cells (bv (spB es)).toArray 5 (0, 0))) := by
    rcases h with ⟨h0, rfl, _⟩ | ⟨h0, g, rfl, hg, _, _⟩
    · exact ⟨none, 0, 0, rfl, Frm.refl _ _, fun h => absurd h h0⟩
    · subst h0
      exact ⟨_, _, _, rfl, Frm.refl _ _, fun _ => ⟨g, rfl, rfl, hg⟩⟩
  have HF5 : Hid (Frm [] w w5) := hid (by
    rcases h with ⟨_, _, hf⟩ | ⟨_, _, _, _, hf, _⟩
    · exact HFA.out.trans hf (by simp)
    · exact HFA.out.trans hf (by simp))
  have HX := hid hx
  clear h hf5 hx HEN HFA
  go_upto_if 92 with fail
  go_cut [20] (fun _ wx => Hid (Frm [] w wx))
  case first =>
    by_cases hC0 : C = 0
    · subst hC0
      obtain ⟨g, rfl, hnx, hg⟩ := HX.out rfl
      obtain ⟨k1, k2⟩ := chkE_ok.1 HCK.out
      obtain ⟨d1, d2, d3⟩ := decOk_spB HCK.out
      have hlb : (spB es).length ≤ 140737488355328 := by rw [spB_len]; omega
      have HD := hid (decE_any (some ⟨g, 0, none⟩) cx (spB es) (spB_bd es) w5 (own_of_block (E := 5) hg (by unfold maxLen; omega)).rd hlb)
      rw [← hnx] at HD
      rw [HN.out] at d2 d3
      have D1 := hid d1
      have D2 := hid d2
      have D3 := hid d3
      clear hg hnx d1 d2 d3 k1 k2 hlb HX
      go_wp2_with fail
      refine HD.out.mono ?_
      rintro e w6 h
      rcases h with ⟨h, _⟩ | ⟨_, pd, cd, rfl, ho, hf6, _⟩
      · exact absurd D1.out h
      rw [D2.out, D3.out] at ho
      rw [D2.out]
      have HF6 := hid (HF5.out.trans hf6 (by simp))
      have HSA := hid (same10_any pd p cd c es n w6 ho.rv (HR.out _ HF6.out) HN.out (by omega))
      clear ho hf6 HD
      go_wp2_with fail
      refine HSA.out.mono ?_
      rintro e w7 ⟨rfl, hf7⟩
      have HF7 := hid (HF6.out.trans hf7 (by simp))
      clear hf7 HSA
      go_wp2_with fail
      go_meet
      case rel => exact HF7
    · have hb : (C == 0) = false := by simpa using hC0
      clear hC0
      go_wp2_with fail
      go_meet
      case rel => exact HF5
  have HFB := hid hcut.out
  clear hcut HX HF5
  have HDE := hid (fun W (hf : Frm [] w W) => decE_any q d bs HB.out W (HRD.out W hf) (by have := HBL.out; omega))
  rw [HM.out] at HDE
  go_wp2_with fail
  refine (HDE.out _ HFB.out).mono ?_
  rintro e w6 h
  rcases h with ⟨hnd, rfl, hf6⟩ | ⟨hok, pd, cd, rfl, ho, hf6, _⟩
  · have HF6 := hid (HFB.out.trans hf6 (by simp))
    clear hf6 hnd HDE
    go_wp2_with fail
    first | go_returns | skip
    exact ⟨rfl, HF6.out⟩
  have HF6 := hid (HFB.out.trans hf6 (by simp))
  have HOK := hid hok
  obtain ⟨N, hNN⟩ : ∃ q, many10 bs = q := ⟨_, rfl⟩
  have HBACK : Hid (spB (entsV bs N) = bs ∧ chkE (entsV bs N) = 0 ∧ N ≤ 65536) := hid (by
    rw [← hNN]
    refine ⟨spB_of HB.out hok, hok.2.2.2, ?_⟩
    have := (chkE_ok.1 hok.2.2.2).1
    rw [entsV_len] at this
    omega)
  rw [hNN] at ho ⊢
  have HE2 := hid (encE_any pd N cd (entsV bs N) w6 ho.rv ho.2 (entsV_in HB.out N) (by have := HBACK.out.2.2; omega))
  rw [HBACK.out.1, HBACK.out.2.1] at HE2
  clear ho hf6 hok hNN HDE
  go_wp2_with fail
  refine HE2.out.mono ?_
  rintro e w7 h
  rcases h with ⟨h0, _⟩ | ⟨_, g, rfl, hg, hf7, _⟩
  · exact absurd rfl h0
  rw [HM.out]
  have HF7 := hid (HF6.out.trans hf7 (by simp))
  have hcv1 := cv_any (P := Try.prog) (w := w7) 25 5 9 Try.underlying25 Try.underlying5 Try.underlying9 (n := m) (own_of_block (E := 5) hg (by have := HBL.out; unfold maxLen; omega)).rd m HM.out
  have hcv2 := cv_any (P := Try.prog) (w := w7) 25 5 9 Try.underlying25 Try.underlying5 Try.underlying9 (n := m) (HRD.out w7 HF7.out) d HM.out
  clear hg hf7 HE2
  go_wp2_with fail
  first | go_returns | skip
  exact ⟨rfl, HF7.out⟩
end Go.Proofs.Ytkbppkimpefilaa
