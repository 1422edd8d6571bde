/- IlogAppends: the walk. -/
import Derived.Test.YtdfefeljnfcngaaIlogG
import Derived.Test.YtdfefeljnfcngaaRowB
import Derived.BigQuiet
namespace Go.Proofs.Ytdfefeljnfcngaa
open Go.RowKit
set_option maxRecDepth 100000

set_option maxHeartbeats 3200000 in
theorem appends_any (base : Int) (p1 : Option Addr) (l1 c1 : Nat) (many : Int) (hm1 : -9223372036854775808 ≤ many) (hm2 : many ≤ 9223372036854775807) (W : World) (hC : CameB W p1 l1 c1) :
    Calls Try.prog 5 #[.int .i64 base, .slice p1 l1 c1, .int .i64 many] W fun e w' => e = .returned (.bool true) ∧ Frm [] W w' := by
  have HC := hid hC
  have hlb : l1 ≤ 9223372036854775807 := Nat.le_trans hC.1 hC.2.1
  clear hC
  by_cases hbad : base < 0 ∨ 281474976710656 < base
  · go_enter Try.func5, Try.ntmps5
    go_wp2_with fail
    refine (awake16_any _).mono ?_
    rintro e w1 ⟨rfl, hf1⟩
    go_wp2_with fail
    refine (logNew_bad base hbad _).mono ?_
    rintro e w2 ⟨rfl, rfl⟩
    go_wp2_with fail
    refine (refNew_bad base hbad _).mono ?_
    rintro e w2 ⟨rfl, rfl⟩
    go_wp2_with fail
    go_returns
    exact ⟨rfl, hf1⟩
  obtain ⟨bn, rfl⟩ : ∃ bn : Nat, base = bn := ⟨base.toNat, by omega⟩
  have hb1 : bn ≤ 281474976710656 := by omega
  clear hbad
  go_enter Try.func5, Try.ntmps5
  go_wp2_with fail
  refine (awake16_any _).mono ?_
  rintro e w1 ⟨rfl, hf1⟩
  go_wp2_with fail
  refine (logNew_ok bn (by omega) (by omega) _).mono ?_
  rintro e w2 ⟨b, rfl, hL2, hf2, hb2⟩
  go_wp2_with fail
  refine (refNew_ok bn (by omega) (by omega) _).mono ?_
  rintro e w3 ⟨d, rfl, hR3, hf3, hd3⟩
  have HL3 : Hid (IsLog w3 b bn ((0 : Nat) : Int) ((1 : Nat) : Int)) := hid (hL2.kept hf3 (by simp))
  have HR3 : Hid (IsRef w3 d bn ((0 : Nat) : Int) ((1 : Nat) : Int)) := hid hR3
  have HF3 := hid ((hf1.trans hf2 (by simp)).trans hf3 (by simp))
  have hbW : W.heap.size ≤ b := Nat.le_trans hf1.size hb2
  have hbd : b < d := Nat.lt_of_lt_of_le hL2.cells.1 hd3
  clear hf1 hf2 hf3 hL2 hR3 hb2 hd3
  go_wp2_with fail
  go_loopw [12] (fun i wr => ∃ (t at_ next : Nat), t ≤ l1 ∧ i = .int .i64 t ∧ at_ ≤ 22528 ∧ next ≤ at_ + 1 ∧ Hid (IsLog wr b bn at_ next) ∧ Hid (IsRef wr d bn at_ next) ∧ Hid (Frm [] W wr)) (fun i _ => l1 - (intOf i).toNat)
  case atStart => exact ⟨0, 0, 1, Nat.zero_le _, rfl, Nat.zero_le _, by omega, HL3, HR3, HF3⟩
  case round =>
    clear HL3 HR3 HF3
    obtain ⟨t, at_, next, ht, rfl, hat, hnx, hL, hR, hf⟩ := hrel
    by_cases hlt : t < l1
    · obtain ⟨g, o, rfl, hall⟩ : ∃ g o, p1 = some ⟨g, o, none⟩ ∧ ∀ i, i < l1 → ∃ q n c, W.cell? ⟨g, o + i, none⟩ = some (.slice q n c) ∧ Came W q n c ∧ n ≤ 140737488351232 := by
        rcases HC.out.2.2 with h | h
        · omega
        · exact h
      obtain ⟨q, n, c, hcell, ⟨ns, hn, hrd, hbd', hpc, hnc, hcb⟩, hle⟩ := hall t hlt
      have hgW := World.block_lt_of_cell? W _ hcell
      have HK : Hid (∀ x, Frm [] W x → x.cell? ⟨g, o + t, none⟩ = some (.slice q n c)) := hid (fun x hx => (hx.cell (p := ⟨g, o + t, none⟩) hgW (by simp)).trans hcell)
      have HN := hid hn
      have HRD := hid hrd
      obtain ⟨r, er, B, a2, n2, ha2, hn2, hB, hA1, hA2⟩ := both_any bn at_ next ns n hn hat hnx (by omega)
      have HA1 := hid hA1
      have HA2 := hid hA2
      have hdr := hR.out.cells.1
      have t0 : (0 : Int) ≤ (t : Int) := by omega
      have t1 : (t : Int) < (l1 : Int) := by omega
      have k0 := HK.out wr hf.out
      clear hall hcell hn hrd hbd' hpc hA1 hA2
      go_wp2_with fail
      refine (lent_any q n c ns HN.out (by omega) _ (HRD.out.kept hf.out (by simp))).mono ?_
      rintro e x1 ⟨gl, rfl, hgl, hf1, hk1⟩
      have HF1 := hid (hf.out.trans hf1 (by simp))
      have HG1 := hid hgl
      have HL1 := hid (hL.out.kept hf1 (by simp))
      have HR1 := hid (hR.out.kept hf1 (by simp))
      have k1 := HK.out x1 HF1.out
      have hgs := lt_of_heap hgl
      have hnm : n + 1 ≤ maxLen := by unfold maxLen; omega
      have i0 : (n : Int) ≤ (n : Int) + 1 := by omega
      have i1 : (n : Int) < (n : Int) + 1 := by omega
      have HO1 := hid (own_head HG1.out HN.out hnm)
      have hgW1 : W.heap.size ≤ gl := Nat.le_trans hf.out.size hk1
      have hdg : d < gl := by omega
      clear hf1 hgl k0
      go_wp2_with fail
      refine (HA1.out b _ _ _ (by omega) HL1.out HO1.out.rd).mono ?_
      rintro e x2 ⟨p2, m2, c2, rfl, hm2', ho2, hl2, hf2, hk2⟩
      have HF2 := hid (HF1.out.trans hf2 (fun i hi hlt => by simp at hi; omega))
      have HG2 := hid (hf2.heap HG1.out (by simp; omega))
      have HR2 := hid (HR1.out.kept hf2 (by simp; omega))
      have HL2 := hid hl2
      have HO2 := hid ho2
      have HM2 := hid hm2'
      have HK2 : Hid (∀ k ∈ blk p2, gl < k) := hid (fun k hk => Nat.lt_of_lt_of_le hgs (hk2 k hk))
      have k2 := HK.out x2 HF2.out
      have hg200 : x2.cell? ⟨gl, n, none⟩ = some (.int .u8 200) := by
        rw [cell_of_row x2 gl n _ _ (0, 0) HG2.out]
        simp [bv, ← HN.out]
      have hcv1 := fun k => cv_any (P := Try.prog) (w := x2.drewN k) 22 5 9 Try.underlying22 Try.underlying5 Try.underlying9 ((own_head HG2.out HN.out hnm).rd.drewN k) (n + 1) HN.out
      have hcv2 := fun k => cv_any (P := Try.prog) (w := x2.drewN k) 22 5 9 Try.underlying22 Try.underlying5 Try.underlying9 ((HRD.out.kept HF2.out (by simp)).drewN k) c HN.out
      generalize strOfNums ns = S at hcv1 hcv2
      clear hf2 hl2 ho2 hm2' hk2 k1 hgs
      go_wp2_with fail
      go_quiet (fail)
      clear hcv1 hcv2 hg200
      go_wp2_with fail
      refine (spoil_any (some ⟨gl, 0, none⟩) n (n + 1) ns HN.out (by omega) _ (own_head (w := x2.drewN nq) HG2.out HN.out hnm)).mono ?_
      rintro e x3 ⟨rfl, hf3'⟩
      have hf3 : Frm [gl] x2 x3 := ((Frm.refl _ x2).drewN nq).trans hf3' (fun i hi _ => hi)
      have HF3 := hid (HF2.out.trans hf3 (fun i hi hlt => by simp at hi; omega))
      have HR3 := hid (HR2.out.kept hf3 (by simp; omega))
      have HL3 := hid (HL2.out.kept hf3 (by simp; omega))
      have HO3 := hid (HO2.out.kept hf3 (by rw [own_blk]; intro k hk h; have := HK2.out k hk; simp at h; omega))
      have k3 := HK.out x3 HF3.out
      clear hf3 hf3' k2
      go_wp2_with fail
      refine (HA2.out d _ _ _ HR3.out (HRD.out.kept HF3.out (by simp))).mono ?_
      rintro e x4 ⟨p4, m4, c4, rfl, hm4', ho4, hr4, hf4, hk4⟩
      have HF4 := hid (HF3.out.trans hf4 (fun i hi hlt => by simp at hi; omega))
      have HR4 := hid hr4
      have HL4 := hid (HL3.out.kept hf4 (by simp; omega))
      have HO4 := hid (HO3.out.kept hf4 (by rw [own_blk]; intro k hk h; have := HK2.out k hk; simp at h; omega))
      have hcv3 := cv_any (P := Try.prog) (w := x4) 22 5 9 Try.underlying22 Try.underlying5 Try.underlying9 HO4.out.rd c2 HM2.out.symm
      have hcv4 := cv_any (P := Try.prog) (w := x4) 22 5 9 Try.underlying22 Try.underlying5 Try.underlying9 ho4.rd c4 hm4'.symm
      generalize strOfNums B = S2 at hcv3 hcv4
      clear hf4 hr4 ho4 hm4' hk4 k3
      go_wp2_with fail
      refine (spoil_any p2 m2 c2 B HM2.out.symm (by rw [HM2.out]; omega) _ HO4.out).mono ?_
      rintro e x5 ⟨rfl, hf5⟩
      have HF5 := hid (HF4.out.trans hf5 (fun i hi hlt => by have := HK2.out i hi; omega))
      have HR5 := hid (HR4.out.kept hf5 (by intro hi; have := HK2.out _ hi; omega))
      have HL5 := hid (HL4.out.kept hf5 (by intro hi; have := HK2.out _ hi; omega))
      clear hcv3 hcv4 hf5
      go_wp2_with fail
      refine (pick16_any many 5000 hm1 hm2 (by omega) (by omega) _).mono ?_
      rintro e x6 ⟨rfl, rfl⟩
      obtain ⟨pk0, pk1⟩ := pickI_bd (c := many) (n := 5000) (by omega)
      generalize pickI many 5000 = pk at pk0 pk1 ⊢
      go_wp2_with fail
      refine (stands_any b d bn a2 n2 _ ha2 _ HL5.out HR5.out).mono ?_
      rintro e x7 ⟨rfl, hf7⟩
      have HF7 := hid (HF5.out.trans hf7 (by simp))
      have HR7 := hid (HR5.out.kept hf7 (by simp))
      have HL7 := hid (HL5.out.kept hf7 (by simp))
      clear hf7
      go_wp2_with fail
      go_roundw
      case rel => exact ⟨t + 1, a2, n2, by omega, by go_num, ha2, hn2, HL7, HR7, HF7⟩
      case measure => simp [intOf]; omega
    · obtain rfl : t = l1 := by omega
      clear hlt
      go_wp2_with fail
      refine (stands_any b d bn at_ next many hat _ hL.out hR.out).mono ?_
      rintro e x1 ⟨rfl, hf1⟩
      go_wp2_with fail
      go_returns
      exact ⟨rfl, hf.out.trans hf1 (by simp)⟩
end Go.Proofs.Ytdfefeljnfcngaa
