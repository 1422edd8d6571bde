/- IlogScans: the walk. -/
import Derived.Test.YtiefgfbeemlnjaaIlogU
import Derived.Test.YtiefgfbeemlnjaaRowB
import Derived.BigQuiet
namespace Go.Proofs.Ytiefgfbeemlnjaa
open Go.RowKit
set_option maxRecDepth 100000

/-- The last of two slices of one block: its beginning. -/
theorem own_low {w : World} {g n : Nat} {zs : List Int} {y : Int} {E : TypeId} (hg : w.heap[g]? = some (.cells (bv (zs ++ [y])).toArray E (0, 0))) (hn : zs.length = n) (hm : n + 1 ≤ maxLen) : Rd w (some ⟨g, 0, none⟩) zs := (own_head hg hn hm).rd
set_option maxHeartbeats 3200000 in
theorem scans_any (base : Int) (p1 p2 : Option Addr) (l1 c1 l2 c2 : Nat) (hl1 : l1 ≤ 140737488351232) (W : World) (hC : Came W p1 l1 c1) (hD : Came W p2 l2 c2) :
    Calls Try.prog 3 #[.int .i64 base, .slice p1 l1 c1, .slice p2 l2 c2] W fun e w' => e = .returned (.bool true) ∧ Frm [] W w' := by
  obtain ⟨ns, hn, hrd, hbd, hpc, hnc, hcb⟩ := hC
  obtain ⟨ms, hm, hmrd, _, _, hmc, hmcb⟩ := hD
  have HN := hid hn
  have HRD := hid hrd
  have HM := hid hm
  have HMRD := hid hmrd
  obtain ⟨isn, er, bs, hA1, hA2⟩ := both_scan base ns l1 hn hbd
  have HA1 := hid hA1
  have HA2 := hid hA2
  have HRB := hid (rgB_byte hbd)
  have HRL := hid (rgB_length ns)
  clear hn hrd hbd hpc hcb hA1 hA2 hm hmrd
  go_enter Try.func3, Try.ntmps3
  go_wp2_with fail
  refine (awake16_any _).mono ?_
  rintro e w1 ⟨rfl, hf1⟩
  have HF1 := hid hf1
  clear hf1
  go_wp2_with fail
  refine (HA1.out p1 c1 _ hnc (HRD.out.kept HF1.out (by simp))).mono ?_
  rintro e w2 ⟨po, q, n, c, rfl, hpo, hbn, hnb, hl2, hf2⟩
  have HL2 := hid hl2
  have HF2 := hid (HF1.out.trans hf2 (by simp))
  have HBN := hid hbn
  clear hl2 hf2 hbn
  go_wp2_with fail
  refine (HA2.out p1 c1 _ hnc (HRD.out.kept HF2.out (by simp))).mono ?_
  rintro e w3 ⟨po', q', n', c', rfl, hpo', hbn', hnb', hl3, hf3⟩
  have HF3 := hid (HF2.out.trans hf3 (by simp))
  have HL3 := hid (HL2.out.kept hf3)
  have HM3 := hid hl3
  have hnn : n' = n := by rw [← hbn', HBN.out]
  subst hnn
  clear hl3 hf3 hbn'
  go_wp2_with fail
  refine (same_true bs q q' n' c c' HBN.out hnb _ HL3.out HM3.out).mono ?_
  rintro e w4 ⟨rfl, hf4⟩
  have HF4 := hid (HF3.out.trans hf4 (by simp))
  clear hf4
  go_wp2_with fail
  refine (region_any p1 l1 c1 ns HN.out hl1 _ (HRD.out.kept HF4.out (by simp))).mono ?_
  rintro e w5 ⟨r, rfl, hg5, hf5, hr5⟩
  have HF5 := hid (HF4.out.trans hf5 (by simp))
  have HG5 := hid hg5
  have hmx : (rgB ns).length ≤ maxLen := by rw [HRL.out]; unfold maxLen; omega
  have HRR := hid ((own_of_block (E := 5) hg5 hmx).rd)
  have hrs := lt_of_heap hg5
  have hrW : W.heap.size ≤ r := Nat.le_trans HF4.out.size hr5
  clear hg5 hf5 hmx hpo hpo' HL2 HL3 HM3
  go_wp2_with fail
  refine (lent_any _ 22528 22528 (rgB ns) HRL.out (by omega) _ HRR.out).mono ?_
  rintro e w6 ⟨gl, rfl, hg6, hf6, hl6⟩
  have HF6 := hid (HF5.out.trans hf6 (by simp))
  have HG6 := hid hg6
  have HRR6 := hid (HRR.out.kept hf6 (by simp))
  have hgls := lt_of_heap hg6
  have hgr : r < gl := by omega
  have hnm : 22528 + 1 ≤ maxLen := by unfold maxLen; omega
  have HO6 := hid (own_head HG6.out HRL.out hnm)
  clear hg6 hf6
  have hcv1 := fun (W : World) (h : W.heap[gl]? = some (.cells (bv (rgB ns ++ [200])).toArray 5 (0, 0))) (k : Nat) => cv_any (P := Try.prog) (w := W.drewN k) 22 5 9 Try.underlying22 Try.underlying5 Try.underlying9 ((own_head h HRL.out hnm).rd.drewN k) (22528 + 1) HRL.out
  have hcv2 := fun (W : World) (h : Rd W (some ⟨r, 0, none⟩) (rgB ns)) (k : Nat) => cv_any (P := Try.prog) (w := W.drewN k) 22 5 9 Try.underlying22 Try.underlying5 Try.underlying9 (h.drewN k) 22528 HRL.out
  obtain ⟨S, hS⟩ : ∃ S, strOfNums (rgB ns) = S := ⟨_, rfl⟩
  rw [hS] at hcv1 hcv2
  have HCV1 := hid hcv1
  have HCV2 := hid hcv2
  clear hcv1 hcv2 hS
  by_cases hbad : base < 0 ∨ 281474976710656 < base
  · have HBAD := hid hbad
    clear hbad
    go_wp2_with fail
    refine (scan_bad base HBAD.out _ _ _ _).mono ?_
    rintro e w7 ⟨rfl, rfl⟩
    have k1 := HCV1.out _ HG6.out
    have k2 := HCV2.out _ HRR6.out
    go_wp2_with fail
    go_quiet (fail)
    clear k1 k2
    go_wp2_with fail
    refine (spoil_any _ 22528 22529 (rgB ns) HRL.out (by omega) _ (own_head (w := w6.drewN nq) HG6.out HRL.out hnm)).mono ?_
    rintro e w8 ⟨rfl, hf8'⟩
    have hf8 : Frm [gl] w6 w8 := ((Frm.refl _ w6).drewN nq).trans hf8' (fun i hi _ => hi)
    have HF8 := hid (HF6.out.trans hf8 (fun i hi hlt => by simp at hi; omega))
    have HRR8 := hid (HRR6.out.kept hf8 (by simp [blk]; omega))
    clear hf8 hf8'
    go_wp2_with fail
    refine (refScan_bad base HBAD.out _ _ _ _).mono ?_
    rintro e w9 ⟨rfl, rfl⟩
    go_wp2_with fail
    refine (same_true [] none none 0 0 0 rfl (by omega) _ (Or.inl rfl) (Or.inl rfl)).mono ?_
    rintro e w10 ⟨rfl, hf10⟩
    have HF10 := hid (HF8.out.trans hf10 (by simp))
    clear hf10
    go_wp2_with fail
    go_loopw [18] (fun i wr => i = .int .i64 0 ∧ Hid (Frm [] W wr)) (fun _ _ => 0)
    case atStart => exact ⟨rfl, HF10⟩
    case round =>
      obtain ⟨rfl, hf⟩ := hrel
      go_wp2_with fail
      go_returns
      exact ⟨rfl, hf.out⟩
  · obtain ⟨bn, rfl⟩ : ∃ bn : Nat, base = bn := ⟨base.toNat, by omega⟩
    have hb1 : bn ≤ 281474976710656 := by omega
    clear hbad
    go_wp2_with fail
    refine (scan_ok bn hb1 _ (rgB ns) 22529 HRL.out (by omega) HRB.out _ HO6.out.rd).mono ?_
    rintro e w7 ⟨b, q7, n7, c7, vs, as7, rfl, ht7, hl7, hi7, hf7, hb7⟩
    have HF7 := hid (HF6.out.trans hf7 (by simp))
    have HL7 := hid hl7
    have HI7 := hid hi7
    have HT7 := hid ht7
    have HG7 := hid (hf7.heap HG6.out (by simp))
    have HRR7 := hid (HRR6.out.kept hf7 (by simp))
    have k1 := HCV1.out _ HG7.out
    have k2 := HCV2.out _ HRR7.out
    have hgb : gl < b := Nat.lt_of_lt_of_le hgls hb7
    have hn7 : n7 ≤ 256 := by
      have h1 := recsB_at ht7.pre
      rw [HRL.out, hl7.lenB] at h1
      omega
    have HVS : Hid (∀ v ∈ vs, ∀ k ∈ v.ownBlock.toList, k < w7.heap.size) := hid (fun v hv k hk => by
      obtain ⟨i, hi, rfl⟩ := List.getElem_of_mem hv
      exact (hl7.each i (Nat.zero_le _) (by rw [← hl7.lenV]; exact hi)).lows k (by rw [List.getD_eq_getElem?_getD, List.getElem?_eq_getElem hi]; exact hk))
    have hbs7 := hi7.cells.1
    clear hl7 hi7 hf7 ht7 hb7
    go_wp2_with fail
    go_quiet (fail)
    clear k1 k2
    go_wp2_with fail
    refine (spoil_any _ 22528 22529 (rgB ns) HRL.out (by omega) _ (own_head (w := w7.drewN nq) HG7.out HRL.out hnm)).mono ?_
    rintro e w8 ⟨rfl, hf8'⟩
    have hf8 : Frm [gl] w7 w8 := ((Frm.refl _ w7).drewN nq).trans hf8' (fun i hi _ => hi)
    have HF8 := hid (HF7.out.trans hf8 (fun i hi hlt => by simp at hi; omega))
    have HRR8 := hid (HRR7.out.kept hf8 (by simp [blk]; omega))
    have HL8 := hid (HL7.out.kept hf8 (fun k hk _ => by simp at hk; omega))
    have HI8 := hid (HI7.out.kept hf8 (by simp; omega))
    have hs8 := hf8.size
    clear hf8 hf8'
    go_wp2_with fail
    refine (refScan_ok bn hb1 _ (rgB ns) 22528 HRL.out (by omega) HRB.out _ HRR8.out).mono ?_
    rintro e w9 ⟨d, q9, n9, c9, vs9, as9, rfl, ht9, hl9, hi9, hf9, hd9⟩
    obtain rfl := told_one HT7.out ht9
    have hnn : n9 = n7 := by rw [← hl9.lenB, HL8.out.lenB]
    subst hnn
    have HF9 := hid (HF8.out.trans hf9 (by simp))
    have HL9 := hid (HL8.out.kept hf9 (by simp))
    have HI9 := hid (HI8.out.kept hf9 (by simp))
    have HR9 := hid hi9
    have HM9 := hid hl9.rd
    have HD : Hid (∀ v ∈ vs, ∀ k ∈ v.ownBlock.toList, k < d) := hid (fun v hv k hk => by have := HVS.out v hv k hk; omega)
    have hbd : b < d := by omega
    clear hl9 hi9 hf9 hd9 ht9
    go_wp2_with fail
    refine (same_true as7 q7 q9 n9 c7 c9 HL9.out.lenB (by omega) _ HL9.out.rd HM9.out).mono ?_
    rintro e w10 ⟨rfl, hf10⟩
    have HF10 := hid (HF9.out.trans hf10 (by simp))
    have HL10 := hid (HL9.out.kept hf10 (by simp))
    have HI10 := hid (HI9.out.kept hf10 (by simp))
    have HR10 := hid (HR9.out.kept hf10 (by simp))
    obtain ⟨A, hA⟩ : ∃ A, (recsB bn 1 as7).length = A := ⟨_, rfl⟩
    obtain ⟨B, hB⟩ : ∃ B, 1 + as7.length = B := ⟨_, rfl⟩
    have hAB := recsB_at HT7.out.pre
    rw [HRL.out, hA] at hAB
    obtain ⟨hab1, hab2⟩ := hAB
    have hBA : B ≤ A + 1 := by omega
    rw [hA, hB] at HI10 HR10
    clear hf10 hA hB hab1
    go_wp2_with fail
    go_loopw [18] (fun i wr => ∃ j : Nat, j ≤ n9 ∧ i = .int .i64 j ∧ Hid (LOwn (b + 1) j wr q7 n9 c7 vs as7) ∧ Hid (IsLog wr b bn A B) ∧ Hid (IsRef wr d bn A B) ∧ Hid (Frm [] W wr)) (fun i _ => n9 - (intOf i).toNat)
    case atStart => exact ⟨0, Nat.zero_le _, rfl, HL10, HI10, HR10, HF10⟩
    case round =>
      clear HL10 HI10 HR10 HF10
      obtain ⟨j, hj, rfl, hl, hi, hr, hf⟩ := hrel
      by_cases hlt : j < n9
      · obtain ⟨g7, rfl, _, hcell⟩ := hl.out.cell (by omega)
        obtain ⟨qv, dv, hqv, hov⟩ := hl.out.each j (Nat.le_refl _) hlt
        have k0 := hcell j hlt
        rw [hqv] at k0 hov
        have HOV := hid hov
        have HQV := hid hqv
        have hmem : vs.getD j nilV ∈ vs := getD_mem (by rw [hl.out.lenV]; exact hlt)
        have HMEM := hid hmem
        have hsm := HT7.out.small (as7.getD j []) (getD_mem (by rw [hl.out.lenB]; exact hlt))
        obtain ⟨z7, hz7⟩ : ∃ z, (as7.getD j []).length = z := ⟨_, rfl⟩
        have HZ7 := hid hz7
        rw [hz7] at k0 hsm HOV HQV
        have t0 : (0 : Int) ≤ (j : Int) := by omega
        have t1 : (j : Int) < (n9 : Int) := by omega
        clear hcell hqv hov hmem hz7
        go_wp2_with fail
        refine (spoil_any _ z7 dv (as7.getD j []) HZ7.out (by omega) _ HOV.out).mono ?_
        rintro e x1 ⟨rfl, hfx⟩
        have hown : (vs.getD j nilV).ownBlock.toList = blk qv := by rw [HQV.out, own_blk]
        have HLX := hid (hl.out.spoilt hlt (by rw [hown]; exact hfx))
        have HIX := hid (hi.out.kept hfx (by rw [← hown]; intro h; have := (hl.out.new _ HMEM.out b h).1; omega))
        have HRX := hid (hr.out.kept hfx (by rw [← hown]; intro h; have := HD.out _ HMEM.out d h; omega))
        have HFX := hid (hf.out.trans hfx (by rw [← hown]; intro i h _; have := (hl.out.new _ HMEM.out i h).1; omega))
        clear hfx hown k0
        go_wp2_with fail
        go_roundw
        case rel => exact ⟨j + 1, by omega, by go_num, HLX, HIX, HRX, HFX⟩
        case measure => simp [intOf]; omega
      · obtain rfl : j = n9 := by omega
        obtain ⟨rr, er2, BB, a2, n2, ha2, hn2, hB, hA1, hA2⟩ := both_any bn A B ms l2 HM.out hab2 hBA (by omega)
        have HP1 := hid hA1
        have HP2 := hid hA2
        clear hlt hA1 hA2 hl
        go_wp2_with fail
        refine (HP1.out b _ _ _ hmc hi.out (HMRD.out.kept hf.out (by simp))).mono ?_
        rintro e y2 ⟨p2', m2, c2', rfl, hm2', ho2, hl2, hf2, hk2⟩
        have HF2' := hid (hf.out.trans hf2 (fun i hi hlt => by simp at hi; omega))
        have HR2 := hid (hr.out.kept hf2 (by simp; omega))
        have HL2' := hid hl2
        have HO2 := hid ho2
        have HM2 := hid hm2'
        have hdx := hr.out.cells.1
        have HK2 : Hid (∀ k ∈ blk p2', d < k) := hid (fun k hk => Nat.lt_of_lt_of_le hdx (hk2 k hk))
        clear hf2 hl2 ho2 hm2' hk2
        go_wp2_with fail
        refine (HP2.out d _ _ _ HR2.out (HMRD.out.kept HF2'.out (by simp))).mono ?_
        rintro e y4 ⟨p4, m4, c4, rfl, hm4', ho4, hr4, hf4, hk4⟩
        have HF4' := hid (HF2'.out.trans hf4 (fun i hi hlt => by simp at hi; omega))
        have HR4 := hid hr4
        have HL4 := hid (HL2'.out.kept hf4 (by simp; omega))
        have HO4 := hid (HO2.out.kept hf4 (by rw [own_blk]; intro k hk h; have := HK2.out k hk; simp at h; omega))
        have hcv3 := cv_any (P := Try.prog) (w := y4) 22 5 9 Try.underlying22 Try.underlying5 Try.underlying9 HO4.out.rd c2' HM2.out.symm
        have hcv4 := cv_any (P := Try.prog) (w := y4) 22 5 9 Try.underlying22 Try.underlying5 Try.underlying9 ho4.rd c4 hm4'.symm
        generalize strOfNums BB = S2 at hcv3 hcv4
        clear hf4 hr4 ho4 hm4' hk4
        go_wp2_with fail
        refine (stands_any b d bn a2 n2 l2 ha2 _ HL4.out HR4.out).mono ?_
        rintro e y5 ⟨rfl, hf5⟩
        have HF5' := hid (HF4'.out.trans hf5 (by simp))
        clear hf5 hcv3 hcv4
        go_wp2_with fail
        go_returns
        exact ⟨by simp, HF5'.out⟩
end Go.Proofs.Ytiefgfbeemlnjaa
