/- DiskCut, walked. -/
import Derived.Test.YtfclamndjnoopaaDskP
import Derived.Test.YtfclamndjnoopaaRowC
namespace Go.Proofs.Ytfclamndjnoopaa
open Go.RowKit Go.Lib
set_option maxRecDepth 100000

theorem flD_n (S : PSt) (D : DSt) : (flD S D).n = D.n ∧ (flD S D).failed = D.failed ∧ (flD S D).db = D.db := by unfold flD; split <;> exact ⟨rfl, rfl, rfl⟩
theorem flS_same (S : PSt) (D : DSt) : (flS S D).out = S.out ∧ (flS S D).writes = S.writes ∧ (flS S D).bounded = S.bounded ∧ (flS S D).left = S.left := by unfold flS; split <;> exact ⟨rfl, rfl, rfl, rfl⟩
theorem down_ok {S : PSt} {D : DSt} (h1 : S.out = false) (h2 : D.failed = false) : downE S D = 0 := by unfold downE; rw [h1, h2]; rfl
theorem down_out {S : PSt} {D : DSt} (h1 : S.out = true) : downE S D = 5 := by unfold downE; rw [h1]; rfl
theorem ask_ok {S : PSt} {D : DSt} {a m : Int} (h1 : S.out = false) (h2 : D.failed = false) (ha : 0 ≤ a) (hm : 0 ≤ m) (hn : a + m ≤ D.n) : askE S D a m = 0 := by
  unfold askE; rw [h1, h2]; simp only [Bool.false_eq_true, if_false]; rw [if_neg (by omega)]
theorem ask_out {S : PSt} {D : DSt} {a m : Int} (h1 : S.out = true) : askE S D a m = 5 := by unfold askE; rw [h1]; rfl
/-- What DiskCut's calls answer: the write, the flush, the read, what is told then. -/
structure CutA (S : PSt) (D : DSt) (at_ : Int) (bs : List Int) (ev fv : Int) (ov : Bool) (nv : Int) : Prop where
  ew : wrE S D at_ bs = ev
  ef : downE (S.wr D at_ bs) (D.wr S at_ bs) = fv
  er : askE (flS (S.wr D at_ bs) (D.wr S at_ bs)) (flD (S.wr D at_ bs) (D.wr S at_ bs)) 0 1 = fv
  eo : (flS (S.wr D at_ bs) (D.wr S at_ bs)).out = ov
  en : (flS (S.wr D at_ bs) (D.wr S at_ bs)).writes = nv
theorem cutA_ok {S : PSt} {D : DSt} {at_ : Int} {bs : List Int} {e n : Int} (hw : wrE S D at_ bs = e) (ho : (S.wr D at_ bs).out = false) (hn : (S.wr D at_ bs).writes = n) (hf : D.failed = false) (hd : D.n = 8) : CutA S D at_ bs e 0 false n := by
  obtain ⟨d1, d2, d3⟩ := flD_n (S.wr D at_ bs) (D.wr S at_ bs)
  obtain ⟨s1, s2, _, _⟩ := flS_same (S.wr D at_ bs) (D.wr S at_ bs)
  refine ⟨hw, down_ok ho hf, ask_ok (by rw [s1]; exact ho) (by rw [d2]; exact hf) (by omega) (by omega) (by rw [d1]; show (0 : Int) + 1 ≤ (D.n : Int); omega), by rw [s1]; exact ho, by rw [s2]; exact hn⟩
theorem cut_bad {D : DSt} {at_ after : Int} {bs : List Int} (hn : D.n = 8) (hf : D.failed = false) (h : bs.length % 128 ≠ 0 ∨ at_ < 0 ∨ 8 < at_ ∨ 8 - at_ < ((bs.length / 128 : Nat) : Int)) : CutA (PSt.new.cut after) D at_ bs 1 0 false 0 := by
  have h1 : wrAsk (PSt.new.cut after) D at_ bs = 1 := by
    unfold wrAsk askE manyW
    show (if false = true then (5 : Int) else if D.failed = true then 30 else _) = 1
    rw [hf, hn]
    simp only [Bool.false_eq_true, if_false]
    rw [if_pos]
    split <;> omega
  have hS : (PSt.new.cut after).wr D at_ bs = PSt.new.cut after := by unfold PSt.wr; rw [if_pos (by rw [h1]; decide)]
  exact cutA_ok (by unfold wrE; rw [if_pos (by rw [h1]; decide), h1]) (by rw [hS]; rfl) (by rw [hS]; rfl) hf hn
theorem cut_ask {D : DSt} {after : Int} {a m : Nat} {bs : List Int} (hn : D.n = 8) (hf : D.failed = false) (hl : bs.length = m * 128) (ha : a + m ≤ 8) : wrAsk (PSt.new.cut after) D a bs = 0 ∧ bs.length / 128 = m := by
  have hd : bs.length / 128 = m := by omega
  refine ⟨?_, hd⟩
  unfold wrAsk manyW
  rw [if_pos (by omega), hd]
  exact ask_ok rfl hf (by omega) (by omega) (by omega)
theorem cut_good {D : DSt} {after : Int} {a m : Nat} {bs : List Int} (hn : D.n = 8) (hf : D.failed = false) (hl : bs.length = m * 128) (ha : a + m ≤ 8) (h : after < 0 ∨ (m : Int) ≤ after) : CutA (PSt.new.cut after) D a bs 0 0 false m := by
  obtain ⟨h0, hd⟩ := cut_ask (after := after) hn hf hl ha
  have hj : jW (PSt.new.cut after) m = m := by
    unfold jW
    show (if decide (0 ≤ after) = true then min m after.toNat else m) = m
    split
    · rename_i h1; simp at h1; omega
    · rfl
  have hne : ¬ (wrAsk (PSt.new.cut after) D a bs ≠ 0) := fun h => h h0
  have hS : (PSt.new.cut after).wr D a bs = { (PSt.new.cut after).wrote D a bs m with out := false } := by
    unfold PSt.wr
    rw [if_neg hne, hd, hj]
    simp
  exact cutA_ok (by unfold wrE; rw [if_neg hne, hd, hj]; simp) (by rw [hS]) (by rw [hS]; show (0 : Int) + (m : Int) = m; omega) hf hn
theorem cut_down {D : DSt} {a m t : Nat} {bs : List Int} (hn : D.n = 8) (hf : D.failed = false) (hl : bs.length = m * 128) (ha : a + m ≤ 8) (h : t < m) : CutA (PSt.new.cut (t : Int)) D a bs 5 5 true t ∧ (flS ((PSt.new.cut (t : Int)).wr D a bs) (D.wr (PSt.new.cut (t : Int)) a bs)).ws.length = t := by
  obtain ⟨h0, hd⟩ := cut_ask (after := (t : Int)) hn hf hl ha
  have hj : jW (PSt.new.cut (t : Int)) m = t := by
    unfold jW
    show (if decide (0 ≤ (t : Int)) = true then min m (t : Int).toNat else m) = t
    rw [if_pos (by simp)]
    omega
  have hne : ¬ (wrAsk (PSt.new.cut (t : Int)) D a bs ≠ 0) := fun h => h h0
  have htm : ¬ t = m := by omega
  have hS : (PSt.new.cut (t : Int)).wr D a bs = { (PSt.new.cut (t : Int)).wrote D a bs t with out := true } := by
    unfold PSt.wr
    rw [if_neg hne, hd, hj]
    simp [htm]
  have ho : ((PSt.new.cut (t : Int)).wr D a bs).out = true := by rw [hS]
  have hdn : downE ((PSt.new.cut (t : Int)).wr D a bs) (D.wr (PSt.new.cut (t : Int)) a bs) = 5 := down_out ho
  have hfl : flS ((PSt.new.cut (t : Int)).wr D a bs) (D.wr (PSt.new.cut (t : Int)) a bs) = (PSt.new.cut (t : Int)).wr D a bs := by unfold flS; rw [hdn]; rfl
  refine ⟨⟨by unfold wrE; rw [if_neg hne, hd, hj, if_neg htm], hdn, ?_, ?_, ?_⟩, ?_⟩
  · rw [hfl]; exact ask_out ho
  · rw [hfl]; exact ho
  · rw [hfl, hS]; show (0 : Int) + (t : Int) = t; omega
  · rw [hfl, hS]; show ([] ++ wts D a bs t).length = t; rw [List.nil_append, wts_length]
theorem postRd_any {w w' : World} {bs : List Int} {err : Int} {e : Ending} (h : PostRd w bs err e w') : ∃ p n c, e = .returned (.tuple #[.slice p n c, .int .i64 err]) ∧ Frm [] w w' := by
  obtain ⟨hf, h | ⟨rfl, g, rfl, _⟩⟩ := h
  · exact ⟨_, _, _, h.2, hf⟩
  · exact ⟨_, _, _, rfl, hf⟩
/-- The three ways that DiskCut goes. -/
def CutCase (after at_ : Int) (N : Nat) (wl : Int) (ev fv : Int) (ov : Bool) (nv : Int) : Prop :=
  (ev = 1 ∧ fv = 0 ∧ ov = false ∧ nv = 0 ∧ (N % 128 ≠ 0 ∨ at_ < 0 ∨ 8 < at_ ∨ 8 - at_ < ((N / 128 : Nat) : Int))) ∨
  (ev = 0 ∧ fv = 0 ∧ ov = false ∧ nv = ((N / 128 : Nat) : Int) ∧ N % 128 = 0 ∧ 0 ≤ at_ ∧ at_ ≤ 8 ∧ ((N / 128 : Nat) : Int) ≤ 8 - at_ ∧ (after < 0 ∨ ((N / 128 : Nat) : Int) ≤ after)) ∨
  (ev = 5 ∧ fv = 5 ∧ ov = true ∧ nv = after ∧ N % 128 = 0 ∧ 0 ≤ at_ ∧ at_ ≤ 8 ∧ ((N / 128 : Nat) : Int) ≤ 8 - at_ ∧ 0 ≤ after ∧ after < ((N / 128 : Nat) : Int) ∧ wl = after)
theorem cut_cases {D : DSt} (at_ after : Int) (bs : List Int) (hn : D.n = 8) (hf : D.failed = false) : ∃ ev fv ov nv, CutA (PSt.new.cut after) D at_ bs ev fv ov nv ∧ CutCase after at_ bs.length ((flS ((PSt.new.cut after).wr D at_ bs) (D.wr (PSt.new.cut after) at_ bs)).ws.length : Int) ev fv ov nv := by
  by_cases h : bs.length % 128 ≠ 0 ∨ at_ < 0 ∨ 8 < at_ ∨ 8 - at_ < ((bs.length / 128 : Nat) : Int)
  · exact ⟨_, _, _, _, cut_bad hn hf h, Or.inl ⟨rfl, rfl, rfl, rfl, h⟩⟩
  · obtain ⟨a, rfl⟩ : ∃ a : Nat, at_ = a := ⟨at_.toNat, by omega⟩
    obtain ⟨m, hm⟩ : ∃ m, bs.length / 128 = m := ⟨_, rfl⟩
    have hl : bs.length = m * 128 := by omega
    by_cases h2 : after < 0 ∨ (m : Int) ≤ after
    · exact ⟨_, _, _, _, cut_good hn hf hl (by omega) h2, Or.inr (Or.inl ⟨rfl, rfl, rfl, by rw [hm], by omega, by omega, by omega, by omega, by omega⟩)⟩
    · obtain ⟨t, rfl⟩ : ∃ t : Nat, after = t := ⟨after.toNat, by omega⟩
      obtain ⟨c1, c2⟩ := cut_down (D := D) (a := a) (m := m) (t := t) hn hf hl (by omega) (by omega)
      exact ⟨_, _, _, _, c1, Or.inr (Or.inr ⟨rfl, rfl, rfl, rfl, by omega, by omega, by omega, by omega, by omega, by omega, by rw [c2]⟩)⟩
set_option maxHeartbeats 6400000 in
theorem diskCut_any (after at_ : Int) (ha : -9223372036854775808 ≤ after ∧ after ≤ 9223372036854775807) (hat : -9223372036854775808 ≤ at_ ∧ at_ ≤ 9223372036854775807) (p : Option Addr) (N c : Nat) (w : World) (hb : Came w p N c) (hN : N ≤ 140737488351232) :
    Calls Try.prog 3 #[.int .i64 after, .int .i64 at_, .slice p N c] w fun e w' => e = .returned (.bool true) ∧ Frm [] w w' := by
  obtain ⟨bs, hl, hrd, hz, _, hc, _⟩ := hb
  have HLN := hid hl
  have HRD := hid hrd
  have HZ := hid hz
  have HPW := hid (fun w => rNew w)
  obtain ⟨M, hM⟩ : ∃ M, N / 128 = M := ⟨_, rfl⟩
  have hq1 : (N : Int).tdiv 128 = (M : Int) := by rw [Int.tdiv_eq_ediv_of_nonneg (by omega)]; omega
  have hM2 : M ≤ 140737488351232 := by omega
  have HM := hid hM
  obtain ⟨R, hR⟩ : ∃ R, (N : Int).tmod 128 = R := ⟨_, rfl⟩
  have HRR : Hid (R = ((N % 128 : Nat) : Int)) := hid (by rw [← hR, Int.tmod_eq_emod_of_nonneg (by omega)]; omega)
  clear hl hrd hz hM
  go_enter Try.func3, Try.ntmps3
  go_wp2_with fail
  refine (awake3_any _).mono ?_
  rintro e w0 ⟨rfl, hf0⟩
  have HF0 := hid hf0
  clear hf0
  go_wp2_with fail
  refine (HPW.out _).mono ?_
  rintro e w1 ⟨pb, rfl, hr1, hf1, hl1⟩
  have HDN := hid (rDisk pb 8 PSt.new [] [pb] (by omega) (by omega) w1 hr1)
  have HF1 := hid (HF0.out.trans hf1 (by simp))
  have HL1 : Hid (∀ k ∈ [pb], w.heap.size ≤ k) := hid (by have := HF0.out.size; simp; omega)
  clear hr1 hf1 hl1 HPW HF0
  go_wp2_with fail
  refine HDN.out.mono ?_
  rintro e w2 ⟨D, rfl, hn, hfl, hp, hs, hnew, hr2, hf2⟩
  have HR2 : Hid (Rack w2 pb PSt.new [D] ([pb] ++ D.blks)) := hid hr2
  have HF2 := hid (HF1.out.trans hf2 (by simp))
  have HL2 : Hid (∀ k ∈ [pb] ++ D.blks, w.heap.size ≤ k) := hid (fun k hk => by
    rcases List.mem_append.1 hk with h | h
    · exact HL1.out k h
    · have := hnew k h; have := HF1.out.size; omega)
  have HCT := hid (rCut pb PSt.new [D] ([pb] ++ D.blks) after ha w2 HR2.out)
  obtain ⟨ev, fv, ov, nv, hca, hcc⟩ := cut_cases at_ after bs hn hfl
  rw [HLN.out] at hcc
  have HCA := hid hca
  have HCC := hid hcc
  have HDD : Hid (D.n = 8 ∧ D.failed = false) := hid ⟨hn, hfl⟩
  clear hr2 hn hfl hp hs hnew hf2 HDN HF1 HL1 hca hcc
  go_wp2_with fail
  refine HCT.out.mono ?_
  rintro e w3 ⟨rfl, hr3, hf3⟩
  have hf3' : Frm [] w w3 := HF2.out.trans hf3 (fun k hk hl => by simp at hk; subst hk; have := HL2.out k (by simp); omega)
  have HW := hid (rWrite pb (PSt.new.cut after) [D] ([pb] ++ D.blks) 0 D at_ p c bs w3 hr3 rfl hat (inB_arg HRD.out HZ.out hf3' HL2.out) (by rw [HLN.out]; exact hc) (by rw [HLN.out]; omega) (by simp [PSt.cut, PSt.new]))
  rw [HCA.out.ew, HLN.out] at HW
  have HF3 := hid hf3'
  clear hr3 hf3 hf3' HCT HF2 HR2
  go_wp2_with fail
  refine HW.out.mono ?_
  rintro e w4 ⟨rfl, F4, hr4, hs4⟩
  obtain ⟨hf4, hl4⟩ := stp_new HF3.out HL2.out hs4
  have hr4' : Rack w4 pb ((PSt.new.cut after).wr D at_ bs) [D.wr (PSt.new.cut after) at_ bs] F4 := hr4
  have HFL := hid (rFlush pb _ _ F4 0 _ w4 hr4' rfl)
  rw [HCA.out.ef, show (D.wr (PSt.new.cut after) at_ bs).db = D.db from rfl] at HFL
  have HF4 := hid hf4
  have HL4 := hid hl4
  clear hr4 hr4' hs4 hf4 hl4 HW HF3 HL2
  go_wp2_with fail
  refine HFL.out.mono ?_
  rintro e w5 ⟨rfl, F5, hr5, hs5⟩
  obtain ⟨hf5, hl5⟩ := stp_new HF4.out HL4.out hs5
  obtain ⟨S5, hS5⟩ : ∃ S, flS ((PSt.new.cut after).wr D at_ bs) (D.wr (PSt.new.cut after) at_ bs) = S := ⟨_, rfl⟩
  obtain ⟨D5, hD5⟩ : ∃ E, flD ((PSt.new.cut after).wr D at_ bs) (D.wr (PSt.new.cut after) at_ bs) = E := ⟨_, rfl⟩
  have hdb : D5.db = D.db := by rw [← hD5, (flD_n _ _).2.2]; rfl
  have hr5' : Rack w5 pb S5 [D5] F5 := by rw [← hS5, ← hD5]; exact hr5
  have HRD5 := hid (rRead pb S5 [D5] F5 0 D5 0 1 w5 hr5' rfl (by omega) (by omega))
  rw [show askE S5 D5 0 1 = fv from by rw [← hS5, ← hD5]; exact HCA.out.er, hdb] at HRD5
  have HO5 : Hid (S5.out = ov ∧ S5.writes = nv) := hid (by rw [← hS5]; exact ⟨HCA.out.eo, HCA.out.en⟩)
  rw [hS5] at HCC
  have HN5 : Hid (D5.n = 8 ∧ D5.failed = false ∧ D5.db = D.db) := hid (by
    obtain ⟨d1, d2, d3⟩ := flD_n ((PSt.new.cut after).wr D at_ bs) (D.wr (PSt.new.cut after) at_ bs)
    rw [← hD5]
    exact ⟨d1.trans HDD.out.1, d2.trans HDD.out.2, d3⟩)
  have HR5 := hid hr5'
  have HF5 := hid hf5
  have HL5 := hid hl5
  clear hr5 hr5' hs5 hf5 hl5 HFL HF4 HL4 hS5 hD5 hdb HCA
  go_wp2_with fail
  refine HRD5.out.mono ?_
  intro e w6 hpost
  obtain ⟨rp, rn, rc, rfl, hf6⟩ := postRd_any hpost
  have HR6 := hid (HR5.out.kept hf6 (by simp))
  have HF6 := hid (HF5.out.trans hf6 (by simp))
  have HON := hid (rOn pb S5 [D5] F5 w6 HR6.out)
  have HWS := hid (rWrites pb S5 [D5] F5 w6 HR6.out)
  rw [HO5.out.1] at HON
  rw [HO5.out.2] at HWS
  have HWT := hid (rWaiting pb S5 [D5] F5 w6 HR6.out)
  have HUP := hid (rUpNil pb S5 [D5] F5 w6 HR6.out)
  clear hpost hf6 HRD5 HR5 HF5
  have hcc := HCC.out
  unfold CutCase at hcc
  rw [HM.out] at hcc
  rcases hcc with ⟨rfl, rfl, rfl, rfl, hbad⟩ | ⟨rfl, rfl, rfl, rfl, g1, g2, g3, g4, g5⟩ | ⟨rfl, rfl, rfl, hnv, g1, g2, g3, g4, g5, g6, g7⟩
  · have HB := hid hbad
    clear hbad HCC
    by_cases h1 : N % 128 = 0
    case neg =>
      have hR0 : (R == 0) = false := by have := HRR.out; simp; omega
      clear h1
      go_wp2_with fail
      refine HON.out.mono ?_
      rintro e wq ⟨rfl, rfl⟩
      go_wp2_with fail
      refine HWS.out.mono ?_
      rintro e wq ⟨rfl, rfl⟩
      go_wp2_with fail
      go_returns
      exact ⟨rfl, HF6.out⟩
    obtain rfl : R = 0 := by have := HRR.out; omega
    by_cases h2 : at_ < 0
    case pos =>
      clear h1
      go_wp2_with fail
      refine HON.out.mono ?_
      rintro e wq ⟨rfl, rfl⟩
      go_wp2_with fail
      refine HWS.out.mono ?_
      rintro e wq ⟨rfl, rfl⟩
      go_wp2_with fail
      go_returns
      exact ⟨rfl, HF6.out⟩
    by_cases h3 : 8 < at_
    case pos =>
      clear h1
      go_wp2_with fail
      refine HON.out.mono ?_
      rintro e wq ⟨rfl, rfl⟩
      go_wp2_with fail
      refine HWS.out.mono ?_
      rintro e wq ⟨rfl, rfl⟩
      go_wp2_with fail
      go_returns
      exact ⟨rfl, HF6.out⟩
    have h4 : decide ((M : Int) ≤ 8 - at_) = false := by have := HB.out; simp; omega
    clear h1
    go_wp2_with fail
    refine HON.out.mono ?_
    rintro e wq ⟨rfl, rfl⟩
    go_wp2_with fail
    refine HWS.out.mono ?_
    rintro e wq ⟨rfl, rfl⟩
    go_wp2_with fail
    go_returns
    exact ⟨rfl, HF6.out⟩
  · obtain rfl : R = 0 := by have := HRR.out; omega
    clear g1 HCC
    by_cases h5 : after < 0
    case pos =>
      clear g5
      go_wp2_with fail
      refine HON.out.mono ?_
      rintro e wq ⟨rfl, rfl⟩
      go_wp2_with fail
      refine HWS.out.mono ?_
      rintro e wq ⟨rfl, rfl⟩
      go_wp2_with fail
      go_returns
      exact ⟨rfl, HF6.out⟩
    have g6 : (M : Int) ≤ after := by omega
    clear g5
    go_wp2_with fail
    refine HON.out.mono ?_
    rintro e wq ⟨rfl, rfl⟩
    go_wp2_with fail
    refine HWS.out.mono ?_
    rintro e wq ⟨rfl, rfl⟩
    go_wp2_with fail
    go_returns
    exact ⟨rfl, HF6.out⟩
  · subst nv
    obtain rfl : R = 0 := by have := HRR.out; omega
    rw [g7] at HWT
    have HB5 : Hid (after < 8 + 1) := hid (by omega)
    clear g1 HCC g7
    go_wp2_with fail
    refine HON.out.mono ?_
    rintro e wq ⟨rfl, rfl⟩
    go_wp2_with fail
    refine HWS.out.mono ?_
    rintro e wq ⟨rfl, rfl⟩
    go_wp2_with fail
    refine HWT.out.mono ?_
    rintro e wq ⟨rfl, rfl⟩
    clear HON HWS HWT
    go_wp2_with fail
    refine HUP.out.mono ?_
    rintro e w7 ⟨rfl, F7, hr7, hs7⟩
    obtain ⟨hf7, hl7⟩ := stp_new HF6.out HL5.out hs7
    have hr7' : Rack w7 pb S5.up [DSt.up S5 [] D5] F7 := hr7
    have HON := hid (rOn pb _ _ F7 w7 hr7')
    obtain ⟨v1, v2⟩ := wr_free (S := S5.up) (D := DSt.up S5 [] D5) (at_ := 0) (m := 0) (bs := []) rfl rfl HN5.out.2.1 rfl (by omega) (by omega)
    have HWE := hid (rWrite pb S5.up [DSt.up S5 [] D5] F7 0 (DSt.up S5 [] D5) 0 none 0 [] w7 hr7' rfl (by omega) ⟨Or.inl rfl, by simp, by simp⟩ (by simp) (by simp) (by
      show S5.writes + ((0 : Nat) : Int) + 16384 < 500000000000
      have := HO5.out.2
      have := HB5.out
      omega))
    rw [show wrE S5.up (DSt.up S5 [] D5) 0 [] = 0 from v1, show (DSt.up S5 [] D5).db = D.db from HN5.out.2.2] at HWE
    have HF7 := hid hf7
    have HL7 := hid hl7
    clear hr7 hr7' hs7 hf7 hl7 v1 v2 HUP HF6 HL5 HR6
    go_wp2_with fail
    refine HON.out.mono ?_
    rintro e wq ⟨rfl, rfl⟩
    go_wp2_with fail
    refine HWE.out.mono ?_
    rintro e w8 ⟨rfl, F8, hr8, hs8⟩
    obtain ⟨hf8, hl8⟩ := stp_new HF7.out HL7.out hs8
    have HF8 := hid hf8
    clear hr8 hs8 hf8 hl8
    go_wp2_with fail
    go_returns
    exact ⟨rfl, HF8.out⟩
end Go.Proofs.Ytfclamndjnoopaa
