/- The law's rack: one call on both, walked. -/
import Derived.Test.YtfclamndjnoopaaDskAp
import Derived.Deep.CutRange
namespace Go.Proofs.Ytfclamndjnoopaa
open Go.RowKit Go.Lib
set_option maxRecDepth 100000

set_option maxHeartbeats 12800000 in
theorem does3_any (W0 : World) (idx : Nat → Nat) (xb pb rb : Nat) (p : Option Addr) (c n : Nat) (b : Int) (w : World) (S : PSt) (Ds : List DSt) (F : List Nat) (φ : Nat → Rl) (H : RHp) (o : OpS) (h : LawD W0 idx xb pb rb p c n b w S Ds F φ H) (hop : OpIn W0 1048576 o) (hb : b + 32768 < 500000000000) :
    Calls Try.prog 22 #[.pointer (some ⟨xb, 0, none⟩), .agg #[.int .i64 o.kind, .int .i64 o.disk, .int .i64 o.at_, .int .i64 o.many, .slice o.p o.bl o.bc, .slice o.sp o.sl o.sc]] w fun e w' => e = .returned (.bool true) ∧ Hid (LawDs W0 idx xb pb rb p c n (b + 16384) w') := by
  have HOP := hid hop
  have hfa : Frm [] w (w.alloc (.cells #[.int .i64 o.kind, .int .i64 o.disk, .int .i64 o.at_, .int .i64 o.many, .slice o.p o.bl o.bc, .slice o.sp o.sl o.sc] 41)) := (Frm.refl _ _).alloc _
  have HB : Hid ((w.alloc (.cells #[.int .i64 o.kind, .int .i64 o.disk, .int .i64 o.at_, .int .i64 o.many, .slice o.p o.bl o.bc, .slice o.sp o.sl o.sc] 41)).heap[w.heap.size]? = some (.cells #[.int .i64 o.kind, .int .i64 o.disk, .int .i64 o.at_, .int .i64 o.many, .slice o.p o.bl o.bc, .slice o.sp o.sl o.sc] 41 (0, 0))) := hid (heap_alloc_new _ _)
  have HL := hid (h.kept hfa)
  have HNF : Hid (w.heap.size ∉ F ∧ φ w.heap.size = .oth 9) := hid ⟨fun hm => by have := h.pr.rk.low _ hm; omega, h.pr.nw _ (Nat.le_refl _)⟩
  obtain ⟨w1, hw1⟩ : ∃ w1, w.alloc (.cells #[.int .i64 o.kind, .int .i64 o.disk, .int .i64 o.at_, .int .i64 o.many, .slice o.p o.bl o.bc, .slice o.sp o.sl o.sc] 41) = w1 := ⟨_, rfl⟩
  obtain ⟨bx, hbx⟩ : ∃ bx, w.heap.size = bx := ⟨_, rfl⟩
  rw [hw1] at HB HL
  rw [hbx] at HB HNF
  have HW1 := hid hw1
  have HBX := hid hbx
  have b0 : w1.cell? ⟨bx, 0, none⟩ = some (.int .i64 o.kind) := by rw [cell_of_row _ _ _ _ _ _ HB.out]; rfl
  have b1 : w1.cell? ⟨bx, 1, none⟩ = some (.int .i64 o.disk) := by rw [cell_of_row _ _ _ _ _ _ HB.out]; rfl
  have b2 : w1.cell? ⟨bx, 2, none⟩ = some (.int .i64 o.at_) := by rw [cell_of_row _ _ _ _ _ _ HB.out]; rfl
  have b3 : w1.cell? ⟨bx, 3, none⟩ = some (.int .i64 o.many) := by rw [cell_of_row _ _ _ _ _ _ HB.out]; rfl
  have b4 : w1.cell? ⟨bx, 4, none⟩ = some (.slice o.p o.bl o.bc) := by rw [cell_of_row _ _ _ _ _ _ HB.out]; rfl
  have b5 : w1.cell? ⟨bx, 5, none⟩ = some (.slice o.sp o.sl o.sc) := by rw [cell_of_row _ _ _ _ _ _ HB.out]; rfl
  obtain ⟨x0, x1, x2⟩ := HL.out.lw.cells
  rw [HL.out.ln] at x1
  have hn6 : n ≤ 6 := by have := HL.out.pr.rf.dl; rw [HL.out.pr.rel.len, HL.out.ln] at this; exact this
  obtain ⟨wk1, wk2⟩ := hop.1
  obtain ⟨wd1, wd2⟩ := hop.2.1
  obtain ⟨kd, hkd⟩ : ∃ k, o.kind = k := ⟨_, rfl⟩
  obtain ⟨dk, hdk⟩ : ∃ k, o.disk = k := ⟨_, rfl⟩
  rw [hkd] at b0 wk1 wk2
  rw [hdk] at b1 wd1 wd2
  clear h hop hfa hw1 hbx hkd hdk
  go_enter Try.func22, Try.ntmps22
  go_upto_region 1 with fail
  rw [HW1.out, HBX.out]
  by_cases hn0 : n = 0
  · subst hn0
    go_wp2_with fail
    go_returns
    exact ⟨rfl, hid ⟨_, _, _, _, _, { HL.out with cw := by have := HL.out.cw; omega }⟩⟩
  have t0 : ((n : Int) == 0) = false := by simp; omega
  have t1 : (0 : Int) < (n : Int) := by omega
  go_upto_region 3 with fail
  go_quiet (fail)
  obtain ⟨w2, hw2⟩ : ∃ W, w1.drewN nq = W := ⟨_, rfl⟩
  have hf12 : Frm [] w1 w2 := by rw [← hw2]; exact (Frm.refl _ _).drewN _
  rw [hw2]
  have kb : ∀ t v, w1.cell? ⟨bx, t, none⟩ = some v → w2.cell? ⟨bx, t, none⟩ = some v := fun t v hv => (hf12.cell (p := ⟨bx, t, none⟩) (World.block_lt_of_cell? w1 _ hv) (by simp)).trans hv
  have e0 := kb _ _ b0
  have e2 := kb _ _ b2
  have e3 := kb _ _ b3
  have e1 := kb _ _ b1
  have e4 := kb _ _ b4
  have e5 := kb _ _ b5
  have HL2 := hid (HL.out.kept hf12)
  obtain ⟨y0, y1, y2⟩ := HL2.out.lw.cells
  rw [HL2.out.ln] at y1
  have HBL : Hid (bx < w2.heap.size) := hid (World.block_lt_of_cell? w2 _ e0)
  have hr1 : dk.tmod (n : Int) < n := Int.tmod_lt_of_pos _ t1
  have hr2 : -(n : Int) < dk.tmod (n : Int) := Int.lt_tmod_of_pos _ t1
  obtain ⟨r, hr⟩ : ∃ r, dk.tmod (n : Int) = r := ⟨_, rfl⟩
  rw [hr] at hr1 hr2 ⊢
  clear kb hr hw2 hf12 b0 b1 b2 b3 b4 b5 x0 x1 x2 HW1 HBX HB t0
  go_upto_if 21 with fail
  go_cut [5] (fun s wx => ∃ i : Nat, i < n ∧ s = .int .i64 (i : Int) ∧ wx = w2)
  case first =>
    by_cases h0 : r < 0
    · go_wp2_with fail
      go_meet
      case rel => exact ⟨(r + n).toNat, by omega, by rw [Int.toNat_of_nonneg (by omega)], rfl⟩
    · go_wp2_with fail
      go_meet
      case rel => exact ⟨r.toNat, by omega, by rw [Int.toNat_of_nonneg (by omega)], rfl⟩
  obtain ⟨i, hi, rfl, rfl⟩ := hcut
  obtain ⟨D, hD⟩ : ∃ D, Ds[i]? = some D := ⟨_, List.getElem?_eq_getElem (by rw [HL2.out.ln]; exact hi)⟩
  obtain ⟨g, hg, y3⟩ := HL2.out.lw.at hD
  subst hg
  have HA : Hid (At W0 idx xb pb rb g c n b wc S Ds F φ H i D bx) := hid ⟨HL2.out, hD, HNF.out.2, HNF.out.1, HBL.out⟩
  obtain ⟨-, -, ha, hm, ⟨bs, hbl, hbr, hbz, hbn, hbc, -⟩, hbM, ⟨hsc, -, st, hsl, hsr⟩, hsM⟩ := HOP.out
  have HBR := hid hbr
  have HBZ := hid hbz
  have HSR := hid hsr
  have HAT := hid ha
  have HMT := hid hm
  have hl1 : bs.length ≤ 140737488355328 := by omega
  have hl2 : st.length ≤ 140737488355328 := by omega
  have t2 : (i : Int) < (n : Int) := by omega
  have HWR := hid (bothWrites_any idx xb pb S Ds F φ H (some ⟨g, 0, none⟩) c i D ⟨0, dk, o.at_, o.many, o.p, o.bl, o.bc, o.sp, o.sl, o.sc⟩ bs wc HL2.out.pr (by rw [HL2.out.er]; exact HL2.out.lw) hD ha (hbr.kept HL2.out.fr (by simp)) hbl hbz hbM hbc hbn (HA.out.arg hbr) (inB_arg hbr hbz HL2.out.fr HA.out.inF).ap (by have := HL2.out.cw; omega) HL2.out.xs)
  have HRD := hid (reads_any idx xb pb S Ds F φ H (some ⟨g, 0, none⟩) c i o.at_ o.many wc HL2.out.pr (by rw [HL2.out.er]; exact HL2.out.lw) (by rw [HL2.out.ln]; exact hi) ha hm)
  have HBM : Hid (bs.length ≤ 1048576) := hid (by omega)
  have hbl' := hid hbl
  have hsl' := hid hsl
  clear hbl hbr hbz hbn hbc hbM hsc hsl hsr hsM ha hm hD wk1 wk2 wd1 wd2 hr1 hr2 HL HNF HBL HOP
  by_cases k0 : kd = 0
  · subst k0
    clear HRD
    go_wp2_with fail
    refine HWR.out.mono ?_
    rintro e w3 ⟨rfl, hadv⟩
    have HF := hid (HL2.out.adv hadv (map_db_set HA.out.d rfl) (b' := b + 16384) (by have := wr_count S D o.at_ bs HBM.out; have := HL2.out.cw; omega))
    clear hadv HWR
    go_wp2_with fail
    go_returns
    exact ⟨rfl, HF⟩
  clear HWR
  by_cases k1 : kd = 1
  · subst k1
    go_wp2_with fail
    refine HRD.out.mono ?_
    rintro e w3 ⟨rfl, hf⟩
    have HF := hid (HL2.out.adv (HL2.out.pr.stay hf) rfl (b' := b + 16384) (by have := HL2.out.cw; omega))
    clear hf HRD
    go_wp2_with fail
    go_returns
    exact ⟨rfl, HF⟩
  clear HRD
  have HS0 : Hid (wc.drew.cell? ⟨xb, 1, none⟩ = some (.slice (some ⟨g, 0, none⟩) n c) ∧ wc.drew.cell? ⟨g, i, none⟩ = some (.pointer (some ⟨D.db, 0, none⟩)) ∧ wc.drew.cell? ⟨xb, 2, none⟩ = some (.pointer (some ⟨rb, 0, none⟩)) ∧ wc.drew.cell? ⟨bx, 2, none⟩ = some (.int .i64 o.at_) ∧ wc.drew.cell? ⟨bx, 4, none⟩ = some (.slice o.p o.bl o.bc)) := hid ⟨y1, y3, y2, e2, e4⟩
  by_cases k2 : kd = 2
  · subst k2
    have HP := hid (HA.out.flushP (Frm.refl [] wc).drew)
    have HQ : Hid (∀ w3, PP wc pb F xb g bx (flS S D) (Ds.set i (flD S D)) w3 → _) := hid (fun w3 p => HA.out.flushR p (Frm.refl [] w3))
    obtain ⟨E, hE⟩ : ∃ E, downE S D = E := ⟨_, rfl⟩
    rw [hE] at HP
    simp only [hE] at HQ
    clear hE
    go_upto_region 12 with fail
    go_region_held3 (fun W => W.cell? ⟨xb, 1, none⟩ = some (.slice (some ⟨g, 0, none⟩) n c) ∧ W.cell? ⟨g, i, none⟩ = some (.pointer (some ⟨D.db, 0, none⟩)) ∧ W.cell? ⟨xb, 2, none⟩ = some (.pointer (some ⟨rb, 0, none⟩))) (first | (with_reducible exact ⟨HS0.out.1, HS0.out.2.1, HS0.out.2.2.1⟩) | (exact ⟨(hq.out.2 _ _ (Or.inl rfl)).trans y1, (hq.out.2 _ _ (Or.inr (Or.inl rfl))).trans y3, (hq.out.2 _ _ (Or.inl rfl)).trans y2⟩) | (exact ⟨(hp.out.2 _ _ (Or.inl rfl)).trans y1, (hp.out.2 _ _ (Or.inr (Or.inl rfl))).trans y3, (hp.out.2 _ _ (Or.inl rfl)).trans y2⟩)) (first | ((with_reducible refine HP.out.mono ?_); rintro e w3 ⟨rfl, hp⟩) | ((with_reducible refine (HQ.out _ hp.out).mono ?_); rintro e w4 ⟨rfl, hq⟩))
    all_goals (
      go_wp2_with fail
      go_returns
      exact ⟨by simp, hid hq.out.1⟩)
  by_cases k3 : kd = 3
  · subst k3
    have HP := hid (HA.out.failP (Frm.refl [] wc))
    clear HS0
    go_wp2_with fail
    refine HP.out.mono ?_
    rintro e w3 ⟨rfl, hp⟩
    have z1 := (hp.out.2 _ _ (Or.inl rfl)).trans y2
    have HQ := hid (HA.out.failR hp.out (Frm.refl [] w3))
    clear HP hp
    go_wp2_with fail
    refine HQ.out.mono ?_
    rintro e w4 ⟨rfl, hq⟩
    clear HQ z1
    go_wp2_with fail
    go_returns
    exact ⟨rfl, hid hq.out.1⟩
  by_cases k4 : kd = 4
  · subst k4
    have HP := hid (HA.out.replaceP (Frm.refl [] wc))
    clear HS0
    go_wp2_with fail
    refine HP.out.mono ?_
    rintro e w3 ⟨rfl, hp⟩
    have z1 := (hp.out.2 _ _ (Or.inl rfl)).trans y2
    have HQ := hid (HA.out.replaceR hp.out (Frm.refl [] w3))
    clear HP hp
    go_wp2_with fail
    refine HQ.out.mono ?_
    rintro e w4 ⟨rfl, hq⟩
    clear HQ z1
    go_wp2_with fail
    go_returns
    exact ⟨rfl, hid hq.out.1⟩
  by_cases k5 : kd = 5
  · subst k5
    have HP := hid (HA.out.corruptP (Frm.refl [] wc).drew o.at_ o.p o.bc bs HAT.out HBR.out HBZ.out hl1)
    have HQ : Hid (∀ w3, PP wc pb F xb g bx (coS S D o.at_ bs) (Ds.set i (coD D o.at_ bs)) w3 → _) := hid (fun w3 p => HA.out.corruptR o.at_ o.p o.bc bs HAT.out HBR.out HBZ.out hl1 p (Frm.refl [] w3))
    obtain ⟨E, hE⟩ : ∃ E, corE D o.at_ bs.length = E := ⟨_, rfl⟩
    rw [hE] at HP
    simp only [hE] at HQ
    rw [hbl'.out] at HP
    simp only [hbl'.out] at HQ
    clear hE
    go_upto_region 20 with fail
    go_region_held3 (fun W => W.cell? ⟨xb, 1, none⟩ = some (.slice (some ⟨g, 0, none⟩) n c) ∧ W.cell? ⟨g, i, none⟩ = some (.pointer (some ⟨D.db, 0, none⟩)) ∧ W.cell? ⟨xb, 2, none⟩ = some (.pointer (some ⟨rb, 0, none⟩)) ∧ W.cell? ⟨bx, 2, none⟩ = some (.int .i64 o.at_) ∧ W.cell? ⟨bx, 4, none⟩ = some (.slice o.p o.bl o.bc)) (first | (with_reducible exact HS0.out) | (exact ⟨(hq.out.2 _ _ (Or.inl rfl)).trans y1, (hq.out.2 _ _ (Or.inr (Or.inl rfl))).trans y3, (hq.out.2 _ _ (Or.inl rfl)).trans y2, (hq.out.2 _ _ (Or.inr (Or.inr rfl))).trans e2, (hq.out.2 _ _ (Or.inr (Or.inr rfl))).trans e4⟩) | (exact ⟨(hp.out.2 _ _ (Or.inl rfl)).trans y1, (hp.out.2 _ _ (Or.inr (Or.inl rfl))).trans y3, (hp.out.2 _ _ (Or.inl rfl)).trans y2, (hp.out.2 _ _ (Or.inr (Or.inr rfl))).trans e2, (hp.out.2 _ _ (Or.inr (Or.inr rfl))).trans e4⟩)) (first | ((with_reducible refine HP.out.mono ?_); rintro e w3 ⟨rfl, hp⟩) | ((with_reducible refine (HQ.out _ hp.out).mono ?_); rintro e w4 ⟨rfl, hq⟩))
    all_goals (
      go_wp2_with fail
      go_returns
      exact ⟨by simp, hid hq.out.1⟩)
  by_cases k6 : kd = 6
  · subst k6
    have HP := hid (HA.out.cutP (Frm.refl [] wc).drew o.many HMT.out)
    have HQ : Hid (∀ w3, PP wc pb F xb g bx _ _ w3 → _) := hid (fun w3 p => HA.out.cutR o.many HMT.out p (Frm.refl [] w3).drew)
    have HS1 : Hid (wc.drew.cell? ⟨xb, 0, none⟩ = some (.pointer (some ⟨pb, 0, none⟩)) ∧ wc.drew.cell? ⟨bx, 3, none⟩ = some (.int .i64 o.many)) := hid ⟨y0, e3⟩
    clear HS0
    go_upto_region 22 with fail
    go_region_held3 (fun W => W.cell? ⟨xb, 0, none⟩ = some (.pointer (some ⟨pb, 0, none⟩)) ∧ W.cell? ⟨bx, 3, none⟩ = some (.int .i64 o.many)) (first | (with_reducible exact HS1.out) | (exact ⟨(hp.out.2 _ _ (Or.inl rfl)).trans y0, (hp.out.2 _ _ (Or.inr (Or.inr rfl))).trans e3⟩)) (((with_reducible refine HP.out.mono ?_); rintro e w3 ⟨rfl, hp⟩))
    all_goals (
      have HQ3 := hid (HQ.out _ hp.out)
      have HS2 : Hid (w3.drew.cell? ⟨xb, 2, none⟩ = some (.pointer (some ⟨rb, 0, none⟩)) ∧ w3.drew.cell? ⟨bx, 3, none⟩ = some (.int .i64 o.many)) := hid ⟨(hp.out.2 _ _ (Or.inl rfl)).trans y2, (hp.out.2 _ _ (Or.inr (Or.inr rfl))).trans e3⟩
      clear HP HQ HS1
      go_upto_region 23 with fail
      go_region_held3 (fun W => W.cell? ⟨xb, 2, none⟩ = some (.pointer (some ⟨rb, 0, none⟩)) ∧ W.cell? ⟨bx, 3, none⟩ = some (.int .i64 o.many)) (first | (with_reducible exact HS2.out) | (exact ⟨(hq.out.2 _ _ (Or.inl rfl)).trans y2, (hq.out.2 _ _ (Or.inr (Or.inr rfl))).trans e3⟩)) (((with_reducible refine HQ3.out.mono ?_); rintro e w4 ⟨rfl, hq⟩))
      all_goals (
        go_wp2_with fail
        go_returns
        exact ⟨rfl, hid hq.out.1⟩))
  by_cases k7 : kd = 7
  · subst k7
    have HP := hid (HA.out.upP (Frm.refl [] wc).drew o.sp st o.sc HSR.out hl2)
    have HQ : Hid (∀ w3, PP wc pb F xb g bx _ _ w3 → _) := hid (fun w3 p => HA.out.upR o.sp st o.sc HSR.out hl2 p (Frm.refl [] w3).drew)
    have HS1 : Hid (wc.drew.cell? ⟨xb, 0, none⟩ = some (.pointer (some ⟨pb, 0, none⟩)) ∧ wc.drew.cell? ⟨bx, 5, none⟩ = some (.slice o.sp o.sl o.sc)) := hid ⟨y0, e5⟩
    rw [hsl'.out] at HP
    simp only [hsl'.out] at HQ
    clear HS0
    go_upto_region 25 with fail
    go_region_held3 (fun W => W.cell? ⟨xb, 0, none⟩ = some (.pointer (some ⟨pb, 0, none⟩)) ∧ W.cell? ⟨bx, 5, none⟩ = some (.slice o.sp o.sl o.sc)) (first | (with_reducible exact HS1.out) | (exact ⟨(hp.out.2 _ _ (Or.inl rfl)).trans y0, (hp.out.2 _ _ (Or.inr (Or.inr rfl))).trans e5⟩)) (((with_reducible refine HP.out.mono ?_); rintro e w3 ⟨rfl, hp⟩))
    all_goals (
      have HQ3 := hid (HQ.out _ hp.out)
      have HS2 : Hid (w3.drew.cell? ⟨xb, 2, none⟩ = some (.pointer (some ⟨rb, 0, none⟩)) ∧ w3.drew.cell? ⟨bx, 5, none⟩ = some (.slice o.sp o.sl o.sc)) := hid ⟨(hp.out.2 _ _ (Or.inl rfl)).trans y2, (hp.out.2 _ _ (Or.inr (Or.inr rfl))).trans e5⟩
      clear HP HQ HS1
      go_upto_region 26 with fail
      go_region_held3 (fun W => W.cell? ⟨xb, 2, none⟩ = some (.pointer (some ⟨rb, 0, none⟩)) ∧ W.cell? ⟨bx, 5, none⟩ = some (.slice o.sp o.sl o.sc)) (first | (with_reducible exact HS2.out) | (exact ⟨(hq.out.2 _ _ (Or.inl rfl)).trans y2, (hq.out.2 _ _ (Or.inr (Or.inr rfl))).trans e5⟩)) (((with_reducible refine HQ3.out.mono ?_); rintro e w4 ⟨rfl, hq⟩))
      all_goals (
        go_wp2_with fail
        go_returns
        exact ⟨rfl, hid hq.out.1⟩))
  have HF := hid (HL2.out.adv (HL2.out.pr.stay (Frm.refl [] wc)) rfl (b' := b + 16384) (by have := HL2.out.cw; omega))
  go_wp2_with fail
  go_returns
  exact ⟨rfl, HF⟩
end Go.Proofs.Ytfclamndjnoopaa
