/- SpaceWrites, walked. -/
import Derived.Test.YtkbppkimpefilaaSpO
import Derived.Deep.CutBlock
namespace Go.Proofs.Ytkbppkimpefilaa
open Go.RowKit Go.Lib
set_option maxRecDepth 100000

theorem rowE_set : ∀ (l : List Sq) (i : Nat) (z : Sq), i < l.length → (((rowE l).set (i * 3) (.bool z.f)).set (i * 3 + 1) (.int .i64 z.s.a)).set (i * 3 + 2) (.int .i64 z.s.m) = rowE (l.set i z)
  | [], i, z, h => by simp at h
  | y :: l, 0, z, _ => by simp [rowE]
  | y :: l, i + 1, z, h => by
    have ih := rowE_set l i z (by simpa using h)
    rw [show (i + 1) * 3 = i * 3 + 3 by omega]
    simp [rowE] at ih ⊢
    exact ih
/-- One element of a list of one's own, another. -/
theorem OwnE.elem {w : World} {g n c : Nat} {l : List Sq} (h : OwnE w (some ⟨g, 0, none⟩) n c l) {i : Nat} (hi : i < n) (z : Sq) : OwnE (((w.setCell ⟨g, i * 3, none⟩ (.bool z.f)).setCell ⟨g, i * 3 + 1, none⟩ (.int .i64 z.s.a)).setCell ⟨g, i * 3 + 2, none⟩ (.int .i64 z.s.m)) (some ⟨g, 0, none⟩) n c (l.set i z) := by
  obtain ⟨g', C, hgg, hg, hc, hm, hl, ht⟩ := h.block (by omega)
  cases hgg
  have h1 := heap_setCell_same w g (i * 3) _ _ (.bool z.f) hg
  have h2 := heap_setCell_same _ g (i * 3 + 1) _ _ (.int .i64 z.s.a) h1
  have h3 := heap_setCell_same _ g (i * 3 + 2) _ _ (.int .i64 z.s.m) h2
  refine OwnE.of (C := ((C.set (i * 3) (.bool z.f)).set (i * 3 + 1) (.int .i64 z.s.a)).set (i * 3 + 2) (.int .i64 z.s.m)) (by rw [h3]; simp) hc hm (by simp [hl]) ?_ (by simp [h.2])
  rw [← rowE_set l i z (by rw [h.2]; exact hi), ← ht, List.take_set, List.take_set, List.take_set]
set_option maxHeartbeats 25600000 in
theorem spacewrites_any (p : Option Addr) (n c : Nat) (es : List Sq) (w : World) (h : CameE w p n c es) (hmax : n * 24 ≤ 140737488351232) :
    Calls Try.prog 3 #[.slice p n c] w fun e w' => e = .returned (.bool true) ∧ Frm [] w w' := by
  obtain ⟨h1, h2, h3, h4, h5, h6⟩ := h
  have HR := hid (fun W (hf : Frm [] w W) => h1.kept hf (by simp))
  have HN := hid h2
  have HIN := hid h3
  have HAW := hid (awake10_any w)
  have HLE := hid (fun W (hf : Frm [] w W) => lent10_any p n c es W (h1.kept hf (by simp)) h2 h6 hmax)
  clear h1 h2 h3 h6
  go_enter Try.func3, Try.ntmps3
  go_wp2_with fail
  refine HAW.out.mono ?_
  rintro e w1 ⟨rfl, hf1⟩
  have HF1 := hid hf1
  clear hf1 HAW
  go_wp2_with fail
  refine (HLE.out w1 HF1.out).mono ?_
  rintro e w2 ⟨pl, cl, rfl, hl2, hf2, hb2⟩
  have HF2 := hid (HF1.out.trans hf2 (by simp))
  have HL := hid (fun W (hf : Frm [] w2 W) => hl2.kept hf (by simp))
  clear hl2 hf2 hb2 HLE HF1
  obtain ⟨C, hC⟩ : ∃ C, chkE es = C := ⟨_, rfl⟩
  have HCK := hid hC
  obtain ⟨zs, hzs⟩ : ∃ q : List Int, (if C = 0 then spB es else []) = q := ⟨_, rfl⟩
  have HZS := hid hzs
  clear hC hzs
  go_wp2_with fail
  refine (encE_any pl n cl es w2 (HL.out w2 (Frm.refl _ _)).rv HN.out HIN.out (by omega)).mono ?_
  rintro e w3 hh
  obtain ⟨px, nx, cx, rfl, hnx, hrx, hf3⟩ : ∃ px nx cx, e = .returned (.tuple #[.slice px nx cx, .int .i64 C]) ∧ zs.length = nx ∧ Rd w3 px zs ∧ Frm [] w2 w3 := by
    rw [HCK.out] at hh
    rcases hh with ⟨h0, rfl, hf⟩ | ⟨h0, g, rfl, hg, hf, _⟩
    · have e : zs = [] := by rw [← HZS.out, if_neg h0]
      exact ⟨none, 0, 0, rfl, by rw [e]; rfl, by rw [e]; exact Or.inl rfl, hf⟩
    · have e : zs = spB es := by rw [← HZS.out, if_pos h0]
      subst h0
      rw [e]
      exact ⟨_, _, _, rfl, rfl, (own_of_block (E := 5) hg (by have := (chkE_ok.1 HCK.out).1; rw [spB_len]; unfold maxLen; omega)).rd, hf⟩
  have HX := hid (fun W (hf : Frm [] w3 W) => hrx.kept hf (by simp))
  have HNX := hid hnx
  have HF3 := hid hf3
  clear hh hnx hrx hf3
  go_wp2_with fail
  refine (refEncE_any p n c es w3 (HR.out w3 (HF2.out.trans HF3.out (by simp))) HN.out HIN.out (by omega)).mono ?_
  rintro e w4 hh
  obtain ⟨py, ny, cy, rfl, hny, hry, hf4⟩ : ∃ py ny cy, e = .returned (.tuple #[.slice py ny cy, .int .i64 C]) ∧ zs.length = ny ∧ Rd w4 py zs ∧ Frm [] w3 w4 := by
    rw [HCK.out] at hh
    rcases hh with ⟨h0, rfl, hf⟩ | ⟨h0, p1, c1, rfl, hg, hf⟩
    · have e : zs = [] := by rw [← HZS.out, if_neg h0]
      exact ⟨none, 0, 0, rfl, by rw [e]; rfl, by rw [e]; exact Or.inl rfl, hf⟩
    · have e : zs = spB es := by rw [← HZS.out, if_pos h0]
      subst h0
      rw [e]
      exact ⟨_, _, _, rfl, rfl, hg, hf⟩
  have HY := hid (fun W (hf : Frm [] w4 W) => hry.kept hf (by simp))
  have HNY := hid hny
  have HF24 := hid (HF3.out.trans hf4 (by simp))
  have HF34 := hid hf4
  clear hh hny hry hf4 HF3
  go_wp2_with fail
  refine (repE_any pl n cl es w4 (HL.out w4 HF24.out).rv HN.out HIN.out (by omega)).mono ?_
  rintro e w5 ⟨E, r, hc, hf5, hh⟩
  obtain ⟨sv, rfl, hsv⟩ : ∃ sv, e = .returned (.tuple #[sv, .int .i64 E]) ∧ ((E ≠ 0 ∧ sv = .pointer none) ∨ (E = 0 ∧ ∃ sb ps cs, sv = .pointer (some ⟨sb, 0, none⟩) ∧ RSet w5 sb ps cs r ∧ Norm 0 r ∧ r.length ≤ 4096)) := by
    rcases hh with ⟨hE, rfl⟩ | ⟨rfl, sb, ps, cs, rfl, q1, q2, q3, q4⟩
    · exact ⟨_, rfl, Or.inl ⟨hE, rfl⟩⟩
    · exact ⟨_, rfl, Or.inr ⟨rfl, sb, ps, cs, rfl, q1, q2, q3⟩⟩
  have HSV := hid hsv
  have HC := hid hc
  have HF45 := hid hf5
  clear hc hf5 hh hsv
  go_wp2_with fail
  refine (refRepE_any p n c es w5 (HR.out w5 (HF2.out.trans (HF24.out.trans HF45.out (by simp)) (by simp))) HN.out HIN.out (by omega)).mono ?_
  rintro e w6 ⟨E', r', hc, hf6, hh⟩
  obtain ⟨e1, e2⟩ := RRepC.as HC.out hc
  subst e1 e2
  obtain ⟨rv, rfl, hrv⟩ : ∃ rv, e = .returned (.tuple #[rv, .int .i64 E']) ∧ (E' = 0 → ∃ rb pr cr, rv = .pointer (some ⟨rb, 0, none⟩) ∧ RRef w6 rb pr cr r') := by
    rcases hh with ⟨hE, rfl⟩ | ⟨rfl, rb, pr, cr, rfl, q1, q2, q3⟩
    · exact ⟨_, rfl, fun h => absurd h hE⟩
    · exact ⟨_, rfl, fun _ => ⟨rb, pr, cr, rfl, q1⟩⟩
  have HRV := hid hrv
  have HF56 := hid hf6
  have HF26 := hid (HF24.out.trans (HF45.out.trans hf6 (by simp)) (by simp))
  have HF46 := hid (HF45.out.trans hf6 (by simp))
  clear hc hf6 hh hrv HF24 HF45
  go_wp2_with fail
  refine (conE_any pl n cl es w6 (HL.out w6 HF26.out).rv HN.out HIN.out (by omega)).mono ?_
  rintro e w7 ⟨E7, r7, hc, hf7, z1, z2, pc, cc, rfl, z3, z4⟩
  obtain ⟨e1, e2⟩ := HC.out.det hc
  subst e1 e2
  have HF67 := hid hf7
  have HO7 := hid z3
  have HB7 := hid z4
  obtain ⟨L, hL⟩ : ∃ q, r7.length = q := ⟨_, rfl⟩
  rw [hL] at HO7 z2 ⊢
  have HLN := hid hL
  have HZ2 := hid z2
  clear hc hf7 z1 z2 z3 z4 hL
  go_wp2_with fail
  refine (refConE_any p n c es w7 (HR.out w7 (HF2.out.trans (HF26.out.trans HF67.out (by simp)) (by simp))) HN.out HIN.out (by omega)).mono ?_
  rintro e w8 ⟨E8, r8, hc, hf8, pd, cd, rfl, z3, z4⟩
  obtain ⟨e1, e2⟩ := RRepC.as HC.out hc
  subst e1
  have hl8 : r8.length = L := by rw [e2]; exact HLN.out
  rw [hl8] at z3 ⊢
  rw [e2] at z3
  have HO8 := hid z3
  have HB8 := hid z4
  have HO78 := hid (HO7.out.kept hf8 (by simp))
  have HF78 := hid hf8
  have HF28 := hid (HF26.out.trans (HF67.out.trans hf8 (by simp)) (by simp))
  have HF68 := hid (HF67.out.trans hf8 (by simp))
  have HF48 := hid (HF46.out.trans (HF67.out.trans hf8 (by simp)) (by simp))
  have HPD : Hid (∀ k ∈ blk pd, k ∉ blk pc) := hid (fun k hk hm => by have h8 := z4 k hk; have h9 := ownsRow_low HO7.out.1 k hm; omega)
  have HPC : Hid (∀ k ∈ blk pc, w2.heap.size ≤ k ∧ w5.heap.size ≤ k ∧ w6.heap.size ≤ k) := hid (fun k hk => by have h7 := HB7.out k hk; have h8 := HF26.out.size; have h9 := HF56.out.size; exact ⟨by omega, by omega, h7⟩)
  clear hc hf8 z3 z4 hl8 e2 HO7 HF26 HF67 HF46
  go_wp2_with fail
  refine (still10_any pl p n cl c es w8 (HL.out w8 HF28.out) (HR.out w8 (HF2.out.trans HF28.out (by simp))) (by omega)).mono ?_
  rintro e w9 ⟨rfl, hf9⟩
  have HF89 := hid hf9
  clear hf9
  go_wp2_with fail
  refine (same10_any pc pd cc cd (toE r7) L w9 (HO78.out.kept HF89.out (by simp)).rv (HO8.out.kept HF89.out (by simp)).rv HO8.out.2 (by have := HZ2.out; omega)).mono ?_
  rintro e w10 ⟨rfl, hf10⟩
  have HF8A := hid (HF89.out.trans hf10 (by simp))
  have HF2A := hid (HF28.out.trans HF8A.out (by simp))
  have HF4A := hid (HF48.out.trans HF8A.out (by simp))
  have hcv1 := cv_any (P := Try.prog) (w := w10) 25 5 9 Try.underlying25 Try.underlying5 Try.underlying9 (n := nx) (HX.out w10 (HF34.out.trans HF4A.out (by simp))) cx HNX.out
  have hcv2 := cv_any (P := Try.prog) (w := w10) 25 5 9 Try.underlying25 Try.underlying5 Try.underlying9 (n := ny) (HY.out w10 HF4A.out) cy HNY.out
  clear hf10 HF89
  go_upto_region 11 with fail
  go_cut [101] from 63 to 102 (fun s wx => s = .bool false ∧ wx = w10)
  case first =>
    rcases HSV.out with ⟨hE, rfl⟩ | ⟨rfl, sb, ps, cs, rfl, _⟩
    · have hb : (E8 != 0) = true := by simpa using hE
      clear hE
      go_wp2_with fail
      go_meet
      case rel => exact ⟨by first | rfl | simp, rfl⟩
    · go_wp2_with fail
      go_meet
      case rel => exact ⟨by first | rfl | simp, rfl⟩
  obtain ⟨rfl, hwx⟩ := hcut
  have hwx2 := hwx.symm
  clear hwx hcv1 hcv2
  subst hwx2
  have HOC := hid (HO78.out.kept HF8A.out (by simp))
  have hz2 := HZ2.out
  go_wp2_with fail
  go_loopw [19] (fun i wr => ∃ (t : Nat) (ks : List Sq), t ≤ L ∧ i = .int .i64 (t : Int) ∧ Hid (OwnE wr pc L cc ks ∧ Frm (blk pc) w10 wr)) (fun i _ => L - (intOf i).toNat)
  case atStart => exact ⟨0, _, Nat.zero_le _, rfl, hid ⟨HOC.out, Frm.refl _ _⟩⟩
  case round =>
    clear HOC
    obtain ⟨t, ks, ht, rfl, hin⟩ := hrel
    by_cases hlt : t < L
    · have t1 : (t : Int) < (L : Int) := by omega
      obtain ⟨y, hy⟩ : ∃ y, ks[t]? = some y := ⟨_, List.getElem?_eq_getElem (by rw [hin.out.1.2]; exact hlt)⟩
      obtain ⟨g, C', hgg, hg, _, _, _, _⟩ := hin.out.1.block (by omega)
      subst hgg
      obtain ⟨g', o', hg', y0, y1, y2⟩ := rvE_at hin.out.1.rv hy
      cases hg'
      rw [Nat.zero_add] at y0 y1 y2
      have gs1 := heap_setCell_same wr g (t * 3) _ _ (.bool false) hg
      have gs2 := heap_setCell_same _ g (t * 3 + 1) _ _ (.int .i64 (-9)) gs1
      have z0 : wr.frozen? ⟨g, t * 3, none⟩ = false := frozen_of_row _ _ _ _ _ hg
      have z1 : (wr.setCell ⟨g, t * 3, none⟩ (.bool false)).frozen? ⟨g, t * 3 + 1, none⟩ = false := frozen_of_row _ _ _ _ _ gs1
      have z2 : ((wr.setCell ⟨g, t * 3, none⟩ (.bool false)).setCell ⟨g, t * 3 + 1, none⟩ (.int .i64 (-9))).frozen? ⟨g, t * 3 + 2, none⟩ = false := frozen_of_row _ _ _ _ _ gs2
      have z3 : (wr.setCell ⟨g, t * 3, none⟩ (.bool false)).cell? ⟨g, t * 3 + 1, none⟩ = some (.int .i64 y.s.a) := by
        rw [cell_of_row _ _ _ _ _ _ hg] at y1
        rw [cell_of_row _ _ _ _ _ _ gs1]
        simpa using y1
      have z4 : ((wr.setCell ⟨g, t * 3, none⟩ (.bool false)).setCell ⟨g, t * 3 + 1, none⟩ (.int .i64 (-9))).cell? ⟨g, t * 3 + 2, none⟩ = some (.int .i64 y.s.m) := by
        rw [cell_of_row _ _ _ _ _ _ hg] at y2
        rw [cell_of_row _ _ _ _ _ _ gs2]
        simpa using y2
      have HNX2 : Hid (OwnE (((wr.setCell ⟨g, t * 3, none⟩ (.bool false)).setCell ⟨g, t * 3 + 1, none⟩ (.int .i64 (-9))).setCell ⟨g, t * 3 + 2, none⟩ (.int .i64 0)) (some ⟨g, 0, none⟩) L cc (ks.set t ⟨false, ⟨-9, 0⟩⟩) ∧ Frm (blk (some ⟨g, 0, none⟩)) w10 (((wr.setCell ⟨g, t * 3, none⟩ (.bool false)).setCell ⟨g, t * 3 + 1, none⟩ (.int .i64 (-9))).setCell ⟨g, t * 3 + 2, none⟩ (.int .i64 0))) := hid ⟨hin.out.1.elem hlt ⟨false, ⟨-9, 0⟩⟩, ((hin.out.2.setCell _ _ (by simp [blk])).setCell _ _ (by simp [blk])).setCell _ _ (by simp [blk])⟩
      clear hg gs1 gs2 hy
      go_wp2_with fail
      go_roundw
      case rel => exact ⟨t + 1, _, by omega, by go_num, HNX2⟩
      case measure => simp [intOf]; omega
    · obtain rfl : L = t := by omega
      have HFR := hid hin.out.2
      clear hin
      have HF2R : Hid (Frm [] w2 wr) := hid (HF2A.out.trans HFR.out (fun k hk hkl => by have := (HPC.out k hk).1; omega))
      have HF5R : Hid (Frm [] w5 wr) := hid ((HF56.out.trans (HF68.out.trans HF8A.out (by simp)) (by simp)).trans HFR.out (fun k hk hkl => by have := (HPC.out k hk).2.1; omega))
      have HF6R : Hid (Frm [] w6 wr) := hid ((HF68.out.trans HF8A.out (by simp)).trans HFR.out (fun k hk hkl => by have := (HPC.out k hk).2.2; omega))
      have HODR := hid ((HO8.out.kept HF8A.out (by simp)).kept HFR.out HPD.out)
      go_wp2_with fail
      refine (conE_any pl n cl es wr (HL.out wr HF2R.out).rv HN.out HIN.out (by omega)).mono ?_
      rintro e w11 ⟨E9, r9, hc, hf11, _, _, pe, ce, rfl, z3, _⟩
      obtain ⟨e1, e2⟩ := HC.out.det hc
      subst e1
      have hl9 : r9.length = L := by rw [e2]; exact HLN.out
      rw [hl9] at z3 ⊢
      rw [e2] at z3
      have HF11 := hid hf11
      have HSA := hid (same10_any pe pd ce cd (toE r7) L w11 z3.rv (HODR.out.kept hf11 (by simp)).rv z3.2 (by have := HZ2.out; omega))
      clear hc hf11 z3 hl9 e2
      go_wp2_with fail
      refine HSA.out.mono ?_
      rintro e w12 ⟨rfl, hf12⟩
      have HFRC := hid (HF11.out.trans hf12 (by simp))
      have HFF := hid (HF2.out.trans (HF2R.out.trans HFRC.out (by simp)) (by simp))
      clear hf12 HSA HF11
      rcases HSV.out with ⟨hE, rfl⟩ | ⟨rfl, sb, ps, cs, rfl, q1, q2, q3⟩
      · go_wp2_with fail
        first | go_returns | skip
        exact ⟨rfl, HFF.out⟩
      · obtain ⟨rb, pr, cr, rfl, q4⟩ := HRV.out rfl
        have HRR := hid (fun W (hf : Frm [] w12 W) => q4.k0 (HF6R.out.trans (HFRC.out.trans hf (by simp)) (by simp)))
        have HAL := hid (fun W (hf : Frm [] w12 W) => all9_any sb ps cs r7 W (q1.k0 (HF5R.out.trans (HFRC.out.trans hf (by simp)) (by simp))) (by omega))
        rw [HLN.out] at HAL
        have r0 := (HRR.out w12 (Frm.refl _ _)).cell
        rw [HLN.out] at r0
        have HFD : Hid (Frm [] w12 w12.drew) := hid (Frm.refl [] w12).drew
        have HALD := hid (HAL.out w12.drew HFD.out)
        have HQ : Hid (∀ W, Frm [] w12.drew W → OwnS W pr L cr r7) := hid (fun W hf => by have := (HRR.out W (HFD.out.trans hf (by simp))).own; rw [HLN.out] at this; exact this)
        have HLB : Hid (L ≤ 1000000) := hid (by have := HZ2.out; omega)
        have HKS : Hid (∀ W W' : World, (W.cell? ⟨rb, 0, none⟩ = some (.slice pr L cr) ∧ Frm [] w12 W) → Frm [] W W' → (W'.cell? ⟨rb, 0, none⟩ = some (.slice pr L cr) ∧ Frm [] w12 W')) := hid (fun W W' hs hf => ⟨(hf.cell (World.block_lt_of_cell? W _ hs.1) (by simp)).trans hs.1, hs.2.trans hf (by simp)⟩)
        clear q1 q2 q3 q4 HSV HRV
        go_upto_region 21 with fail
        go_region_held3 (fun W => W.cell? ⟨rb, 0, none⟩ = some (.slice pr L cr) ∧ Frm [] w12 W) (first | (exact ⟨r0, HFD.out⟩) | (exact HKS.out _ _ (by assumption) (by assumption))) (first | (with_reducible refine HALD.out.mono ?_; rintro e w13 ⟨p7, c7, rfl, h1, h2, h3⟩; have HSM := hid (same9_any p7 pr c7 cr r7 L w13 h1 (HQ.out w13 h2) HLB.out)) | (with_reducible refine HSM.out.mono ?_; rintro e w14 ⟨rfl, hf14⟩))
        all_goals (
          have hh := (show _ ∧ Frm [] w12 w14 by assumption).2
          have HFG := hid (HFF.out.trans hh (by simp))
          clear hh
          go_wp2_with fail
          first | go_returns | skip
          exact ⟨by first | rfl | simp, HFG.out⟩)
end Go.Proofs.Ytkbppkimpefilaa
