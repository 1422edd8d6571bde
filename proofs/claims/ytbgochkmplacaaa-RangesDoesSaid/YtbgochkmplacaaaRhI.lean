/- The law's alike: a list that is spoiled. -/
import Derived.Test.YtbgochkmplacaaaRhH
namespace Go.Proofs.Ytbgochkmplacaaa
open Go.RowKit Go.Lib
set_option maxRecDepth 100000

theorem rowS_set : ∀ (l : List Sp) (i : Nat) (z : Sp), i < l.length → ((rowS l).set (i * 2) (.int .i64 z.a)).set (i * 2 + 1) (.int .i64 z.m) = rowS (l.set i z)
  | [], i, z, h => by simp at h
  | y :: l, 0, z, _ => by simp [rowS]
  | y :: l, i + 1, z, h => by
    have ih := rowS_set l i z (by simpa using h)
    rw [show (i + 1) * 2 = i * 2 + 2 by omega]
    simp [rowS] at ih ⊢
    exact ih
/-- One element of a list of one's own, another. -/
theorem OwnS.elem {w : World} {g n c : Nat} {l : List Sp} (h : OwnS w (some ⟨g, 0, none⟩) n c l) {i : Nat} (hi : i < n) (z : Sp) : OwnS ((w.setCell ⟨g, i * 2, none⟩ (.int .i64 z.a)).setCell ⟨g, i * 2 + 1, none⟩ (.int .i64 z.m)) (some ⟨g, 0, none⟩) n c (l.set i z) := by
  obtain ⟨g', C, hgg, hg, hc, hm, hl, ht⟩ := h.block (by omega)
  cases hgg
  have h1 := heap_setCell_same w g (i * 2) _ _ (.int .i64 z.a) hg
  have h2 := heap_setCell_same _ g (i * 2 + 1) _ _ (.int .i64 z.m) h1
  refine OwnS.of (C := (C.set (i * 2) (.int .i64 z.a)).set (i * 2 + 1) (.int .i64 z.m)) (by rw [h2]; simp) hc hm (by simp [hl]) ?_ (by simp [h.2])
  rw [← rowS_set l i z (by rw [h.2]; exact hi), ← ht, List.take_set, List.take_set]
set_option maxHeartbeats 6400000 in
theorem alike9_any (sb : Nat) (p : Option Addr) (c rb : Nat) (q : Option Addr) (d : Nat) (l : List Sp) (w : World) (h : RSet w sb p c l) (h2 : RRef w rb q d l) (hN : Norm 0 l) (hl : l.length ≤ 4096) :
    Calls Try.prog 23 #[.pointer (some ⟨sb, 0, none⟩), .pointer (some ⟨rb, 0, none⟩)] w fun e w' => e = .returned (.bool true) ∧ Frm [] w w' := by
  have HS := hid (fun W (hf : Frm [] w W) => h.k0 hf)
  have HRR := hid (fun W (hf : Frm [] w W) => h2.k0 hf)
  have HN := hid hN
  have HAL := hid (fun W (hf : Frm [] w W) => all9_any sb p c l W (h.k0 hf) (by omega))
  obtain ⟨M, hM⟩ : ∃ q, sumM l = q := ⟨_, rfl⟩
  have HMA := hid (fun W (hf : Frm [] w W) => many9_any sb p c l W (h.k0 hf) hN hl)
  have HMR := hid (fun W (hf : Frm [] w W) => rsum_any rb q d l W (h2.k0 hf) hN hl)
  rw [hM] at HMA HMR
  clear hM
  obtain ⟨L, hL⟩ : ∃ q, l.length = q := ⟨_, rfl⟩
  rw [hL] at hl HAL
  have HL := hid hL
  clear h h2 hN hL
  go_enter Try.func23, Try.ntmps23
  go_wp2_with fail
  refine (HAL.out _ (Frm.refl _ _)).mono ?_
  rintro e w2 ⟨p2, c2, rfl, h1, h2, h3⟩
  have r0 := (HRR.out w2 h2).cell
  rw [HL.out] at r0
  have HSAME := hid (fun W (hf : Frm [] w2 W) => same9_any p2 q c2 d l L W (h1.kept hf (by simp)) (by have := (HRR.out W (h2.trans hf (by simp))).own; rw [HL.out] at this; exact this) (by omega))
  have HO2 := hid h1
  have HF2 := hid h2
  have HB2 := hid h3
  clear h1 h2 h3
  go_wp2_with fail
  refine (HSAME.out _ (Frm.refl _ _)).mono ?_
  rintro e w3 ⟨rfl, hf3⟩
  have HO3 := hid (HO2.out.kept hf3 (by simp))
  have HF3 := hid (HF2.out.trans hf3 (by simp))
  clear hf3 HO2 HF2 HSAME r0
  go_wp2_with fail
  go_loopw [7] (fun i wr => ∃ (t : Nat) (ks : List Sp), t ≤ L ∧ i = .int .i64 (t : Int) ∧ Hid (OwnS wr p2 L c2 ks ∧ Frm (blk p2) w3 wr)) (fun i _ => L - (intOf i).toNat)
  case atStart => exact ⟨0, l, Nat.zero_le _, rfl, hid ⟨HO3.out, Frm.refl _ _⟩⟩
  case round =>
    obtain ⟨t, ks, ht, rfl, hin⟩ := hrel
    by_cases hlt : t < L
    · have t1 : (t : Int) < (L : Int) := by omega
      obtain ⟨y, hy⟩ : ∃ y, ks[t]? = some y := ⟨_, List.getElem?_eq_getElem (by rw [hin.out.1.2]; exact hlt)⟩
      obtain ⟨g, hp2, y0, y1⟩ := hin.out.1.at hy
      subst hp2
      obtain ⟨g', C, hgg, hg, hc, hm, hcl, htk⟩ := hin.out.1.block (by omega)
      cases hgg
      have gs := heap_setCell_same wr g (t * 2) _ _ (.int .i64 (-1)) hg
      have z0 : wr.frozen? ⟨g, t * 2, none⟩ = false := frozen_of_row _ _ _ _ _ hg
      have z1 : wr.frozen? ⟨g, t * 2 + 1, none⟩ = false := frozen_of_row _ _ _ _ _ hg
      have z2 : (wr.setCell ⟨g, t * 2, none⟩ (.int .i64 (-1))).frozen? ⟨g, t * 2 + 1, none⟩ = false := frozen_of_row _ _ _ _ _ gs
      have z3 : (wr.setCell ⟨g, t * 2, none⟩ (.int .i64 (-1))).cell? ⟨g, t * 2 + 1, none⟩ = some (.int .i64 y.m) := by
        rw [cell_of_row _ _ _ _ _ _ hg] at y1
        rw [cell_of_row _ _ _ _ _ _ gs]
        simpa using y1
      have HNX : Hid (OwnS ((wr.setCell ⟨g, t * 2, none⟩ (.int .i64 (-1))).setCell ⟨g, t * 2 + 1, none⟩ (.int .i64 (-1))) (some ⟨g, 0, none⟩) L c2 (ks.set t ⟨-1, -1⟩) ∧ Frm (blk (some ⟨g, 0, none⟩)) w3 ((wr.setCell ⟨g, t * 2, none⟩ (.int .i64 (-1))).setCell ⟨g, t * 2 + 1, none⟩ (.int .i64 (-1)))) := hid ⟨hin.out.1.elem hlt ⟨-1, -1⟩, (hin.out.2.setCell _ _ (by simp [blk])).setCell _ _ (by simp [blk])⟩
      clear hg gs hcl htk hy
      go_wp2_with fail
      go_roundw
      case rel => exact ⟨t + 1, ks.set t ⟨-1, -1⟩, by omega, by go_num, HNX⟩
      case measure => simp [intOf]; omega
    · obtain rfl : L = t := by omega
      have HFR : Hid (Frm [] w wr) := hid (HF3.out.trans hin.out.2 (fun k hk hkl => by have := HB2.out k hk; omega))
      have HOW := hid (ownsRow_kept hin.out.1.1 ((Frm.refl [] wr).alloc (.cells #[.int .i64 0, .int .i64 0] 31)) (by simp))
      have HRV := hid (rv_block (heap_alloc_new wr (.cells #[.int .i64 0, .int .i64 0] 31)))
      go_wp2_with (at_builtin; refine wpList_appV rfl _ _ 27 rfl 31 2 16 _ Try.underlying27 infoSp rfl (by decide) p2 L c2 (rowS ks) rfl HOW.out (some ⟨wr.heap.size, 0, none⟩) 1 1 [.int .i64 0, .int .i64 0] rfl rfl (by simp) HRV.out (by intro u hu; simp at hu; rcases hu with rfl | rfl <;> rfl) (by unfold maxLen; omega) (by omega) ?_)
      intro p6 c6 w6 ho6 hf6 hb6
      have HF6 : Hid (Frm [] w w6) := hid ((HFR.out.alloc _).trans hf6.out (fun k hk hkl => by have := HB2.out k hk; omega))
      clear ho6 hf6 hb6
      have r0 := (HRR.out w6 HF6.out).cell
      rw [HL.out] at r0
      have HFD : Hid (Frm [] w6 w6.drew) := hid (Frm.refl [] w6).drew
      have HALD := hid (HAL.out w6.drew (HF6.out.drew))
      have HQ : Hid (∀ W, Frm [] w6.drew W → OwnS W q L d l) := hid (fun W hf => by have := (HRR.out W (HF6.out.drew.trans hf (by simp))).own; rw [HL.out] at this; exact this)
      have HLB : Hid (L ≤ 1000000) := hid (by omega)
      have HKS : Hid (∀ W W' : World, (W.cell? ⟨rb, 0, none⟩ = some (.slice q L d) ∧ Frm [] w6 W) → Frm [] W W' → (W'.cell? ⟨rb, 0, none⟩ = some (.slice q L d) ∧ Frm [] w6 W')) := hid (fun W W' hs hf => ⟨(hf.cell (World.block_lt_of_cell? W _ hs.1) (by simp)).trans hs.1, hs.2.trans hf (by simp)⟩)
      go_upto_region 8 with fail
      go_region_held3 (fun W => W.cell? ⟨rb, 0, none⟩ = some (.slice q L d) ∧ Frm [] w6 W) (first | (exact ⟨r0, HFD.out⟩) | (exact HKS.out _ _ (by assumption) (by assumption))) (first | (with_reducible refine HALD.out.mono ?_; rintro e w7 ⟨p7, c7, rfl, h1, h2, h3⟩; have HSM := hid (same9_any p7 q c7 d l L w7 h1 (HQ.out w7 h2) HLB.out)) | (with_reducible refine HSM.out.mono ?_; rintro e w8 ⟨rfl, hf8⟩))
      all_goals (
        have hh := (show _ ∧ Frm [] w6 w8 by assumption).2
        have HF8 := hid (HF6.out.trans hh (by simp))
        clear hh
        go_wp2_with fail
        refine (HMA.out _ HF8.out).mono ?_
        rintro e w9 ⟨rfl, hf9⟩
        have HF9 := hid (HF8.out.trans hf9 (by simp))
        clear hf9
        go_wp2_with fail
        refine (HMR.out _ HF9.out).mono ?_
        rintro e w10 ⟨rfl, hf10⟩
        have HF10 := hid (HF9.out.trans hf10 (by simp))
        have r1 := (HRR.out w10 HF10.out).cell
        rw [HL.out] at r1
        clear hf10
        go_wp2_with fail
        first | go_returns | skip
        exact ⟨by first | rfl | simp, HF10.out⟩)
end Go.Proofs.Ytbgochkmplacaaa
