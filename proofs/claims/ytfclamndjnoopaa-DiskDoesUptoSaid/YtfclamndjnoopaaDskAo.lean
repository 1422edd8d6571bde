/- The law's rack: a Write on both. -/
import Derived.Test.YtfclamndjnoopaaDskAl
import Derived.Test.YtfclamndjnoopaaRowP
import Derived.Lib.Bytes
namespace Go.Proofs.Ytfclamndjnoopaa
open Go.RowKit Go.Lib
set_option maxRecDepth 100000

set_option maxHeartbeats 6400000 in
theorem bothWrites_any (idx : Nat → Nat) (xb pb : Nat) (S : PSt) (Ds : List DSt) (F : List Nat) (φ : Nat → Rl) (H : RHp) (p : Option Addr) (c : Nat) (i : Nat) (D : DSt) (o : OpS) (bs : List Int) (w : World) (h : Pair idx w pb S Ds F φ H) (hl : LawR w xb pb H.rb p c Ds) (hD : Ds[i]? = some D)
    (ha : -9223372036854775808 ≤ o.at_ ∧ o.at_ ≤ 9223372036854775807) (hrd : Rd w o.p bs) (hbl : bs.length = o.bl) (hbz : ∀ z ∈ bs, 0 ≤ z ∧ z < 256) (hbM : o.bl ≤ 1048576) (hbc : o.bl ≤ o.bc) (hbn : bs = [] → o.p = none → o.bc = 0) (hap : bs ≠ [] → ∀ k ∈ blk o.p, ∃ n, φ k = .oth n) (hapF : bs ≠ [] → ∀ k ∈ blk o.p, k ∉ F) (hwr : S.writes + S.ws.length + 32768 < 500000000000) (hx : ∀ k, k = xb ∨ k ∈ blk p → k ∉ both F φ w) :
    Calls Try.prog 36 #[.pointer (some ⟨xb, 0, none⟩), .int .i64 (i : Int), .agg #[.int .i64 o.kind, .int .i64 o.disk, .int .i64 o.at_, .int .i64 o.many, .slice o.p o.bl o.bc, .slice o.sp o.sl o.sc]] w fun e w' => e = .returned (.bool true) ∧ ∃ F' φ' H', H'.rb = H.rb ∧ Pair idx w' pb (S.wr D o.at_ bs) (Ds.set i (D.wr S o.at_ bs)) F' φ' H' ∧ Stp (both F φ w) (both F' φ' w') w w' ∧ ∀ k, k < w.heap.size → φ' k = φ k := by
  have HP := hid h
  have HL := hid hl
  have HD := hid hD
  have HRD := hid hrd
  have HBZ := hid hbz
  have HAP := hid hap
  have HAF := hid hapF
  have HBL := hid hbl
  have hfa : Frm [] w (w.alloc (.cells #[.int .i64 o.kind, .int .i64 o.disk, .int .i64 o.at_, .int .i64 o.many, .slice o.p o.bl o.bc, .slice o.sp o.sl o.sc] 41)) := (Frm.refl _ _).alloc _
  have HFA := hid hfa
  have HB : Hid ((w.alloc (.cells #[.int .i64 o.kind, .int .i64 o.disk, .int .i64 o.at_, .int .i64 o.many, .slice o.p o.bl o.bc, .slice o.sp o.sl o.sc] 41)).heap[w.heap.size]? = some (.cells #[.int .i64 o.kind, .int .i64 o.disk, .int .i64 o.at_, .int .i64 o.many, .slice o.p o.bl o.bc, .slice o.sp o.sl o.sc] 41 (0, 0))) := hid (heap_alloc_new _ _)
  obtain ⟨w1, hw1⟩ : ∃ w1, w.alloc (.cells #[.int .i64 o.kind, .int .i64 o.disk, .int .i64 o.at_, .int .i64 o.many, .slice o.p o.bl o.bc, .slice o.sp o.sl o.sc] 41) = w1 := ⟨_, rfl⟩
  obtain ⟨bx, hbx⟩ : ∃ bx, w.heap.size = bx := ⟨_, rfl⟩
  rw [hw1] at HFA HB
  rw [hbx] at HB
  have HW1 := hid hw1
  have HBX := hid hbx
  have b4 : w1.cell? ⟨bx, 4, none⟩ = some (.slice o.p o.bl o.bc) := by rw [cell_of_row _ _ _ _ _ _ HB.out]; rfl
  clear h hl hD hrd hbl hbz hap hapF hfa hw1 hbx
  go_enter Try.func36, Try.ntmps36
  go_upto_region 1 with fail
  rw [HW1.out, HBX.out]
  go_wp2_with (at_builtin; refine wpList_appB rfl _ _ 22 rfl 5 Try.underlying22 infoB none 0 0 [] rfl rfl (Own.nil _ _) o.p o.bl o.bc bs rfl HBL.out.symm hbn (HRD.out.kept HFA.out (by simp)) (by have := HBL.out; simp; omega) ?_)
  intro ys p2 c2 w2 hys ho2 hf2 hk2
  have hye : ys = bs := by simpa using hys.out
  have hf2' := hf2.out
  rw [blk_none] at hf2'
  have hf02 : Frm [] w w2 := HFA.out.trans hf2' (by simp)
  have ho2' := ho2.out
  rw [hye] at ho2' ⊢
  have hk2' : ∀ k ∈ blk p2, w1.heap.size ≤ k := fun k hk => (hk2.out k hk).resolve_left (by simp [blk])
  have hp2 := (HP.out.kept hf02 (by simp) (by simp)).1
  have hl2 := HL.out.kept hf02 (by simp) (by simp)
  obtain ⟨x0, x1, x2⟩ := hl2.cells
  obtain ⟨g, hg, y0⟩ := hl2.at HD.out
  have hilt : i < Ds.length := (List.getElem?_eq_some_iff.1 HD.out).1
  have hd6 : Ds.length ≤ 6 := by have := hp2.rf.dl; rw [hp2.rel.len] at this; exact this
  have hbr := hf2'.heap HB.out (by simp)
  have b2 : w2.cell? ⟨bx, 2, none⟩ = some (.int .i64 o.at_) := by rw [cell_of_row _ _ _ _ _ _ hbr]; rfl
  have hcc2 : bs.length ≤ c2 := by
    obtain ⟨p', c', he, h1, _⟩ := ho2'.shape
    simp only [Value.slice.injEq, true_and] at he
    obtain ⟨_, rfl⟩ := he
    exact h1
  have hin : InB w2.drew F p2 bs := ⟨ho2'.rd.drew, HBZ.out, fun _ k hk hF => by
    have h1 := HP.out.rk.low k hF
    have h2 := hk2' k hk
    have h3 := HFA.out.size
    omega⟩
  have hWR := rWrite pb S Ds F i D o.at_ p2 c2 bs w2.drew (hp2.rk.kept (Frm.refl [] w2).drew (by simp)) HD.out ha hin hcc2 (by have := HBL.out; omega) (by omega)
  obtain ⟨M, hM⟩ : ∃ n, Ds.length = n := ⟨_, rfl⟩
  rw [hM, hg] at x1
  rw [hM] at hilt hd6
  have hi2 : (i : Int) < (M : Int) := by omega
  have hxF : xb ∉ F ∧ g ∉ F ∧ bx ∉ F := ⟨fun hm => hx xb (Or.inl rfl) (List.mem_append_left _ hm), fun hm => hx g (Or.inr (by rw [hg]; simp [blk])) (List.mem_append_left _ hm), fun hm => by have h1 := HP.out.rk.low bx hm; rw [HBX.out] at h1; omega⟩
  have HWR : Hid (Calls Try.prog 11 #[.pointer (some ⟨D.db, 0, none⟩), .int .i64 o.at_, .slice p2 bs.length c2] w2.drew fun e w' => e = .returned (.int .i64 (wrE S D o.at_ bs)) ∧ Hid (Left w2 pb F (S.wr D o.at_ bs) (Ds.set i (D.wr S o.at_ bs)) w') ∧ w'.cell? ⟨xb, 1, none⟩ = some (.slice (some ⟨g, 0, none⟩) M c) ∧ w'.cell? ⟨g, i, none⟩ = some (.pointer (some ⟨D.db, 0, none⟩)) ∧ w'.cell? ⟨bx, 2, none⟩ = some (.int .i64 o.at_)) := hid (hWR.mono (by
    rintro e w' ⟨rfl, F', l1, l2⟩
    have hf : Frm F w2 w' := (Frm.refl F w2).drew.trans l2.fr (fun k hk _ => hk)
    exact ⟨rfl, hid ⟨F', l1, hf, l2.nb⟩, (hf.cell (p := ⟨xb, 1, none⟩) (World.block_lt_of_cell? w2 _ x1) hxF.1).trans x1, (hf.cell (p := ⟨g, i, none⟩) (World.block_lt_of_cell? w2 _ y0) hxF.2.1).trans y0, (hf.cell (p := ⟨bx, 2, none⟩) (World.block_lt_of_cell? w2 _ b2) hxF.2.2).trans b2⟩))
  have HS0 : Hid (w2.drew.cell? ⟨xb, 1, none⟩ = some (.slice (some ⟨g, 0, none⟩) M c) ∧ w2.drew.cell? ⟨g, i, none⟩ = some (.pointer (some ⟨D.db, 0, none⟩)) ∧ w2.drew.cell? ⟨bx, 2, none⟩ = some (.int .i64 o.at_)) := hid ⟨x1, y0, b2⟩
  go_upto_region 2 with fail
  go_region_held3 (fun W => W.cell? ⟨xb, 1, none⟩ = some (.slice (some ⟨g, 0, none⟩) M c) ∧ W.cell? ⟨g, i, none⟩ = some (.pointer (some ⟨D.db, 0, none⟩)) ∧ W.cell? ⟨bx, 2, none⟩ = some (.int .i64 o.at_)) (first | (with_reducible exact HS0.out) | (exact ⟨k0, k1, k2⟩)) (((with_reducible refine HWR.out.mono ?_); rintro e w3 ⟨rfl, hlf, k0, k1, k2⟩))
  obtain ⟨F', hk3, hr3, hap3, hst3⟩ := hp2.prog hlf.out
  have hf23 : Frm F w2 w3 := hst3.fr
  have hF2 : ∀ k ∈ blk p2, k ∉ F := fun k hk hF => by
    have h1 := HP.out.rk.low k hF
    have h2 := hk2' k hk
    have h3 := HFA.out.size
    omega
  have HO3 : Hid (Own w3 5 (.slice p2 bs.length c2) bs) := hid (ownsRow_kept ho2' hf23 hF2)
  have b4' : w3.cell? ⟨bx, 4, none⟩ = some (.slice o.p o.bl o.bc) := by
    have hb2 : w2.cell? ⟨bx, 4, none⟩ = some (.slice o.p o.bl o.bc) := by rw [cell_of_row _ _ _ _ _ _ hbr]; rfl
    exact (hf23.cell (p := ⟨bx, 4, none⟩) (World.block_lt_of_cell? w2 _ hb2) hxF.2.2).trans hb2
  have x2' : w3.cell? ⟨xb, 2, none⟩ = some (.pointer (some ⟨H.rb, 0, none⟩)) := (hf23.cell (p := ⟨xb, 2, none⟩) (World.block_lt_of_cell? w2 _ x2) hxF.1).trans x2
  have hrd3 : Rd w3 o.p bs := by
    rcases (HRD.out.kept hf02 (by simp)) with h0 | ⟨g', o', he, hc⟩
    · exact Or.inl h0
    · by_cases hne : bs = []
      · exact Or.inl hne
      · refine Or.inr ⟨g', o', he, fun t ht => ?_⟩
        exact (hf23.cell (p := ⟨g', o' + t, none⟩) (World.block_lt_of_cell? w2 _ (hc t ht)) (HAF.out hne g' (by rw [he]; simp [blk]))).trans (hc t ht)
  have hcv1 := cv_any (P := Try.prog) (w := w3) 22 5 9 Try.underlying22 Try.underlying5 Try.underlying9 HO3.out.rd c2 rfl
  have hcv2 := cv_any (P := Try.prog) (w := w3) 22 5 9 Try.underlying22 Try.underlying5 Try.underlying9 hrd3 o.bc HBL.out
  obtain ⟨S0, hS0⟩ : ∃ s, strOfNums bs = s := ⟨_, rfl⟩
  rw [hS0] at hcv1 hcv2
  clear hS0 HWR HS0 hWR x0 x1 y0
  have HK2 : Hid (∀ k ∈ blk p2, w1.heap.size ≤ k) := hid hk2'
  obtain ⟨N, hN⟩ : ∃ n, bs.length = n := ⟨_, rfl⟩
  rw [hN] at HO3 hcv1 ⊢
  have HN := hid hN
  have hNb : N ≤ 1048576 := by have := HBL.out; omega
  go_wp2_with fail
  clear hcv1 hcv2
  go_loopw [10] (fun t wr => ∃ (j : Nat) (zs : List Int), j ≤ N ∧ t = .int .i64 (j : Int) ∧ Hid (zs.length = N) ∧ Hid (Own wr 5 (.slice p2 N c2) zs) ∧ Hid (Frm (blk p2) w3 wr)) (fun t _ => N - (intOf t).toNat)
  case atStart => exact ⟨0, bs, Nat.zero_le _, rfl, HN, HO3, hid (Frm.refl _ _)⟩
  case round =>
    obtain ⟨j, zs, hj, rfl, hzl, hoz, hf⟩ := hrel
    by_cases hlt : j < N
    · obtain ⟨g2, hp, hg2, hc2, hfz2, hset⟩ := hoz.out.setAt hzl.out hlt
      have HSET := hid hset
      have HF2 : Hid (∀ u : Value, Frm (blk p2) w3 (wr.setCell ⟨g2, j, none⟩ u)) := hid (fun u => hf.out.setCell _ _ (fun _ => by rw [hp]; simp [blk]))
      subst hp
      clear hset hr3 hk3 hst3 hf23 hlf hp2 hl2 ho2' hrd3
      go_wp2_with fail
      go_roundw
      case rel => exact ⟨j + 1, zs.set j _, by omega, by go_num, hid (by rw [List.length_set]; exact hzl.out), hid (HSET.out _), hid (HF2.out _)⟩
      case measure => first | (simp [intOf]; done) | (simp [intOf]; omega)
    · obtain rfl : j = N := by omega
      have hlow2 : ∀ k ∈ blk p2, k < w2.heap.size := ownsRow_low ho2'
      have hnF : ∀ k ∈ F', k ∉ blk p2 := fun k hk hp => (hst3.nb k hk).elim (fun h => hF2 k hp h) (fun h => by have := hlow2 k hp; omega)
      have hs1 := HFA.out.size
      have hs2 := hf2'.size
      have hs3 := hf23.size
      have hrk := hk3.kept hf.out hnF
      have hrf := hr3.far hf.out (fun k hk => ⟨9, HP.out.nw k (by have := HK2.out k hk; omega)⟩)
      have hfw : Frm F w wr := ((hf02.mono (by simp)).trans hf23 (fun k hk _ => hk)).trans hf.out (fun k hk hkl => by have := HK2.out k hk; omega)
      have hst : Stp F F' w wr := ⟨hfw, fun k hk => (hst3.nb k hk).imp id (fun h => by omega)⟩
      have hrdr : Rd wr o.p bs := by
        rcases HRD.out with h0 | ⟨g', o', he, hc⟩
        · exact Or.inl h0
        · by_cases hne : bs = []
          · exact Or.inl hne
          · refine Or.inr ⟨g', o', he, fun t ht => ?_⟩
            exact (hfw.cell (p := ⟨g', o' + t, none⟩) (World.block_lt_of_cell? w _ (hc t ht)) (HAF.out hne g' (by rw [he]; simp [blk]))).trans (hc t ht)
      obtain ⟨q, cq, hkw, _⟩ := HP.out.rk
      have hRW := refWriteR hkw HP.out.rel φ i D o.at_ o.p o.bc bs wr.drew (hrf.far (Frm.refl [] wr).drew (by simp)) HD.out ha hrdr.drew HBZ.out HAP.out (by rw [HBL.out]; exact hbc) (by rw [HBL.out]; omega) hwr
      rw [HBL.out] at hRW
      have b2' : w3.cell? ⟨bx, 2, none⟩ = some (.int .i64 o.at_) := k2
      have hb3 : bx ∉ blk p2 := fun hm => by have h1 := HK2.out bx hm; have h2 := HB.out; have h3 := lt_of_heap h2; omega
      have hxlt : xb < w.heap.size := lt_of_heap HL.out.row
      have hx2 : xb ∉ blk p2 := fun hm => by have h1 := HK2.out xb hm; omega
      have y2 : wr.cell? ⟨xb, 2, none⟩ = some (.pointer (some ⟨H.rb, 0, none⟩)) := (hf.out.cell (p := ⟨xb, 2, none⟩) (World.block_lt_of_cell? w3 _ x2') hx2).trans x2'
      have y3 : wr.cell? ⟨bx, 2, none⟩ = some (.int .i64 o.at_) := (hf.out.cell (p := ⟨bx, 2, none⟩) (World.block_lt_of_cell? w3 _ b2') hb3).trans b2'
      have y4 : wr.cell? ⟨bx, 4, none⟩ = some (.slice o.p o.bl o.bc) := (hf.out.cell (p := ⟨bx, 4, none⟩) (World.block_lt_of_cell? w3 _ b4') hb3).trans b4'
      have hxm : ∀ n, xb ∉ mutL φ n := fun n hm => hx xb (Or.inl rfl) (List.mem_append_right _ (mem_mutL.2 ⟨hxlt, (mem_mutL.1 hm).2⟩))
      have hbm : ∀ n, bx ∉ mutL φ n := fun n => oth_mut (HP.out.nw bx (by rw [HBX.out]; exact Nat.le_refl _))
      have HRW : Hid (Calls Try.prog 47 #[.pointer (some ⟨H.rb, 0, none⟩), .int .i64 (i : Int), .int .i64 o.at_, .slice o.p o.bl o.bc] wr.drew fun e w' => e = .returned (.int .i64 (wrE S D o.at_ bs)) ∧ Hid (∃ F' φ' H', H'.rb = H.rb ∧ Pair idx w' pb (S.wr D o.at_ bs) (Ds.set i (D.wr S o.at_ bs)) F' φ' H' ∧ Stp (both F φ w) (both F' φ' w') w w' ∧ ∀ k, k < w.heap.size → φ' k = φ k) ∧ w'.cell? ⟨xb, 2, none⟩ = some (.pointer (some ⟨H.rb, 0, none⟩)) ∧ w'.cell? ⟨bx, 2, none⟩ = some (.int .i64 o.at_) ∧ w'.cell? ⟨bx, 4, none⟩ = some (.slice o.p o.bl o.bc)) := hid (hRW.mono (by
        rintro e w' ⟨rfl, H', φ', hs, hrel⟩
        have hs' : RStp wr φ H H' φ' w' := ⟨hs.r, hs.b, hs.x, ⟨hs.f.os, hs.f.tape, hs.f.output, hs.f.size, hs.f.block⟩⟩
        have hfm := hs'.f.frm
        obtain ⟨d1, d2⟩ := Pair.doc hrk hap3 hst hs' hrel
        exact ⟨rfl, hid ⟨_, _, H', hs.b, d1, d2, fun k hk => by rw [cutφ_old (by have := d2.fr.size; omega)]; exact hs'.x k (by have := hfw.size; omega)⟩, (hfm.cell (p := ⟨xb, 2, none⟩) (World.block_lt_of_cell? wr _ y2) (hxm _)).trans y2, (hfm.cell (p := ⟨bx, 2, none⟩) (World.block_lt_of_cell? wr _ y3) (hbm _)).trans y3, (hfm.cell (p := ⟨bx, 4, none⟩) (World.block_lt_of_cell? wr _ y4) (hbm _)).trans y4⟩))
      have HS0 : Hid (wr.drew.cell? ⟨xb, 2, none⟩ = some (.pointer (some ⟨H.rb, 0, none⟩)) ∧ wr.drew.cell? ⟨bx, 2, none⟩ = some (.int .i64 o.at_) ∧ wr.drew.cell? ⟨bx, 4, none⟩ = some (.slice o.p o.bl o.bc)) := hid ⟨y2, y3, y4⟩
      clear hr3 hk3 hst3 hf23 hlf hp2 hl2 ho2' hrd3 hrk hrf hfw hst hrdr hRW hkw hxm hbm hnF hlow2 y2 y3 y4 k0 k1 k2 b4 b4' x2' b2' b2 x2
      go_upto_region 8 with fail
      go_region_held3 (fun W => W.cell? ⟨xb, 2, none⟩ = some (.pointer (some ⟨H.rb, 0, none⟩)) ∧ W.cell? ⟨bx, 2, none⟩ = some (.int .i64 o.at_) ∧ W.cell? ⟨bx, 4, none⟩ = some (.slice o.p o.bl o.bc)) (first | (with_reducible exact HS0.out) | (exact ⟨z0, z1, z2⟩)) (((with_reducible refine HRW.out.mono ?_); rintro e w4 ⟨rfl, hfin, z0, z1, z2⟩))
      all_goals (
        go_wp2_with fail
        go_returns
        exact ⟨by simp, hfin.out⟩)
end Go.Proofs.Ytfclamndjnoopaa
