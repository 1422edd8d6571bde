/- The law's rack, built: walked. -/
import Derived.Test.YtfclamndjnoopaaDskAs
namespace Go.Proofs.Ytfclamndjnoopaa
open Go.RowKit Go.Lib
set_option maxRecDepth 100000

theorem infoPD : (Try.prog.info? 26).map (fun i => (i.zero, i.size, i.bytes)) = some (some (.pointer none), 1, 8) := by kernel_rfl
set_option maxHeartbeats 12800000 in
theorem built_any (W0 : World) (ps : Option Addr) (ns cs : Nat) (w : World) (hf : Frm [] W0 w) (hI : CameI W0 ps ns cs) (hns : ns ≤ 1048576) :
    Calls Try.prog 21 #[.slice ps ns cs] w fun e w' => ∃ xb pb rb n, e = .returned (.tuple #[.pointer (some ⟨xb, 0, none⟩), .bool true]) ∧ Hid (BDs W0 xb pb rb n w') := by
  have HF := hid hf
  have HI := hid hI
  have HN := hid (rNew w)
  have HM := hid (fun w => refNewPower_any w)
  clear hf hI
  go_enter Try.func21, Try.ntmps21
  go_wp2_with fail
  refine HN.out.mono ?_
  rintro e w1 ⟨pb, rfl, hk1, hf1, hl1⟩
  have HK := hid hk1
  have HF1 := hid (HF.out.trans hf1 (by simp))
  have HL : Hid (W0.heap.size ≤ pb ∧ pb < w1.heap.size) := hid ⟨by have := HF.out.size; omega, hk1.low pb (by simp)⟩
  clear hk1 hf1 hl1 HN HF
  go_wp2_with fail
  refine (HM.out w1).mono ?_
  rintro e w2 ⟨rb, rfl, hl2, hf2, hr2⟩
  have HR2 := hid hr2
  have HF2 := hid hf2
  have HL2 := hid hl2
  clear hl2 hf2 hr2 HM
  have HX : Hid ((w2.alloc (.cells #[.pointer (some ⟨pb, 0, none⟩), .slice none 0 0, .pointer (some ⟨rb, 0, none⟩)] 53)).heap[w2.heap.size]? = some (.cells #[.pointer (some ⟨pb, 0, none⟩), .slice none 0 0, .pointer (some ⟨rb, 0, none⟩)] 53 (0, 0))) := hid (heap_alloc_new _ _)
  have HST : Hid (BDs W0 w2.heap.size pb rb 0 (w2.alloc (.cells #[.pointer (some ⟨pb, 0, none⟩), .slice none 0 0, .pointer (some ⟨rb, 0, none⟩)] 53))) := hid (BD.first HK.out HF1.out HL.out.1 (by have := HL.out.2; have := HL2.out; omega) (lt_of_heap HR2.out) (HF2.out.alloc _) HX.out (((Frm.refl [] w2).alloc _).heap HR2.out (by simp)))
  obtain ⟨w3, hw3⟩ : ∃ W, w2.alloc (.cells #[.pointer (some ⟨pb, 0, none⟩), .slice none 0 0, .pointer (some ⟨rb, 0, none⟩)] 53) = W := ⟨_, rfl⟩
  obtain ⟨xb, hxb⟩ : ∃ b, w2.heap.size = b := ⟨_, rfl⟩
  rw [hw3, hxb] at HX HST
  have HW3 := hid hw3
  have HXB := hid hxb
  have c0 : w3.cell? ⟨xb, 0, none⟩ = some (.pointer (some ⟨pb, 0, none⟩)) := by rw [cell_of_row _ _ _ _ _ _ HX.out]; rfl
  clear hw3 hxb
  go_upto_region 2 with fail
  rw [HW3.out, HXB.out]
  go_wp2_with fail
  clear HK HF1 HL HR2 HF2 HL2 HW3 HXB HX c0
  go_loopw [5, 6, 7, 8, 9, 2, 3] (fun t s6 s7 s8 s9 s2 s3 wr => ∃ j n : Nat, j ≤ ns ∧ j ≤ 6 ∧ n ≤ j ∧ t = .int .i64 (j : Int) ∧ Hid (BDs W0 xb pb rb n wr)) (fun t _ _ _ _ _ _ _ => 6 - (intOf t).toNat)
  case atStart => exact ⟨0, 0, Nat.zero_le _, by omega, by omega, rfl, HST⟩
  case round =>
    clear HST
    obtain ⟨j, n, hj, hj6, hnj, rfl, hbd⟩ := hrel
    by_cases hlt : j < ns
    · have t1 : (j : Int) < (ns : Int) := by omega
      by_cases hl6 : j < 6
      · have t2 : (j : Int) < 6 := by omega
        obtain ⟨_, hcap, zs, hzl, hzb, hcell⟩ := HI.out
        obtain ⟨g, o, rfl, hcells⟩ : ∃ g o, ps = some ⟨g, o, none⟩ ∧ ∀ i, i < ns → W0.cell? ⟨g, o + i, none⟩ = some (.int .i64 (zs.getD i 0)) := by
          rcases hcell with h | h
          · omega
          · exact h
        have hcj := hcells j hlt
        obtain ⟨z, hz⟩ : ∃ z, zs.getD j 0 = z := ⟨_, rfl⟩
        have hzr : -9223372036854775808 ≤ z ∧ z ≤ 9223372036854775807 := by
          rw [← hz, List.getD_eq_getElem?_getD, List.getElem?_eq_getElem (by omega)]
          exact hzb _ (List.getElem_mem _)
        rw [hz] at hcj
        obtain ⟨idx, p, c, Ds, F, φ, H, hb⟩ := hbd.out
        have HB := hid hb
        obtain ⟨x0, x1, x2⟩ := hb.l.lw.cells
        rw [hb.l.ln] at x1
        have s0 : wr.cell? ⟨g, o + j, none⟩ = some (.int .i64 z) := (hb.l.fr.cell (p := ⟨g, o + j, none⟩) (World.block_lt_of_cell? W0 _ hcj) (by simp)).trans hcj
        have HBH := hid hbd.out
        have HG : Hid (g < W0.heap.size) := hid (World.block_lt_of_cell? W0 _ hcj)
        clear hcell hcells hcj hz hzb hzl hb hbd
        have HS0 : Hid (wr.drew.cell? ⟨xb, 0, none⟩ = some (.pointer (some ⟨pb, 0, none⟩)) ∧ wr.drew.cell? ⟨g, o + j, none⟩ = some (.int .i64 z)) := hid ⟨x0, s0⟩
        by_cases hgood : 1 ≤ z ∧ z ≤ 8192
        · obtain ⟨hz1, hz2⟩ := hgood
          obtain ⟨m, rfl⟩ : ∃ m : Nat, z = m := ⟨z.toNat, by omega⟩
          have HP := hid (rDisk pb m PSt.new Ds F (by omega) (by omega) wr.drew (HB.out.l.pr.rk.kept (Frm.refl [] wr).drew (by simp)))
          go_upto_region 7 with fail
          go_region_held3 (fun W => W.cell? ⟨xb, 0, none⟩ = some (.pointer (some ⟨pb, 0, none⟩)) ∧ W.cell? ⟨g, o + j, none⟩ = some (.int .i64 (m : Int))) (first | (with_reducible exact HS0.out) | (exact ⟨(hfp.cell (p := ⟨xb, 0, none⟩) (World.block_lt_of_cell? wr.drew _ HS0.out.1) List.not_mem_nil).trans HS0.out.1, (hfp.cell (p := ⟨g, o + j, none⟩) (World.block_lt_of_cell? wr.drew _ HS0.out.2) List.not_mem_nil).trans HS0.out.2⟩)) (((with_reducible refine HP.out.mono ?_); rintro e w4 ⟨D, rfl, hDn, hDf, hDp, hDs, hDb, hDk, hfp⟩))
          have hfr4 : Frm [] wr w4 := (Frm.refl [] wr).drew.trans hfp (by simp)
          have HRN := hid (refNew_any φ H m (by omega) (by omega) w4.drew (HB.out.l.pr.rf.far (T := []) (hfr4.trans (Frm.refl [] w4).drew (by simp)) (by simp)) (by rw [HB.out.l.pr.rel.len, HB.out.l.ln]; omega))
          have z0 : w4.cell? ⟨xb, 2, none⟩ = some (.pointer (some ⟨rb, 0, none⟩)) := (hfr4.cell (p := ⟨xb, 2, none⟩) (World.block_lt_of_cell? wr _ x2) List.not_mem_nil).trans x2
          have z1 : w4.cell? ⟨g, o + j, none⟩ = some (.int .i64 (m : Int)) := (hfr4.cell (p := ⟨g, o + j, none⟩) (World.block_lt_of_cell? wr _ s0) List.not_mem_nil).trans s0
          have HS1 : Hid (w4.drew.cell? ⟨xb, 2, none⟩ = some (.pointer (some ⟨rb, 0, none⟩)) ∧ w4.drew.cell? ⟨g, o + j, none⟩ = some (.int .i64 (m : Int))) := hid ⟨z0, z1⟩
          have HFR4 := hid hfr4
          have HDB : Hid (∀ k ∈ D.blks, wr.heap.size ≤ k) := hid hDb
          have HDK := hid hDk
          have HDN := hid hDn
          have HDF := hid hDf
          have HDP := hid hDp
          clear HP HS0 hfp hDb hDk hDn hDf hDp hDs hfr4 x0 x2 s0
          have HXL : Hid (xb < wr.heap.size) := hid (lt_of_heap HB.out.l.lw.row)
          have HXB2 : Hid (φ xb ≠ .pow ∧ ¬ (φ xb).mut) := hid (by
            obtain ⟨q, hq⟩ := HB.out.o xb (Or.inl rfl)
            rw [hq]; exact ⟨by simp, fun h => h⟩)
          have HKX : Hid (∀ w5, FrR φ w4.drew w5 → ∀ t, w5.cell? ⟨xb, t, none⟩ = w4.cell? ⟨xb, t, none⟩) := hid (fun w5 hf t => by
            have h1 := hf.block xb (by have := HXL.out; have := HFR4.out.size; show xb < w4.heap.size; omega) HXB2.out.2
            unfold World.cell?
            rw [h1]; rfl)
          have HRN2 : Hid (Calls Try.prog 35 #[.pointer (some ⟨rb, 0, none⟩), .int .i64 (m : Int)] w4.drew fun e w' => e = .returned (.tuple #[.int .i64 (H.ds.length : Int), .int .i64 0]) ∧ Hid (∃ H' φ' d, d.failed = false ∧ d.ss.length = m ∧ (∀ s ∈ d.ss, s.bs = List.replicate 128 0) ∧ H' = { H with dp := H'.dp, dc := H'.dc, ds := H.ds ++ [d] } ∧ RStp w4 φ H H' φ' w') ∧ (w'.cell? ⟨xb, 2, none⟩ = some (.pointer (some ⟨rb, 0, none⟩)) ∧ w'.cell? ⟨xb, 1, none⟩ = some (.slice p n c)) ∧ w'.cell? ⟨g, o + j, none⟩ = some (.int .i64 (m : Int))) := hid ((by have h := HRN.out; rw [HB.out.l.er] at h; exact h : Calls Try.prog 35 #[.pointer (some ⟨rb, 0, none⟩), .int .i64 (m : Int)] w4.drew _).mono (by
            rintro e w' ⟨rfl, H', φ', d, d1, d2, d3, d4, d5⟩
            have hff : FrR φ w4.drew w' := d5.f
            refine ⟨rfl, hid ⟨H', φ', d, d1, d2, d3, (by rw [HB.out.l.er]; exact d4), ⟨d5.r, d5.b, d5.x, ⟨d5.f.os, d5.f.tape, d5.f.output, d5.f.size, d5.f.block⟩⟩⟩, ⟨(HKX.out w' hff 2).trans z0, (HKX.out w' hff 1).trans ?_⟩, ?_⟩
            · exact (HFR4.out.cell (p := ⟨xb, 1, none⟩) (World.block_lt_of_cell? wr _ x1) List.not_mem_nil).trans x1
            · have hg : g < W0.heap.size := HG.out
              obtain ⟨q, hq⟩ := HB.out.l.ot g hg
              have h1 := hff.block g (by have := HB.out.l.fr.size; have := HFR4.out.size; show g < w4.heap.size; omega) (by rw [hq]; exact fun h => h)
              have h2 : w'.cell? ⟨g, o + j, none⟩ = w4.cell? ⟨g, o + j, none⟩ := by
                unfold World.cell?
                rw [h1]; rfl
              exact h2.trans z1))
          clear HRN z0 z1 x1 HKX HXB2 HXL
          go_upto_region 8 with fail
          go_region_held3 (fun W => W.cell? ⟨xb, 2, none⟩ = some (.pointer (some ⟨rb, 0, none⟩)) ∧ W.cell? ⟨g, o + j, none⟩ = some (.int .i64 (m : Int))) (first | (with_reducible exact HS1.out) | (exact ⟨k2.1, k3⟩)) (((with_reducible refine HRN2.out.mono ?_); rintro e w5 ⟨rfl, hdoc, k2, k3⟩))
          obtain ⟨LN, hLN⟩ : ∃ q, (H.ds.length : Int) = q := ⟨_, rfl⟩
          rw [hLN]
          clear hLN
          obtain ⟨H', φ', d, d1, d2, d3, d4, d5⟩ := hdoc.out
          have hfm := d5.f.frm
          have hxm : ∀ k, k = xb ∨ k ∈ blk p → k ∉ mutL φ w4.heap.size := fun k hk => by obtain ⟨q, hq⟩ := HB.out.o k hk; exact oth_mut hq
          have hlw5 := (HB.out.l.lw.kept HFR4.out (by simp) (by simp)).kept hfm (hxm xb (Or.inl rfl)) (fun k hk => hxm k (Or.inr hk))
          have hown5 := hlw5.own
          rw [HB.out.l.ln] at hown5
          have HO5 := hid (ownsRow_kept hown5 ((Frm.refl [] w5).alloc (.cells #[.pointer (some ⟨D.db, 0, none⟩)] 26)) (by simp))
          have HRV := hid (rv_block (heap_alloc_new w5 (.cells #[.pointer (some ⟨D.db, 0, none⟩)] 26)))
          have HDOC : Hid (d.failed = false ∧ d.ss.length = D.n ∧ (∀ s ∈ d.ss, s.bs = List.replicate 128 0) ∧ H' = { H with dp := H'.dp, dc := H'.dc, ds := H.ds ++ [d] } ∧ RStp w4 φ H H' φ' w5) := hid ⟨d1, d2.trans HDN.out.symm, d3, d4, d5⟩
          have HROW : Hid ((w5.alloc (.cells #[.pointer (some ⟨D.db, 0, none⟩)] 26)).heap[xb]? = some (.cells #[.pointer (some ⟨pb, 0, none⟩), .slice p Ds.length c, .pointer (some ⟨rb, 0, none⟩)] 53 (0, 0))) := hid (((Frm.refl [] w5).alloc _).heap hlw5.row (by simp))
          have x1' := k2.2
          clear d1 d2 d3 d4 d5 hfm hxm hlw5 hown5 hdoc k2 k3 HS1 HRN2
          go_upto_region 12 with fail
          go_wp2_with (at_builtin; refine wpList_appV rfl _ _ 50 rfl 26 1 8 _ Try.underlying50 infoPD rfl (by decide) p n c (Ds.map (fun D => .pointer (some ⟨D.db, 0, none⟩))) rfl HO5.out (some ⟨w5.heap.size, 0, none⟩) 1 1 [.pointer (some ⟨D.db, 0, none⟩)] rfl rfl (by simp) HRV.out (by intro u hu; simp at hu; subst hu; rfl) (by unfold maxLen; omega) (by omega) ?_)
          intro p2 c2 w6 ho6 hf6 hb6
          have hrow6 := hf6.out.heap HROW.out HB.out.a
          have f6 : w6.frozen? ⟨xb, 1, none⟩ = false := frozen_of_row w6 _ 1 _ _ hrow6
          have c6 : w6.cell? ⟨xb, 1, none⟩ = some (.slice p Ds.length c) := by rw [cell_of_row _ _ _ _ _ _ hrow6]; rfl
          have HN : Hid (BDs W0 xb pb rb (n + 1) (w6.setCell ⟨xb, 1, none⟩ (.slice p2 (n + 1) c2))) := hid (HB.out.more HDK.out HFR4.out HDB.out HDF.out (by rw [HDP.out, HDN.out]) HDOC.out.1 HDOC.out.2.1 HDOC.out.2.2.1 HDOC.out.2.2.2.1 HDOC.out.2.2.2.2 ((Frm.refl [] w5).alloc _) ho6.out hf6.out (fun k hk => by have := hb6.out k hk; simpa using this))
          clear hrow6 ho6 hf6 hb6
          go_wp2_with fail
          go_roundw
          case rel => exact ⟨j + 1, n + 1, by omega, by omega, by omega, by go_num, HN⟩
          case measure => simp [intOf]; omega
        · have hz : (z < 1 ∨ 8192 < z) := by omega
          have HP := hid (newBad_any pb z hzr hz wr.drew)
          go_upto_region 7 with fail
          go_region_held3 (fun W => W.cell? ⟨xb, 0, none⟩ = some (.pointer (some ⟨pb, 0, none⟩)) ∧ W.cell? ⟨g, o + j, none⟩ = some (.int .i64 z)) (first | (with_reducible exact HS0.out)) (((with_reducible refine HP.out.mono ?_); rintro e w4 ⟨rfl, rfl⟩))
          have HS1 : Hid (wr.drew.drew.cell? ⟨xb, 2, none⟩ = some (.pointer (some ⟨rb, 0, none⟩)) ∧ wr.drew.drew.cell? ⟨g, o + j, none⟩ = some (.int .i64 z)) := hid ⟨x2, s0⟩
          have HRN := hid (refNewBad_any (.pointer (some ⟨rb, 0, none⟩)) z hz wr.drew.drew)
          have HN : Hid (BDs W0 xb pb rb n wr.drew.drew) := hid ⟨_, _, _, _, _, _, _, HB.out.kept (Frm.refl [] wr).drew.drew⟩
          clear HP x0 x1 x2 s0
          go_upto_region 8 with fail
          go_region_held3 (fun W => W.cell? ⟨xb, 2, none⟩ = some (.pointer (some ⟨rb, 0, none⟩)) ∧ W.cell? ⟨g, o + j, none⟩ = some (.int .i64 z)) (first | (with_reducible exact HS1.out)) (((with_reducible refine HRN.out.mono ?_); rintro e w5 ⟨rfl, rfl⟩))
          clear HS1 HRN
          go_wp2_with fail
          go_roundw
          case rel => exact ⟨j + 1, n, by omega, by omega, by omega, by go_num, HN⟩
          case measure => simp [intOf]; omega
      · obtain rfl : j = 6 := by omega
        go_wp2_with fail
        go_returns
        exact ⟨xb, pb, rb, n, rfl, hbd⟩
    · obtain rfl : j = ns := by omega
      go_wp2_with fail
      go_returns
      exact ⟨xb, pb, rb, n, rfl, hbd⟩
end Go.Proofs.Ytfclamndjnoopaa
