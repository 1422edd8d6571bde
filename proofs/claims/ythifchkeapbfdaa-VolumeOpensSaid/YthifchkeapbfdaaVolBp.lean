/- The document's Open, of cells whose head tells a volume's size. -/
import Derived.Test.YthifchkeapbfdaaVolBo
namespace Go.Proofs.Ythifchkeapbfdaa
open Go.RowKit
set_option maxRecDepth 100000

set_option maxHeartbeats 6400000 in
theorem refOpen_ok (W0 w : World) (pp : Option Addr) (n pc : Nat) (xs : List GCell) (hc : CameG W0 pp n pc xs) (hW : Frm [] W0 w) (h0 : 0 < xs.length) (S : Nat) (hS2 : S < 4294967296) (hS : le S 4 = (xs[0]).zs) (l1 : 256 ≤ S) (l2 : S ≤ 16384) (l3 : S % 256 = 0) :
    Calls Try.prog 13 #[.slice pp n pc] w (PostRO xs w) := by
  have HL3 := hid l3
  clear l3
  have HC := hid hc
  have HW := hid hW
  obtain ⟨z0, z1, z2, z3, hz, m0, m1, m2, m3, hsum⟩ := four_sum hS2 hS
  have hn1 : 0 < n := by rw [← hc.1]; exact h0
  obtain ⟨g, o, rfl, hat⟩ : ∃ g o, pp = some ⟨g, o, none⟩ ∧ ∀ i (h : i < xs.length), GAt W0 g (o + i * 4) xs[i] := by
    rcases hc.2.2.2.2.1 with h | h
    · omega
    · exact h
  have hat0 := hat 0 h0
  rw [Nat.zero_mul, Nat.add_zero] at hat0
  have hrd : Rd W0 (xs[0]).p (xs[0]).zs := (hc.2.2.2.2.2 _ (List.getElem_mem h0)).2.2.2.1
  obtain ⟨g2, o2, hp2, hcl⟩ : ∃ g2 o2, (xs[0]).p = some ⟨g2, o2, none⟩ ∧ ∀ w', Frm [] w w' → w'.cell? ⟨g, o + 3, none⟩ = some (.slice (some ⟨g2, o2, none⟩) 4 (xs[0]).c) ∧ w'.cell? ⟨g2, o2, none⟩ = some (.int .u8 z0) ∧ w'.cell? ⟨g2, o2 + 1, none⟩ = some (.int .u8 z1) ∧ w'.cell? ⟨g2, o2 + 2, none⟩ = some (.int .u8 z2) ∧ w'.cell? ⟨g2, o2 + 3, none⟩ = some (.int .u8 z3) := by
    rw [hz] at hrd
    rcases hrd with h | ⟨g2, o2, e1, e2⟩
    · simp at h
    · refine ⟨g2, o2, e1, fun w' hf => ?_⟩
      have q := (hat0.kept (hW.trans hf (by simp))).2.2.2
      rw [hz, e1] at q
      have hfr := hW.trans hf (by simp)
      have r : ∀ j (hj : j < 4), w'.cell? ⟨g2, o2 + j, none⟩ = W0.cell? ⟨g2, o2 + j, none⟩ := fun j hj =>
        hfr.cell (p := ⟨g2, o2 + j, none⟩) (World.block_lt_of_cell? W0 _ (e2 j hj)) (by simp)
      exact ⟨q, (r 0 (by omega)).trans (e2 0 (by simp)), (r 1 (by omega)).trans (e2 1 (by simp)), (r 2 (by omega)).trans (e2 2 (by simp)), (r 3 (by omega)).trans (e2 3 (by simp))⟩
  have HCL := hid hcl
  have HH : Hid (∃ h : 0 < xs.length, le S 4 = (xs[0]).zs) := hid ⟨h0, hS⟩
  have HOK : Hid (∀ x ∈ xs, GOk W0 x) := hid hc.2.2.2.2.2
  have HAT := hid hat
  have HLN := hid hc.1
  have hnb := hc.2.2.2.1
  obtain ⟨s, hs⟩ : ∃ s : Int, (S : Int) = s := ⟨_, rfl⟩
  rw [hs] at hsum
  have HSE := hid hs
  have hs2 : 0 ≤ s ∧ s < 4294967296 := by omega
  clear hcl hat hat0 hrd hc hW hS hz hp2 hs
  generalize (xs[0]).c = cz at HCL
  have hy1 : IntKind.i64.wrap (256 * z3) = 256 * z3 := IntWalk.i64_in _ (by omega)
  have hy2 : IntKind.i64.wrap (z2 + 256 * z3) = z2 + 256 * z3 := IntWalk.i64_in _ (by omega)
  have hy3 : IntKind.i64.wrap (256 * (z2 + 256 * z3)) = 256 * (z2 + 256 * z3) := IntWalk.i64_in _ (by omega)
  have hy4 : IntKind.i64.wrap (z1 + 256 * (z2 + 256 * z3)) = z1 + 256 * (z2 + 256 * z3) := IntWalk.i64_in _ (by omega)
  have hy5 : IntKind.i64.wrap (256 * (z1 + 256 * (z2 + 256 * z3))) = 256 * (z1 + 256 * (z2 + 256 * z3)) := IntWalk.i64_in _ (by omega)
  have hy6 : IntKind.i64.wrap (z0 + 256 * (z1 + 256 * (z2 + 256 * z3))) = s := by rw [hsum]; exact IntWalk.i64_in _ (by omega)
  have b0 : (0 : Int) < (n : Int) := by omega
  have b1 : ¬ (n : Int) < 1 := by omega
  have hX : IntKind.i64.wrap (IntKind.i64.wrap z0 + IntKind.i64.wrap (256 * IntKind.i64.wrap (IntKind.i64.wrap z1 + IntKind.i64.wrap (256 * IntKind.i64.wrap (IntKind.i64.wrap z2 + IntKind.i64.wrap (256 * IntKind.i64.wrap z3)))))) = s := by
    rw [IntWalk.i64_in z0 (by omega), IntWalk.i64_in z1 (by omega), IntWalk.i64_in z2 (by omega), IntWalk.i64_in z3 (by omega), hy1, hy2, hy3, hy4, hy5, hy6]
  have HX := hid hX
  clear hsum hX hy1 hy2 hy3 hy4 hy5 hy6
  go_enter Try.func13, Try.ntmps13
  go_wp2_with fail
  refine (content_any W0 w (some ⟨g, o, none⟩) n pc xs HC.out HW.out).mono ?_
  rintro e w1 ⟨hf1, h⟩
  have HF1 := hid hf1
  have HREJ : Hid (∀ w', (∀ bs, ¬ Opens xs bs) → Frm [] w w' → PostRO xs w (.returned (.tuple #[.pointer none, .int .i64 190])) w') := hid (fun w' q1 q2 => ⟨q2, Or.inr ⟨rfl, q1⟩⟩)
  obtain ⟨k3, c0, c1, c2, c3⟩ := HCL.out w1 hf1
  rcases h with ⟨rfl, hxn, hxb⟩ | ⟨rfl, hno⟩
  · have HXB := hid hxb
    have hnn : n ≤ 240 := by rw [← HLN.out]; exact hxn
    have HRB : Hid (Calls Try.prog 7 #[.int .i64 (IntKind.i64.wrap (IntKind.i64.wrap z0 + IntKind.i64.wrap (256 * IntKind.i64.wrap (IntKind.i64.wrap z1 + IntKind.i64.wrap (256 * IntKind.i64.wrap (IntKind.i64.wrap z2 + IntKind.i64.wrap (256 * IntKind.i64.wrap z3)))))))] w1.drew fun e w' => ∃ b g, e = .returned (.tuple #[.pointer (some ⟨b, 0, none⟩), .int .i64 0]) ∧ IsRefV w' b g (List.replicate S 0) ∧ Frm [] w1.drew w' ∧ w1.drew.heap.size ≤ b ∧ w1.drew.heap.size ≤ g) := hid (by
      rw [HX.out, ← HSE.out]
      exact refVNew_ok S l1 l2 HL3.out w1.drew)
    have lk : g2 < w1.heap.size := World.block_lt_of_cell? w1 _ c0
    have n0 : ∀ x : Nat, x ∉ ([] : List Nat) := fun _ => List.not_mem_nil
    clear HX hxb hf1
    go_wp2_with fail
    go_region_held3 (fun w' => w'.cell? ⟨g2, o2, none⟩ = some (.int .u8 z0) ∧ w'.cell? ⟨g2, o2 + 1, none⟩ = some (.int .u8 z1) ∧ w'.cell? ⟨g2, o2 + 2, none⟩ = some (.int .u8 z2) ∧ w'.cell? ⟨g2, o2 + 3, none⟩ = some (.int .u8 z3)) (first | go_keep | (exact ⟨c0, c1, c2, c3⟩) | (exact ⟨(hf2.cell (p := ⟨g2, o2, none⟩) lk (n0 _)).trans c0, (hf2.cell (p := ⟨g2, o2 + 1, none⟩) lk (n0 _)).trans c1, (hf2.cell (p := ⟨g2, o2 + 2, none⟩) lk (n0 _)).trans c2, (hf2.cell (p := ⟨g2, o2 + 3, none⟩) lk (n0 _)).trans c3⟩)) (((with_reducible refine HRB.out.mono ?_); rintro e w2 ⟨vb, vg, rfl, hv2, hf2, hvb, hvg⟩))
    have HV2 : Hid (IsRefV w2 vb vg (List.replicate S 0)) := hid hv2
    have HF2 : Hid (Frm [] w w2) := hid ((HF1.out.drew).trans hf2 (by simp))
    have hs1 : w.heap.size ≤ w1.heap.size := HF1.out.size
    have HVB : Hid (w.heap.size ≤ vb ∧ w.heap.size ≤ vg) := hid ⟨Nat.le_trans hs1 hvb, Nat.le_trans hs1 hvg⟩
    clear hv2 hf2 hvb hvg hs1 c0 c1 c2 c3 k3 lk HF1 HCL HRB
    go_wp2_with fail
    clear b1
    generalize IntKind.i64.wrap z0 = r0
    generalize IntKind.i64.wrap z1 = r1
    generalize IntKind.i64.wrap z2 = r2
    generalize IntKind.i64.wrap z3 = r3
    generalize IntKind.i64.wrap (256 * r3) = r4
    generalize IntKind.i64.wrap (r2 + r4) = r5
    generalize IntKind.i64.wrap (256 * r5) = r6
    generalize IntKind.i64.wrap (r1 + r6) = r7
    generalize IntKind.i64.wrap (256 * r7) = r8
    generalize IntKind.i64.wrap (r0 + r8) = r9
    go_loopw [8] (fun i wr => ∃ (t : Nat) (cur : List Int), 1 ≤ t ∧ t ≤ n ∧ i = .int .i64 t ∧ Hid (Laid S xs t cur) ∧ Hid (IsRefV wr vb vg cur) ∧ Hid (Frm [] w wr)) (fun i _ => n - (intOf i).toNat)
    case atStart => exact ⟨1, List.replicate S 0, Nat.le_refl _, by omega, rfl, hid (Laid.start S xs), HV2, HF2⟩
    case round =>
      clear HV2 HF2
      obtain ⟨t, cur, ht1, ht, rfl, hla, hv, hf⟩ := hrel
      by_cases hlt : t < n
      · have hxt : t < xs.length := by rw [HLN.out]; exact hlt
        have hat := (HAT.out t hxt).kept (HW.out.trans hf.out (by simp))
        have Q : Hid (∀ w', Frm [] w w' → GAt w' g (o + t * 4) xs[t]) := hid (fun w' h => (HAT.out t hxt).kept (HW.out.trans h (by simp)))
        have hok := HOK.out _ (List.getElem_mem hxt)
        obtain ⟨u1, u2, u3⟩ := HXB.out _ (List.getElem_mem hxt)
        have HIN := hid (hla.out.into xs[t])
        obtain ⟨hh0, hhz⟩ := HH.out
        have HBAD : Hid (∀ j : Nat, j < (xs[t]).zs.length → (256 * (xs[t]).k + (j : Int) < 0 ∨ (S : Int) ≤ 256 * (xs[t]).k + (j : Int)) → ∀ bs, ¬ Opens xs bs) := hid (fun j h1 h2 => LaidIn.bad ht1 hxt hh0 hS2 hhz h1 h2)
        have HSTEP : Hid (∀ (j a : Nat) (cur : List Int), j < (xs[t]).zs.length → LaidIn S xs t xs[t] j cur → (a : Int) = 256 * (xs[t]).k + (j : Int) → LaidIn S xs t xs[t] (j + 1) (cur.set a ((xs[t]).zs.getD j 0))) := hid (fun j a cur h1 h2 h3 => LaidIn.step ht1 hxt hh0 hS2 hhz h1 hok.2.2.2.2.1 h2 h3)
        have HOUT : Hid (∀ cur, LaidIn S xs t xs[t] (xs[t]).zs.length cur → Laid S xs (t + 1) cur) := hid (fun cur h => LaidIn.out ht1 hxt h)
        have HRD : Hid (Rd w (xs[t]).p (xs[t]).zs) := hid (hok.2.2.2.1.kept HW.out (by simp))
        generalize xs[t] = x at hat Q HIN HBAD HSTEP HOUT HRD u1 u2 u3
        obtain ⟨nz, hnz⟩ : ∃ nz, x.zs.length = nz := ⟨_, rfl⟩
        unfold GAt at hat Q
        rw [hnz] at hat u3 HBAD HSTEP HOUT
        have HNZ := hid hnz
        have t0 : (0 : Int) ≤ (t : Int) := by omega
        have t1 : (t : Int) < (n : Int) := by omega
        have n0 : ∀ i : Nat, i ∉ ([] : List Nat) := fun _ => List.not_mem_nil
        clear hla hok hhz hnz
        obtain ⟨_, q1, _, q3⟩ := hat
        obtain ⟨wo, rfl⟩ : ∃ wo : World, wo = wr := ⟨_, rfl⟩
        go_wp2_with fail
        go_loopw [9] (fun i wi => ∃ (j : Nat) (cur : List Int), j ≤ nz ∧ i = .int .i64 j ∧ Hid (LaidIn S xs t x j cur) ∧ Hid (IsRefV wi vb vg cur) ∧ Hid (Frm [] w wi)) (fun i _ => nz - (intOf i).toNat)
        case atStart => exact ⟨0, cur, Nat.zero_le _, rfl, HIN, hv, hf⟩
        case round =>
          clear HIN hv hf
          obtain ⟨j, cj, hj, rfl, hin, hv, hf⟩ := hrel
          obtain ⟨_, q1, _, q3⟩ := Q.out _ hf.out
          rw [HNZ.out] at q3
          by_cases hlj : j < nz
          · have hcl : cj.length = S := hin.out.1
            have HRJ : Hid ((256 * x.k + (j : Int) < 0 ∨ (S : Int) ≤ 256 * x.k + (j : Int)) → PostRO xs w (.returned (.tuple #[.pointer none, .int .i64 190])) wr) := hid (fun h => HREJ.out _ (HBAD.out j hlj h) hf.out)
            obtain ⟨lvb, lvg, v0, hrg⟩ := hv.out.cells
            rw [hcl] at v0
            have s3 : IntKind.i64.wrap (256 * x.k) = 256 * x.k := IntWalk.i64_in _ (by omega)
            have s4 : IntKind.i64.wrap (256 * x.k + (j : Int)) = 256 * x.k + (j : Int) := IntWalk.i64_in _ (by omega)
            by_cases d1 : 256 * x.k + (j : Int) < 0
            · have HP := hid (HRJ.out (Or.inl d1))
              clear HBAD HSTEP HOUT HRJ
              go_wp2_with fail
              go_returns
              exact HP.out
            · by_cases d2 : (S : Int) ≤ 256 * x.k + (j : Int)
              · have HP := hid (HRJ.out (Or.inr d2))
                clear HBAD HSTEP HOUT HRJ
                go_wp2_with fail
                go_returns
                exact HP.out
              · obtain ⟨a, ha⟩ : ∃ a : Nat, 256 * x.k + (j : Int) = a := ⟨(256 * x.k + (j : Int)).toNat, by omega⟩
                have HST2 := hid (HSTEP.out j a cj hlj hin.out ha.symm)
                have haS : a < S := by omega
                obtain ⟨_, _, e1, hc⟩ := rd_at' (i := a) hrg (by rw [hcl]; exact haS)
                simp only [Option.some.injEq, Addr.mk.injEq, and_true] at e1
                obtain ⟨rfl, rfl⟩ := e1
                rw [Nat.zero_add] at hc
                obtain ⟨bg, bo, hbp, hbc⟩ := rd_at' (i := j) (HRD.out.kept hf.out (by simp)) (by rw [HNZ.out]; exact hlj)
                have hfz := frozen_of_row wr vg a _ _ hv.out.hg
                obtain ⟨y, hy⟩ : ∃ y, cj.getD a 0 = y := ⟨_, rfl⟩
                obtain ⟨z, hz⟩ : ∃ z, x.zs.getD j 0 = z := ⟨_, rfl⟩
                rw [hy] at hc
                rw [hz] at hbc HST2
                rw [hbp] at q3
                have s0 : (0 : Int) ≤ 256 * x.k + (j : Int) := by omega
                have s1 : 256 * x.k + (j : Int) < (S : Int) := by omega
                have s2 : (256 * x.k + (j : Int)).toNat = a := by omega
                have p0 : (0 : Int) ≤ (j : Int) := by omega
                have p1 : (j : Int) < (nz : Int) := by omega
                have HCJ := hid hcl
                clear HBAD HSTEP HOUT HRJ hy hz hrg hcl d1 d2 ha hbp
                go_wp2_with fail
                go_still_tail 14, (by kernel_rfl)
                change wpList _ _ _ _ _ wr.drew
                have HV4 : Hid (IsRefV wr.drew vb vg cj) := hid (hv.out.kept ((Frm.refl [] wr).drew) (by simp) (by simp))
                have HF4 : Hid (Frm [] w wr.drew) := hid hf.out.drew
                obtain ⟨w4, hw4⟩ : ∃ w4, wr.drew = w4 := ⟨_, rfl⟩
                have hc4 : w4.cell? ⟨vg, a, none⟩ = some (.int .u8 y) := by rw [← hw4]; exact hc
                have hfz4 : w4.frozen? ⟨vg, a, none⟩ = false := by rw [← hw4]; exact hfz
                rw [hw4] at HV4 HF4 ⊢
                clear hw4 hc hfz hbc v0 q1 q3
                go_wp2_with fail
                go_roundw
                case rel =>
                  refine ⟨j + 1, cj.set a z, by omega, by go_num, HST2, hid (HV4.out.set ((Frm.refl _ _).setCell _ _ (by simp)) ?_ (by simp)), hid (HF4.out.trans ((Frm.refl [vg] _).setCell _ _ (by simp)) (fun i hi hl => by simp at hi; have := HVB.out.2; omega))⟩
                  rw [heap_setCell_same w4 vg a _ _ _ HV4.out.hg]
                  congr 2
                  apply Array.ext'
                  simp [bv, List.map_set]
                case measure => simp [intOf]; omega
          · obtain rfl : j = nz := by omega
            have HLA := hid (HOUT.out cj hin.out)
            clear hlj HBAD HSTEP HOUT
            go_wp2_with fail
            go_roundw
            case rel => exact ⟨t + 1, cj, by omega, by omega, by go_num, HLA, hv, hf⟩
            case measure => simp [intOf]; omega
      · obtain rfl : t = n := by omega
        clear hlt
        have HC2 := hid (refVCells_any vb vg cur wr hv.out)
        clear HREJ
        go_wp2_with fail
        refine HC2.out.mono ?_
        rintro e w5 ⟨pp5, pc5, ys, n5, rfl, hn5, hsay, hcs, hf5⟩
        have HAL : Hid (Calls Try.prog 23 #[.slice pp5 n5 pc5, .slice (some ⟨g, o, none⟩) t pc] w5 (PostAl (ys.map toG) xs w5)) := hid (by
          have hlc := cellsL_length (bs := cur) (by rw [hla.out.1]; exact l2)
          have hby := cellsL_bytes hla.out.2.1
          rw [← hsay] at hlc hby
          refine alikeG_any pp5 (some ⟨g, o, none⟩) pc5 pc n5 t (ys.map toG) xs w5 (by rw [List.length_map, hn5]) HLN.out hcs.grd (HC.out.rd (HW.out.trans (hf.out.trans hf5 (by simp)) (by simp))) ?_ ?_ (fun x hx => (HOK.out x hx).2.2.2.2.1)
          · rw [hn5]; simp only [saidV, List.length_map] at hlc; omega
          · intro x hx z hz
            obtain ⟨y, hy, rfl⟩ := List.mem_map.1 hx
            exact hby (y.k, y.zs) (List.mem_map.2 ⟨y, hy, rfl⟩) z hz)
        have HKEY := hid (opens_gkey (xs := xs) (ys := ys) (bs := cur) (by rw [hla.out.1]; exact l1) (by rw [hla.out.1]; exact l2) (by rw [hla.out.1]; exact HL3.out) hsay)
        have HF5 := hid (hf.out.trans hf5 (by simp))
        have HV5 := hid (hv.out.kept hf5 (by simp) (by simp))
        have HONE : Hid (∀ bs, Opens xs bs → cur = bs) := hid (fun bs hb => by
          obtain ⟨hh0, hhz⟩ := HH.out
          exact hla.out.done HLN.out.symm hS2 hh0 hhz bs hb)
        clear hsay hcs hf5 hn5 HC2 hla hv hf
        go_wp2_with fail
        refine HAL.out.mono ?_
        rintro e w6 ⟨hf6, h6⟩
        have HF6 := hid (HF5.out.trans hf6 (by simp))
        have HV6 := hid (HV5.out.kept hf6 (by simp) (by simp))
        rcases h6 with ⟨rfl, h6⟩ | ⟨rfl, h6⟩
        · have HP : Hid (PostRO xs w (.returned (.tuple #[.pointer (some ⟨vb, 0, none⟩), .int .i64 0])) w6) := hid ⟨HF6.out, Or.inl ⟨vb, vg, cur, rfl, HV6.out, HKEY.out.1 h6.symm, HVB.out.1, HVB.out.2⟩⟩
          clear hf6 h6
          go_wp2_with fail
          go_returns
          exact HP.out
        · have HP : Hid (PostRO xs w (.returned (.tuple #[.pointer none, .int .i64 190])) w6) := hid ⟨HF6.out, Or.inr ⟨rfl, fun bs hb => h6 (HKEY.out.2 (HONE.out bs hb ▸ hb)).symm⟩⟩
          clear hf6 h6
          go_wp2_with fail
          go_returns
          exact HP.out
  · have HP := hid (HREJ.out w1 hno HF1.out)
    clear HC HCL hno hf1
    go_wp2_with fail
    go_returns
    exact HP.out
end Go.Proofs.Ythifchkeapbfdaa
