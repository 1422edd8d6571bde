/- Contracts of package volume: Open, of cells with a right head and size. -/
import Derived.Test.YthifchkeapbfdaaVolBg
namespace Go.Proofs.Ythifchkeapbfdaa
open Go.RowKit
set_option maxRecDepth 100000

set_option maxHeartbeats 6400000 in
theorem openG_ok (hb pc n lo : Nat) (x0 : GCell) (xr : List GCell) (w : World) (hn : xr.length = n) (hnb : n ≤ 2932031007317) (hg : GOwn lo w (some ⟨hb, 0, none⟩) pc (x0 :: xr)) (hzb : ∀ x ∈ xr, x.zs.length ≤ 140737488351232) (ha : x0.a = 1) (hk : x0.k = -1) (N : Nat) (hN1 : 1 ≤ N) (hN2 : N ≤ 64) (hz : x0.zs = le ((256 * N : Nat) : Int) 4) :
    Calls Try.prog 10 #[.slice (some ⟨hb, 0, none⟩) (n + 1) pc] w (PostOp IsVol (x0 :: xr) w) := by
  have hpc : n + 1 ≤ pc := by
    rcases hg.row.2 with ⟨h, _⟩ | ⟨g, c, cur, he, _, _, hc, _⟩
    · simp at h
    · simp only [Value.slice.injEq] at he
      obtain ⟨_, _, rfl⟩ := he
      simpa [hn] using hc
  have HCS : Hid (∀ t, (ht : t < (x0 :: xr).length) → ∀ j, j < 4 → w.cell? ⟨hb, t * 4 + j, none⟩ = (gRow (x0 :: xr)[t])[j]?) := hid (by
    intro t ht j hj
    rw [World.ownsRow.cellAt hg.row (t * 4 + j) (by omega), gRows_at _ t ht j hj])
  have k0 := HCS.out 0 (by simp) 0 (by omega)
  have k1 := HCS.out 0 (by simp) 1 (by omega)
  have k3 := HCS.out 0 (by simp) 3 (by omega)
  simp only [gRow, List.getElem_cons_zero, List.getElem?_cons_zero, List.getElem?_cons_succ, Nat.zero_mul, Nat.zero_add] at k0 k1 k3
  obtain ⟨S, hS⟩ : ∃ S, 256 * N = S := ⟨_, rfl⟩
  have hSl : 256 ≤ S := by omega
  have hSu : S ≤ 16384 := by omega
  have hS2 : 256 * N ≤ S := by omega
  have hS3 : S ≤ 256 * N := by omega
  have HSM := hid (show S % 256 = 0 by omega)
  have HSE := hid hS
  have HZ := hid hz
  have HA0 := hid ha
  have HK0 := hid hk
  have HDAT : Hid (∀ x ∈ xr, Rd w x.p x.zs ∧ ∀ k ∈ blk x.p, k < w.heap.size) := hid (fun x hx => ⟨(hg.dat x (List.mem_cons_of_mem _ hx)).rd, by have := (hg.dat x (List.mem_cons_of_mem _ hx)).lows; simpa using this⟩)
  have hrd0 := (hg.dat x0 (by simp)).rd
  rw [hz, hS] at hrd0
  rw [hz, le_length] at k3
  rw [ha] at k0
  rw [hk] at k1
  have HR0 : Hid (∀ j, j < 4 → ∃ g o, x0.p = some ⟨g, o, none⟩ ∧ w.cell? ⟨g, o + j, none⟩ = some (.int .u8 ((S : Int) / 2 ^ (8 * j) % 256))) := hid (by
    intro j hj
    rcases hrd0 with h | ⟨g, o, e1, e2⟩
    · exact absurd (congrArg List.length h) (by simp [le_length])
    · refine ⟨g, o, e1, ?_⟩
      rw [e2 j (by rw [le_length]; omega)]
      simp [le, List.getD, hj])
  have HZB := hid hzb
  have HNN := hid hn
  have hlb : ((n : Int) + 1 == 0) = false := by simp; omega
  clear hg hz ha hk hS hrd0 hn hzb
  go_enter Try.func10, Try.ntmps10
  go_wp2_with fail
  go_loop [4, 42] (fun v i => ∃ j : Nat, j ≤ 4 ∧ i = .int .i64 j ∧ v = .int .i64 ((S % 2 ^ (8 * j) : Nat) : Int)) (fun _ i => 4 - (intOf i).toNat)
  case atStart => exact ⟨0, Nat.zero_le _, rfl, by simp [Nat.mod_one]⟩
  case round =>
    obtain ⟨j, hj, rfl, rfl⟩ := hrel
    by_cases hlt : j < 4
    · obtain ⟨g, o, hp, hc⟩ := HR0.out j hlt
      have hol := or_le S j hlt
      obtain ⟨A, hA⟩ : ∃ A, S % 2 ^ (8 * j) = A := ⟨_, rfl⟩
      obtain ⟨x, hx⟩ : ∃ x, (S : Int) / 2 ^ (8 * j) % 256 = x := ⟨_, rfl⟩
      have hxb : 0 ≤ x ∧ x < 256 := by rw [← hx]; omega
      rw [hA, hx, IntWalk.i64_left] at hol
      rw [hx] at hc
      rw [hA]
      have HOL := hid hol
      clear hol hA hx
      rw [hp] at k3 ⊢
      obtain ⟨x0', x1'⟩ := hxb
      go_wp2_with fail
      go_round
      case rel => exact ⟨j + 1, by omega, by go_num, congrArg (Value.int .i64) HOL.out⟩
      case measure => simp [intOf]; omega
    · obtain rfl : j = 4 := by omega
      have hmod : S % 2 ^ (8 * 4) = S := Nat.mod_eq_of_lt (by omega)
      rw [hmod]
      clear hmod hlt
      go_wp2_with fail
      refine (volNew_ok S hSl hSu HSM.out _).mono ?_
      rintro e w2 ⟨vb, vg, rfl, hv2, hf2, hvb, hvg⟩
      have HV2 := hid hv2
      have HF2 := hid hf2
      have HVB := hid (show w.heap.size ≤ vb ∧ w.heap.size ≤ vg from ⟨hvb, hvg⟩)
      clear hv2 hf2
      have hpc1 : (1 : Int) ≤ (pc : Int) := by omega
      have HST : Hid (Sofar N 0 (-1) xr (List.replicate S 0)) := hid (by rw [← HSE.out]; exact Sofar.start N xr)
      have HDONE : Hid (∀ L cur w', Sofar N n L xr cur → IsVol w' vb vg cur → Frm [] w w' → PostOp IsVol (x0 :: xr) w (.returned (.tuple #[.pointer (some ⟨vb, 0, none⟩), .int .i64 0])) w') := hid (fun L cur w' h1 h2 h3 => ⟨h3, Or.inr ⟨cur, vb, vg, h1.done HNN.out.symm hN1 hN2 HA0.out HK0.out HZ.out, rfl, h2, HVB.out.1, HVB.out.2⟩⟩)
      by_cases hp1 : pc = 1
      · have hn0 : n = 0 := by omega
        subst hn0
        go_wp2_with fail
        go_loopw [9, 65] (fun _ i wr => i = .int .i64 0 ∧ wr = w2) (fun _ _ _ => 0)
        case atStart => exact ⟨rfl, rfl⟩
        case round =>
          obtain ⟨rfl, rfl⟩ := hrel
          have HD := hid (HDONE.out _ _ _ HST.out HV2.out HF2.out)
          go_wp2_with fail
          go_returns
          exact HD.out
      · go_wp2_with fail
        go_loopw [9, 65] (fun l i wr => ∃ (t : Nat) (L : Int) (cur : List Int), t ≤ n ∧ i = .int .i64 t ∧ l = .int .i64 L ∧ Hid (Sofar N t L xr cur) ∧ Hid (IsVol wr vb vg cur) ∧ Hid (Frm [] w wr)) (fun _ i _ => n - (intOf i).toNat)
        case atStart => exact ⟨0, -1, List.replicate S 0, Nat.zero_le _, rfl, rfl, HST, HV2, HF2⟩
        case round =>
          clear HST HV2 HF2
          obtain ⟨t, L, cur, ht, rfl, rfl, hso, hv, hf⟩ := hrel
          by_cases hlt : t < n
          · have hxt : t < xr.length := by rw [HNN.out]; exact hlt
            have hcs : ∀ j, j < 4 → wr.cell? ⟨hb, 4 + t * 4 + j, none⟩ = (gRow xr[t])[j]? := by
              intro j hj
              have h := HCS.out (t + 1) (by simp; omega) j hj
              rw [List.getElem_cons_succ, show (t + 1) * 4 + j = 4 + t * 4 + j by omega] at h
              have hne : ∃ v, (gRow xr[t])[j]? = some v := ⟨_, List.getElem?_eq_getElem (show j < (gRow xr[t]).length by simp [gRow]; omega)⟩
              obtain ⟨v, hv'⟩ := hne
              rw [hv'] at h ⊢
              exact (hf.out.cell (p := ⟨hb, 4 + t * 4 + j, none⟩) (World.block_lt_of_cell? w _ h) (by simp)).trans h
            have HREJ : Hid (∀ w', Frm [] w w' → (xr[t].a ≠ 1 ∨ xr[t].k ≤ L ∨ (N : Int) ≤ xr[t].k ∨ xr[t].zs.length ≠ 256 ∨ xr[t].zs.all (· == 0) = true) → PostOp IsVol (x0 :: xr) w (.returned (.tuple #[.pointer none, .int .i64 190])) w') := hid (fun w' h1 h2 => ⟨h1, Or.inl ⟨rfl, fun bs => hso.out.bad hxt HZ.out hN2 h2⟩⟩)
            have HSTEP : Hid (xr[t].a = 1 → L < xr[t].k → xr[t].k < N → xr[t].zs.length = 256 → xr[t].zs.all (· == 0) = false → Sofar N (t + 1) xr[t].k xr (splice cur (256 * xr[t].k.toNat) xr[t].zs)) := hid (fun h1 h2 h3 h4 h5 => hso.out.step hxt h1 h2 h3 h4 h5)
            have hdat := HDAT.out xr[t] (List.getElem_mem hxt)
            have hzb := HZB.out xr[t] (List.getElem_mem hxt)
            generalize xr[t] = x at hcs HREJ HSTEP hdat hzb
            have e0 := hcs 0 (by omega)
            have e1 := hcs 1 (by omega)
            have e2 := hcs 2 (by omega)
            have e3 := hcs 3 (by omega)
            simp only [gRow, List.getElem?_cons_zero, List.getElem?_cons_succ, Nat.add_zero] at e0 e1 e2 e3
            obtain ⟨nz, hnz⟩ : ∃ nz, x.zs.length = nz := ⟨_, rfl⟩
            rw [hnz] at e3 hzb
            have HNZ := hid hnz
            obtain ⟨hrd, hblk⟩ := hdat
            have HRD := hid hrd
            have HLN := hid hso.out.lng
            have hlow := hso.out.low
            have t0 : (0 : Int) ≤ (t : Int) := by omega
            have t1 : (t : Int) < (n : Int) := by omega
            have hq : (S : Int) / 256 = (N : Int) := by omega
            clear hcs hnz hrd hso
            by_cases c1 : x.a = 1
            · have b1 : (x.a != 1) = false := by simp [c1]
              have HC1 := hid c1
              clear c1
              by_cases c2 : x.k ≤ L
              · have HRJ := hid (HREJ.out (wr.alloc (.cells #[.int .i64 x.a, .int .i64 x.k, .int .i64 x.b, .slice x.p nz x.c] 57)) (hf.out.alloc _) (Or.inr (Or.inl c2)))
                clear HSTEP hblk
                go_wp2_with fail
                go_returns
                exact HRJ.out
              · by_cases c3 : (N : Int) ≤ x.k
                · have HRJ := hid (HREJ.out (wr.alloc (.cells #[.int .i64 x.a, .int .i64 x.k, .int .i64 x.b, .slice x.p nz x.c] 57)) (hf.out.alloc _) (Or.inr (Or.inr (Or.inl c3))))
                  clear HSTEP hblk
                  go_wp2_with fail
                  go_returns
                  exact HRJ.out
                · by_cases c4 : nz = 256
                  · subst c4
                    have hF1 : Frm [] w (wr.alloc (.cells #[.int .i64 x.a, .int .i64 x.k, .int .i64 x.b, .slice x.p 256 x.c] 57)) := hf.out.alloc _
                    have hB := blank_any x.p x.c x.zs (wr.alloc (.cells #[.int .i64 x.a, .int .i64 x.k, .int .i64 x.b, .slice x.p 256 x.c] 57)) (HRD.out.kept hF1 (by simp)) (by rw [HNZ.out]; omega)
                    rw [HNZ.out] at hB
                    by_cases c5 : x.zs.all (· == 0) = true
                    · rw [c5] at hB
                      have HB := hid hB
                      have HRJ := hid (HREJ.out _ hF1 (Or.inr (Or.inr (Or.inr (Or.inr c5)))))
                      clear HSTEP hblk hB hF1 c5
                      go_wp2_with fail
                      refine HB.out.mono ?_
                      rintro e w5 ⟨rfl, rfl⟩
                      go_wp2_with fail
                      go_returns
                      exact HRJ.out
                    · have c6 : x.zs.all (· == 0) = false := by simpa using c5
                      rw [c6] at hB
                      have HB := hid hB
                      obtain ⟨k, hk⟩ : ∃ k : Nat, x.k = k := ⟨x.k.toNat, by omega⟩
                      have hst := HSTEP.out HC1.out (by omega) (by omega) HNZ.out c6
                      have HKE := hid hk
                      have HFA : Hid (Frm [] wr ((wr.alloc (.cells #[.int .i64 x.a, .int .i64 x.k, .int .i64 x.b, .slice x.p 256 x.c] 57)).alloc (.cells #[.slice x.p 256 x.c] 44))) := hid (((Frm.refl _ _).alloc _).alloc _)
                      have HF2' : Hid (Frm [] w ((wr.alloc (.cells #[.int .i64 x.a, .int .i64 x.k, .int .i64 x.b, .slice x.p 256 x.c] 57)).alloc (.cells #[.slice x.p 256 x.c] 44))) := hid (hF1.alloc _)
                      have HVA := hid (hv.out.kept HFA.out (by simp) (by simp))
                      have hvl := hv.out.cells
                      have HP : IsPcs ((wr.alloc (.cells #[.int .i64 x.a, .int .i64 x.k, .int .i64 x.b, .slice x.p 256 x.c] 57)).alloc (.cells #[.slice x.p 256 x.c] 44)) vg (some ⟨wr.heap.size + 1, 0, none⟩) [⟨x.p, x.c, x.zs⟩] := by
                        intro j hj
                        simp only [List.length_singleton] at hj
                        obtain rfl : j = 0 := by omega
                        refine ⟨wr.heap.size + 1, 0, rfl, by simp, by omega, ?_, HRD.out.kept HF2'.out (by simp), fun _ hg2 => ?_⟩
                        · rw [cell_of_row _ _ _ _ _ _ (heap_alloc_to (wr.alloc (.cells #[.int .i64 x.a, .int .i64 x.k, .int .i64 x.b, .slice x.p 256 x.c] 57)) (.cells #[.slice x.p 256 x.c] 44) (by simp))]
                          simp [HNZ.out]
                        · have := hblk vg hg2
                          have := HVB.out.2
                          omega
                      have hC := fill_any vb vg (256 * k) cur (some ⟨wr.heap.size + 1, 0, none⟩) 1 [⟨x.p, x.c, x.zs⟩] _ HVA.out HP (by have h1 := HLN.out; have h2 := HNZ.out; simp [allZ]; omega) (by simp)
                      rw [show allZ [⟨x.p, x.c, x.zs⟩] = x.zs by simp [allZ]] at hC
                      have HCC := hid hC
                      have hkN : (k : Int) < (N : Int) := by omega
                      have hkL : ¬ (k : Int) ≤ L := by omega
                      have hm : (k : Int) * 256 = ((256 * k : Nat) : Int) := by omega
                      rw [hk, Int.toNat_natCast] at hst
                      have HST2 := hid hst
                      rw [hk] at e1 HB HCC HF2' c2 c3
                      clear hF1 hB HP hC c5 c6 hst hvl hblk HSTEP HREJ hk HFA HVA
                      rw [HC1.out] at e0 HB HCC HF2'
                      clear b1
                      go_wp2_with fail
                      refine HB.out.mono ?_
                      rintro e w5 ⟨rfl, rfl⟩
                      go_wp2_with fail
                      refine HCC.out.mono ?_
                      rintro e w6 ⟨rfl, hv6, hf6⟩
                      have HV6 := hid hv6
                      have HF6 : Hid (Frm [] w w6) := hid (HF2'.out.trans hf6 (fun i hi hlt => by simp at hi; have := HVB.out.2; omega))
                      clear hv6 hf6 hq hkN hkL hm
                      go_wp2_with fail
                      go_roundw
                      case rel => exact ⟨t + 1, (k : Int), splice cur (256 * k) x.zs, by omega, by go_num, rfl, HST2, HV6, HF6⟩
                      case measure => simp [intOf]; omega
                  · have b4 : ((nz : Int) != 256) = true := by simp; omega
                    have HRJ := hid (HREJ.out (wr.alloc (.cells #[.int .i64 x.a, .int .i64 x.k, .int .i64 x.b, .slice x.p nz x.c] 57)) (hf.out.alloc _) (Or.inr (Or.inr (Or.inr (Or.inl (by rw [HNZ.out]; exact c4))))))
                    clear HSTEP hblk c4
                    go_wp2_with fail
                    go_returns
                    exact HRJ.out
            · have b1 : (x.a != 1) = true := by simpa using c1
              have HRJ := hid (HREJ.out (wr.alloc (.cells #[.int .i64 x.a, .int .i64 x.k, .int .i64 x.b, .slice x.p nz x.c] 57)) (hf.out.alloc _) (Or.inl c1))
              clear HSTEP hblk c1
              go_wp2_with fail
              go_returns
              exact HRJ.out
          · obtain rfl : t = n := by omega
            have HD := hid (HDONE.out _ _ _ hso.out hv.out hf.out)
            clear hlt
            go_wp2_with fail
            go_returns
            exact HD.out
end Go.Proofs.Ythifchkeapbfdaa
