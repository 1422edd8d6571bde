/- Contracts of package volume: Open, of the cells that a volume gave. -/
import Derived.Test.YthifchkeapbfdaaVolF
namespace Go.Proofs.Ythifchkeapbfdaa
open Go.RowKit
set_option maxRecDepth 100000

set_option maxHeartbeats 6400000 in
theorem volOpen_any (bs : List Int) (w : World) (lo : Nat) (pp : Option Addr) (pc : Nat) (xs : List CellV) (hi : IsCells w lo pp pc xs) (hs : saidV xs = cellsL bs) (h1 : 256 ≤ bs.length) (h2 : bs.length ≤ 16384) (h3 : bs.length % 256 = 0) :
    Calls Try.prog 10 #[.slice pp xs.length pc] w fun e w' => ∃ b g, e = .returned (.tuple #[.pointer (some ⟨b, 0, none⟩), .int .i64 0]) ∧ IsVol w' b g bs ∧ Frm [] w w' ∧ w.heap.size ≤ b ∧ w.heap.size ≤ g := by
  obtain ⟨N, hN⟩ : ∃ N, bs.length = 256 * N := ⟨bs.length / 256, by omega⟩
  have HNN := hid hN
  have HI := hid hi
  have hs' : saidV xs = (-1, le bs.length 4) :: chunksL bs N := by rw [hs, cellsL, hN, Nat.mul_div_cancel_left _ (by omega)]
  obtain ⟨x0, xr, rfl⟩ : ∃ x0 xr, xs = x0 :: xr := by
    cases xs with
    | nil => simp [saidV] at hs'
    | cons a l => exact ⟨a, l, rfl⟩
  simp only [saidV, List.map_cons, List.cons.injEq, Prod.mk.injEq] at hs'
  obtain ⟨⟨hk0, hz0⟩, hsr⟩ := hs'
  have HSR := hid hsr
  have HZ0 := hid hz0
  have hxl : xr.length ≤ 64 := by
    have e1 := congrArg List.length hsr
    have e2 : (chunksL bs N).length ≤ N := by unfold chunksL; exact Nat.le_trans (List.length_filterMap_le _ _) (by simp)
    rw [List.length_map] at e1
    omega
  obtain ⟨hb, rfl⟩ : ∃ hb, pp = some ⟨hb, 0, none⟩ := by
    rcases hi.1.2 with ⟨_, h0⟩ | ⟨g, c, cur, he, _⟩
    · simp at h0
    · simp only [Value.slice.injEq] at he
      exact ⟨g, he.1⟩
  have hpc : (x0 :: xr).length ≤ pc := by
    rcases hi.1.2 with ⟨_, h0⟩ | ⟨g, c, cur, he, _, _, hc, _⟩
    · simp at h0
    · simp only [Value.slice.injEq] at he
      obtain ⟨_, _, rfl⟩ := he
      exact hc
  have HCS : Hid (∀ t, (ht : t < (x0 :: xr).length) → ∀ j, j < 4 → w.cell? ⟨hb, t * 4 + j, none⟩ = (cellRow (x0 :: xr)[t])[j]?) := by
    intro t ht j hj
    rw [World.ownsRow.cellAt hi.1 (t * 4 + j) (by omega), cellRows_at _ t ht j hj]
  have c0 := HCS.out 0 (by simp) 0 (by omega)
  have c1 := HCS.out 0 (by simp) 1 (by omega)
  have c3 := HCS.out 0 (by simp) 3 (by omega)
  simp only [cellRow, List.getElem_cons_zero, List.getElem?_cons_zero, List.getElem?_cons_succ, Nat.zero_mul, Nat.zero_add] at c0 c1 c3
  have hx0 := hi.2.2 x0 (by simp)
  have hrd0 := hx0.1
  rw [hz0] at c3 hrd0
  rw [le_length] at c3
  rw [hk0] at c1
  have HR0 : Hid (∀ j, j < 4 → ∃ g o, x0.p = some ⟨g, o, none⟩ ∧ w.cell? ⟨g, o + j, none⟩ = some (.int .u8 ((bs.length : Int) / 2 ^ (8 * j) % 256))) := by
    intro j hj
    rcases hrd0 with h | ⟨g, o, e1, e2⟩
    · exact absurd (congrArg List.length h) (by simp [le_length])
    · refine ⟨g, o, e1, ?_⟩
      rw [e2 j (by rw [le_length]; omega)]
      simp [le, List.getD, hj]
  have hlb : ((xr.length : Int) + 1 == 0) = false := by simp; omega
  clear hi hs hsr hz0 hk0 hrd0 hx0 hN
  go_enter Try.func10, Try.ntmps10
  go_wp2_with fail
  go_loop [4, 42] (fun v i => ∃ j : Nat, j ≤ 4 ∧ i = .int .i64 j ∧ v = .int .i64 ((bs.length % 2 ^ (8 * j) : Nat) : Int)) (fun _ i => 4 - (intOf i).toNat)
  case atStart => exact ⟨0, Nat.zero_le _, rfl, by simp [Nat.mod_one]⟩
  case round =>
    obtain ⟨j, hj, rfl, rfl⟩ := hrel
    by_cases hlt : j < 4
    · obtain ⟨g, o, hp, hc⟩ := HR0.out j hlt
      have hol := or_le bs.length j hlt
      obtain ⟨A, hA⟩ : ∃ A, bs.length % 2 ^ (8 * j) = A := ⟨_, rfl⟩
      obtain ⟨x, hx⟩ : ∃ x, (bs.length : Int) / 2 ^ (8 * j) % 256 = x := ⟨_, rfl⟩
      have hxb : 0 ≤ x ∧ x < 256 := by rw [← hx]; omega
      rw [hA, hx, IntWalk.i64_left] at hol
      rw [hx] at hc
      rw [hA]
      have HOL := hid hol
      clear hol hA hx
      rw [hp] at c3 ⊢
      obtain ⟨x0', x1'⟩ := hxb
      go_wp2_with fail
      go_round
      case rel => exact ⟨j + 1, by omega, by go_num, congrArg (Value.int .i64) HOL.out⟩
      case measure => simp [intOf]; omega
    · obtain rfl : j = 4 := by omega
      have hmod : bs.length % 2 ^ (8 * 4) = bs.length := Nat.mod_eq_of_lt (by omega)
      rw [hmod]
      clear hmod
      go_wp2_with fail
      refine (volNew_ok bs.length h1 h2 h3 _).mono ?_
      rintro e w2 ⟨vb, vg, rfl, hv2, hf2, hvb, hvg⟩
      have HV2 := hid hv2
      have HF2 := hid hf2
      clear hv2 hf2
      have hpc1 : (1 : Int) ≤ (pc : Int) := by simp only [List.length_cons] at hpc; omega
      have hlast : Hid (applyL (List.replicate bs.length 0) (chunksL bs N) = bs) := apply_all HNN.out
      have HXL := hid (show xr.length = (chunksL bs N).length by rw [← HSR.out, List.length_map])
      have HEL : Hid (∀ t, (ht : t < xr.length) → ∃ k : Nat, k < N ∧ xr[t].k = k ∧ xr[t].zs = chunk bs k ∧ (chunk bs k).all (· == 0) = false ∧ (chunk bs k).length = 256) := by
        intro t ht
        have hm : (xr[t].k, xr[t].zs) ∈ chunksL bs N := by rw [← HSR.out]; exact List.mem_map.2 ⟨xr[t], List.getElem_mem ht, rfl⟩
        obtain ⟨k, hk, he, hz⟩ := chunksL_mem hm
        simp only [Prod.mk.injEq] at he
        exact ⟨k, hk, he.1, he.2, hz, chunk_length HNN.out hk⟩
      have HSO : Hid (∀ t, (ht : t + 1 < xr.length) → xr[t].k < xr[t + 1].k) := by
        intro t ht
        have h := chunksL_sorted bs N
        rw [← HSR.out, List.pairwise_map] at h
        exact List.pairwise_iff_getElem.1 h t (t + 1) (by omega) ht (by omega)
      have HAP : Hid (∀ t, (ht : t < xr.length) → ∀ cur, applyL (List.replicate bs.length 0) (saidV (xr.take t)) = cur → applyL (List.replicate bs.length 0) (saidV (xr.take (t + 1))) = splice cur (256 * xr[t].k.toNat) xr[t].zs) := by
        intro t ht cur hc
        rw [List.take_succ_eq_append_getElem ht]
        simp only [saidV, List.map_append, List.map_cons, List.map_nil] at hc ⊢
        rw [applyL_snoc, hc]
      by_cases hp1 : pc = 1
      · have hx0 : xr = [] := List.eq_nil_of_length_eq_zero (by simp only [List.length_cons] at hpc; omega)
        subst hx0
        go_wp2_with fail
        go_loopw [9, 65] (fun _ i wr => i = .int .i64 0 ∧ wr = w2) (fun _ _ _ => 0)
        case atStart => exact ⟨rfl, rfl⟩
        case round =>
          obtain ⟨rfl, rfl⟩ := hrel
          have hfin := hlast.out
          rw [← HSR.out] at hfin
          have hbs : List.replicate bs.length 0 = bs := hfin
          have HBS := hid hbs
          clear hfin hbs
          go_wp2_with fail
          go_returns
          have h := HV2.out
          rw [HBS.out] at h
          exact ⟨vb, vg, rfl, h, HF2.out, hvb, hvg⟩
      · go_wp2_with fail
        go_loopw [9, 65] (fun l i wr => ∃ (t : Nat) (L : Int) (cur : List Int), t ≤ xr.length ∧ i = .int .i64 t ∧ l = .int .i64 L ∧ Hid (∀ h : t < xr.length, L < xr[t].k) ∧ Hid (applyL (List.replicate bs.length 0) (saidV (xr.take t)) = cur) ∧ Hid (cur.length = bs.length) ∧ Hid (IsVol wr vb vg cur) ∧ Hid (Frm [] w wr)) (fun _ i _ => xr.length - (intOf i).toNat)
        case atStart =>
          refine ⟨0, -1, List.replicate bs.length 0, Nat.zero_le _, rfl, rfl, fun h => ?_, hid rfl, hid (by simp), HV2, HF2⟩
          obtain ⟨k, _, e, _⟩ := HEL.out 0 h
          rw [e]; omega
        case round =>
          obtain ⟨t, L, cur, ht, rfl, rfl, hL, hcur, hcl, hv, hf⟩ := hrel
          by_cases hlt : t < xr.length
          · obtain ⟨k, hkN, hxk, hxz, hnb, h256⟩ := HEL.out t hlt
            have hL1 := hL.out hlt
            have hap := HAP.out t hlt cur hcur.out
            have hso : ∀ h : t + 1 < xr.length, (k : Int) < xr[t + 1].k := fun h => by rw [← hxk]; exact HSO.out t h
            have hcs : ∀ j, j < 4 → wr.cell? ⟨hb, 4 + t * 4 + j, none⟩ = (cellRow xr[t])[j]? := by
              intro j hj
              have h := HCS.out (t + 1) (by simp; omega) j hj
              rw [List.getElem_cons_succ, show (t + 1) * 4 + j = 4 + t * 4 + j by omega] at h
              have hne : ∃ v, (cellRow xr[t])[j]? = some v := ⟨_, List.getElem?_eq_getElem (show j < (cellRow xr[t]).length by simp [cellRow]; omega)⟩
              obtain ⟨v, hv'⟩ := hne
              rw [hv'] at h ⊢
              exact (hf.out.cell (p := ⟨hb, 4 + t * 4 + j, none⟩) (World.block_lt_of_cell? w _ h) (by simp)).trans h
            have hdat := HI.out.2.2 xr[t] (List.mem_cons_of_mem _ (List.getElem_mem hlt))
            have hlen := congrArg List.length hxz
            rw [h256] at hlen
            generalize xr[t] = x at hL1 hap hcs hdat hxk hxz hlen
            have e0 := hcs 0 (by omega)
            have e1 := hcs 1 (by omega)
            have e2 := hcs 2 (by omega)
            have e3 := hcs 3 (by omega)
            simp only [cellRow, List.getElem?_cons_zero, List.getElem?_cons_succ, Nat.add_zero, hxk, hlen] at e0 e1 e2 e3
            rw [hxk] at hL1 hap
            have hrd := hdat.1
            rw [Int.toNat_natCast, hxz] at hap
            rw [hxz] at hrd
            have HAPP := hid hap
            have HSOO := hid hso
            have hF1 : Frm [] w (wr.alloc (.cells #[.int .i64 1, .int .i64 k, .int .i64 0, .slice x.p 256 x.c] 57)) := hf.out.alloc _
            have hB := blank_any x.p x.c (chunk bs k) (wr.alloc (.cells #[.int .i64 1, .int .i64 k, .int .i64 0, .slice x.p 256 x.c] 57)) (hrd.kept hF1 (by simp)) (by omega)
            rw [h256, hnb] at hB
            have HB := hid hB
            have HFA : Hid (Frm [] wr ((wr.alloc (.cells #[.int .i64 1, .int .i64 k, .int .i64 0, .slice x.p 256 x.c] 57)).alloc (.cells #[.slice x.p 256 x.c] 44))) := ((Frm.refl _ _).alloc _).alloc _
            have HF2' : Hid (Frm [] w ((wr.alloc (.cells #[.int .i64 1, .int .i64 k, .int .i64 0, .slice x.p 256 x.c] 57)).alloc (.cells #[.slice x.p 256 x.c] 44))) := hF1.alloc _
            have HVA := hid (hv.out.kept HFA.out (by simp) (by simp))
            have hvl := hv.out.cells
            have HP : IsPcs ((wr.alloc (.cells #[.int .i64 1, .int .i64 k, .int .i64 0, .slice x.p 256 x.c] 57)).alloc (.cells #[.slice x.p 256 x.c] 44)) vg (some ⟨wr.heap.size + 1, 0, none⟩) [⟨x.p, x.c, chunk bs k⟩] := by
              intro j hj
              simp only [List.length_singleton] at hj
              obtain rfl : j = 0 := by omega
              refine ⟨wr.heap.size + 1, 0, rfl, by simp, by omega, ?_, hrd.kept HF2'.out (by simp), fun hne hg => ?_⟩
              · rw [cell_of_row _ _ _ _ _ _ (heap_alloc_to (wr.alloc (.cells #[.int .i64 1, .int .i64 k, .int .i64 0, .slice x.p 256 x.c] 57)) (.cells #[.slice x.p 256 x.c] 44) (by simp))]
                simp [h256]
              · have := (hrd.lows hne) vg hg
                omega
            have HC := fill_any vb vg (256 * k) cur (some ⟨wr.heap.size + 1, 0, none⟩) 1 [⟨x.p, x.c, chunk bs k⟩] _ HVA.out HP (by have := hcl.out; have := HNN.out; simp [allZ]; omega) (by simp)
            rw [show allZ [⟨x.p, x.c, chunk bs k⟩] = chunk bs k by simp [allZ]] at HC
            have HCC := hid HC
            have hq : (bs.length : Int) / 256 = (N : Int) := by have := HNN.out; omega
            have hk2 : (k : Int) < (N : Int) := by omega
            have hm : (k : Int) * 256 = ((256 * k : Nat) : Int) := by omega
            clear hcs hdat hrd hF1 hB HP HC hap hso hnb hxz hvl
            go_wp2_with fail
            refine HB.out.mono ?_
            rintro e w5 ⟨rfl, rfl⟩
            go_wp2_with fail
            refine HCC.out.mono ?_
            rintro e w6 ⟨rfl, hv6, hf6⟩
            have HV6 := hid hv6
            have HF6 : Hid (Frm [] w w6) := HF2'.out.trans hf6 (fun i hi hlt => by simp at hi; omega)
            have HL6 : Hid ((splice cur (256 * k) (chunk bs k)).length = bs.length) := (splice_length (by have := hcl.out; have := HNN.out; omega)).trans hcl.out
            clear hv6 hf6 hq hk2 hm
            go_wp2_with fail
            go_roundw
            case rel => exact ⟨t + 1, k, splice cur (256 * k) (chunk bs k), by omega, by go_num, rfl, HSOO, HAPP, HL6, HV6, HF6⟩
            case measure => simp [intOf]; omega
          · obtain rfl : t = xr.length := by omega
            have hbs : cur = bs := by
              have h := hcur.out
              rw [List.take_length] at h
              rw [← h]
              have h2 := hlast.out
              rw [← HSR.out] at h2
              exact h2
            have HBS := hid hbs
            clear hbs
            go_wp2_with fail
            go_returns
            exact ⟨vb, vg, rfl, by rw [← HBS.out]; exact hv.out, hf.out, hvb, hvg⟩
end Go.Proofs.Ythifchkeapbfdaa
