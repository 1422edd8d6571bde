/- Contracts of package volume: Cells, whose data are their owner's. -/
import Derived.Test.YthifchkeapbfdaaVolE
namespace Go.Proofs.Ythifchkeapbfdaa
open Go.RowKit
set_option maxRecDepth 100000

/-- The data of cells are rows of one's own. -/
def OwnC (w : World) (xs : List CellV) : Prop := ∀ x ∈ xs, Own w 5 (.slice x.p x.zs.length x.c) x.zs
set_option maxHeartbeats 3200000 in
theorem volCells_own (b g : Nat) (bs : List Int) (w : World) (hv : IsVol w b g bs) :
    Calls Try.prog 17 #[.pointer (some ⟨b, 0, none⟩)] w fun e w' => ∃ pp pc xs n, e = .returned (.slice pp n pc) ∧ n = xs.length ∧ saidV xs = cellsL bs ∧ IsCells w' w.heap.size pp pc xs ∧ Frm [] w w' ∧ OwnC w' xs := by
  have HV := hid hv
  have l1 := hv.l1
  have l2 := hv.l2
  have l3 := hv.l3
  obtain ⟨lb, lg, c0, _⟩ := hv.cells
  have hmk := run_make_row' (P := Try.prog) 44 5 (.int .u8 0) 1 Try.underlying44 infoB rfl .i64 .i64 4 (by omega) (by omega)
  rw [show ((4 : Nat) : Int) = 4 from rfl] at hmk
  clear hv
  go_enter Try.func17, Try.ntmps17
  go_wp2_with fail
  go_loopw [11] (fun i wr => ∃ j : Nat, j ≤ 4 ∧ i = .int .i64 j ∧ Hid (wr.heap[w.heap.size]? = some (.cells (bv (le bs.length j) ++ List.replicate (4 - j) (Value.int .u8 0)).toArray 5 (0, 0))) ∧ Hid (Frm [] w wr)) (fun i _ => 4 - (intOf i).toNat)
  case atStart =>
    refine ⟨0, Nat.zero_le _, rfl, ?_, (Frm.refl _ _).alloc _⟩
    show _ = _
    rw [heap_alloc_new]
    congr 2
    apply Array.ext'
    simp [toList_madeCells_one, bv, le]
  case round =>
    obtain ⟨j, hj, rfl, hcur, hfr⟩ := hrel
    by_cases hlt : j < 4
    · have hc : wr.cell? ⟨w.heap.size, j, none⟩ = some (.int .u8 0) := by
        rw [cell_of_row wr _ j _ _ (0,0) hcur.out]
        have h := get_mid (bv (le bs.length j)) (4 - j) (Value.int .u8 0) (by omega)
        rw [bv_length, le_length] at h
        simpa using h
      have hf := frozen_of_row wr w.heap.size j _ _ hcur.out
      have hc0 := (hfr.out.cell (p := ⟨b, 0, none⟩) lb (by simp)).trans c0
      go_wp2_with fail
      go_roundw
      case rel =>
        refine ⟨j + 1, by omega, by go_num, ?_, hfr.out.setCell _ _ (by simp)⟩
        show _ = _
        rw [heap_setCell_same wr w.heap.size j _ _ _ hcur.out]
        congr 2
        apply Array.ext'
        have e1 : 4 - j = (4 - (j + 1)) + 1 := by omega
        have h := set_mid (bv (le bs.length j)) (4 - (j + 1)) (Value.int .u8 0) (Value.int .u8 ((bs.length : Int) / 2 ^ (8 * j) % 256))
        rw [bv_length, le_length, ← e1] at h
        rw [le_succ, bv_append]
        simpa [bv] using h
      case measure => simp [intOf]; omega
    · obtain rfl : j = 4 := by omega
      have hown : wr.heap[w.heap.size]? = some (.cells (bv (le bs.length 4)).toArray 5 (0, 0)) := by simpa using hcur.out
      have hrd0 := (own_of_block hown (by unfold maxLen; simp [le_length])).rd
      have hcell := cell_any (-1) (some ⟨w.heap.size, 0, none⟩) 4 (le bs.length 4) wr hrd0 (by simp [le_length]) (by simp)
      rw [le_length] at hcell
      have HC := hid hcell
      clear hown hrd0 hcell hlt hcur
      go_wp2_with fail
      refine HC.out.mono ?_
      rintro e w2 ⟨p1, n1, c1, rfl, rfl, ho1, hf1, hk1⟩
      have hF2 : Frm [] w (w2.alloc (.cells #[.int .i64 1, .int .i64 (-1), .int .i64 0, .slice p1 4 c1] 57)) := (hfr.out.trans hf1 (by simp)).alloc _
      have HI0 : Hid (IsCells (w2.alloc (.cells #[.int .i64 1, .int .i64 (-1), .int .i64 0, .slice p1 4 c1] 57)) w.heap.size (some ⟨w2.heap.size, 0, none⟩) 1 [⟨-1, p1, c1, le bs.length 4⟩]) := by
        have hs1 := hfr.out.size
        have hs2 := hf1.size
        have hlw := ho1.lows
        refine ⟨World.ownsRow_lit w2 _ 1 (Nat.zero_le _) (by unfold maxLen; omega) rfl, by simp [blk]; omega, fun x hx => ?_⟩
        simp only [List.mem_singleton] at hx
        subst hx
        exact ⟨(ho1.rd).kept ((Frm.refl [] w2).alloc _) (by simp), fun k hk => ⟨Nat.le_trans hs1 (hk1 k hk), by have := hlw k hk; simp; omega⟩, fun h => absurd (congrArg List.length h) (by simp [le_length])⟩
      have HA0 : Hid (ApartC (some ⟨w2.heap.size, 0, none⟩) [⟨-1, p1, c1, le bs.length 4⟩]) := by
        intro y hy k hk hk2
        simp only [List.mem_singleton] at hy
        subst hy
        have := ho1.lows k hk
        simp [blk] at hk2
        omega
      have HO0 : Hid (OwnC (w2.alloc (.cells #[.int .i64 1, .int .i64 (-1), .int .i64 0, .slice p1 4 c1] 57)) [⟨-1, p1, c1, le bs.length 4⟩]) := hid (fun x hx => by
        simp only [List.mem_singleton] at hx
        subst hx
        show Own _ _ (.slice p1 (le (bs.length : Int) 4).length c1) (le (bs.length : Int) 4)
        rw [le_length]
        exact ho1.kept ((Frm.refl [] w2).alloc (.cells #[.int .i64 1, .int .i64 (-1), .int .i64 0, .slice p1 4 c1] 57)) (by simp))
      have HF2 := hid hF2
      clear ho1 hf1 hk1 hF2 HC
      obtain ⟨N, hN⟩ : ∃ N, bs.length = 256 * N := ⟨bs.length / 256, by omega⟩
      have HNN := hid hN
      go_wp2_with fail
      go_loopw [5, 6] (fun v a wr => ∃ (t : Nat) (xs : List CellV) (pp : Option Addr) (pc : Nat), t ≤ N ∧ v = .slice pp xs.length pc ∧ a = .int .i64 ((256 * t : Nat) : Int) ∧ Hid (saidV xs = (-1, le bs.length 4) :: chunksL bs t) ∧ Hid (IsCells wr w.heap.size pp pc xs) ∧ Hid (ApartC pp xs) ∧ Hid (Frm [] w wr) ∧ Hid (OwnC wr xs)) (fun _ a _ => bs.length - (intOf a).toNat)
      case atStart => exact ⟨0, [⟨-1, p1, c1, le bs.length 4⟩], some ⟨w2.heap.size, 0, none⟩, 1, Nat.zero_le _, rfl, rfl, hid (by simp [saidV, chunksL]), HI0, HA0, HF2, HO0⟩
      case round =>
        obtain ⟨t, xs, pp, pc, ht, rfl, rfl, hs, hi, hap, hf, hoc⟩ := hrel
        clear HI0 HA0 HF2 HO0
        have hcN := (hf.out.cell (p := ⟨b, 0, none⟩) lb (by simp)).trans c0
        by_cases hlt : t < N
        · have hb0 : (0 : Int) ≤ ((256 * t : Nat) : Int) := by omega
          have hb1 : ((256 * t : Nat) : Int) < (bs.length : Int) := by omega
          have hb2 : ((256 * t : Nat) : Int) + 256 ≤ (bs.length : Int) := by omega
          have hb3 : ¬ bs.length = 256 * t := by omega
          have hb4 : ((256 * t : Nat) : Int) ≤ ((256 * t : Nat) : Int) + 256 := by omega
          have hrd := ((HV.out.kept hf.out (by simp) (by simp)).cells.2.2.2.drop (256 * t)).take 256
          rw [Nat.zero_add] at hrd
          have hrd' : Rd wr (some ⟨g, 256 * t, none⟩) (chunk bs t) := hrd
          have hcl : (chunk bs t).length = 256 := by simp only [chunk, List.length_take, List.length_drop]; omega
          have hB := blank_any (some ⟨g, 256 * t, none⟩) (bs.length - 256 * t) (chunk bs t) wr hrd' (by omega)
          rw [hcl] at hB
          have HB := hid hB
          have HRD := hid hrd'
          have HCL := hid hcl
          have hq : ((256 * t : Nat) : Int) / 256 = (t : Int) := by omega
          clear hrd hrd' hcl hB hN
          go_wp2_with fail
          refine HB.out.mono ?_
          rintro e w3 ⟨rfl, rfl⟩
          by_cases hz : (chunk bs t).all (· == 0) = true
          · have HS2 : Hid (saidV xs = (-1, le bs.length 4) :: chunksL bs (t + 1)) := by show _ = _; rw [chunksL_succ, if_pos hz, List.append_nil]; exact hs.out
            rw [hz]
            clear hz hq
            go_wp2_with fail
            go_roundw
            case rel => exact ⟨t + 1, xs, pp, pc, by omega, rfl, by go_num, HS2, hi, hap, hf, hoc⟩
            case measure => simp [intOf]; omega
          · have HS2 : ∀ x : CellV, x.k = t → x.zs = chunk bs t → Hid (saidV (xs ++ [x]) = (-1, le bs.length 4) :: chunksL bs (t + 1)) := by
              intro x h1 h2
              show _ = _
              rw [chunksL_succ, if_neg hz, ← List.cons_append, ← hs.out]
              simp [saidV, h1, h2]
            have HS2H := hid HS2
            have hz' : (chunk bs t).all (· == 0) = false := by simpa using hz
            have hcc := cell_any (t : Int) (some ⟨g, 256 * t, none⟩) (bs.length - 256 * t) (chunk bs t) wr HRD.out (by rw [HCL.out]; omega) (fun h => absurd (congrArg List.length h) (by rw [HCL.out]; simp))
            rw [HCL.out] at hcc
            have HCC := hid hcc
            rw [hz']
            clear hz hz' hcc HS2
            go_wp2_with fail
            refine HCC.out.mono ?_
            rintro e w4 ⟨p4, n4, c4, rfl, rfl, ho4, hf4, hk4⟩
            have HA4 : Hid (Frm [] w4 (w4.alloc (.cells #[.int .i64 1, .int .i64 t, .int .i64 0, .slice p4 256 c4] 57))) := (Frm.refl _ _).alloc _
            have hsz := hf.out.size
            have hsz4 := hf4.size
            have hlow := ownsRow_low hi.out.1
            have hi4 := (hi.out.kept hf4 (by simp)).kept HA4.out (by simp)
            have HX : Hid (Rd (w4.alloc (.cells #[.int .i64 1, .int .i64 t, .int .i64 0, .slice p4 256 c4] 57)) p4 (chunk bs t) ∧ (∀ k ∈ blk p4, w.heap.size ≤ k ∧ k < (w4.alloc (.cells #[.int .i64 1, .int .i64 t, .int .i64 0, .slice p4 256 c4] 57)).heap.size) ∧ (chunk bs t = [] → p4 = none → c4 = 0)) := by
              refine ⟨ho4.rd.kept HA4.out (by simp), fun k hk => ⟨by have := hk4 k hk; omega, by have := ho4.lows k hk; simp; omega⟩, fun h => absurd (congrArg List.length h) (by rw [HCL.out]; simp)⟩
            have hap4 : ApartC pp (xs ++ [⟨t, p4, c4, chunk bs t⟩]) := by
              intro y hy k hk hk2
              rw [List.mem_append] at hy
              rcases hy with hy | hy
              · exact hap.out y hy k hk hk2
              · simp at hy; subst hy
                have := hk4 k hk
                have := hlow k hk2
                omega
            have HOC4 : Hid (OwnC (w4.alloc (.cells #[.int .i64 1, .int .i64 t, .int .i64 0, .slice p4 256 c4] 57)) (xs ++ [⟨t, p4, c4, chunk bs t⟩])) := hid (fun y hy => by
              rw [List.mem_append] at hy
              rcases hy with hy | hy
              · exact ((hoc.out y hy).kept hf4 (by simp)).kept HA4.out (by simp)
              · simp only [List.mem_singleton] at hy
                subst hy
                show Own _ _ (.slice p4 (chunk bs t).length c4) (chunk bs t)
                rw [HCL.out]
                exact ho4.kept HA4.out (by simp))
            have HI4 := hid hi4
            have HAP4 := hid hap4
            have HF4 : Hid (Frm [] w (w4.alloc (.cells #[.int .i64 1, .int .i64 t, .int .i64 0, .slice p4 256 c4] 57))) := (hf.out.trans hf4 (by simp)).trans HA4.out (by simp)
            have HRV := hid (rv_block (heap_alloc_new w4 (.cells #[.int .i64 1, .int .i64 t, .int .i64 0, .slice p4 256 c4] 57)))
            have hxl : xs.length ≤ 65 := by
              have h1 := congrArg List.length hs.out
              have h2 : (chunksL bs t).length ≤ t := by unfold chunksL; exact Nat.le_trans (List.length_filterMap_le _ _) (by simp)
              simp only [saidV, List.length_map, List.length_cons] at h1
              have h3 := HNN.out
              omega
            have HLO : Hid (∀ k ∈ blk pp, w.heap.size ≤ k) := hi.out.2.1
            clear hi4 hap4 ho4 hf4 hk4 hlow hq
            go_wp2_with (at_builtin; refine wpList_appV rfl _ _ 36 rfl 57 4 48 _ Try.underlying36 infoCell rfl (by decide) pp xs.length pc (cellRows xs) rfl HI4.out.1 (some ⟨w4.heap.size, 0, none⟩) 1 1 [.int .i64 1, .int .i64 t, .int .i64 0, .slice p4 256 c4] rfl rfl (by simp) HRV.out (by intro u hu; simp at hu; rcases hu with rfl | rfl | rfl | rfl <;> rfl) (by unfold maxLen; omega) (by omega) ?_)
            intro p6 c6 w6 ho6 hf6 hfr6
            have hsn := HI4.out.snoc (x := ⟨t, p4, c4, chunk bs t⟩) (by simp; omega) hf6.out HX.out HAP4.out (by rw [show cellRow ⟨t, p4, c4, chunk bs t⟩ = [.int .i64 1, .int .i64 t, .int .i64 0, .slice p4 256 c4] by simp [cellRow, HCL.out]]; exact ho6.out) (fun k hk => by have := hfr6.out k hk; simpa using this)
            have HOC6 : Hid (OwnC w6 (xs ++ [⟨t, p4, c4, chunk bs t⟩])) := hid (fun y hy => (HOC4.out y hy).kept hf6.out (by rw [own_blk]; exact HAP4.out y hy))
            have HI6 := hid hsn.1
            have HAP6 := hid hsn.2
            have HF6 : Hid (Frm [] w w6) := HF4.out.trans hf6.out (fun j hj hlt => absurd (HLO.out j hj) (Nat.not_le.2 hlt))
            have HS6 := hid ((HS2H.out ⟨t, p4, c4, chunk bs t⟩ rfl rfl).out)
            clear hsn ho6 hf6 hfr6
            go_wp2_with fail
            go_roundw
            case rel => exact ⟨t + 1, xs ++ [⟨t, p4, c4, chunk bs t⟩], p6, c6, by omega, by simp, by go_num, HS6, HI6, HAP6, HF6, HOC6⟩
            case measure => simp [intOf]; omega
        · obtain rfl : t = N := by omega
          go_wp2_with fail
          go_returns
          refine ⟨pp, pc, xs, xs.length, rfl, rfl, ?_, hi.out, hf.out, hoc.out⟩
          rw [hs.out, cellsL, HNN.out, Nat.mul_div_cancel_left _ (by omega)]
end Go.Proofs.Ythifchkeapbfdaa
