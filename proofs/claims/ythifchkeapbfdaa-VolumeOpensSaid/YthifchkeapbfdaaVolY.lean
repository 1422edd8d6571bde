/- Contracts of the document's volume: Cells. -/
import Derived.Test.YthifchkeapbfdaaVolX
import Derived.Test.YthifchkeapbfdaaVolW
namespace Go.Proofs.Ythifchkeapbfdaa
open Go.RowKit
set_option maxRecDepth 100000

theorem le4 (n : Nat) (h : n ≤ 16384) : le (n : Int) 4 = [(n : Int) % 256, (n : Int) / 256 % 256, (n : Int) / 65536, 0] := by
  simp only [le, List.range_succ, List.range_zero, List.nil_append, List.cons_append, List.map_cons, List.map_nil, Nat.mul_zero, Nat.mul_one]
  have p1 : (2 : Int) ^ (0 : Nat) = 1 := by decide
  have p2 : (2 : Int) ^ (8 : Nat) = 256 := by decide
  have p3 : (2 : Int) ^ (8 * 2 : Nat) = 65536 := by decide
  have p4 : (2 : Int) ^ (8 * 3 : Nat) = 16777216 := by decide
  rw [p1, p2, p3, p4]
  have q1 : (n : Int) / 1 % 256 = (n : Int) % 256 := by rw [Int.ediv_one]
  have q2 : (n : Int) / 65536 % 256 = (n : Int) / 65536 := by omega
  have q3 : (n : Int) / 16777216 % 256 = 0 := by omega
  rw [q1, q2, q3]
set_option maxHeartbeats 3200000 in
theorem refVCells_any (b g : Nat) (bs : List Int) (w : World) (hv : IsRefV w b g bs) :
    Calls Try.prog 24 #[.pointer (some ⟨b, 0, none⟩)] w fun e w' => ∃ pp pc xs n, e = .returned (.slice pp n pc) ∧ n = xs.length ∧ saidV xs = cellsL bs ∧ IsCells w' w.heap.size pp pc xs ∧ Frm [] w w' := by
  have HV := hid hv
  have l1 := hv.l1
  have l2 := hv.l2
  have l3 := hv.l3
  have HL4 := hid (le4 bs.length l2)
  obtain ⟨lb, lg, c0, hrg⟩ := hv.cells
  have HRG := hid hrg
  obtain ⟨N, hN⟩ : ∃ N, bs.length = 256 * N := ⟨bs.length / 256, by omega⟩
  have HNN := hid hN
  obtain ⟨L, hL⟩ : ∃ L, bs.length = L := ⟨_, rfl⟩
  rw [hL] at c0 l1 l2 l3 HL4
  have HLL := hid hL
  clear hv hrg hN hL l3
  go_enter Try.func24, Try.ntmps24
  go_wp2_with fail
  have hgH : ((w.alloc (.cells #[.int .u8 ((L : Int) % 256), .int .u8 ((L : Int) / 256 % 256), .int .u8 ((L : Int) / 65536), .int .u8 0] 5)).heap[w.heap.size]?) = some (.cells (bv (le (L : Int) 4)).toArray 5 (0, 0)) := by
    rw [heap_alloc_new, HL4.out]; rfl
  obtain ⟨wa, hwa⟩ : ∃ wa, w.alloc (.cells #[.int .u8 ((L : Int) % 256), .int .u8 ((L : Int) / 256 % 256), .int .u8 ((L : Int) / 65536), .int .u8 0] 5) = wa := ⟨_, rfl⟩
  have hfa : Frm [] w wa := by rw [← hwa]; exact (Frm.refl _ _).alloc _
  have hsa : wa.heap.size = w.heap.size + 1 := by rw [← hwa]; simp
  rw [hwa] at hgH ⊢
  have HI0 : Hid (IsCells (wa.alloc (.cells #[.int .i64 1, .int .i64 (-1), .int .i64 0, .slice (some ⟨w.heap.size, 0, none⟩) 4 4] 57)) w.heap.size (some ⟨wa.heap.size, 0, none⟩) 1 [⟨-1, some ⟨w.heap.size, 0, none⟩, 4, le (L : Int) 4⟩]) := hid (by
    have hrd := (own_of_block (E := 5) hgH (by rw [le_length]; unfold maxLen; omega)).rd
    refine ⟨World.ownsRow_lit wa _ 1 (Nat.zero_le _) (by unfold maxLen; omega) rfl, by simp [blk]; omega, fun x hx => ?_⟩
    simp only [List.mem_singleton] at hx
    subst hx
    exact ⟨hrd.kept ((Frm.refl [] wa).alloc _) (by simp), fun k hk => by simp [blk] at hk; subst hk; simp; omega, fun h => absurd (congrArg List.length h) (by simp [le_length])⟩)
  have HA0 : Hid (ApartC (some ⟨wa.heap.size, 0, none⟩) [⟨-1, some ⟨w.heap.size, 0, none⟩, 4, le (L : Int) 4⟩]) := hid (by
    intro y hy k hk hk2
    simp only [List.mem_singleton] at hy
    subst hy
    simp [blk] at hk hk2
    omega)
  have HF0 := hid (hfa.alloc (.cells #[.int .i64 1, .int .i64 (-1), .int .i64 0, .slice (some ⟨w.heap.size, 0, none⟩) 4 4] 57))
  obtain ⟨wb, hwb⟩ : ∃ wb, wa.alloc (.cells #[.int .i64 1, .int .i64 (-1), .int .i64 0, .slice (some ⟨w.heap.size, 0, none⟩) 4 4] 57) = wb := ⟨_, rfl⟩
  have hsb : w.heap.size + 1 = wa.heap.size := hsa.symm
  rw [hwb] at HI0 HF0 ⊢
  obtain ⟨hb0, hhb0⟩ : ∃ hb0, wa.heap.size = hb0 := ⟨_, rfl⟩
  rw [hhb0] at HI0 HA0 hsb
  have HSB := hid hsb
  have HEW := hid hhb0
  have HWA := hid hwa
  have HLN : Hid (L = 256 * N) := hid (by rw [← HLL.out, HNN.out])
  clear hgH hfa hsa hwb hwa hhb0 hsb
  go_loopw [5, 6] (fun v a wr => ∃ (t : Nat) (xs : List CellV) (pp : Option Addr) (pc : Nat), t ≤ N ∧ v = .slice pp xs.length pc ∧ a = .int .i64 (t : Int) ∧ Hid (saidV xs = (-1, le bs.length 4) :: chunksL bs t) ∧ Hid (IsCells wr w.heap.size pp pc xs) ∧ Hid (ApartC pp xs) ∧ Hid (Frm [] w wr)) (fun _ a _ => N - (intOf a).toNat)
  case atStart =>
    refine ⟨0, [⟨-1, some ⟨w.heap.size, 0, none⟩, 4, le (L : Int) 4⟩], some ⟨hb0, 0, none⟩, 1, Nat.zero_le _, ?_, rfl, hid (by simp [saidV, chunksL, HLL.out]), HI0, HA0, HF0⟩
    rw [HSB.out]
    rfl
  case round =>
    clear HI0 HA0 HF0
    obtain ⟨t, xs, pp, pc, ht, rfl, rfl, hs, hi, hap, hf⟩ := hrel
    have hln1 : L ≤ 256 * N := by have := HLN.out; omega
    have hln2 : 256 * N ≤ L := by have := HLN.out; omega
    have c0' := (hf.out.cell (p := ⟨b, 0, none⟩) lb (by simp)).trans c0
    by_cases hlt : t < N
    · have hcl : (chunk bs t).length = 256 := by simp only [chunk, List.length_take, List.length_drop, HNN.out]; omega
      have HCL := hid hcl
      have hb1 : (256 : Int) * (t : Int) < (L : Int) := by omega
      have hb2 : (0 : Int) ≤ (256 : Int) * (t : Int) := by omega
      clear hcl
      go_wp2_with fail
      obtain ⟨wo, rfl⟩ : ∃ wo : World, wo = wr := ⟨_, rfl⟩
      go_loopw [7, 8, 9] (fun v s i wi => ∃ (j : Nat) (p : Option Addr) (c : Nat) (sb : Bool), j ≤ 256 ∧ v = .slice p j c ∧ s = .bool sb ∧ i = .int .i64 (256 * (t : Int) + (j : Int)) ∧ Hid (sb = !((chunk bs t).take j).all (· == 0)) ∧ Hid (((chunk bs t).take j).length = j) ∧ Hid (Own wi 5 (.slice p j c) ((chunk bs t).take j)) ∧ Hid (Frm [] wo wi) ∧ Hid (∀ k ∈ blk p, wo.heap.size ≤ k)) (fun _ _ i _ => 256 - ((intOf i).toNat - 256 * t))
      case atStart => exact ⟨0, none, 0, false, Nat.zero_le _, rfl, rfl, by simp, hid (by simp), hid (by simp), hid (by simpa using Own.nil _ _), hid (Frm.refl _ _), hid (by simp [blk])⟩
      case round =>
        obtain ⟨j, p, c, sb, hj, rfl, rfl, rfl, hsb, hlen, ho, hfj, hk⟩ := hrel
        by_cases hlj : j < 256
        · have e0 := (hfj.out.cell (p := ⟨b, 0, none⟩) (Nat.lt_of_lt_of_le lb hf.out.size) (by simp)).trans c0'
          obtain ⟨_, _, e1, hc⟩ := rd_at' (i := 256 * t + j) (HRG.out.kept (hf.out.trans hfj.out (by simp)) (by simp)) (by rw [HLL.out]; omega)
          simp only [Option.some.injEq, Addr.mk.injEq, and_true] at e1
          obtain ⟨rfl, rfl⟩ := e1
          rw [Nat.zero_add] at hc
          have htk : (chunk bs t).take (j + 1) = (chunk bs t).take j ++ [bs.getD (256 * t + j) 0] := by
            rw [List.take_add_one]
            congr 1
            unfold chunk
            rw [List.getElem?_take, if_pos hlj, List.getElem?_drop, List.getD_eq_getElem?_getD, List.getElem?_eq_getElem (by rw [HLL.out]; omega)]; rfl
          obtain ⟨x, hx⟩ : ∃ x, bs.getD (256 * t + j) 0 = x := ⟨_, rfl⟩
          rw [hx] at hc htk
          have HTK := hid htk
          have s0 : (0 : Int) ≤ 256 * (t : Int) + (j : Int) := by omega
          have s1 : 256 * (t : Int) + (j : Int) < (L : Int) := by omega
          have s2 : (256 * (t : Int) + (j : Int)).toNat = 256 * t + j := by omega
          have s3 : 256 * (t : Int) + (j : Int) < 256 * (t : Int) + 256 := by omega
          have hrz : Rd (wr.alloc (.cells #[.int .u8 x] 5)) (some ⟨wr.heap.size, 0, none⟩) [x] :=
            (own_of_block (E := 5) (zs := [x]) (heap_alloc_new wr _) (by simp [maxLen])).rd
          have HRZ := hid hrz
          have hfz1 : Frm [] wr (wr.alloc (.cells #[.int .u8 x] 5)) := (Frm.refl _ _).alloc _
          have HOA := hid (ho.out.kept hfz1 (by simp))
          have HFA := hid (hfj.out.trans hfz1 (by simp))
          have HC2 : Hid (∀ W, Frm (blk p) (wr.alloc (.cells #[.int .u8 x] 5)) W → W.cell? ⟨b, 0, none⟩ = some (.slice (some ⟨g, 0, none⟩) L L) ∧ W.cell? ⟨g, 256 * t + j, none⟩ = some (.int .u8 x)) := hid (fun W hW => by
            have hb : b < wr.heap.size := World.block_lt_of_cell? wr _ e0
            have hg : g < wr.heap.size := World.block_lt_of_cell? wr _ hc
            have hbo : b < wo.heap.size := Nat.lt_of_lt_of_le lb hf.out.size
            have hgo : g < wo.heap.size := Nat.lt_of_lt_of_le lg hf.out.size
            have hF : Frm (blk p) wr W := (hfz1.mono (by simp)).trans hW (fun i hi _ => hi)
            exact ⟨(hF.cell (p := ⟨b, 0, none⟩) hb (fun h => by have := hk.out b h; omega)).trans e0, (hF.cell (p := ⟨g, 256 * t + j, none⟩) hg (fun h => by have := hk.out g h; omega)).trans hc⟩)
          clear hrz htk hx hfz1
          go_wp2_with (at_builtin; refine wpList_appB rfl _ _ 44 rfl 5 Try.underlying44 infoB p _ c ((chunk bs t).take j) rfl hlen.out.symm (by rw [hlen.out]; exact HOA.out) (some ⟨wr.heap.size, 0, none⟩) 1 1 [x] rfl rfl (by simp) HRZ.out (by rw [hlen.out]; simp; omega) ?_)
          intro xs2 p2 c2 w2 hxs ho2 hf2 hfr2
          have hx2 : xs2 = (chunk bs t).take (j + 1) := by rw [hxs.out, ← HTK.out]
          have hxl : xs2.length = j + 1 := by rw [hxs.out, List.length_append, hlen.out]; rfl
          have HLN2 : Hid (((chunk bs t).take (j + 1)).length = j + 1) := hid (by rw [← hx2, hxl])
          have HO2 : Hid (Own w2 5 (.slice p2 (j + 1) c2) ((chunk bs t).take (j + 1))) := hid (by have h := ho2.out; rwa [hxl, hx2] at h)
          have HF2 : Hid (Frm [] wo w2) := hid (HFA.out.trans hf2.out (fun i hi hlt => by have := hk.out i hi; omega))
          have HK2 : Hid (∀ k ∈ blk p2, wo.heap.size ≤ k) := hid (fun k hk2 => by
            rcases hfr2.out k hk2 with h | h
            · exact hk.out k h
            · have := hfj.out.size; omega)
          obtain ⟨g0, g1⟩ := HC2.out w2 hf2.out
          rw [hxl]
          clear hxs ho2 hf2 hfr2 hx2 hxl e0 hc
          have HSB2 : Hid (∀ sb' : Bool, sb' = (sb || x != 0) → sb' = !((chunk bs t).take (j + 1)).all (· == 0)) := hid (fun sb' h => by
            rw [h, HTK.out, List.all_append, hsb.out]
            simp [Bool.not_and, bne])
          cases sb with
          | true =>
            go_wp2_with fail
            go_roundw
            case rel => exact ⟨j + 1, p2, c2, true, by omega, rfl, rfl, by go_num, hid (HSB2.out true rfl), HLN2, HO2, HF2, HK2⟩
            case measure => simp [intOf]; omega
          | false =>
            go_wp2_with fail
            go_roundw
            case rel => exact ⟨j + 1, p2, c2, x != 0, by omega, rfl, rfl, by go_num, hid (HSB2.out _ rfl), HLN2, HO2, HF2, HK2⟩
            case measure => simp [intOf]; omega
        · obtain rfl : j = 256 := by omega
          have htk : (chunk bs t).take 256 = chunk bs t := List.take_of_length_le (by rw [HCL.out]; omega)
          rw [htk] at hsb ho
          have HF4 := hid (hf.out.trans hfj.out (by simp))
          have hi4 := hi.out.kept hfj.out (by simp)
          have HI4 := hid hi4
          have hs3 : ¬ 256 * (t : Int) + 256 < 256 * (t : Int) + 256 := by omega
          have hxl : xs.length ≤ 65 := by
            have h1 := congrArg List.length hs.out
            have h2 : (chunksL bs t).length ≤ t := by unfold chunksL; exact Nat.le_trans (List.length_filterMap_le _ _) (by simp)
            simp only [saidV, List.length_map, List.length_cons] at h1
            omega
          cases sb with
          | false =>
            have hz : (chunk bs t).all (· == 0) = true := by have := hsb.out; simpa using this
            have HS2 : Hid (saidV xs = (-1, le bs.length 4) :: chunksL bs (t + 1)) := hid (by rw [chunksL_succ, if_pos hz, List.append_nil]; exact hs.out)
            clear hz htk hlj
            go_wp2_with fail
            go_roundw
            case rel => exact ⟨t + 1, xs, pp, pc, by omega, rfl, by go_num, HS2, HI4, hap, HF4⟩
            case measure => simp [intOf]; omega
          | true =>
            have hz : (chunk bs t).all (· == 0) = false := by have := hsb.out; simpa using this
            have HS2 : Hid (saidV (xs ++ [⟨(t : Int), p, c, chunk bs t⟩]) = (-1, le bs.length 4) :: chunksL bs (t + 1)) := hid (by
              rw [chunksL_succ, if_neg (by rw [hz]; simp), ← List.cons_append, ← hs.out]
              simp [saidV])
            have hfa : Frm [] wr (wr.alloc (.cells #[.int .i64 1, .int .i64 t, .int .i64 0, .slice p 256 c] 57)) := (Frm.refl _ _).alloc _
            have hlow := ownsRow_low hi.out.1
            have hsz := hf.out.size
            have HX : Hid (Rd (wr.alloc (.cells #[.int .i64 1, .int .i64 t, .int .i64 0, .slice p 256 c] 57)) p (chunk bs t) ∧ (∀ k ∈ blk p, w.heap.size ≤ k ∧ k < (wr.alloc (.cells #[.int .i64 1, .int .i64 t, .int .i64 0, .slice p 256 c] 57)).heap.size) ∧ (chunk bs t = [] → p = none → c = 0)) := hid
              ⟨ho.out.rd.kept hfa (by simp), fun k hk2 => ⟨by have := hk.out k hk2; omega, by have := ho.out.lows k hk2; simp; omega⟩, fun h => absurd (congrArg List.length h) (by rw [HCL.out]; simp)⟩
            have HAP4 : Hid (ApartC pp (xs ++ [⟨(t : Int), p, c, chunk bs t⟩])) := hid (by
              intro y hy k hk1 hk2
              rw [List.mem_append] at hy
              rcases hy with hy | hy
              · exact hap.out y hy k hk1 hk2
              · simp only [List.mem_singleton] at hy
                subst hy
                have := hk.out k hk1
                have := hlow k hk2
                omega)
            have HI5 := hid (hi4.kept hfa (by simp))
            have HF5 := hid (HF4.out.trans hfa (by simp))
            have HRV := hid (rv_block (heap_alloc_new wr (.cells #[.int .i64 1, .int .i64 t, .int .i64 0, .slice p 256 c] 57)))
            have HLO : Hid (∀ k ∈ blk pp, w.heap.size ≤ k) := hi.out.2.1
            clear hz htk hlj hfa hlow hi4
            go_wp2_with (at_builtin; refine wpList_appV rfl _ _ 36 rfl 57 4 48 _ Try.underlying36 infoCell rfl (by decide) pp xs.length pc (cellRows xs) rfl HI5.out.1 (some ⟨wr.heap.size, 0, none⟩) 1 1 [.int .i64 1, .int .i64 t, .int .i64 0, .slice p 256 c] rfl rfl (by simp) HRV.out (by intro u hu; simp at hu; rcases hu with rfl | rfl | rfl | rfl <;> rfl) (by unfold maxLen; omega) (by omega) ?_)
            intro p6 c6 w6 ho6 hf6 hfr6
            have hsn := HI5.out.snoc (x := ⟨(t : Int), p, c, chunk bs t⟩) (by have := hfj.out.size; simp; omega) hf6.out HX.out HAP4.out (by rw [show cellRow ⟨(t : Int), p, c, chunk bs t⟩ = [.int .i64 1, .int .i64 t, .int .i64 0, .slice p 256 c] by simp [cellRow, HCL.out]]; exact ho6.out) (fun k hk => by have := hfr6.out k hk; simpa using this)
            have HI6 := hid hsn.1
            have HAP6 := hid hsn.2
            have HF6 : Hid (Frm [] w w6) := hid (HF5.out.trans hf6.out (fun j hj hlt => absurd (HLO.out j hj) (Nat.not_le.2 hlt)))
            clear hsn ho6 hf6 hfr6
            go_wp2_with fail
            go_roundw
            case rel => exact ⟨t + 1, xs ++ [⟨(t : Int), p, c, chunk bs t⟩], p6, c6, by omega, by simp, by go_num, HS2, HI6, HAP6, HF6⟩
            case measure => simp [intOf]; omega
    · obtain rfl : t = N := by omega
      have hb1 : ¬ (256 : Int) * (t : Int) < (L : Int) := by omega
      clear hlt
      go_wp2_with fail
      go_returns
      refine ⟨pp, pc, xs, xs.length, rfl, rfl, ?_, hi.out, hf.out⟩
      rw [hs.out, cellsL, HNN.out, Nat.mul_div_cancel_left _ (by omega)]
end Go.Proofs.Ythifchkeapbfdaa
