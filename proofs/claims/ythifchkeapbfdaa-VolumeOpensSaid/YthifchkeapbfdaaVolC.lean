/- Contracts of package volume: Discard. -/
import Derived.Test.YthifchkeapbfdaaVolB
namespace Go.Proofs.Ythifchkeapbfdaa
open Go.RowKit
set_option maxRecDepth 100000

theorem infoBs : (Try.prog.info? 44).map (fun i => (i.zero, i.size, i.bytes)) = some (some (.slice none 0 0), 1, 24) := by kernel_rfl
set_option maxHeartbeats 800000 in
theorem volDiscard_no (b g : Nat) (bs : List Int) (i many : Int) (w : World) (hv : IsVol w b g bs) (h : hasB bs.length i many = false) :
    Calls Try.prog 16 #[.pointer (some ⟨b, 0, none⟩), .int .i64 i, .int .i64 many] w fun e w' => e = .returned (.int .i64 186) ∧ w = w' := by
  have HV := hid hv
  have HH := hid h
  clear hv h
  go_enter Try.func16, Try.ntmps16
  go_wp2_with fail
  refine (has_any b g bs i many _ HV.out).mono ?_
  rintro e w1 ⟨rfl, rfl⟩
  rw [HH.out]
  go_wp2_with fail
  go_returns
  exact ⟨rfl, rfl⟩
/-- Pieces of noughts, all in one block. -/
def nPs (nb : Nat) (ls : List Nat) : List PieceD := ls.map fun l => ⟨some ⟨nb, 0, none⟩, 256, List.replicate l 0⟩
def nCells (nb : Nat) (ls : List Nat) : List Value := ls.map fun l => .slice (some ⟨nb, 0, none⟩) l 256
theorem allZ_n (nb : Nat) (ls : List Nat) : allZ (nPs nb ls) = List.replicate ls.sum 0 := by
  induction ls with
  | nil => rfl
  | cons l ls ih =>
    have : allZ (nPs nb (l :: ls)) = List.replicate l 0 ++ allZ (nPs nb ls) := rfl
    rw [this, ih, List.sum_cons, List.replicate_append_replicate]
set_option maxHeartbeats 1600000 in
theorem volDiscard_ok (b g : Nat) (bs : List Int) (i M : Nat) (w : World) (hv : IsVol w b g bs) (h : i + M ≤ bs.length) :
    Calls Try.prog 16 #[.pointer (some ⟨b, 0, none⟩), .int .i64 i, .int .i64 M] w fun e w' => e = .returned (.int .i64 0) ∧ IsVol w' b g (splice bs i (List.replicate M 0)) ∧ Frm [g] w w' := by
  have HV := hid hv
  have l2 := hv.l2
  obtain ⟨lb, lg, c0, _⟩ := hv.cells
  have hh : hasB bs.length i M = true := by simp [hasB]; omega
  have HH := hid hh
  have hmk := run_make_row' (P := Try.prog) 44 5 (.int .u8 0) 1 Try.underlying44 infoB rfl .i64 .i64 256 (by omega) (by omega)
  rw [show ((256 : Nat) : Int) = 256 from rfl] at hmk
  clear hv hh
  go_enter Try.func16, Try.ntmps16
  go_wp2_with fail
  refine (has_any b g bs i M _ HV.out).mono ?_
  rintro e w1 ⟨rfl, rfl⟩
  rw [HH.out]
  go_wp2_with fail
  go_loopw [2, 8] (fun r v wr => ∃ (k : Nat) (ls : List Nat) (pp : Option Addr) (pc : Nat), r = .int .i64 k ∧ v = .slice pp ls.length pc ∧ Hid (k + ls.sum = M) ∧ Hid (ls.length ≤ ls.sum) ∧ Hid (∀ l ∈ ls, l ≤ 256) ∧
    Hid (wr.ownsRow 0 44 1 (.slice pp ls.length pc) ls.length (nCells w.heap.size ls)) ∧ Hid (Frm [] w wr) ∧ Hid (wr.heap[w.heap.size]? = some (.cells (bv (List.replicate 256 0)).toArray 5 (0, 0))) ∧ Hid (∀ k ∈ blk pp, w.heap.size < k)) (fun r _ _ => (intOf r).toNat)
  case atStart =>
    refine ⟨M, [], none, 0, rfl, rfl, hid (by simp), hid (by simp), hid (by simp), World.ownsRow_nil _ _ _ _, (Frm.refl _ _).alloc _, ?_, hid (by simp [blk])⟩
    show _ = _
    rw [heap_alloc_new]
    congr 2
    apply Array.ext'
    rw [toList_madeCells_one, bv_toList]
    simp [bv]
  case round =>
    obtain ⟨k, ls, pp, pc, rfl, rfl, hk, hll, hl6, ho, hf, hnb, hpp⟩ := hrel
    by_cases h0 : 0 < k
    · have hkM : k ≤ M := by have := hk.out; omega
      by_cases h1 : k ≤ 256
      · have h1' : ¬ (256 : Int) < (k : Int) := by omega
        have HFA : Hid (Frm [] wr (wr.alloc (.cells #[.slice (some ⟨w.heap.size, 0, none⟩) k 256] 44))) := (Frm.refl _ _).alloc _
        have HOA := hid (ownsRow_kept ho.out HFA.out (by simp))
        have HRV := hid (rv_block (heap_alloc_new wr (.cells #[.slice (some ⟨w.heap.size, 0, none⟩) k 256] 44)))
        have hsm : ls.length ≤ 16384 := by have := hk.out; have := hll.out; omega
        go_wp2_with (at_builtin; refine wpList_appV rfl _ _ 63 rfl 44 1 24 _ Try.underlying63 infoBs rfl (by decide) pp ls.length pc (nCells w.heap.size ls) rfl HOA.out (some ⟨wr.heap.size, 0, none⟩) 1 1 [.slice (some ⟨w.heap.size, 0, none⟩) k 256] rfl rfl (by simp) HRV.out (by intro u hu; simp at hu; subst hu; rfl) (by unfold maxLen; omega) (by omega) ?_)
        intro p2 c2 w2 ho2 hf2 hfr2
        have HO2 : Hid (w2.ownsRow 0 44 1 (.slice p2 (ls ++ [k]).length c2) (ls ++ [k]).length (nCells w.heap.size (ls ++ [k]))) := by
          have h1 := ho2.out
          show w2.ownsRow _ _ _ _ _ _
          simpa [nCells] using h1
        have HF2 : Hid (Frm [] w w2) := (hf.out.trans HFA.out (by simp)).trans hf2.out (fun j hj hlt => by have := hpp.out j hj; omega)
        have HN2 : Hid (w2.heap[w.heap.size]? = some (.cells (bv (List.replicate 256 0)).toArray 5 (0, 0))) := hf2.out.heap (HFA.out.heap hnb.out (by simp)) (fun hj => by have := hpp.out _ hj; omega)
        have hsz := lt_of_heap hnb.out
        have HP2 : Hid (∀ k ∈ blk p2, w.heap.size < k) := fun j hj => (hfr2.out j hj).elim (hpp.out j) (fun h => by omega)
        have HK2 : Hid (k - k + (ls ++ [k]).sum = M) := by have := hk.out; show _ = _; rw [List.sum_append]; simp; omega
        have HL2 : Hid ((ls ++ [k]).length ≤ (ls ++ [k]).sum) := by have := hll.out; show _ ≤ _; rw [List.sum_append]; simp; omega
        have H62 : Hid (∀ l ∈ ls ++ [k], l ≤ 256) := by intro l hl; rw [List.mem_append] at hl; rcases hl with hl | hl; exact hl6.out l hl; simp at hl; omega
        clear ho2 hf2 hfr2
        go_wp2_with fail
        go_roundw
        case rel => exact ⟨k - k, ls ++ [k], p2, c2, by simp, by simp, HK2, HL2, H62, HO2, HF2, HN2, HP2⟩
        case measure => simp [intOf]; omega
      · have h1' : (256 : Int) < (k : Int) := by omega
        have HFA : Hid (Frm [] wr (wr.alloc (.cells #[.slice (some ⟨w.heap.size, 0, none⟩) 256 256] 44))) := (Frm.refl _ _).alloc _
        have HOA := hid (ownsRow_kept ho.out HFA.out (by simp))
        have HRV := hid (rv_block (heap_alloc_new wr (.cells #[.slice (some ⟨w.heap.size, 0, none⟩) 256 256] 44)))
        have hsm : ls.length ≤ 16384 := by have := hk.out; have := hll.out; omega
        go_wp2_with (at_builtin; refine wpList_appV rfl _ _ 63 rfl 44 1 24 _ Try.underlying63 infoBs rfl (by decide) pp ls.length pc (nCells w.heap.size ls) rfl HOA.out (some ⟨wr.heap.size, 0, none⟩) 1 1 [.slice (some ⟨w.heap.size, 0, none⟩) 256 256] rfl rfl (by simp) HRV.out (by intro u hu; simp at hu; subst hu; rfl) (by unfold maxLen; omega) (by omega) ?_)
        intro p2 c2 w2 ho2 hf2 hfr2
        have HO2 : Hid (w2.ownsRow 0 44 1 (.slice p2 (ls ++ [256]).length c2) (ls ++ [256]).length (nCells w.heap.size (ls ++ [256]))) := by
          have h1 := ho2.out
          show w2.ownsRow _ _ _ _ _ _
          simpa [nCells] using h1
        have HF2 : Hid (Frm [] w w2) := (hf.out.trans HFA.out (by simp)).trans hf2.out (fun j hj hlt => by have := hpp.out j hj; omega)
        have HN2 : Hid (w2.heap[w.heap.size]? = some (.cells (bv (List.replicate 256 0)).toArray 5 (0, 0))) := hf2.out.heap (HFA.out.heap hnb.out (by simp)) (fun hj => by have := hpp.out _ hj; omega)
        have hsz := lt_of_heap hnb.out
        have HP2 : Hid (∀ k ∈ blk p2, w.heap.size < k) := fun j hj => (hfr2.out j hj).elim (hpp.out j) (fun h => by omega)
        have HK2 : Hid (k - 256 + (ls ++ [256]).sum = M) := by have := hk.out; show _ = _; rw [List.sum_append]; simp; omega
        have HL2 : Hid ((ls ++ [256]).length ≤ (ls ++ [256]).sum) := by have := hll.out; show _ ≤ _; rw [List.sum_append]; simp; omega
        have H62 : Hid (∀ l ∈ ls ++ [256], l ≤ 256) := by intro l hl; rw [List.mem_append] at hl; rcases hl with hl | hl; exact hl6.out l hl; simp at hl; omega
        clear ho2 hf2 hfr2
        go_wp2_with fail
        go_roundw
        case rel => exact ⟨k - 256, ls ++ [256], p2, c2, by go_num, by simp, HK2, HL2, H62, HO2, HF2, HN2, HP2⟩
        case measure => simp [intOf]; omega
    · obtain rfl : k = 0 := by omega
      have hvr := HV.out.kept hf.out (by simp) (by simp)
      have hnl : (nPs w.heap.size ls).length = ls.length := by simp [nPs]
      have hsm : ls.length ≤ 16384 := by have := hk.out; have := hll.out; omega
      have hsum : ls.sum = M := by have := hk.out; omega
      have HP : IsPcs wr g pp (nPs w.heap.size ls) := by
        intro j hj
        rw [hnl] at hj
        have ho' := ho.out
        rcases ho.out.2 with ⟨_, h0⟩ | ⟨hb, c', cur, he, _, hg, _⟩
        · omega
        · simp only [Value.slice.injEq] at he
          obtain ⟨rfl, _, _⟩ := he
          have hgt := hpp.out hb (by simp [blk])
          refine ⟨hb, 0, rfl, lt_of_heap hg, by omega, ?_, ?_, fun _ => ?_⟩
          · rw [Nat.zero_add, World.ownsRow.cellAt ho' j (by omega)]
            simp [nCells, nPs, hj]
          · have h2 : Rd wr (some ⟨w.heap.size, 0, none⟩) (List.replicate 256 (0 : Int)) := (own_of_block (E := 5) hnb.out (by unfold maxLen; simp)).rd
            have h3 := h2.take ls[j]
            have h4 := hl6.out ls[j] (List.getElem_mem hj)
            rw [List.take_replicate, Nat.min_eq_left h4] at h3
            simpa [nPs] using h3
          · simp [nPs, blk]; omega
      have HC := fill_any b g i bs pp pc (nPs w.heap.size ls) wr hvr HP (by rw [allZ_n]; simp; omega) (by omega)
      rw [allZ_n, hnl, hsum] at HC
      have HCC := hid HC
      clear HC HP hnl hvr hsum
      go_wp2_with fail
      refine HCC.out.mono ?_
      rintro e w2 ⟨rfl, hv2, hf2⟩
      have HV3 := hid hv2
      have HF3 := hid hf2
      clear hv2 hf2
      go_wp2_with fail
      go_returns
      exact ⟨rfl, HV3.out, (hf.out.mono (by simp)).trans HF3.out (fun i hi _ => hi)⟩
end Go.Proofs.Ythifchkeapbfdaa
