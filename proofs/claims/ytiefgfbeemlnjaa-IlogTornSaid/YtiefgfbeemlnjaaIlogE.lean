/- The document's log: Append; At, Base, Next of the program's; lent and spoil of the statements. -/
import Derived.Test.YtiefgfbeemlnjaaIlogD
namespace Go.Proofs.Ytiefgfbeemlnjaa
open Go.RowKit
set_option maxRecDepth 100000

set_option maxHeartbeats 400000 in
theorem refAppend_long (b : Nat) (p : Option Addr) (n c : Nat) (h : 4096 < n) (w : World) :
    Calls Try.prog 23 #[.pointer (some ⟨b, 0, none⟩), .slice p n c] w fun e w' => e = .returned (.tuple #[.int .i64 0, .slice none 0 0, .int .i64 2]) ∧ Frm [] w w' := by
  have h' : (4096 : Int) < (n : Int) := by omega
  go_enter Try.func23, Try.ntmps23
  go_wp2_with fail
  go_returns
  exact ⟨rfl, Frm.refl _ _⟩
set_option maxHeartbeats 400000 in
theorem refAppend_full (b : Nat) (base : Int) (at_ : Nat) (next : Int) (p : Option Addr) (n c : Nat) (hat : at_ ≤ 22528) (h : n ≤ 4096) (hr : roomB at_ n = false) (w : World) (hL : IsRef w b base at_ next) :
    Calls Try.prog 23 #[.pointer (some ⟨b, 0, none⟩), .slice p n c] w fun e w' => e = .returned (.tuple #[.int .i64 0, .slice none 0 0, .int .i64 161]) ∧ Frm [] w w' := by
  have h' : ¬ (4096 : Int) < (n : Int) := by omega
  have HR := hid hr
  have HL := hid hL
  clear hr hL
  go_enter Try.func23, Try.ntmps23
  go_wp2_with fail
  refine (refRoom_any b base at_ next n _ hat HL.out).mono ?_
  rintro e w1 ⟨rfl, hf⟩
  have HF := hid hf
  rw [HR.out]
  clear hf
  go_wp2_with fail
  go_returns
  exact ⟨rfl, HF.out⟩
set_option maxHeartbeats 800000 in
theorem refAppend_ok (b base at_ next : Nat) (p : Option Addr) (zs : List Int) (n c : Nat) (hnz : zs.length = n) (hat : at_ ≤ 22528) (hb1 : base < 9223372036854775808) (hb2 : next < 4294967296) (h : n ≤ 4096) (hr : roomB at_ n = true) (w : World) (hL : IsRef w b base at_ next) (hrd : Rd w p zs) :
    Calls Try.prog 23 #[.pointer (some ⟨b, 0, none⟩), .slice p n c] w fun e w' => ∃ p' n' c', e = .returned (.tuple #[.int .i64 at_, .slice p' n' c', .int .i64 0]) ∧ n' = pcs n * 88 ∧ Own w' 5 (.slice p' n' c') (recB base next zs) ∧ IsRef w' b base ((at_ + pcs n * 88 : Nat) : Int) ((next + 1 : Nat) : Int) ∧ Frm [b] w w' ∧ ∀ k ∈ blk p', w.heap.size ≤ k := by
  have h' : ¬ (4096 : Int) < (n : Int) := by omega
  have HR := hid hr
  have HL := hid hL
  have HRD := hid hrd
  have hm1 := pcs_le n h
  clear hr hL hrd
  go_enter Try.func23, Try.ntmps23
  go_wp2_with fail
  refine (refRoom_any b base at_ next n _ hat HL.out).mono ?_
  rintro e w1 ⟨rfl, hf⟩
  have HF := hid hf
  rw [HR.out]
  clear hf
  go_wp2_with fail
  refine (refRecord_any b base next at_ p zs n c hnz hb1 (by omega) h _ (HL.out.kept HF.out (by simp)) (HRD.out.kept HF.out (by simp))).mono ?_
  rintro e w2 ⟨p', n', c', rfl, hn', ho, hf2, hk⟩
  have HF2 := hid (HF.out.trans hf2 (by simp))
  have HO := hid ho
  have HK : Hid (∀ k ∈ blk p', w.heap.size ≤ k) := hid (fun k hk2 => Nat.le_trans HF.out.size (hk k hk2))
  have HLW := hid (HL.out.kept HF2.out (by simp))
  obtain ⟨lb, c0, c1, c2, f1, f2⟩ := HLW.out.cells
  have LB := hid HL.out.cells.1
  have HN := hid hn'
  have hnb : n' ≤ 61 * 88 := by rw [hn']; exact Nat.mul_le_mul_right _ (by omega)
  clear ho hf2 hk hn' hm1
  go_wp2_with fail
  go_returns
  have hF : Frm [b] w2 ((w2.setCell ⟨b, 1, none⟩ (.int .i64 ((at_ : Int) + (n' : Int)))).setCell ⟨b, 2, none⟩ (.int .i64 ((next : Int) + 1))) := ((Frm.refl _ _).setCell _ _ (by simp)).setCell _ _ (by simp)
  refine ⟨p', n', c', rfl, HN.out, ?_, ?_, (HF2.out.mono (by simp)).trans hF (fun i hi _ => hi), HK.out⟩
  · exact HO.out.kept hF (by rw [own_blk]; intro k hk2 h; have := HK.out k hk2; have := LB.out; simp at h; omega)
  · show _ = _
    rw [heap_setCell_same _ b 2 _ _ _ (heap_setCell_same _ b 1 _ _ _ HLW.out)]
    rw [← HN.out, show ((at_ + n' : Nat) : Int) = (at_ : Int) + (n' : Int) by omega, show ((next + 1 : Nat) : Int) = (next : Int) + 1 by omega]
    rfl
set_option maxHeartbeats 400000 in
theorem at_any (b : Nat) (base at_ next : Int) (w : World) (hL : IsLog w b base at_ next) : Calls Try.prog 27 #[.pointer (some ⟨b, 0, none⟩)] w fun e w' => e = .returned (.int .i64 at_) ∧ w = w' := by
  obtain ⟨lb, c0, c1, c2, _⟩ := hL.cells
  clear hL
  go_enter Try.func27, Try.ntmps27
  go_wp2_with fail
  go_returns
  exact ⟨rfl, rfl⟩
set_option maxHeartbeats 400000 in
theorem base_any (b : Nat) (base at_ next : Int) (w : World) (hL : IsLog w b base at_ next) : Calls Try.prog 29 #[.pointer (some ⟨b, 0, none⟩)] w fun e w' => e = .returned (.int .i64 base) ∧ w = w' := by
  obtain ⟨lb, c0, c1, c2, _⟩ := hL.cells
  clear hL
  go_enter Try.func29, Try.ntmps29
  go_wp2_with fail
  go_returns
  exact ⟨rfl, rfl⟩
set_option maxHeartbeats 400000 in
theorem next_any (b : Nat) (base at_ next : Int) (w : World) (hL : IsLog w b base at_ next) : Calls Try.prog 28 #[.pointer (some ⟨b, 0, none⟩)] w fun e w' => e = .returned (.int .i64 next) ∧ w = w' := by
  obtain ⟨lb, c0, c1, c2, _⟩ := hL.cells
  clear hL
  go_enter Try.func28, Try.ntmps28
  go_wp2_with fail
  go_returns
  exact ⟨rfl, rfl⟩
set_option maxHeartbeats 400000 in
theorem spoil_any (p : Option Addr) (n c : Nat) (zs : List Int) (hnz : zs.length = n) (hn : n + 1 ≤ 140737488355328) (w : World) (ho : Own w 5 (.slice p n c) zs) :
    Calls Try.prog 21 #[.slice p n c] w fun e w' => e = .returned (.tuple #[]) ∧ Frm (blk p) w w' := by
  have HO := hid ho
  have HNZ := hid hnz
  clear ho hnz
  go_enter Try.func21, Try.ntmps21
  go_wp2_with fail
  go_loopw [2] (fun i wr => ∃ (j : Nat) (ys : List Int), j ≤ n ∧ i = .int .i64 j ∧ Hid (ys.length = n) ∧ Hid (Own wr 5 (.slice p n c) ys) ∧ Hid (Frm (blk p) w wr)) (fun i _ => n - (intOf i).toNat)
  case atStart => exact ⟨0, zs, Nat.zero_le _, rfl, HNZ, HO, hid (Frm.refl _ _)⟩
  case round =>
    obtain ⟨j, ys, hj, rfl, hy, ho, hf⟩ := hrel
    by_cases hlt : j < n
    · obtain ⟨g, rfl, hg, hc, hz, hset⟩ := ho.out.setAt hy.out hlt
      have HSET := hid hset
      clear hset
      go_wp2_with fail
      go_roundw
      case rel => exact ⟨j + 1, ys.set j 99, by omega, by go_num, hid (by rw [List.length_set]; exact hy.out), hid (HSET.out 99), hid (hf.out.setCell _ _ (by simp [blk]))⟩
      case measure => simp [intOf]; omega
    · obtain rfl : j = n := by omega
      have hrz : Rd (wr.alloc (.cells #[.int .u8 98] 5)) (some ⟨wr.heap.size, 0, none⟩) [98] :=
        (own_of_block (E := 5) (zs := [98]) (heap_alloc_new wr _) (by simp [maxLen])).rd
      have HRZ := hid hrz
      have HJ := hid (ho.out.kept ((Frm.refl [] wr).alloc (.cells #[.int .u8 98] 5)) (by simp))
      clear hrz hlt
      go_wp2_with (at_builtin; refine wpList_appB rfl _ _ 22 rfl 5 Try.underlying22 infoB p _ c ys rfl hy.out.symm (by rw [hy.out]; exact HJ.out) (some ⟨wr.heap.size, 0, none⟩) 1 1 [98] rfl rfl (by simp) HRZ.out (by rw [hy.out]; simp; omega) ?_)
      intro xs p2 c2 w2 hxs ho2 hf2 hfr2
      have hxl : xs.length = j + 1 := by rw [hxs.out, List.length_append, hy.out]; rfl
      have ho3 := ho2.out
      rw [hxl] at ho3
      obtain ⟨g, rfl, hg, hc, hz, hset⟩ := ho3.setAt hxl (show j < j + 1 by omega)
      have HF : Hid (Frm (blk p) w w2) := hid ((hf.out.alloc _).trans hf2.out (fun i hi _ => hi))
      have HG : Hid (g < w.heap.size → g ∈ blk p) := hid (fun hl => by
        rcases hfr2.out g (by simp [blk]) with h | h
        · exact h
        · have := hf.out.size
          omega)
      have hjj : (j : Int) + 1 - 1 = (j : Int) := by omega
      rw [hxl]
      clear ho2 hf2 hfr2 hxs ho3 hset hxl
      go_wp2_with fail
      go_returns
      exact ⟨rfl, HF.out.setCell _ _ HG.out⟩
set_option maxHeartbeats 800000 in
theorem lent_any (p : Option Addr) (n c : Nat) (zs : List Int) (hnz : zs.length = n) (hn : n + 1 ≤ 140737488355328) (w : World) (hrd : Rd w p zs) :
    Calls Try.prog 20 #[.slice p n c] w fun e w' => ∃ g, e = .returned (.slice (some ⟨g, 0, none⟩) (n + 1) (n + 1)) ∧ w'.heap[g]? = some (.cells (bv (zs ++ [200])).toArray 5 (0, 0)) ∧ Frm [] w w' ∧ w.heap.size ≤ g := by
  have HRD := hid hrd
  have HNZ := hid hnz
  have hmk := run_make_row' (P := Try.prog) 22 5 (.int .u8 0) 1 Try.underlying22 infoB rfl .i64 .i64 (n + 1) (by omega) (by omega)
  rw [show ((n + 1 : Nat) : Int) = (n : Int) + 1 from rfl] at hmk
  clear hrd hnz
  go_enter Try.func20, Try.ntmps20
  go_wp2_with fail
  go_loopw [4] (fun i wr => ∃ j : Nat, j ≤ n ∧ i = .int .i64 j ∧ Hid (wr.heap[w.heap.size]? = some (.cells (bv (zs.take j) ++ List.replicate (n + 1 - j) (Value.int .u8 0)).toArray 5 (0, 0))) ∧ Hid (Frm [] w wr)) (fun i _ => n - (intOf i).toNat)
  case atStart =>
    refine ⟨0, Nat.zero_le _, rfl, ?_, (Frm.refl _ _).alloc _⟩
    show _ = _
    rw [heap_alloc_new]
    congr 2
    apply Array.ext'
    simp [toList_madeCells_one, bv]
  case round =>
    obtain ⟨j, hj, rfl, hcur, hfr⟩ := hrel
    by_cases hlt : j < n
    · have htl : (zs.take j).length = j := by rw [List.length_take, HNZ.out]; omega
      have hc : wr.cell? ⟨w.heap.size, j, none⟩ = some (.int .u8 0) := by
        rw [cell_of_row wr _ j _ _ (0,0) hcur.out]
        have h := get_mid (bv (zs.take j)) (n + 1 - j) (Value.int .u8 0) (by omega)
        rw [bv_length, htl] at h
        simpa using h
      have hf := frozen_of_row wr w.heap.size j _ _ hcur.out
      obtain ⟨g, o, rfl, hcs⟩ : ∃ g o, p = some ⟨g, o, none⟩ ∧ wr.cell? ⟨g, o + j, none⟩ = some (.int .u8 (zs.getD j 0)) := by
        rcases HRD.out.kept hfr.out (by simp) with h | ⟨g, o, hp, h⟩
        · have := HNZ.out; rw [h] at this; simp at this; omega
        · exact ⟨g, o, hp, h _ (by rw [HNZ.out]; exact hlt)⟩
      have htk : zs.take (j + 1) = zs.take j ++ [zs.getD j 0] := by
        rw [List.take_add_one, List.getD_eq_getElem?_getD, List.getElem?_eq_getElem (by rw [HNZ.out]; exact hlt)]; rfl
      obtain ⟨z, hz⟩ : ∃ z, zs.getD j 0 = z := ⟨_, rfl⟩
      rw [hz] at hcs htk
      have HTK := hid htk
      have HTL := hid htl
      clear htk htl hz
      go_wp2_with fail
      go_roundw
      case rel =>
        refine ⟨j + 1, by omega, by go_num, ?_, hfr.out.setCell _ _ (by simp)⟩
        show _ = _
        rw [heap_setCell_same wr w.heap.size j _ _ _ hcur.out]
        congr 2
        apply Array.ext'
        have e1 : n + 1 - j = (n + 1 - (j + 1)) + 1 := by omega
        have h := set_mid (bv (zs.take j)) (n + 1 - (j + 1)) (Value.int .u8 0) (Value.int .u8 z)
        rw [bv_length, HTL.out, ← e1] at h
        rw [HTK.out, bv_append]
        simpa [bv] using h
      case measure => simp [intOf]; omega
    · obtain rfl : j = n := by omega
      have hcr : wr.heap[w.heap.size]? = some (.cells (bv zs ++ [Value.int .u8 0]).toArray 5 (0, 0)) := by
        have h := hcur.out
        rw [List.take_of_length_le (by rw [HNZ.out]; omega), show j + 1 - j = 1 by omega] at h
        exact h
      have hc : wr.cell? ⟨w.heap.size, j, none⟩ = some (.int .u8 0) := by
        rw [cell_of_row wr _ j _ _ (0,0) hcr]
        have h := get_mid (bv zs) 1 (Value.int .u8 0) (by omega)
        rw [bv_length, HNZ.out] at h
        simpa using h
      have hf := frozen_of_row wr w.heap.size j _ _ hcr
      have HCR := hid hcr
      clear hcr hlt
      go_wp2_with fail
      go_returns
      refine ⟨w.heap.size, rfl, ?_, hfr.out.setCell _ _ (by simp), Nat.le_refl _⟩
      rw [heap_setCell_same wr w.heap.size j _ _ _ HCR.out]
      congr 2
      apply Array.ext'
      have h := set_mid (bv zs) 0 (Value.int .u8 0) (Value.int .u8 200)
      rw [bv_length, HNZ.out] at h
      rw [bv_append]
      simpa [bv] using h
end Go.Proofs.Ytiefgfbeemlnjaa
