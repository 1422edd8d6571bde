/- Contracts of the law's own. -/
import Derived.Test.YtdnnbinmippkdaaDoorPtrX
namespace Go.Proofs.YtdnnbinmippkdaaDoor
open Go.RowKit Go.Lib
set_option maxRecDepth 100000

set_option maxHeartbeats 1600000 in
theorem own_any (p q : Option Addr) (n c d : Nat) (zs : List Int) (hnz : zs.length = n) (hn : n + 1 ≤ 140737488355328) (w : World) (ho : Own w 5 (.slice p n c) zs) (hw : Rd w q zs) :
    Calls Tryd.prog 12 #[.slice p n c, .slice q n d] w fun e w' => e = .returned (.bool true) ∧ Frm (blk p) w w' := by
  have HO := hid ho
  have HNZ := hid hnz
  have hcv1 := cv_any (P := Tryd.prog) (w := w) 28 5 9 Tryd.underlying28 Tryd.underlying5 Tryd.underlying9 ho.rd c hnz
  have hcv2 := cv_any (P := Tryd.prog) (w := w) 28 5 9 Tryd.underlying28 Tryd.underlying5 Tryd.underlying9 hw d hnz
  obtain ⟨S, hS⟩ : ∃ S, strOfNums zs = S := ⟨_, rfl⟩
  rw [hS] at hcv1 hcv2
  have hbb : (S.toList == S.toList) = true := by simp
  clear ho hnz hS hw
  go_enter Tryd.func12, Tryd.ntmps12
  go_wp2_with fail
  clear hcv1 hcv2
  go_loopw [6] (fun i wr => ∃ (j : Nat) (ys : List Int), j ≤ n ∧ i = .int .i64 j ∧ Hid (ys.length = n) ∧ Hid (Own wr 5 (.slice p n c) ys) ∧ Hid (Frm (blk p) w wr)) (fun i _ => n - (intOf i).toNat)
  case atStart => exact ⟨0, zs, Nat.zero_le _, rfl, HNZ, HO, hid (Frm.refl _ _)⟩
  case round =>
    obtain ⟨j, ys, hj, rfl, hy, ho, hf⟩ := hrel
    by_cases hlt : j < n
    · obtain ⟨g, rfl, hg, hc, hz, hset⟩ := ho.out.setAt hy.out hlt
      have HSET := hid hset
      clear hset
      go_wp2_with fail
      go_roundw
      case rel => exact ⟨j + 1, ys.set j _, by omega, by go_num, hid (by rw [List.length_set]; exact hy.out), hid (HSET.out _), hid (hf.out.setCell _ _ (by simp [blk]))⟩
      case measure => simp [intOf]; omega
    · obtain rfl : j = n := by omega
      have hrz : Rd (wr.alloc (.cells #[.int .u8 7] 5)) (some ⟨wr.heap.size, 0, none⟩) [7] :=
        (own_of_block (E := 5) (zs := [7]) (heap_alloc_new wr _) (by simp [maxLen])).rd
      have HRZ := hid hrz
      have HJ := hid (ho.out.kept ((Frm.refl [] wr).alloc (.cells #[.int .u8 7] 5)) (by simp))
      clear hrz hlt
      go_wp2_with (at_builtin; refine wpList_appB rfl _ _ 28 rfl 5 Tryd.underlying28 infoB p _ c ys rfl hy.out.symm (by rw [hy.out]; exact HJ.out) (some ⟨wr.heap.size, 0, none⟩) 1 1 [7] rfl rfl (by simp) HRZ.out (by rw [hy.out]; simp; omega) ?_)
      intro xs p2 c2 w2 hxs ho2 hf2 hfr2
      have hxl : xs.length = j + 1 := by rw [hxs.out, List.length_append, hy.out]; rfl
      have HF : Hid (Frm (blk p) w w2) := hid ((hf.out.alloc _).trans hf2.out (fun i hi _ => hi))
      rw [hxl]
      clear ho2 hf2 hfr2 hxs hxl
      go_wp2_with fail
      go_returns
      exact ⟨rfl, HF.out⟩
end Go.Proofs.YtdnnbinmippkdaaDoor
