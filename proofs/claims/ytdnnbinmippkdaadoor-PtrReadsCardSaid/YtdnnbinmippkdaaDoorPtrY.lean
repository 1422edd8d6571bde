/- Contracts of the law's own. Contracts of the document's ptr: SameLabel of two labels that are the same. -/
import Derived.Test.YtdnnbinmippkdaaDoorPtrX
import Derived.Test.YtdnnbinmippkdaaDoorPtrW
import Derived.BigQuiet
namespace Go.Proofs.YtdnnbinmippkdaaDoor
section
open Go.RowKit Go.Lib
set_option maxRecDepth 100000

set_option maxHeartbeats 1600000 in
theorem own_any (p q : Option Addr) (n c d : Nat) (zs : List Int) (hnz : zs.length = n) (hn : n + 1 ≤ 140737488355328) (w : World) (ho : Own w 5 (.slice p n c) zs) (hw : Rd w q zs) :
    Calls Tryd.prog 12 #[.slice p n c, .slice q n d] w fun e w' => e = .returned (.bool true) ∧ Frm (blk p) w w' := by
  have HO := hid ho
  have HNZ := hid hnz
  have hcv1 := cv_any (P := Tryd.prog) (w := w) 28 5 9 Tryd.underlying28 Tryd.underlying5 Tryd.underlying9 ho.rd c hnz
  have hcv2 := cv_any (P := Tryd.prog) (w := w) 28 5 9 Tryd.underlying28 Tryd.underlying5 Tryd.underlying9 hw d hnz
  obtain ⟨S, hS⟩ : ∃ S, strOfNums zs = S := ⟨_, rfl⟩
  rw [hS] at hcv1 hcv2
  have hbb : (S.toList == S.toList) = true := by simp
  clear ho hnz hS hw
  go_enter Tryd.func12, Tryd.ntmps12
  go_wp2_with fail
  clear hcv1 hcv2
  go_loopw [6] (fun i wr => ∃ (j : Nat) (ys : List Int), j ≤ n ∧ i = .int .i64 j ∧ Hid (ys.length = n) ∧ Hid (Own wr 5 (.slice p n c) ys) ∧ Hid (Frm (blk p) w wr)) (fun i _ => n - (intOf i).toNat)
  case atStart => exact ⟨0, zs, Nat.zero_le _, rfl, HNZ, HO, hid (Frm.refl _ _)⟩
  case round =>
    obtain ⟨j, ys, hj, rfl, hy, ho, hf⟩ := hrel
    by_cases hlt : j < n
    · obtain ⟨g, rfl, hg, hc, hz, hset⟩ := ho.out.setAt hy.out hlt
      have HSET := hid hset
      clear hset
      go_wp2_with fail
      go_roundw
      case rel => exact ⟨j + 1, ys.set j _, by omega, by go_num, hid (by rw [List.length_set]; exact hy.out), hid (HSET.out _), hid (hf.out.setCell _ _ (by simp [blk]))⟩
      case measure => simp [intOf]; omega
    · obtain rfl : j = n := by omega
      have hrz : Rd (wr.alloc (.cells #[.int .u8 7] 5)) (some ⟨wr.heap.size, 0, none⟩) [7] :=
        (own_of_block (E := 5) (zs := [7]) (heap_alloc_new wr _) (by simp [maxLen])).rd
      have HRZ := hid hrz
      have HJ := hid (ho.out.kept ((Frm.refl [] wr).alloc (.cells #[.int .u8 7] 5)) (by simp))
      clear hrz hlt
      go_wp2_with (at_builtin; refine wpList_appB rfl _ _ 28 rfl 5 Tryd.underlying28 infoB p _ c ys rfl hy.out.symm (by rw [hy.out]; exact HJ.out) (some ⟨wr.heap.size, 0, none⟩) 1 1 [7] rfl rfl (by simp) HRZ.out (by rw [hy.out]; simp; omega) ?_)
      intro xs p2 c2 w2 hxs ho2 hf2 hfr2
      have hxl : xs.length = j + 1 := by rw [hxs.out, List.length_append, hy.out]; rfl
      have HF : Hid (Frm (blk p) w w2) := hid ((hf.out.alloc _).trans hf2.out (fun i hi _ => hi))
      rw [hxl]
      clear ho2 hf2 hfr2 hxs hxl
      go_wp2_with fail
      go_returns
      exact ⟨rfl, HF.out⟩
end
section
open Go.RowKit
set_option maxRecDepth 100000

set_option maxHeartbeats 1600000 in
theorem same_any (a b : LabV) (w : World) (ha : a.ok w) (hb : b.ok w) (hs : a.same b) :
    Calls Tryd.prog 17 #[.agg a.arr, .agg b.arr] w fun e w' => e = .returned (.bool true) ∧ Frm [] w w' := by
  obtain ⟨e1, e2, e3, e4, e5⟩ := hs
  have h1 : Frm [] w (w.alloc (.cells a.arr 37)) := (Frm.refl _ _).alloc _
  have h2 : Frm [] (w.alloc (.cells a.arr 37)) ((w.alloc (.cells a.arr 37)).alloc (.cells b.arr 37)) := (Frm.refl _ _).alloc _
  have hra := h2.heap (heap_alloc_new w (.cells a.arr 37)) (by simp)
  have hrb : ((w.alloc (.cells a.arr 37)).alloc (.cells b.arr 37)).heap[w.heap.size + 1]? = some (.cells b.arr 37 (0, 0)) := heap_alloc_to _ _ (by simp)
  have hf := h1.trans h2 (by simp)
  obtain ⟨ab, hab⟩ : ∃ ab, w.heap.size = ab := ⟨_, rfl⟩
  obtain ⟨w0, hw0⟩ : ∃ w0, (w.alloc (.cells a.arr 37)).alloc (.cells b.arr 37) = w0 := ⟨_, rfl⟩
  rw [hw0] at hf
  rw [hw0, hab] at hra
  rw [hw0, hab] at hrb
  obtain ⟨q0, q1, q2, q3⟩ := lb_row hra
  obtain ⟨r0, r1, r2, r3⟩ := lb_row hrb
  have HRA := hid hra
  have HRB := hid hrb
  have HF := hid hf
  have HA := hid ha
  have HB := hid hb
  have HE := hid e5
  have hle := ha.le
  have hmx := ha.mx
  have hle2 := hb.le
  have hmx2 := hb.mx
  rw [← e1] at r0
  rw [← e3] at r2
  rw [← e4] at r3
  rw [← e2] at r1 hle2
  have HE2 := hid e2
  unfold LabV.arr at hw0 ⊢
  clear h1 h2 hra hrb hf ha hb e1 e3 e4 e5 e2
  go_enter Tryd.func17, Tryd.ntmps17
  go_wp2_with fail
  clear q0 q2 q3 r0 r2 r3 hw0 hab
  go_loopw [5] (fun i wr => ∃ j : Nat, j ≤ a.n ∧ i = .int .i64 j ∧ Hid (Frm [] w0 wr)) (fun i _ => a.n - (intOf i).toNat)
  case atStart => exact ⟨0, Nat.zero_le _, rfl, hid (Frm.refl _ _)⟩
  case round =>
    obtain ⟨j, hj, rfl, hf⟩ := hrel
    have g1 : wr.cell? ⟨ab, 1, none⟩ = some (.slice a.p a.n a.c) := (lb_row (hf.out.heap HRA.out (by simp))).2.1
    have g2 : wr.cell? ⟨ab + 1, 1, none⟩ = some (.slice b.p a.n b.c) := by rw [HE2.out]; exact (lb_row (hf.out.heap HRB.out (by simp))).2.1
    by_cases hlt : j < a.n
    · have t1 : (j : Int) < (a.n : Int) := by omega
      obtain ⟨g, o, hp, k0, k1, k2⟩ : ∃ g o, a.p = some ⟨g, o, none⟩ ∧ wr.cell? ⟨g, o + j * 3, none⟩ = some (.int .i64 (a.ts.getD j default).kind) ∧ wr.cell? ⟨g, o + j * 3 + 1, none⟩ = some (.int .i64 (a.ts.getD j default).leaves) ∧ wr.cell? ⟨g, o + j * 3 + 2, none⟩ = some (.int .i64 (a.ts.getD j default).sectors) := by
        have hlen := HA.out.len
        rcases (HA.out.rd.kept HF.out (by simp)).kept hf.out (by simp) with h | ⟨g, o, e, h⟩
        · rw [h] at hlen; simp at hlen; omega
        · exact ⟨g, o, e, h j (by rw [hlen]; exact hlt)⟩
      obtain ⟨g', o', hp', m0, m1, m2⟩ : ∃ g o, b.p = some ⟨g, o, none⟩ ∧ wr.cell? ⟨g, o + j * 3, none⟩ = some (.int .i64 (a.ts.getD j default).kind) ∧ wr.cell? ⟨g, o + j * 3 + 1, none⟩ = some (.int .i64 (a.ts.getD j default).leaves) ∧ wr.cell? ⟨g, o + j * 3 + 2, none⟩ = some (.int .i64 (a.ts.getD j default).sectors) := by
        have hlen := HB.out.len
        rw [← HE.out, ← HE2.out] at hlen
        rcases (HB.out.rd.kept HF.out (by simp)).kept hf.out (by simp) with h | ⟨g, o, e, h⟩
        · rw [← HE.out] at h; rw [h] at hlen; simp at hlen; omega
        · rw [← HE.out] at h
          exact ⟨g, o, e, h j (by rw [hlen]; exact hlt)⟩
      rw [hp] at g1
      rw [hp'] at g2
      obtain ⟨t, ht⟩ : ∃ t, a.ts.getD j default = t := ⟨_, rfl⟩
      rw [ht] at k0 k1 k2 m0 m1 m2
      obtain ⟨t0, t2, t3⟩ := t
      clear ht q1 r1 hp hp'
      have d1 : wr.drew.cell? ⟨ab, 1, none⟩ = some (.slice (some ⟨g, o, none⟩) a.n a.c) := g1
      have d2 : wr.drew.cell? ⟨ab + 1, 1, none⟩ = some (.slice (some ⟨g', o', none⟩) a.n b.c) := g2
      have k0' : wr.drew.cell? ⟨g, o + j * 3, none⟩ = some (.int .i64 t0) := k0
      have k1' : wr.drew.cell? ⟨g, o + j * 3 + 1, none⟩ = some (.int .i64 t2) := k1
      have k2' : wr.drew.cell? ⟨g, o + j * 3 + 2, none⟩ = some (.int .i64 t3) := k2
      have m0' : wr.drew.cell? ⟨g', o' + j * 3, none⟩ = some (.int .i64 t0) := m0
      have m1' : wr.drew.cell? ⟨g', o' + j * 3 + 1, none⟩ = some (.int .i64 t2) := m1
      have m2' : wr.drew.cell? ⟨g', o' + j * 3 + 2, none⟩ = some (.int .i64 t3) := m2
      go_wp2_with fail
      go_quiet (fail)
      go_wp2_with fail
      go_roundw
      case rel => exact ⟨j + 1, by omega, by go_num, hid (hf.out.drewN _)⟩
      case measure => simp [intOf]; omega
    · obtain rfl : j = a.n := by omega
      go_wp2_with fail
      go_returns
      exact ⟨rfl, HF.out.trans hf.out (by simp)⟩
end
end Go.Proofs.YtdnnbinmippkdaaDoor
