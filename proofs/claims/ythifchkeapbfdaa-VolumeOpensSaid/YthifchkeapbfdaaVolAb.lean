/- One call of a script on both volumes: Discard, Read. -/
import Derived.Test.YthifchkeapbfdaaVolAa
namespace Go.Proofs.Ythifchkeapbfdaa
open Go.RowKit
set_option maxRecDepth 100000

set_option maxHeartbeats 6400000 in
theorem does_disc (W0 : World) (pb rb rg vb vg : Nat) (bs : List Int) (o : OpD) (hok : OpOk W0 o) (hK : pickV o.kind 5 = 1) (w : World) (hi : PairI W0 pb rb rg vb vg bs bs w) :
    Calls Try.prog 18 #[.pointer (some ⟨pb, 0, none⟩), .agg #[.int .i64 o.kind, .int .i64 o.at_, .int .i64 o.many, .slice o.p o.bl o.bc]] w (PostP W0 pb rb rg) := by
  obtain ⟨⟨k0, k1⟩, ⟨a0, a1⟩, ⟨m0, m1⟩, ns, hnl, hrd, _, hpc, hbc, hbm⟩ := hok
  have HNL := hid hnl
  have HRD := hid hrd
  have HPC := hid hpc
  have HK := hid hK
  have hl0 := hi.lts
  have hfa : Frm [] w (w.alloc (.cells #[.int .i64 o.kind, .int .i64 o.at_, .int .i64 o.many, .slice o.p o.bl o.bc] 55)) := (Frm.refl _ _).alloc _
  have HI := hid (hi.new hfa (by simp))
  have HB : Hid (IsBox (w.alloc (.cells #[.int .i64 o.kind, .int .i64 o.at_, .int .i64 o.many, .slice o.p o.bl o.bc] 55)) w.heap.size o) := hid (heap_alloc_new _ _)
  obtain ⟨w1, hw1⟩ : ∃ w1, w.alloc (.cells #[.int .i64 o.kind, .int .i64 o.at_, .int .i64 o.many, .slice o.p o.bl o.bc] 55) = w1 := ⟨_, rfl⟩
  obtain ⟨bx, hbx⟩ : ∃ bx, w.heap.size = bx := ⟨_, rfl⟩
  have hbs : bx < w1.heap.size := by rw [← hw1, ← hbx]; simp
  have hWb : W0.heap.size ≤ bx := by rw [← hbx]; exact hi.f.size
  rw [hw1] at HI HB
  rw [hbx] at HB hl0
  have HW1 := hid hw1
  have HBX := hid hbx
  obtain ⟨l1, l2, l3, l4, l5⟩ := hl0
  clear hnl hrd hpc hK hfa hi hw1 hbx
  go_enter Try.func18, Try.ntmps18
  go_wp2_with fail
  rw [HW1.out, HBX.out]
  refine (pick_any o.kind 5 k0 k1 (by omega) (by omega) _).mono ?_
  rintro e w2 ⟨rfl, rfl⟩
  rw [HK.out]
  have HI3 := HI
  have HB3 := HB
  have hw := volDiscard_any vb vg bs o.at_ o.many w1.drew (HI3.out.v.kept ((Frm.refl [] w1).drew) (by simp) (by simp))
  obtain ⟨E0, hE0⟩ : ∃ E0, errB bs.length o.at_ o.many = E0 := ⟨_, rfl⟩
  have HE0 := hid hE0
  rw [hE0] at hw
  have HW := hid hw
  obtain ⟨c0, c1, cf⟩ := HI3.out.cells
  obtain ⟨b0, b1, b2, b3⟩ := HB3.out.cells
  clear hw hE0
  go_wp2_with fail
  go_still_tail 8, (by kernel_rfl)
  change wpList _ _ _ _ _ w1.drew
  obtain ⟨w4, hw4⟩ : ∃ w4, w1.drew = w4 := ⟨_, rfl⟩
  have hf4 : Frm [] w1 w4 := by rw [← hw4]; exact (Frm.refl [] w1).drew
  rw [hw4] at HW ⊢
  have HI4 := hid (HI3.out.new hf4 (by simp))
  have HB4 := hid (HB3.out.kept hf4 (by simp))
  have hs4 := hf4.size
  clear hw4 hf4 c0 c1 cf b0 b1 b2 b3
  go_wp2_with fail
  refine HW.out.mono ?_
  rintro e w5 ⟨rfl, ⟨ds, hds, hdl, hv5⟩, hf5⟩
  have hde : ds = diB bs o.at_ o.many := hds
  subst hde
  have HI5 := hid (HI4.out.left hv5 hdl hf5)
  have HB5 := hid (HB4.out.kept hf5 (by simp; omega))
  have hw2 := refVDiscard_any rb rg bs o.at_ o.many w5.drew (HI5.out.r.kept ((Frm.refl [] w5).drew) (by simp) (by simp))
  rw [HE0.out] at hw2
  have HW2 := hid hw2
  obtain ⟨c0, c1, cf⟩ := HI5.out.cells
  obtain ⟨b0, b1, b2, b3⟩ := HB5.out.cells
  clear hv5 hf5 hds hdl hw2
  go_wp2_with fail
  go_still_tail 8, (by kernel_rfl)
  change wpList _ _ _ _ _ w5.drew
  obtain ⟨w7, hw7⟩ : ∃ w7, w5.drew = w7 := ⟨_, rfl⟩
  have hf7 : Frm [] w5 w7 := by rw [← hw7]; exact (Frm.refl [] w5).drew
  rw [hw7] at HW2 ⊢
  have HI7 := hid (HI5.out.new hf7 (by simp))
  clear hw7 hf7 c0 c1 cf b0 b1 b2 b3
  go_wp2_with fail
  refine HW2.out.mono ?_
  rintro e w8 ⟨rfl, hv8, hf8⟩
  have HI8 := hid (HI7.out.right hv8 (diB_length _ _ _) hf8)
  clear hv8 hf8
  go_wp2_with fail
  go_returns
  exact ⟨by simp, _, _, _, HI8.out⟩
set_option maxHeartbeats 6400000 in
theorem does_read (W0 : World) (pb rb rg vb vg : Nat) (bs : List Int) (o : OpD) (hok : OpOk W0 o) (hK : pickV o.kind 5 = 2) (w : World) (hi : PairI W0 pb rb rg vb vg bs bs w) :
    Calls Try.prog 18 #[.pointer (some ⟨pb, 0, none⟩), .agg #[.int .i64 o.kind, .int .i64 o.at_, .int .i64 o.many, .slice o.p o.bl o.bc]] w (PostP W0 pb rb rg) := by
  obtain ⟨⟨k0, k1⟩, ⟨a0, a1⟩, ⟨m0, m1⟩, ns, hnl, hrd, _, hpc, hbc, hbm⟩ := hok
  have HNL := hid hnl
  have HRD := hid hrd
  have HPC := hid hpc
  have HK := hid hK
  have hl0 := hi.lts
  have hfa : Frm [] w (w.alloc (.cells #[.int .i64 o.kind, .int .i64 o.at_, .int .i64 o.many, .slice o.p o.bl o.bc] 55)) := (Frm.refl _ _).alloc _
  have HI := hid (hi.new hfa (by simp))
  have HB : Hid (IsBox (w.alloc (.cells #[.int .i64 o.kind, .int .i64 o.at_, .int .i64 o.many, .slice o.p o.bl o.bc] 55)) w.heap.size o) := hid (heap_alloc_new _ _)
  obtain ⟨w1, hw1⟩ : ∃ w1, w.alloc (.cells #[.int .i64 o.kind, .int .i64 o.at_, .int .i64 o.many, .slice o.p o.bl o.bc] 55) = w1 := ⟨_, rfl⟩
  obtain ⟨bx, hbx⟩ : ∃ bx, w.heap.size = bx := ⟨_, rfl⟩
  have hbs : bx < w1.heap.size := by rw [← hw1, ← hbx]; simp
  have hWb : W0.heap.size ≤ bx := by rw [← hbx]; exact hi.f.size
  rw [hw1] at HI HB
  rw [hbx] at HB hl0
  have HW1 := hid hw1
  have HBX := hid hbx
  obtain ⟨l1, l2, l3, l4, l5⟩ := hl0
  clear hnl hrd hpc hK hfa hi hw1 hbx
  go_enter Try.func18, Try.ntmps18
  go_wp2_with fail
  rw [HW1.out, HBX.out]
  refine (pick_any o.kind 5 k0 k1 (by omega) (by omega) _).mono ?_
  rintro e w2 ⟨rfl, rfl⟩
  rw [HK.out]
  have HI3 := HI
  have HB3 := HB
  obtain ⟨c0, c1, cf⟩ := HI3.out.cells
  obtain ⟨b0, b1, b2, b3⟩ := HB3.out.cells
  have hlb := rdB_length bs o.at_ o.many
  have hl2 := HI3.out.v.l2
  obtain ⟨E0, hE0⟩ : ∃ E0, errB bs.length o.at_ o.many = E0 := ⟨_, rfl⟩
  have HE0 := hid hE0
  obtain ⟨RB, hRB⟩ : ∃ RB, rdB bs o.at_ o.many = RB := ⟨_, rfl⟩
  have HRB := hid hRB
  rw [hRB] at hlb
  have HW := hid (volRead_any vb vg bs o.at_ o.many w1.drew (HI3.out.v.kept ((Frm.refl [] w1).drew) (by simp) (by simp)))
  have lpb : pb < w1.heap.size := by omega
  have n0 : ∀ x : Nat, x ∉ ([] : List Nat) := fun _ => List.not_mem_nil
  clear hE0 hRB
  go_wp2_with fail
  go_region_held3 (fun w' => w'.cell? ⟨pb, 0, none⟩ = some (.pointer (some ⟨vb, 0, none⟩)) ∧ w'.cell? ⟨bx, 1, none⟩ = some (.int .i64 o.at_) ∧ w'.cell? ⟨bx, 2, none⟩ = some (.int .i64 o.many)) (first | go_keep | (exact ⟨c0, b1, b2⟩) | (exact ⟨(hf5.cell (p := ⟨pb, 0, none⟩) lpb (n0 _)).trans c0, (hf5.cell (p := ⟨bx, 1, none⟩) hbs (n0 _)).trans b1, (hf5.cell (p := ⟨bx, 2, none⟩) hbs (n0 _)).trans b2⟩)) (((with_reducible refine HW.out.mono ?_); rintro e w5 ⟨q5, n5, d5, rfl, hn5, ho5, hf5, hk5⟩))
  have hfw : Frm [] w1 w5 := ((Frm.refl [] w1).drew).trans hf5 (by simp)
  have HI5 := hid (HI3.out.new hfw (by simp))
  have HB5 := hid (HB3.out.kept hfw (by simp))
  have HO5 := hid ho5
  have HK5 : Hid (∀ k ∈ blk q5, w1.heap.size ≤ k) := hid hk5
  have hs5 := hfw.size
  rw [HRB.out] at HO5 hn5
  have HN5 := hn5
  have hnb : n5 ≤ 16384 := by have := hn5.out; omega
  obtain ⟨c0', c1', cf'⟩ := HI5.out.cells
  obtain ⟨b0', b1', b2', b3'⟩ := HB5.out.cells
  have HW2 := hid (refVRead_any rb rg bs o.at_ o.many w5.drew (HI5.out.r.kept ((Frm.refl [] w5).drew) (by simp) (by simp)))
  have lpb5 : pb < w5.heap.size := by omega
  have lbx5 : bx < w5.heap.size := by omega
  clear c0 c1 cf b0 b1 b2 b3 ho5 hf5 hk5 hfw hn5
  go_wp2_with fail
  go_region_held3 (fun w' => w'.cell? ⟨pb, 1, none⟩ = some (.pointer (some ⟨rb, 0, none⟩)) ∧ w'.cell? ⟨bx, 1, none⟩ = some (.int .i64 o.at_) ∧ w'.cell? ⟨bx, 2, none⟩ = some (.int .i64 o.many)) (first | go_keep | (exact ⟨c1', b1', b2'⟩) | (exact ⟨(hf6.cell (p := ⟨pb, 1, none⟩) lpb5 (n0 _)).trans c1', (hf6.cell (p := ⟨bx, 1, none⟩) lbx5 (n0 _)).trans b1', (hf6.cell (p := ⟨bx, 2, none⟩) lbx5 (n0 _)).trans b2'⟩)) (((with_reducible refine HW2.out.mono ?_); rintro e w6 ⟨q6, n6, d6, rfl, hn6, ho6, hf6, hk6⟩))
  have hfw6 : Frm [] w5 w6 := ((Frm.refl [] w5).drew).trans hf6 (by simp)
  have HI6 := hid (HI5.out.new hfw6 (by simp))
  have HO6 := hid (HO5.out.kept hfw6 (by simp))
  rw [HRB.out] at ho6 hn6
  have hn6' := hn6.out
  have hcv1 := cv_any (P := Try.prog) (w := w6) 44 5 9 Try.underlying44 Try.underlying5 Try.underlying9 HO6.out.rd d5 HN5.out.symm
  have hcv2 := cv_any (P := Try.prog) (w := w6) 44 5 9 Try.underlying44 Try.underlying5 Try.underlying9 ho6.rd d6 hn6'.symm
  generalize strOfNums RB = S0 at hcv1 hcv2
  have hs6 := hfw6.size
  rw [HE0.out]
  clear c0' c1' cf' b0' b1' b2' b3' ho6 hf6 hk6 hfw6 hn6 hn6'
  go_wp2_with fail
  clear hcv1 hcv2
  go_loopw [17] (fun i wr => ∃ (j : Nat) (zs : List Int), j ≤ n5 ∧ i = .int .i64 j ∧ Hid (zs.length = n5) ∧ Hid (Own wr 5 (.slice q5 n5 d5) zs) ∧ Hid (Frm (blk q5) w6 wr)) (fun i _ => n5 - (intOf i).toNat)
  case atStart => exact ⟨0, RB, Nat.zero_le _, rfl, hid HN5.out.symm, HO6, hid (Frm.refl _ _)⟩
  case round =>
    obtain ⟨j, zs, hj, rfl, hzl, hoz, hf⟩ := hrel
    by_cases hlt : j < n5
    · obtain ⟨g, hp, hg, hc, hfz, hset⟩ := hoz.out.setAt hzl.out hlt
      have HSET := hid hset
      have HF2 : Hid (∀ u : Value, Frm (blk q5) w6 (wr.setCell ⟨g, j, none⟩ u)) := hid (fun u => hf.out.setCell _ _ (fun _ => by rw [hp]; simp [blk]))
      subst hp
      clear hset
      go_wp2_with fail
      go_roundw
      case rel => exact ⟨j + 1, zs.set j 98, by omega, by go_num, hid (by rw [List.length_set]; exact hzl.out), hid (HSET.out 98), hid (HF2.out _)⟩
      case measure => simp [intOf]; omega
    · obtain rfl : j = n5 := by omega
      have HI7 := hid (HI6.out.other hf.out (fun k hk => by have := HK5.out k hk; omega))
      clear hlt
      go_wp2_with fail
      go_returns
      exact ⟨by simp, _, _, _, HI7.out⟩
end Go.Proofs.Ythifchkeapbfdaa
