/- One call of a script on both volumes: Cells, Open. -/
import Derived.Test.YthifchkeapbfdaaVolAa
import Derived.Test.YthifchkeapbfdaaVolG
namespace Go.Proofs.Ythifchkeapbfdaa
open Go.RowKit
set_option maxRecDepth 100000

set_option maxHeartbeats 400000 in
theorem volSize_any (b g : Nat) (bs : List Int) (w : World) (hv : IsVol w b g bs) :
    Calls Try.prog 31 #[.pointer (some ⟨b, 0, none⟩)] w fun e w' => e = .returned (.int .i64 (bs.length : Int)) ∧ w = w' := by
  obtain ⟨lb, lg, c0, _⟩ := hv.cells
  clear hv
  go_enter Try.func31, Try.ntmps31
  go_wp2_with fail
  go_returns
  exact ⟨rfl, rfl⟩
theorem cells_bounds {w : World} {lo : Nat} {pp : Option Addr} {pc : Nat} {xs : List CellV} (h : IsCells w lo pp pc xs) : ∀ k ∈ (blk pp ++ xs.flatMap fun x => blk x.p), lo ≤ k ∧ k < w.heap.size := by
  intro k hk
  rcases List.mem_append.1 hk with hk | hk
  · exact ⟨h.2.1 k hk, ownsRow_low h.1 k hk⟩
  · obtain ⟨x, hx, hk⟩ := List.mem_flatMap.1 hk
    exact (h.2.2 x hx).2.1 k hk
set_option maxHeartbeats 6400000 in
theorem does_cells (W0 : World) (pb rb rg vb vg : Nat) (bs : List Int) (o : OpD) (hok : OpOk W0 o) (hK : pickV o.kind 5 = 3) (w : World) (hi : PairI W0 pb rb rg vb vg bs bs w) :
    Calls Try.prog 18 #[.pointer (some ⟨pb, 0, none⟩), .agg #[.int .i64 o.kind, .int .i64 o.at_, .int .i64 o.many, .slice o.p o.bl o.bc]] w (PostP W0 pb rb rg) := by
  obtain ⟨⟨k0, k1⟩, ⟨a0, a1⟩, ⟨m0, m1⟩, ns, hnl, hrd, _, hpc, hbc, hbm⟩ := hok
  have HNL := hid hnl
  have HRD := hid hrd
  have HPC := hid hpc
  have HK := hid hK
  have hl0 := hi.lts
  have hfa : Frm [] w (w.alloc (.cells #[.int .i64 o.kind, .int .i64 o.at_, .int .i64 o.many, .slice o.p o.bl o.bc] 55)) := (Frm.refl _ _).alloc _
  have HI := hid (hi.new hfa (by simp))
  have HB : Hid (IsBox (w.alloc (.cells #[.int .i64 o.kind, .int .i64 o.at_, .int .i64 o.many, .slice o.p o.bl o.bc] 55)) w.heap.size o) := hid (heap_alloc_new _ _)
  obtain ⟨w1, hw1⟩ : ∃ w1, w.alloc (.cells #[.int .i64 o.kind, .int .i64 o.at_, .int .i64 o.many, .slice o.p o.bl o.bc] 55) = w1 := ⟨_, rfl⟩
  obtain ⟨bx, hbx⟩ : ∃ bx, w.heap.size = bx := ⟨_, rfl⟩
  have hbs : bx < w1.heap.size := by rw [← hw1, ← hbx]; simp
  have hWb : W0.heap.size ≤ bx := by rw [← hbx]; exact hi.f.size
  rw [hw1] at HI HB
  rw [hbx] at HB hl0
  have HW1 := hid hw1
  have HBX := hid hbx
  obtain ⟨l1, l2, l3, l4, l5⟩ := hl0
  clear hnl hrd hpc hK hfa hi hw1 hbx
  go_enter Try.func18, Try.ntmps18
  go_wp2_with fail
  rw [HW1.out, HBX.out]
  refine (pick_any o.kind 5 k0 k1 (by omega) (by omega) _).mono ?_
  rintro e w2 ⟨rfl, rfl⟩
  rw [HK.out]
  obtain ⟨c0, c1, cf⟩ := HI.out.cells
  go_wp2_with fail
  refine (volCells_own vb vg bs _ HI.out.v).mono ?_
  rintro e w2 ⟨pp, pc, xs, n9, rfl, rfl, hs2, hi2, hf2, hoc2⟩
  have HS2 := hid hs2
  have HC2 := hid hi2
  have HO2 := hid hoc2
  have HI2 := hid (HI.out.new hf2 (by simp))
  have HB2 := hid (HB.out.kept hf2 (by simp))
  have HBD : Hid (∀ k ∈ (blk pp ++ xs.flatMap fun x => blk x.p), w1.heap.size ≤ k ∧ k < w2.heap.size) := hid (cells_bounds hi2)
  have hxl : xs.length ≤ 70 := by
    have h1 := congrArg List.length hs2
    have h2 : (chunksL bs (bs.length / 256)).length ≤ bs.length / 256 := by unfold chunksL; exact Nat.le_trans (List.length_filterMap_le _ _) (by simp)
    have h3 := HI.out.v.l2
    simp only [saidV, cellsL, List.length_map, List.length_cons] at h1
    omega
  have hsz2 := hf2.size
  clear c0 c1 cf hs2 hi2 hf2 hoc2
  obtain ⟨c0, c1, cf⟩ := HI2.out.cells
  go_wp2_with fail
  refine (refVCells_any rb rg bs _ HI2.out.r).mono ?_
  rintro e w3 ⟨pp2, pc2, ys, n10, rfl, rfl, hs3, hi3, hf3⟩
  have HI3 := hid (HI2.out.new hf3 (by simp))
  have HB3 := hid (HB2.out.kept hf3 (by simp))
  have HC3 := hid (HC2.out.kept hf3 (by simp))
  have HO3 : Hid (OwnC w3 xs) := hid (fun x hx => (HO2.out x hx).kept hf3 (by simp))
  have HCY := hid hi3
  have HSY := hid (HS2.out.trans hs3.symm)
  have hsz3 := hf3.size
  clear c0 c1 cf hs3 hi3 hf3
  obtain ⟨c0, c1, cf⟩ := HI3.out.cells
  go_wp2_with fail
  refine (volSize_any vb vg bs _ HI3.out.v).mono ?_
  rintro e w4 ⟨rfl, rfl⟩
  go_wp2_with fail
  refine (same_any _ _ pp pp2 pc pc2 xs ys _ HC3.out HCY.out HSY.out (es_fit HC3.out.1)).mono ?_
  rintro e w5 ⟨rfl, hf5⟩
  have HI5 := hid (HI3.out.new hf5 (by simp))
  have HB5 := hid (HB3.out.kept hf5 (by simp))
  have HC5 := hid (HC3.out.kept hf5 (by simp))
  have HO5 : Hid (OwnC w5 xs) := hid (fun x hx => (HO3.out x hx).kept hf5 (by simp))
  have hsz5 := hf5.size
  clear c0 c1 cf hf5
  obtain ⟨b0, b1, b2, b3⟩ := HB5.out.cells
  go_wp2_with fail
  refine (pick_any o.kind 5 k0 k1 (by omega) (by omega) _).mono ?_
  rintro e w6 ⟨rfl, rfl⟩
  rw [HK.out]
  go_wp2_with fail
  refine (spoil19_any _ _ pp pc xs HC5.out HO5.out hxl).mono ?_
  rintro e w7 ⟨rfl, hf7⟩
  have HI7 := hid (HI5.out.other hf7 (fun k hk => by have := HBD.out k hk; omega))
  obtain ⟨c0, c1, cf⟩ := HI7.out.cells
  obtain ⟨_, _, g0, _⟩ := HI7.out.r.cells
  clear hf7 b0 b1 b2 b3
  go_wp2_with fail
  go_returns
  exact ⟨by simp, _, _, _, HI7.out⟩
set_option maxHeartbeats 6400000 in
theorem does_open (W0 : World) (pb rb rg vb vg : Nat) (bs : List Int) (o : OpD) (hok : OpOk W0 o) (hK : pickV o.kind 5 = 4) (w : World) (hi : PairI W0 pb rb rg vb vg bs bs w) :
    Calls Try.prog 18 #[.pointer (some ⟨pb, 0, none⟩), .agg #[.int .i64 o.kind, .int .i64 o.at_, .int .i64 o.many, .slice o.p o.bl o.bc]] w (PostP W0 pb rb rg) := by
  obtain ⟨⟨k0, k1⟩, ⟨a0, a1⟩, ⟨m0, m1⟩, ns, hnl, hrd, _, hpc, hbc, hbm⟩ := hok
  have HNL := hid hnl
  have HRD := hid hrd
  have HPC := hid hpc
  have HK := hid hK
  have hl0 := hi.lts
  have hfa : Frm [] w (w.alloc (.cells #[.int .i64 o.kind, .int .i64 o.at_, .int .i64 o.many, .slice o.p o.bl o.bc] 55)) := (Frm.refl _ _).alloc _
  have HI := hid (hi.new hfa (by simp))
  have HB : Hid (IsBox (w.alloc (.cells #[.int .i64 o.kind, .int .i64 o.at_, .int .i64 o.many, .slice o.p o.bl o.bc] 55)) w.heap.size o) := hid (heap_alloc_new _ _)
  obtain ⟨w1, hw1⟩ : ∃ w1, w.alloc (.cells #[.int .i64 o.kind, .int .i64 o.at_, .int .i64 o.many, .slice o.p o.bl o.bc] 55) = w1 := ⟨_, rfl⟩
  obtain ⟨bx, hbx⟩ : ∃ bx, w.heap.size = bx := ⟨_, rfl⟩
  have hbs : bx < w1.heap.size := by rw [← hw1, ← hbx]; simp
  have hWb : W0.heap.size ≤ bx := by rw [← hbx]; exact hi.f.size
  rw [hw1] at HI HB
  rw [hbx] at HB hl0
  have HW1 := hid hw1
  have HBX := hid hbx
  obtain ⟨l1, l2, l3, l4, l5⟩ := hl0
  clear hnl hrd hpc hK hfa hi hw1 hbx
  go_enter Try.func18, Try.ntmps18
  go_wp2_with fail
  rw [HW1.out, HBX.out]
  refine (pick_any o.kind 5 k0 k1 (by omega) (by omega) _).mono ?_
  rintro e w2 ⟨rfl, rfl⟩
  rw [HK.out]
  obtain ⟨c0, c1, cf⟩ := HI.out.cells
  go_wp2_with fail
  refine (volCells_own vb vg bs _ HI.out.v).mono ?_
  rintro e w2 ⟨pp, pc, xs, n9, rfl, rfl, hs2, hi2, hf2, hoc2⟩
  have HS2 := hid hs2
  have HC2 := hid hi2
  have HO2 := hid hoc2
  have HI2 := hid (HI.out.new hf2 (by simp))
  have HB2 := hid (HB.out.kept hf2 (by simp))
  have HBD : Hid (∀ k ∈ (blk pp ++ xs.flatMap fun x => blk x.p), w1.heap.size ≤ k ∧ k < w2.heap.size) := hid (cells_bounds hi2)
  have hxl : xs.length ≤ 70 := by
    have h1 := congrArg List.length hs2
    have h2 : (chunksL bs (bs.length / 256)).length ≤ bs.length / 256 := by unfold chunksL; exact Nat.le_trans (List.length_filterMap_le _ _) (by simp)
    have h3 := HI.out.v.l2
    simp only [saidV, cellsL, List.length_map, List.length_cons] at h1
    omega
  have hsz2 := hf2.size
  clear c0 c1 cf hs2 hi2 hf2 hoc2
  obtain ⟨c0, c1, cf⟩ := HI2.out.cells
  go_wp2_with fail
  refine (refVCells_any rb rg bs _ HI2.out.r).mono ?_
  rintro e w3 ⟨pp2, pc2, ys, n10, rfl, rfl, hs3, hi3, hf3⟩
  have HI3 := hid (HI2.out.new hf3 (by simp))
  have HB3 := hid (HB2.out.kept hf3 (by simp))
  have HC3 := hid (HC2.out.kept hf3 (by simp))
  have HO3 : Hid (OwnC w3 xs) := hid (fun x hx => (HO2.out x hx).kept hf3 (by simp))
  have HCY := hid hi3
  have HSY := hid (HS2.out.trans hs3.symm)
  have hsz3 := hf3.size
  clear c0 c1 cf hs3 hi3 hf3
  obtain ⟨c0, c1, cf⟩ := HI3.out.cells
  go_wp2_with fail
  refine (volSize_any vb vg bs _ HI3.out.v).mono ?_
  rintro e w4 ⟨rfl, rfl⟩
  go_wp2_with fail
  refine (same_any _ _ pp pp2 pc pc2 xs ys _ HC3.out HCY.out HSY.out (es_fit HC3.out.1)).mono ?_
  rintro e w5 ⟨rfl, hf5⟩
  have HI5 := hid (HI3.out.new hf5 (by simp))
  have HB5 := hid (HB3.out.kept hf5 (by simp))
  have HC5 := hid (HC3.out.kept hf5 (by simp))
  have HO5 : Hid (OwnC w5 xs) := hid (fun x hx => (HO3.out x hx).kept hf5 (by simp))
  have hsz5 := hf5.size
  clear c0 c1 cf hf5
  obtain ⟨b0, b1, b2, b3⟩ := HB5.out.cells
  go_wp2_with fail
  refine (pick_any o.kind 5 k0 k1 (by omega) (by omega) _).mono ?_
  rintro e w6 ⟨rfl, rfl⟩
  rw [HK.out]
  go_wp2_with fail
  refine (volOpen_any bs _ _ pp pc xs HC5.out HS2.out HI5.out.v.l1 HI5.out.v.l2 HI5.out.v.l3).mono ?_
  rintro e w7 ⟨nb, ng, rfl, hv7, hf7, hnb, hng⟩
  have HI7 := hid (HI5.out.new hf7 (by simp))
  have HC7 := hid (HC5.out.kept hf7 (by simp))
  have HO7 : Hid (OwnC w7 xs) := hid (fun x hx => (HO5.out x hx).kept hf7 (by simp))
  have HV7 := hid hv7
  have hsz7 := hf7.size
  obtain ⟨c0, c1, cf⟩ := HI7.out.cells
  clear hv7 hf7 b0 b1 b2 b3
  have hlt7 := HI5.out.lts
  obtain ⟨q1, q2, q3, q4, q5⟩ := hlt7
  have hv7l := HV7.out.cells
  obtain ⟨r1, r2, _, _⟩ := hv7l
  have HFS : Hid (Frm [pb] w7 (w7.setCell ⟨pb, 0, none⟩ (.pointer (some ⟨nb, 0, none⟩)))) := hid ((Frm.refl _ _).setCell _ _ (by simp))
  have HIS : Hid (PairI W0 pb rb rg nb ng bs bs (w7.setCell ⟨pb, 0, none⟩ (.pointer (some ⟨nb, 0, none⟩)))) := hid (by
    have h := HI7.out
    have hfs := HFS.out
    refine ⟨?_, HV7.out.kept hfs (by simp; omega) (by simp; omega), h.r.kept hfs (by simpa using h.a7) (by simpa using Ne.symm h.a5), rfl, by omega, by omega, by omega, by omega, h.a5, by omega, h.a7, by have := h.f.size; omega, h.n2, h.n3, h.f.trans hfs (fun i hi hlt => by simp at hi; have := h.n3; omega)⟩
    rw [heap_setCell_same w7 pb 0 _ _ _ h.hp]
    rfl)
  have HC8 := hid (HC7.out.kept HFS.out (fun k hk => by simp at hk; omega))
  have HO8 : Hid (OwnC (w7.setCell ⟨pb, 0, none⟩ (.pointer (some ⟨nb, 0, none⟩))) xs) := hid (fun x hx => (HO7.out x hx).kept HFS.out (by
    rw [own_blk]
    intro k hk h
    simp at h
    have := (HC2.out.2.2 x hx).2.1 k hk
    omega))
  go_wp2_with fail
  refine (spoil19_any _ _ pp pc xs HC8.out HO8.out hxl).mono ?_
  rintro e w9 ⟨rfl, hf9⟩
  have HI9 := hid (HIS.out.other hf9 (fun k hk => by have := HBD.out k hk; omega))
  clear c0 c1 cf
  obtain ⟨c0, c1, cf⟩ := HI9.out.cells
  obtain ⟨_, _, g0, _⟩ := HI9.out.r.cells
  clear hf9
  go_wp2_with fail
  go_returns
  exact ⟨by simp, _, _, _, HI9.out⟩
end Go.Proofs.Ythifchkeapbfdaa
