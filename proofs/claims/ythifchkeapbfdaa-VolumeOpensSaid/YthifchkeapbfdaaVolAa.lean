/- One call of a script on both volumes. -/
import Derived.Test.YthifchkeapbfdaaVolY
import Derived.Test.YthifchkeapbfdaaVolZ
namespace Go.Proofs.Ythifchkeapbfdaa
open Go.RowKit
set_option maxRecDepth 100000

/-- A volume of the program and the document's, apart. -/
structure PairI (W0 : World) (pb rb rg vb vg : Nat) (bs cs : List Int) (w : World) : Prop where
  hp : w.heap[pb]? = some (.cells #[.pointer (some ⟨vb, 0, none⟩), .pointer (some ⟨rb, 0, none⟩)] 33 (0, 0))
  v : IsVol w vb vg bs
  r : IsRefV w rb rg cs
  l : bs.length = cs.length
  a1 : vb ≠ rg
  a2 : rb ≠ vg
  a3 : vg ≠ rg
  a4 : pb ≠ vg
  a5 : pb ≠ rg
  a6 : vb ≠ pb
  a7 : rb ≠ pb
  n1 : W0.heap.size ≤ vg
  n2 : W0.heap.size ≤ rg
  n3 : W0.heap.size ≤ pb
  f : Frm [] W0 w
theorem PairI.lts {W0 w : World} {pb rb rg vb vg : Nat} {bs cs : List Int} (h : PairI W0 pb rb rg vb vg bs cs w) : pb < w.heap.size ∧ vb < w.heap.size ∧ vg < w.heap.size ∧ rb < w.heap.size ∧ rg < w.heap.size :=
  ⟨lt_of_heap h.hp, lt_of_heap h.v.hb, lt_of_heap h.v.hg, lt_of_heap h.r.hb, lt_of_heap h.r.hg⟩
theorem PairI.other {S : List Nat} {W0 w w' : World} {pb rb rg vb vg : Nat} {bs cs : List Int} (h : PairI W0 pb rb rg vb vg bs cs w) (hf : Frm S w w') (hS : ∀ k ∈ S, W0.heap.size ≤ k ∧ k ≠ pb ∧ k ≠ vb ∧ k ≠ vg ∧ k ≠ rb ∧ k ≠ rg) : PairI W0 pb rb rg vb vg bs cs w' :=
  ⟨hf.heap h.hp (fun hk => (hS pb hk).2.1 rfl), h.v.kept hf (fun hk => (hS vb hk).2.2.1 rfl) (fun hk => (hS vg hk).2.2.2.1 rfl), h.r.kept hf (fun hk => (hS rb hk).2.2.2.2.1 rfl) (fun hk => (hS rg hk).2.2.2.2.2 rfl),
    h.l, h.a1, h.a2, h.a3, h.a4, h.a5, h.a6, h.a7, h.n1, h.n2, h.n3, h.f.trans hf (fun i hi hlt => by have := (hS i hi).1; omega)⟩
theorem PairI.new {S : List Nat} {W0 w w' : World} {pb rb rg vb vg : Nat} {bs cs : List Int} (h : PairI W0 pb rb rg vb vg bs cs w) (hf : Frm S w w') (hS : ∀ k ∈ S, w.heap.size ≤ k) : PairI W0 pb rb rg vb vg bs cs w' :=
  h.other hf (fun k hk => by have := hS k hk; have := h.lts; have := h.f.size; omega)
theorem PairI.left {W0 w w' : World} {pb rb rg vb vg : Nat} {bs cs ds : List Int} (h : PairI W0 pb rb rg vb vg bs cs w) (hv : IsVol w' vb vg ds) (hl : ds.length = bs.length) (hf : Frm [vg] w w') : PairI W0 pb rb rg vb vg ds cs w' :=
  ⟨hf.heap h.hp (by simpa using h.a4), hv, h.r.kept hf (by simpa using h.a2) (by simpa using Ne.symm h.a3), hl.trans h.l, h.a1, h.a2, h.a3, h.a4, h.a5, h.a6, h.a7, h.n1, h.n2, h.n3, h.f.trans hf (fun i hi hlt => by simp at hi; have := h.n1; omega)⟩
theorem PairI.right {W0 w w' : World} {pb rb rg vb vg : Nat} {bs cs ds : List Int} (h : PairI W0 pb rb rg vb vg bs cs w) (hv : IsRefV w' rb rg ds) (hl : ds.length = cs.length) (hf : Frm [rg] w w') : PairI W0 pb rb rg vb vg bs ds w' :=
  ⟨hf.heap h.hp (by simpa using h.a5), h.v.kept hf (by simpa using h.a1) (by simpa using h.a3), hv, h.l.trans hl.symm, h.a1, h.a2, h.a3, h.a4, h.a5, h.a6, h.a7, h.n1, h.n2, h.n3, h.f.trans hf (fun i hi hlt => by simp at hi; have := h.n2; omega)⟩
theorem PairI.cells {W0 w : World} {pb rb rg vb vg : Nat} {bs cs : List Int} (h : PairI W0 pb rb rg vb vg bs cs w) : w.cell? ⟨pb, 0, none⟩ = some (.pointer (some ⟨vb, 0, none⟩)) ∧ w.cell? ⟨pb, 1, none⟩ = some (.pointer (some ⟨rb, 0, none⟩)) ∧ w.frozen? ⟨pb, 0, none⟩ = false :=
  ⟨by rw [cell_of_row w _ _ _ _ _ h.hp]; rfl, by rw [cell_of_row w _ _ _ _ _ h.hp]; rfl, frozen_of_row w pb 0 _ _ h.hp⟩
/-- An operation's box. -/
def IsBox (w : World) (bx : Nat) (o : OpD) : Prop := w.heap[bx]? = some (.cells #[.int .i64 o.kind, .int .i64 o.at_, .int .i64 o.many, .slice o.p o.bl o.bc] 55 (0, 0))
theorem IsBox.cells {w : World} {bx : Nat} {o : OpD} (h : IsBox w bx o) : w.cell? ⟨bx, 0, none⟩ = some (.int .i64 o.kind) ∧ w.cell? ⟨bx, 1, none⟩ = some (.int .i64 o.at_) ∧ w.cell? ⟨bx, 2, none⟩ = some (.int .i64 o.many) ∧ w.cell? ⟨bx, 3, none⟩ = some (.slice o.p o.bl o.bc) :=
  ⟨by rw [cell_of_row w _ _ _ _ _ h]; rfl, by rw [cell_of_row w _ _ _ _ _ h]; rfl, by rw [cell_of_row w _ _ _ _ _ h]; rfl, by rw [cell_of_row w _ _ _ _ _ h]; rfl⟩
theorem IsBox.kept {S : List Nat} {w w' : World} {bx : Nat} {o : OpD} (h : IsBox w bx o) (hf : Frm S w w') (hb : bx ∉ S) : IsBox w' bx o := hf.heap h hb
/-- What a call leaves. -/
def PostP (W0 : World) (pb rb rg : Nat) (e : Ending) (w' : World) : Prop := e = .returned (.bool true) ∧ ∃ vb vg bs, PairI W0 pb rb rg vb vg bs bs w'
set_option maxHeartbeats 6400000 in
theorem does_write (W0 : World) (pb rb rg vb vg : Nat) (bs : List Int) (o : OpD) (hok : OpOk W0 o) (hbl : o.bl ≤ 140737488351232) (hK : pickV o.kind 5 = 0) (w : World) (hi : PairI W0 pb rb rg vb vg bs bs w) :
    Calls Try.prog 18 #[.pointer (some ⟨pb, 0, none⟩), .agg #[.int .i64 o.kind, .int .i64 o.at_, .int .i64 o.many, .slice o.p o.bl o.bc]] w (PostP W0 pb rb rg) := by
  obtain ⟨⟨k0, k1⟩, ⟨a0, a1⟩, ⟨m0, m1⟩, ns, hnl, hrd, _, hpc, hbc, hbm⟩ := hok
  have HNL := hid hnl
  have HRD := hid hrd
  have HPC := hid hpc
  have HK := hid hK
  have hl0 := hi.lts
  have hfa : Frm [] w (w.alloc (.cells #[.int .i64 o.kind, .int .i64 o.at_, .int .i64 o.many, .slice o.p o.bl o.bc] 55)) := (Frm.refl _ _).alloc _
  have HI := hid (hi.new hfa (by simp))
  have HB : Hid (IsBox (w.alloc (.cells #[.int .i64 o.kind, .int .i64 o.at_, .int .i64 o.many, .slice o.p o.bl o.bc] 55)) w.heap.size o) := hid (heap_alloc_new _ _)
  obtain ⟨w1, hw1⟩ : ∃ w1, w.alloc (.cells #[.int .i64 o.kind, .int .i64 o.at_, .int .i64 o.many, .slice o.p o.bl o.bc] 55) = w1 := ⟨_, rfl⟩
  obtain ⟨bx, hbx⟩ : ∃ bx, w.heap.size = bx := ⟨_, rfl⟩
  have hbs : bx < w1.heap.size := by rw [← hw1, ← hbx]; simp
  have hWb : W0.heap.size ≤ bx := by rw [← hbx]; exact hi.f.size
  rw [hw1] at HI HB
  rw [hbx] at HB hl0
  have HW1 := hid hw1
  have HBX := hid hbx
  obtain ⟨l1, l2, l3, l4, l5⟩ := hl0
  clear hnl hrd hpc hK hfa hi hw1 hbx
  go_enter Try.func18, Try.ntmps18
  go_wp2_with fail
  rw [HW1.out, HBX.out]
  refine (pick_any o.kind 5 k0 k1 (by omega) (by omega) _).mono ?_
  rintro e w2 ⟨rfl, rfl⟩
  rw [HK.out]
  obtain ⟨e0, e1, e2, e3⟩ := HB.out.cells
  have hx0 : bx ∉ blk none := by simp [blk]
  go_wp2_with (at_builtin; refine wpList_appB rfl _ _ 44 rfl 5 Try.underlying44 infoB none 0 0 [] rfl rfl (Own.nil _ _) o.p o.bl o.bc ns rfl HNL.out.symm HPC.out (HRD.out.kept HI.out.f (by simp)) (by rw [HNL.out]; simp; omega) ?_)
  intro xs po co w3 hxs ho3 hf3 hfr3
  have hx : xs = ns := by rw [hxs.out]
  subst hx
  rw [HNL.out] at ho3 ⊢
  have hf3' : Frm [] w1 w3 := hf3.out
  have HI3 := hid (HI.out.new hf3' (by simp))
  have HB3 := hid (HB.out.kept hf3' (by simp))
  have HO3 := hid ho3.out
  have HPO : Hid (∀ k ∈ blk po, w1.heap.size ≤ k) := hid (fun k hk => (hfr3.out k hk).elim (fun h => by simp [blk] at h) id)
  have hs3 := hf3'.size
  have HGP : Hid (xs ≠ [] → vg ∉ blk po) := hid (fun h hk => by have := HPO.out vg hk; omega)
  have HW := hid (volWrite_any vb vg bs o.at_ po xs o.bl co HNL.out w3.drew (HI3.out.v.kept ((Frm.refl [] w3).drew) (by simp) (by simp)) (HO3.out.rd.drew) HGP.out (by omega))
  obtain ⟨c0, c1, cf⟩ := HI3.out.cells
  obtain ⟨b0, b1, b2, b3⟩ := HB3.out.cells
  clear hxs ho3 hf3 hfr3 hf3' e0 e1 e2 e3 hx0
  go_wp2_with fail
  go_still_tail 7, (by kernel_rfl)
  change wpList _ _ _ _ _ w3.drew
  obtain ⟨w4, hw4⟩ : ∃ w4, w3.drew = w4 := ⟨_, rfl⟩
  have hf4 : Frm [] w3 w4 := by rw [← hw4]; exact (Frm.refl [] w3).drew
  rw [hw4] at HW ⊢
  have HI4 := hid (HI3.out.new hf4 (by simp))
  have HB4 := hid (HB3.out.kept hf4 (by simp))
  have HO4 := hid (HO3.out.kept hf4 (by simp))
  clear hw4 hf4 c0 c1 cf b0 b1 b2 b3
  go_wp2_with fail
  refine HW.out.mono ?_
  rintro e w5 ⟨rfl, hv5, hf5⟩
  have HI5 := hid (HI4.out.left hv5 (wrB_length _ _ _) hf5)
  have HB5 := hid (HB4.out.kept hf5 (by simp; omega))
  have HO5 := hid (HO4.out.kept hf5 (by rw [own_blk]; intro k hk h; simp at h; have := HPO.out k hk; omega))
  have hs5 := hf5.size
  obtain ⟨b0, b1, b2, b3⟩ := HB5.out.cells
  have hcv1 := cv_any (P := Try.prog) (w := w5) 44 5 9 Try.underlying44 Try.underlying5 Try.underlying9 HO5.out.rd co HNL.out
  have hcv2 := cv_any (P := Try.prog) (w := w5) 44 5 9 Try.underlying44 Try.underlying5 Try.underlying9 (HRD.out.kept HI5.out.f (by simp)) o.bc HNL.out
  obtain ⟨S0, hS0⟩ : ∃ S0, strOfNums xs = S0 := ⟨_, rfl⟩
  rw [hS0] at hcv1 hcv2
  obtain ⟨E0, hE0⟩ : ∃ E0, errB bs.length o.at_ (o.bl : Int) = E0 := ⟨_, rfl⟩
  have HE0 := hid hE0
  rw [hE0]
  clear hv5 hf5 hS0 hE0
  go_wp2_with fail
  clear hcv1 hcv2 b0 b1 b2 b3
  go_loopw [8] (fun i wr => ∃ (j : Nat) (zs : List Int), j ≤ o.bl ∧ i = .int .i64 j ∧ Hid (zs.length = o.bl) ∧ Hid (Own wr 5 (.slice po o.bl co) zs) ∧ Hid (Frm (blk po) w5 wr)) (fun i _ => o.bl - (intOf i).toNat)
  case atStart => exact ⟨0, xs, Nat.zero_le _, rfl, HNL, HO5, hid (Frm.refl _ _)⟩
  case round =>
    obtain ⟨j, zs, hj, rfl, hzl, hoz, hf⟩ := hrel
    by_cases hlt : j < o.bl
    · obtain ⟨g, hp, hg, hc, hfz, hset⟩ := hoz.out.setAt hzl.out hlt
      have HSET := hid hset
      have HF2 : Hid (∀ u : Value, Frm (blk po) w5 (wr.setCell ⟨g, j, none⟩ u)) := hid (fun u => hf.out.setCell _ _ (fun _ => by rw [hp]; simp [blk]))
      subst hp
      clear hset
      go_wp2_with fail
      go_roundw
      case rel => exact ⟨j + 1, zs.set j 97, by omega, by go_num, hid (by rw [List.length_set]; exact hzl.out), hid (HSET.out 97), hid (HF2.out _)⟩
      case measure => simp [intOf]; omega
    · obtain rfl : j = o.bl := by omega
      have HI6 := hid (HI5.out.other hf.out (fun k hk => by have := HPO.out k hk; omega))
      have HB6 := hid (HB5.out.kept hf.out (fun h => by have := HPO.out bx h; omega))
      have HGP2 : Hid (xs ≠ [] → rg ∉ blk o.p) := hid (fun h hk => by have := HRD.out.lows h rg hk; have := HI6.out.n2; omega)
      have hw := refVWrite_any rb rg bs o.at_ o.p xs o.bl o.bc HNL.out wr.drew (HI6.out.r.kept ((Frm.refl [] wr).drew) (by simp) (by simp)) ((HRD.out.kept HI6.out.f (by simp)).drew) HGP2.out (by omega)
      rw [HE0.out] at hw
      have HWR := hid hw
      obtain ⟨c0, c1, cf⟩ := HI6.out.cells
      obtain ⟨b0, b1, b2, b3⟩ := HB6.out.cells
      clear hlt hw
      go_wp2_with fail
      go_still_tail 8, (by kernel_rfl)
      change wpList _ _ _ _ _ wr.drew
      obtain ⟨w7, hw7⟩ : ∃ w7, wr.drew = w7 := ⟨_, rfl⟩
      have hf7 : Frm [] wr w7 := by rw [← hw7]; exact (Frm.refl [] wr).drew
      rw [hw7] at HWR ⊢
      have HI7 := hid (HI6.out.new hf7 (by simp))
      clear hw7 hf7 c0 c1 cf b0 b1 b2 b3
      go_wp2_with fail
      refine HWR.out.mono ?_
      rintro e w8 ⟨rfl, hv8, hf8⟩
      have HI8 := hid (HI7.out.right hv8 (wrB_length _ _ _) hf8)
      clear hv8 hf8
      go_wp2_with fail
      go_returns
      exact ⟨by simp, _, _, _, HI8.out⟩
end Go.Proofs.Ythifchkeapbfdaa
