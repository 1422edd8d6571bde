/- SessionDoes, walked. -/
import Derived.Test.YtbgochkmplacaaaSsAf
namespace Go.Proofs.Ytbgochkmplacaaa
open Go.RowKit Go.Lib
set_option maxRecDepth 100000

/-- The list of replies of a call that came in. -/
def LIn24 (w : World) (d : OpR) : Prop := ∃ ls : List Rp, ls.length = d.ll ∧ Rv w d.lp (rowsR ls) ∧ d.ll * 96 ≤ 140737488351232 ∧ (d.lp = none → d.lc = 0) ∧ ∀ v ∈ ls, RpOk w v
/-- A script that came in, with its lists. -/
def CameD (w : World) (p : Option Addr) (len cap : Nat) : Prop := len ≤ cap ∧ cap ≤ 9223372036854775807 ∧ len * 136 ≤ 140737488351232 ∧ (len = 0 ∨ ∃ g o, p = some ⟨g, o, none⟩ ∧ ∀ i, i < len → ∃ d : OpR, (∀ j u, d.row[j]? = some u → w.cell? ⟨g, o + i * 10 + j, none⟩ = some u) ∧ OpRIn w d ∧ LIn24 w d)
theorem infoPP : (Try.prog.info? 50).map (fun i => (i.zero, i.size, i.bytes)) = some (some (.pointer none), 1, 8) := by kernel_rfl
theorem ptrs_one (xs : List PrD) : ∀ u ∈ ptrs xs, u.oneCell' = true := fun u hu => by
  obtain ⟨x, _, rfl⟩ := List.mem_map.1 hu
  rfl
/-- A pair that was made behind all else. -/
theorem pq_new {w0 w : World} {k b : Nat} {pl : Option Nat} {vs : List Rp} {f a r : Int} {d : Nat} {p : Option Addr} {c : Nat} {ls : List Rp} {f2 a2 r2 : Int} (N M : Nat)
    (fr : Frm [] w0 w) (pb : w.heap[k]? = some (.cells #[.pointer (some ⟨b, 0, none⟩), .pointer (some ⟨d, 0, none⟩)] 56 (0, 0))) (t : TS w b pl vs f a r) (rt : RT w d p c ls f2 a2 r2) (ok0 : ∀ v ∈ ls, RpOk w0 v) (hN : w0.heap.size ≤ N)
    (h1 : ∀ j ∈ foot24 b pl, N ≤ j ∧ j < M) (h2 : ∀ v ∈ vs, ∀ j ∈ v.B, N ≤ j ∧ j < M) (h3 : ∀ j ∈ footR d p, M ≤ j ∧ j < k) (hNM : N ≤ M) (hMK : M ≤ k) :
    PQ w0 w ⟨k, b, pl, vs, f, a, r, d, p, c, ls, f2, a2, r2⟩ ∧ ∀ j ∈ PrD.foot ⟨k, b, pl, vs, f, a, r, d, p, c, ls, f2, a2, r2⟩, N ≤ j := by
  have hkw := lt_of_heap pb
  have hmm : ∀ j ∈ PrD.foot ⟨k, b, pl, vs, f, a, r, d, p, c, ls, f2, a2, r2⟩, N ≤ j ∧ j < w.heap.size := fun j hj => by
    rcases PrD.mem_foot.1 hj with rfl | h | h | ⟨v, hv, h⟩
    · omega
    · have := h1 j h; omega
    · have := h3 j h; omega
    · have := h2 v hv j h; omega
  exact ⟨⟨fr, pb, t, rt, ok0, fun j hj => by have := hmm j hj; omega, ⟨fun hm => by have := (h1 _ hm).2; simp only at this; omega, fun hm => by have := (h3 _ hm).2; simp only at this; omega, fun v hv hm => by have := (h2 v hv _ hm).2; simp only at this; omega⟩, fun j hj hm => by have := (h1 j hj).2; have := (h3 j hm).1; omega, fun v hv j hj hm => by have := (h2 v hv j hj).2; have := (h3 j hm).1; omega⟩, fun j hj => (hmm j hj).1⟩
set_option maxHeartbeats 25600000 in
theorem sdoes24_any (p : Option Addr) (len cap : Nat) (w : World) (hI : CameD w p len cap) :
    Calls Try.prog 6 #[.slice p len cap] w fun e w' => e = .returned (.bool true) ∧ Frm [] w w' := by
  have HI := hid hI
  have HNW := hid (fun W => new24_any W)
  have HAW := hid (awake24_any w)
  have hlc : len ≤ 1034834473200 := by have := hI.2.2.1; omega
  have hbd1 : ∀ W, (Instr.build 54 #[]).run Try.prog W = .ok (.agg #[.slice none 0 0, .int .i64 0, .int .i64 0, .int .i64 0]) W := fun W => run_build W _ _ _ (by kernel_rfl)
  have hbd2 : ∀ W, (Instr.build 63 #[(0, .int .i64 3)]).run Try.prog W = .ok (.agg #[.int .i64 3, .int .i64 0, .int .i64 0, .int .i64 0, .int .i64 0, .int .i64 0, .string ByteArray.empty, .slice none 0 0, .slice none 0 0, .slice none 0 0]) W := fun W => run_build W _ _ _ (by kernel_rfl)
  have hbd3 : ∀ W, (Instr.build 61 #[(0, .int .i64 1)]).run Try.prog W = .ok (.agg #[.int .i64 1, .int .i64 0, .int .i64 0, .int .i64 0, .string ByteArray.empty, .slice none 0 0, .slice none 0 0]) W := fun W => run_build W _ _ _ (by kernel_rfl)
  have hbd4 : ∀ W, (Instr.build 63 #[(0, .int .i64 2), (2, .agg #[.int .i64 1, .int .i64 0, .int .i64 0, .int .i64 0, .string ByteArray.empty, .slice none 0 0, .slice none 0 0])]).run Try.prog W = .ok (.agg #[.int .i64 2, .int .i64 0, .int .i64 1, .int .i64 0, .int .i64 0, .int .i64 0, .string ByteArray.empty, .slice none 0 0, .slice none 0 0, .slice none 0 0]) W := fun W => run_build W _ _ _ (by kernel_rfl)
  clear hI
  go_enter Try.func6, Try.ntmps6
  go_wp2_with fail
  refine HAW.out.mono ?_
  rintro e w1 ⟨rfl, hf1⟩
  have HF1 := hid hf1
  clear hf1 HAW
  go_wp2_with fail
  refine (HNW.out _).mono ?_
  rintro e w2 ⟨b, rfl, ht2, hf2, hb2⟩
  obtain ⟨dd, hdd⟩ : ∃ q, w2.heap.size = q := ⟨_, rfl⟩
  obtain ⟨w3, hw3⟩ : ∃ q, ((w2.alloc (.cells #[.slice none 0 0, .int .i64 0, .int .i64 0, .int .i64 0] 54)).alloc (.cells #[.pointer (some ⟨b, 0, none⟩), .pointer (some ⟨dd, 0, none⟩)] 56)).alloc (.cells #[.pointer (some ⟨dd + 1, 0, none⟩)] 50) = q := ⟨_, rfl⟩
  have HPL : Hid (PL w w3 (some ⟨dd + 1 + 1, 0, none⟩) 1 1 [⟨dd + 1, b, none, zeros9, 0, 0, 0, dd, none, 0, [], 0, 0, 0⟩]) := hid (by
    have hf3 : Frm [] w2 w3 := by rw [← hw3]; exact (((Frm.refl _ _).alloc _).alloc _).alloc _
    have h0 : w3.heap[dd]? = some (.cells #[.slice none 0 0, .int .i64 0, .int .i64 0, .int .i64 0] 54 (0, 0)) := by rw [← hw3]; exact (((Frm.refl [] _).alloc _).alloc _).heap (heap_alloc_to _ _ hdd) (by simp)
    have h1 : w3.heap[dd + 1]? = some (.cells #[.pointer (some ⟨b, 0, none⟩), .pointer (some ⟨dd, 0, none⟩)] 56 (0, 0)) := by rw [← hw3]; exact ((Frm.refl [] _).alloc _).heap (heap_alloc_to _ _ (by simp [hdd])) (by simp)
    have h2 : w3.heap[dd + 1 + 1]? = some (.cells #[.pointer (some ⟨dd + 1, 0, none⟩)] 50 (0, 0)) := by rw [← hw3]; exact heap_alloc_to _ _ (by simp [hdd])
    have hz : w3.heap.size = dd + 3 := by rw [← hw3]; simp [hdd]
    have hbl := ht2.low b (by simp [foot24])
    have hz1 := HF1.out.size
    have hz2 := hf2.size
    have hm : ∀ j ∈ PrD.foot ⟨dd + 1, b, none, zeros9, 0, 0, 0, dd, none, 0, [], 0, 0, 0⟩, j = dd + 1 ∨ j = b ∨ j = dd := fun j hj => by
      rcases PrD.mem_foot.1 hj with h | h | h | ⟨v, hv, h⟩
      · exact Or.inl h
      · simp [foot24] at h; exact Or.inr (Or.inl h)
      · simp [footR, blk] at h; exact Or.inr (Or.inr h)
      · have : v = rp0 := by unfold zeros9 at hv; exact (List.mem_replicate.1 hv).2
        subst this; simp [Rp.B, rp0, blk] at h
    have hq : PQ w w3 ⟨dd + 1, b, none, zeros9, 0, 0, 0, dd, none, 0, [], 0, 0, 0⟩ := by
      refine ⟨(HF1.out.trans hf2 (by simp)).trans hf3 (by simp), h1, ht2.k0 hf3, ⟨h0, ⟨⟨rfl, Or.inl ⟨rfl, rfl⟩⟩, rfl⟩, by simp, by simp [blk], by simp⟩, by simp, fun j hj => ?_, ⟨?_, ?_, fun v hv => ?_⟩, ?_, fun v hv => ?_⟩
      · rcases hm j hj with rfl | rfl | rfl <;> omega
      · simp [foot24]; omega
      · simp [footR, blk]
      · have : v = rp0 := by unfold zeros9 at hv; exact (List.mem_replicate.1 hv).2
        subst this; simp [Rp.B, rp0, blk]
      · simp [foot24, footR, blk]; omega
      · have : v = rp0 := by unfold zeros9 at hv; exact (List.mem_replicate.1 hv).2
        subst this; simp [Rp.B, rp0, blk]
    refine ⟨hq.fr, ⟨rfl, Or.inr ⟨dd + 1 + 1, 1, _, rfl, by omega, h2, by omega, by unfold maxLen; omega, rfl, rfl⟩⟩, rfl, fun x hx => ?_, fun i j x y hij hx hy => ?_, fun k hk => ?_⟩
    · rw [List.mem_singleton] at hx; subst hx
      exact ⟨hq, alike_zeros, rfl, rfl, rfl⟩
    · have h3 := (List.getElem?_eq_some_iff.1 hx).1
      have h4 := (List.getElem?_eq_some_iff.1 hy).1
      simp at h3 h4; omega
    · simp [blk] at hk
      subst hk
      refine ⟨by omega, fun x hx => ?_⟩
      rw [List.mem_singleton] at hx; subst hx
      intro hk
      rcases hm _ hk with h | h | h <;> omega)
  have HW3 := hid hw3
  have HDD := hid hdd
  clear ht2 hf2 hb2 HF1 HNW hw3 hdd
  go_upto_region 6 with fail
  rw [HDD.out, HW3.out]
  clear HW3 HDD
  go_wp2_with fail
  go_loopw [6, 5] (fun i s5 wr => ∃ (t n : Nat) (q : Option Addr) (c : Nat) (xs : List PrD), t ≤ len ∧ (1 ≤ n ∧ n ≤ t + 1) ∧ i = .int .i64 (t : Int) ∧ s5 = .slice q n c ∧ Hid (PL w wr q n c xs)) (fun i _ _ => len - (intOf i).toNat)
  case atStart => exact ⟨0, 1, _, 1, _, Nat.zero_le _, by omega, rfl, rfl, HPL⟩
  case round =>
    clear HPL
    obtain ⟨t, n, q, c, xs, ht, hn, rfl, rfl, hin⟩ := hrel
    obtain ⟨hn1, hn2⟩ := hn
    by_cases hlt : t < len
    · have t1 : (t : Int) < (len : Int) := by omega
      obtain ⟨_, _, _, hcs⟩ := HI.out
      obtain ⟨g, o, rfl, hcells⟩ : ∃ g o, p = some ⟨g, o, none⟩ ∧ ∀ i, i < len → ∃ d : OpR, (∀ j u, d.row[j]? = some u → w.cell? ⟨g, o + i * 10 + j, none⟩ = some u) ∧ OpRIn w d ∧ LIn24 w d := by
        rcases hcs with h | h
        · omega
        · exact h
      obtain ⟨dop, hrow, hop, hlin⟩ := hcells t hlt
      have hcell : ∀ j u, _ → wr.cell? ⟨g, o + t * 10 + j, none⟩ = some u := fun j u hu => (hin.out.fr.cell (World.block_lt_of_cell? w _ (hrow j u hu)) (by simp)).trans (hrow j u hu)
      have HOP := hid hop
      have HLI := hid hlin
      have HDA := hid (fun (x : PrD) (W : World) h hs h4 h5 => does_any w W x dop h hs hop h4 h5)
      obtain ⟨kd, wh, ⟨⟨s, id, er, nu, tx, ss, ds⟩, lp, lc, dp, dc⟩, lq, ll, lr⟩ := dop
      simp only [OpR.row] at hcell HDA
      have HKB : Hid (-9223372036854775808 ≤ kd ∧ kd ≤ 9223372036854775807) := hid hop.1
      have HWB : Hid (-9223372036854775808 ≤ wh ∧ wh ≤ 9223372036854775807) := hid hop.2.1
      obtain ⟨nn, hnn⟩ : ∃ q, ss.length = q := ⟨_, rfl⟩
      obtain ⟨mm, hmm⟩ : ∃ q, ds.length = q := ⟨_, rfl⟩
      rw [hnn, hmm] at hcell HDA
      have d0 : wr.cell? ⟨g, o + t * 10, none⟩ = some (.int .i64 kd) := hcell 0 _ rfl
      have d1 : wr.cell? ⟨g, o + t * 10 + 1, none⟩ = some (.int .i64 wh) := hcell 1 _ rfl
      have d2 : wr.cell? ⟨g, o + t * 10 + 2, none⟩ = some (.int .i64 s) := hcell 2 _ rfl
      have d3 : wr.cell? ⟨g, o + t * 10 + 3, none⟩ = some (.int .i64 id) := hcell 3 _ rfl
      have d4 : wr.cell? ⟨g, o + t * 10 + 4, none⟩ = some (.int .i64 er) := hcell 4 _ rfl
      have d5 : wr.cell? ⟨g, o + t * 10 + 5, none⟩ = some (.int .i64 nu) := hcell 5 _ rfl
      have d6 : wr.cell? ⟨g, o + t * 10 + 6, none⟩ = some (.string tx) := hcell 6 _ rfl
      have d7 : wr.cell? ⟨g, o + t * 10 + 7, none⟩ = some (.slice lp nn lc) := hcell 7 _ rfl
      have d8 : wr.cell? ⟨g, o + t * 10 + 8, none⟩ = some (.slice dp mm dc) := hcell 8 _ rfl
      have d9 : wr.cell? ⟨g, o + t * 10 + 9, none⟩ = some (.slice lq ll lr) := hcell 9 _ rfl
      obtain ⟨bx, hbx⟩ : ∃ q, wr.heap.size = q := ⟨_, rfl⟩
      obtain ⟨w5, hw5⟩ : ∃ q, wr.alloc (.cells #[.int .i64 kd, .int .i64 wh, .int .i64 s, .int .i64 id, .int .i64 er, .int .i64 nu, .string tx, .slice lp nn lc, .slice dp mm dc, .slice lq ll lr] 63) = q := ⟨_, rfl⟩
      have h5 : Frm [] wr w5 := by rw [← hw5]; exact (Frm.refl _ _).alloc _
      have HX : Hid (w5.heap[bx]? = some (.cells #[.int .i64 kd, .int .i64 wh, .int .i64 s, .int .i64 id, .int .i64 er, .int .i64 nu, .string tx, .slice lp nn lc, .slice dp mm dc, .slice lq ll lr] 63 (0, 0))) := hid (by rw [← hw5]; exact heap_alloc_to _ _ hbx)
      have HPL5 := hid (hin.out.k0 h5)
      have HW5 := hid hw5
      have HBX := hid hbx
      clear hw5 hbx h5 hin hcell hrow hcs hcells hop hlin hnn hmm
      go_upto_region 10 with fail
      rw [HBX.out, HW5.out]
      clear HW5 HBX d0 d1 d2 d3 d4 d5 d6 d7 d8 d9
      have y1 : w5.cell? ⟨bx, 1, none⟩ = some (.int .i64 wh) := by rw [cell_of_row _ _ _ _ _ _ HX.out]; rfl
      obtain ⟨iw, hiw⟩ : ∃ i : Nat, pickM wh (n : Int) = (i : Int) := ⟨(pickM wh n).toNat, by have := pickM_bd wh n (by omega); omega⟩
      have hiwb : iw < n := by have := pickM_bd wh n (by omega); omega
      have HPW := hid (fun W => pick24_any wh (n : Int) W HWB.out (by omega))
      rw [hiw] at HPW
      obtain ⟨x, hx⟩ : ∃ x, xs[iw]? = some x := ⟨_, List.getElem?_eq_getElem (by rw [HPL5.out.ln]; exact hiwb)⟩
      obtain ⟨gq, hgq, hcq⟩ := HPL5.out.cell hx
      subst hgq
      have hib : (iw : Int) < (n : Int) := by omega
      have HXI := hid hx
      clear hiw hx
      go_wp2_with fail
      refine (HPW.out _).mono ?_
      rintro e w5' ⟨rfl, hww⟩
      subst hww
      have x0 : w5'.cell? ⟨bx, 0, none⟩ = some (.int .i64 kd) := by rw [cell_of_row _ _ _ _ _ _ HX.out]; rfl
      have HPKD := hid (fun W => pick24_any kd 6 W HKB.out (by omega))
      obtain ⟨pk, hpk⟩ : ∃ q, pickM kd 6 = q := ⟨_, rfl⟩
      rw [hpk] at HPKD HDA
      clear y1 HPW hpk hiwb
      go_wp2_with fail
      refine (HPKD.out _).mono ?_
      rintro e w5x ⟨rfl, hww⟩
      subst hww
      clear x0 HPKD hcq hib
      have hxm := List.mem_of_getElem? HXI.out
      have HQ := hid (HPL5.out.pq x hxm).1
      have HSM := hid (HPL5.out.pq x hxm).2
      clear hxm
      by_cases hk4 : pk = 4
      · subst hk4
        clear HDA HLI
        obtain ⟨xk, b0, pl0, vs0, f0, a0, r0, d0, p0, c0, ls0, f20, a20, r20⟩ := x
        have HCL := hid (clone24_any b0 pl0 vs0 f0 a0 r0 w5x HQ.out.t)
        have y0 : w5x.cell? ⟨xk, 0, none⟩ = some (.pointer (some ⟨b0, 0, none⟩)) := by rw [cell_of_row _ _ _ _ _ _ HQ.out.pb]; rfl
        go_wp2_with fail
        refine HCL.out.mono ?_
        rintro e w6 ⟨g1, bc, pc, us, rfl, hta, htc, hus, hfc, hnx, hbn, hun⟩
        have HADV := hid ((Adv24.refl HQ.out).prog hta hfc hnx (fun v hv => Or.inl hv))
        have HTC := hid htc
        have HUS := hid hus
        have HBN := hid hbn
        have HUN := hid hun
        clear hta htc hus hfc hnx hbn hun y0 HCL
        have hsm := HSM.out
        unfold PrD.same at hsm
        simp only at hsm
        obtain ⟨hal, hf2e, ha2e, hr2e⟩ := hsm
        have HRC := hid (rclone24_any d0 p0 c0 ls0 f20 a20 r20 w6 HADV.out.q.rt hal.len)
        have y1 : w6.cell? ⟨xk, 1, none⟩ = some (.pointer (some ⟨d0, 0, none⟩)) := by rw [cell_of_row _ _ _ _ _ _ HADV.out.q.pb]; rfl
        have HAL := hid hal
        have HCNT : Hid (f20 = f0 ∧ a20 = a0 ∧ r20 = r0) := hid ⟨hf2e, ha2e, hr2e⟩
        clear hal hf2e ha2e hr2e
        go_wp2_with fail
        refine HRC.out.mono ?_
        rintro e w7 ⟨d1, q1, cq1, rfl, hrt, hf7, hd1, hq1⟩
        obtain ⟨kb, hkb⟩ : ∃ q, w7.heap.size = q := ⟨_, rfl⟩
        obtain ⟨wp, hwp⟩ : ∃ q, w7.alloc (.cells #[.pointer (some ⟨bc, 0, none⟩), .pointer (some ⟨d1, 0, none⟩)] 56) = q := ⟨_, rfl⟩
        have hfp : Frm [] w7 wp := by rw [← hwp]; exact (Frm.refl _ _).alloc _
        have hpb : wp.heap[kb]? = some (.cells #[.pointer (some ⟨bc, 0, none⟩), .pointer (some ⟨d1, 0, none⟩)] 56 (0, 0)) := by rw [← hwp]; exact heap_alloc_to _ _ hkb
        have hsz5 := HADV.out.sz
        have hsz7 := hf7.size
        have hw05 := HPL5.out.fr.size
        have hpq := pq_new (w0 := w) (w := wp) (k := kb) (f := f0) (a := a0) (r := r0) (f2 := f20) (a2 := a20) (r2 := r20) w5x.heap.size w6.heap.size ((HADV.out.q.fr.trans hf7 (by simp)).trans hfp (by simp)) hpb ((HTC.out.k0 hf7).k0 hfp) (hrt.k0 hfp) HQ.out.ok0 hw05 (fun j hj => ⟨(HBN.out j hj).1, HTC.out.low j hj⟩) (fun v hv j hj => ⟨(HUN.out v hv j hj).1, ((HTC.out.ok v hv).2 j hj).2⟩) (fun j hj => by
          simp only [footR, List.mem_cons] at hj
          rcases hj with rfl | hj
          · exact ⟨hd1, by have := lt_of_heap hrt.st; omega⟩
          · exact ⟨hq1 j hj, by have := ownsRow_low hrt.own.1 j hj; omega⟩) hsz5 (by omega)
        have HPLS := hid (((HPL5.out.step HXI.out HADV.out ⟨HAL.out, HCNT.out⟩).k0 hf7).k0 hfp)
        have HPQ := hid hpq.1
        have HSY : Hid (PrD.same ⟨kb, bc, pc, us, f0, a0, r0, d1, q1, cq1, ls0, f20, a20, r20⟩) := hid ⟨HAL.out.clone HTC.out.ln HUS.out, HCNT.out⟩
        have HDJ : Hid (∀ j ∈ PrD.foot ⟨kb, bc, pc, us, f0, a0, r0, d1, q1, cq1, ls0, f20, a20, r20⟩, (∀ z ∈ xs.set iw ⟨xk, b0, some g1, vs0, f0, a0, r0, d0, p0, c0, ls0, f20, a20, r20⟩, j ∉ z.foot) ∧ j ∉ blk (some ⟨gq, 0, none⟩)) := hid (fun j hj => ⟨fun z hz hjz => by
          have hge := hpq.2 j hj
          obtain ⟨k, hk⟩ := List.getElem?_of_mem hz
          rcases set_get hk with ⟨_, rfl⟩ | ⟨_, hk⟩
          · have hlt := (HADV.out.q.nw j hjz).2
            have hx1 : ∀ j ∈ PrD.foot ⟨xk, b0, pl0, vs0, f0, a0, r0, d0, p0, c0, ls0, f20, a20, r20⟩, j < w5x.heap.size := fun j hj => (HQ.out.nw j hj).2
            have hin24 : j ∈ foot24 b0 (some g1) := by
              rcases PrD.mem_foot.1 hjz with h | h | h | ⟨v, hv, h⟩
              · have := hx1 j (PrD.mem_foot.2 (Or.inl h)); omega
              · exact h
              · have := hx1 j (PrD.mem_foot.2 (Or.inr (Or.inr (Or.inl h)))); omega
              · have := hx1 j (PrD.mem_foot.2 (Or.inr (Or.inr (Or.inr ⟨v, hv, h⟩)))); omega
            rcases PrD.mem_foot.1 hj with h | h | h | ⟨v, hv, h⟩
            · simp only at h; omega
            · exact (HBN.out j h).2 hin24
            · simp only [footR, List.mem_cons] at h
              rcases h with rfl | h
              · omega
              · have := hq1 j h; omega
            · exact (HUN.out v hv j h).2 hin24
          · have := ((HPL5.out.pq z (List.mem_of_getElem? hk)).1.nw j hjz).2; omega, fun hjq => by have := hpq.2 j hj; have := ownsRow_low HPL5.out.ow j hjq; omega⟩)
        clear hrt hf7 hd1 hq1 hfp hpb hsz5 hsz7 hw05 hpq HRC y1
        subst hwp
        subst hkb
        have HA := hid ((Frm.refl [] (w7.alloc (.cells #[.pointer (some ⟨bc, 0, none⟩), .pointer (some ⟨d1, 0, none⟩)] 56))).alloc (.cells #[.pointer (some ⟨w7.heap.size, 0, none⟩)] 50))
        have HRV := hid (rv_block (show ((w7.alloc (.cells #[.pointer (some ⟨bc, 0, none⟩), .pointer (some ⟨d1, 0, none⟩)] 56)).alloc (.cells #[.pointer (some ⟨w7.heap.size, 0, none⟩)] 50)).heap[w7.heap.size + 1]? = some (.cells #[.pointer (some ⟨w7.heap.size, 0, none⟩)] 50 (0, 0)) from heap_alloc_to _ _ (by simp)))
        have HOW := hid (ownsRow_kept HPLS.out.ow HA.out (by simp))
        go_wp2_with (at_builtin; refine wpList_appV rfl _ _ 57 rfl 50 1 8 _ Try.underlying57 infoPP rfl (by decide) (some ⟨gq, 0, none⟩) n c (ptrs (xs.set iw ⟨xk, b0, some g1, vs0, f0, a0, r0, d0, p0, c0, ls0, f20, a20, r20⟩)) rfl HOW.out (some ⟨w7.heap.size + 1, 0, none⟩) 1 1 [.pointer (some ⟨w7.heap.size, 0, none⟩)] rfl rfl (by simp) HRV.out (by intro u hu; simp at hu; subst hu; rfl) (by unfold maxLen; omega) (by omega) ?_)
        intro q7 c7 w8 ho8 hf8 hb8
        have HPL8 := hid (HPLS.out.app HPQ.out HSY.out HDJ.out HA.out (by have := ho8.out; simpa using this) hf8.out (fun k hk => (hb8.out k hk).imp (fun h => h) (fun h => by first | exact h | (simp; omega))))
        clear ho8 hf8 hb8 HOW HRV HA
        go_wp2_with fail
        go_roundw
        case rel => exact ⟨t + 1, n + 1, q7, c7, _, by omega, ⟨by omega, by omega⟩, by go_num, by go_num, HPL8⟩
        case measure => first | (simp [intOf]; done) | (simp [intOf]; omega)
      · by_cases hk5 : pk = 5
        · subst hk5
          clear HDA
          obtain ⟨ls1, hl1, hl2, hl3, hl4, hl5⟩ := HLI.out
          simp only at hl1 hl2 hl3 hl4
          have HLD := hid (loads24_any w lq ll lr ls1 w5x HPL5.out.fr (hl2.kept HPL5.out.fr (by simp)) hl1 hl3 hl4 hl5)
          have y9 : w5x.cell? ⟨bx, 9, none⟩ = some (.slice lq ll lr) := by rw [cell_of_row _ _ _ _ _ _ HX.out]; rfl
          clear hl1 hl2 hl3 hl4 hl5
          go_wp2_with fail
          refine HLD.out.mono ?_
          intro e w6 hld
          obtain ⟨hf6, rfl | ⟨y, rfl, hqy, hsy, hny⟩⟩ := hld
          · have HPL6 := hid (HPL5.out.k0 hf6)
            clear hf6 y9 HLD
            go_wp2_with fail
            go_roundw
            case rel => exact ⟨t + 1, n, _, c, _, by omega, ⟨hn1, by omega⟩, by go_num, rfl, HPL6⟩
            case measure => first | (simp [intOf]; done) | (simp [intOf]; omega)
          · have HPLS := hid (HPL5.out.k0 hf6)
            have HPQ := hid hqy
            have HSY := hid hsy
            have HDJ : Hid (∀ j ∈ y.foot, (∀ z ∈ xs, j ∉ z.foot) ∧ j ∉ blk (some ⟨gq, 0, none⟩)) := hid (fun j hj => ⟨fun z hz hjz => by have := hny j hj; have := ((HPL5.out.pq z hz).1.nw j hjz).2; omega, fun hjq => by have := hny j hj; have := ownsRow_low HPL5.out.ow j hjq; omega⟩)
            clear hf6 hqy hsy hny y9 HLD
            have HA := hid ((Frm.refl [] w6).alloc (.cells #[.pointer (some ⟨y.k, 0, none⟩)] 50))
            have HRV := hid (rv_block (heap_alloc_new w6 (.cells #[.pointer (some ⟨y.k, 0, none⟩)] 50)))
            have HOW := hid (ownsRow_kept HPLS.out.ow HA.out (by simp))
            go_wp2_with (at_builtin; refine wpList_appV rfl _ _ 57 rfl 50 1 8 _ Try.underlying57 infoPP rfl (by decide) (some ⟨gq, 0, none⟩) n c (ptrs xs) rfl HOW.out (some ⟨w6.heap.size, 0, none⟩) 1 1 [.pointer (some ⟨y.k, 0, none⟩)] rfl rfl (by simp) HRV.out (by intro u hu; simp at hu; subst hu; rfl) (by unfold maxLen; omega) (by omega) ?_)
            intro q7 c7 w8 ho8 hf8 hb8
            have HPL8 := hid (HPLS.out.app HPQ.out HSY.out HDJ.out HA.out (by have := ho8.out; simpa using this) hf8.out (fun k hk => (hb8.out k hk).imp (fun h => h) (fun h => by first | exact h | (simp; omega))))
            clear ho8 hf8 hb8 HOW HRV HA
            go_wp2_with fail
            go_roundw
            case rel => exact ⟨t + 1, n + 1, q7, c7, _, by omega, ⟨by omega, by omega⟩, by go_num, by go_num, HPL8⟩
            case measure => first | (simp [intOf]; done) | (simp [intOf]; omega)
        · have HD := hid (HDA.out x w5x HQ.out HSM.out hk4 hk5)
          have x0 : w5x.cell? ⟨bx, 0, none⟩ = some (.int .i64 kd) := by rw [cell_of_row _ _ _ _ _ _ HX.out]; rfl
          have x1 : w5x.cell? ⟨bx, 1, none⟩ = some (.int .i64 wh) := by rw [cell_of_row _ _ _ _ _ _ HX.out]; rfl
          have x2 : w5x.cell? ⟨bx, 2, none⟩ = some (.int .i64 s) := by rw [cell_of_row _ _ _ _ _ _ HX.out]; rfl
          have x3 : w5x.cell? ⟨bx, 3, none⟩ = some (.int .i64 id) := by rw [cell_of_row _ _ _ _ _ _ HX.out]; rfl
          have x4 : w5x.cell? ⟨bx, 4, none⟩ = some (.int .i64 er) := by rw [cell_of_row _ _ _ _ _ _ HX.out]; rfl
          have x5 : w5x.cell? ⟨bx, 5, none⟩ = some (.int .i64 nu) := by rw [cell_of_row _ _ _ _ _ _ HX.out]; rfl
          have x6 : w5x.cell? ⟨bx, 6, none⟩ = some (.string tx) := by rw [cell_of_row _ _ _ _ _ _ HX.out]; rfl
          have x7 : w5x.cell? ⟨bx, 7, none⟩ = some (.slice lp nn lc) := by rw [cell_of_row _ _ _ _ _ _ HX.out]; rfl
          have x8 : w5x.cell? ⟨bx, 8, none⟩ = some (.slice dp mm dc) := by rw [cell_of_row _ _ _ _ _ _ HX.out]; rfl
          have x9 : w5x.cell? ⟨bx, 9, none⟩ = some (.slice lq ll lr) := by rw [cell_of_row _ _ _ _ _ _ HX.out]; rfl
          go_wp2_with fail
          refine HD.out.mono ?_
          rintro e w6 ⟨rfl, x', hadv, hsm⟩
          have HPL6 := hid (HPL5.out.step HXI.out hadv hsm)
          clear hadv hsm HD x0 x1 x2 x3 x4 x5 x6 x7 x8 x9
          go_wp2_with fail
          go_roundw
          case rel => exact ⟨t + 1, n, _, c, _, by omega, ⟨hn1, by omega⟩, by go_num, rfl, HPL6⟩
          case measure => first | (simp [intOf]; done) | (simp [intOf]; omega)
    · obtain rfl : t = len := by omega
      have HPL0 := hid hin.out
      clear hin
      obtain ⟨wm, rfl⟩ : ∃ z, z = wr := ⟨_, rfl⟩
      go_wp2_with fail
      go_loopw [13] (fun i wr => ∃ (k : Nat) (ys : List PrD), k ≤ n ∧ i = .int .i64 (k : Int) ∧ Hid (PL w wr q n c ys)) (fun i _ => n - (intOf i).toNat)
      case atStart => exact ⟨0, xs, Nat.zero_le _, rfl, HPL0⟩
      case round =>
        clear HPL0
        obtain ⟨k, ys, hk, rfl, hin⟩ := hrel
        by_cases hlt2 : k < n
        · have t1 : (k : Int) < (n : Int) := by omega
          obtain ⟨x, hx⟩ : ∃ x, ys[k]? = some x := ⟨_, List.getElem?_eq_getElem (by rw [hin.out.ln]; exact hlt2)⟩
          obtain ⟨gq, hgq, hcq⟩ := hin.out.cell hx
          subst hgq
          have hxm := List.mem_of_getElem? hx
          have HD1 : Hid (Calls Try.prog 33 #[.pointer (some ⟨x.k, 0, none⟩), .agg #[.int .i64 3, .int .i64 0, .int .i64 0, .int .i64 0, .int .i64 0, .int .i64 0, .string ByteArray.empty, .slice none 0 0, .slice none 0 0, .slice none 0 0]] wr (DoesP w wr x)) := hid (does_any w wr x ⟨3, 0, rp0, none, 0, 0⟩ (hin.out.pq x hxm).1 (hin.out.pq x hxm).2 ⟨by simp, by simp, by simp [rp0, rs0], by simp [rp0, rs0], rp0_ok w⟩ (by decide) (by decide))
          have HIN := hid hin.out
          have HX := hid hx
          clear hin hx hxm
          go_wp2_with fail
          refine HD1.out.mono ?_
          rintro e w6 ⟨rfl, x1, hadv, hsm⟩
          have HPL6 := hid (HIN.out.step HX.out hadv hsm)
          have hx1 : (ys.set k x1)[k]? = some x1 := by
            have := (List.getElem?_eq_some_iff.1 HX.out).1
            rw [List.getElem?_set]; simp [this]
          obtain ⟨gq', hgq', hcq'⟩ := HPL6.out.cell hx1
          obtain rfl : gq = gq' := by simpa using hgq'
          have hxm := List.mem_of_getElem? hx1
          have HD2 : Hid (Calls Try.prog 33 #[.pointer (some ⟨x1.k, 0, none⟩), .agg #[.int .i64 2, .int .i64 0, .int .i64 1, .int .i64 0, .int .i64 0, .int .i64 0, .string ByteArray.empty, .slice none 0 0, .slice none 0 0, .slice none 0 0]] w6 (DoesP w w6 x1)) := hid (does_any w w6 x1 ⟨2, 0, ⟨⟨1, 0, 0, 0, ByteArray.empty, [], []⟩, none, 0, none, 0⟩, none, 0, 0⟩ (HPL6.out.pq x1 hxm).1 (HPL6.out.pq x1 hxm).2 ⟨by simp, by simp, by simp, by simp, Or.inl rfl, Or.inl rfl, fun _ _ => rfl, fun _ _ => rfl, by simp, by simp⟩ (by decide) (by decide))
          have HX1 := hid hx1
          clear hadv hsm hx1 hxm hgq' HD1 hcq HIN
          go_wp2_with fail
          refine HD2.out.mono ?_
          rintro e w7 ⟨rfl, x2, hadv, hsm⟩
          have HPL7 := hid (HPL6.out.step HX1.out hadv hsm)
          clear hadv hsm HD2 hcq' HPL6
          go_wp2_with fail
          go_roundw
          case rel => exact ⟨k + 1, _, by omega, by go_num, HPL7⟩
          case measure => first | (simp [intOf]; done) | (simp [intOf]; omega)
        · have HF := hid hin.out.fr
          clear hin
          go_wp2_with fail
          first | go_returns | skip
          exact ⟨rfl, HF.out⟩
end Go.Proofs.Ytbgochkmplacaaa
