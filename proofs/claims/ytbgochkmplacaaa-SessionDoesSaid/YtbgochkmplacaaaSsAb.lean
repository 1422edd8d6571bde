/- The law's does: Keep. -/
import Derived.Test.YtbgochkmplacaaaSsAa
namespace Go.Proofs.Ytbgochkmplacaaa
open Go.RowKit Go.Lib
set_option maxRecDepth 100000

set_option maxHeartbeats 12800000 in
theorem does_keep (w0 w : World) (x : PrD) (o : OpR) (h : PQ w0 w x) (hs : x.same) (hi : OpRIn w0 o) (hk0 : pickM o.kind 6 = 1) :
    Calls Try.prog 33 #[.pointer (some ⟨x.k, 0, none⟩), .agg o.row.toArray] w (DoesP w0 w x) := by
  obtain ⟨PO, hPO⟩ : ∃ PO : Ending → World → Prop, DoesP w0 w x = PO := ⟨_, rfl⟩
  rw [hPO]
  have HP : Hid (∀ x' w', Adv24 w0 w x w' x' → x'.same → PO (.returned (.bool true)) w') := hid (fun x' w' h1 h2 => by rw [← hPO]; exact ⟨rfl, x', h1, h2⟩)
  obtain ⟨xk, b, pl, vs, f, a, r, d, p, c, ls, f2, a2, r2⟩ := x
  obtain ⟨hal, h2f, h2a, h2r⟩ := hs
  simp only at hal h2f h2a h2r
  subst h2f h2a h2r
  have HAL := hid hal
  obtain ⟨kd, wh, ⟨⟨s, id, er, nu, tx, ss, ds⟩, lp, lc, dp, dc⟩, lq, ll, lr⟩ := o
  obtain ⟨hkd, hwh, hsb, hib, hok⟩ := hi
  simp only at hkd hsb hib hk0
  have HSB := hid hsb
  have HIB := hid hib
  have HOK := hid hok
  have HKB := hid hkd
  unfold OpR.row
  simp only
  obtain ⟨n, hn⟩ : ∃ q, ss.length = q := ⟨_, rfl⟩
  obtain ⟨m, hm⟩ : ∃ q, ds.length = q := ⟨_, rfl⟩
  have HN := hid hn
  have HM := hid hm
  rw [hn, hm]
  obtain ⟨bx, hbx⟩ : ∃ q, w.heap.size = q := ⟨_, rfl⟩
  obtain ⟨w1, hw1⟩ : ∃ q, w.alloc (.cells #[.int .i64 kd, .int .i64 wh, .int .i64 s, .int .i64 id, .int .i64 er, .int .i64 nu, .string tx, .slice lp n lc, .slice dp m dc, .slice lq ll lr] 63) = q := ⟨_, rfl⟩
  have hf1 : Frm [] w w1 := by rw [← hw1]; exact (Frm.refl _ _).alloc _
  have HX : Hid (w1.heap[bx]? = some (.cells #[.int .i64 kd, .int .i64 wh, .int .i64 s, .int .i64 id, .int .i64 er, .int .i64 nu, .string tx, .slice lp n lc, .slice dp m dc, .slice lq ll lr] 63 (0, 0))) := hid (by rw [← hw1]; exact heap_alloc_to _ _ hbx)
  have HA := hid ((Adv24.refl h).k0 hf1)
  have HNW := hid (fun j hj => (h.nw j hj).2)
  have HPK := hid (fun W => pick24_any kd 6 W HKB.out (by omega))
  have HW1 := hid hw1
  have HBX := hid hbx
  clear h hPO hal hkd hwh hsb hib hok hn hm hbx hw1 hf1
  go_enter Try.func33, Try.ntmps33
  go_upto_region 1 with fail
  rw [HBX.out, HW1.out]
  clear HW1
  have x0 : w1.cell? ⟨bx, 0, none⟩ = some (.int .i64 kd) := by rw [cell_of_row _ _ _ _ _ _ HX.out]; rfl
  go_wp2_with fail
  refine (HPK.out _).mono ?_
  rintro e w1' ⟨rfl, hww⟩
  subst hww
  clear x0
  rw [hk0]
  clear hk0
  obtain ⟨C, hC⟩ : ∃ q, chk24 vs s id 1 = q := ⟨_, rfl⟩
  have HC := hid hC
  have x2 : w1'.cell? ⟨bx, 2, none⟩ = some (.int .i64 s) := by rw [cell_of_row _ _ _ _ _ _ HX.out]; rfl
  have x3 : w1'.cell? ⟨bx, 3, none⟩ = some (.int .i64 id) := by rw [cell_of_row _ _ _ _ _ _ HX.out]; rfl
  have x4 : w1'.cell? ⟨bx, 4, none⟩ = some (.int .i64 er) := by rw [cell_of_row _ _ _ _ _ _ HX.out]; rfl
  have x5 : w1'.cell? ⟨bx, 5, none⟩ = some (.int .i64 nu) := by rw [cell_of_row _ _ _ _ _ _ HX.out]; rfl
  have x6 : w1'.cell? ⟨bx, 6, none⟩ = some (.string tx) := by rw [cell_of_row _ _ _ _ _ _ HX.out]; rfl
  have x7 : w1'.cell? ⟨bx, 7, none⟩ = some (.slice lp n lc) := by rw [cell_of_row _ _ _ _ _ _ HX.out]; rfl
  have x8 : w1'.cell? ⟨bx, 8, none⟩ = some (.slice dp m dc) := by rw [cell_of_row _ _ _ _ _ _ HX.out]; rfl
  have hle := lent24_any ⟨⟨s, id, er, nu, tx, ss, ds⟩, lp, lc, dp, dc⟩ w1' (HOK.out.kept HA.out.q.fr (by simp))
  unfold Rp.agg at hle
  simp only at hle
  rw [HN.out, HM.out] at hle
  have HLE := hid hle
  clear hle hC
  go_wp2_with fail
  refine HLE.out.mono ?_
  rintro e w3 ⟨⟨vx, vp, vc, vq, vd⟩, rfl, hvx, hvr, hvf, hvb, hvo⟩
  simp only at hvx
  subst hvx
  simp only
  rw [HN.out, HM.out]
  clear x2 x3 x4 x5 x6 x7 x8
  obtain ⟨bo, hbo⟩ : ∃ q, w3.heap.size = q := ⟨_, rfl⟩
  obtain ⟨w4, hw4⟩ : ∃ q, w3.alloc (.cells #[.int .i64 s, .int .i64 id, .int .i64 er, .int .i64 nu, .string tx, .slice vp n vc, .slice vq m vd] 61) = q := ⟨_, rfl⟩
  have hf4 : Frm [] w3 w4 := by rw [← hw4]; exact (Frm.refl _ _).alloc _
  have HL4 : Hid (w4.heap[bo]? = some (.cells #[.int .i64 s, .int .i64 id, .int .i64 er, .int .i64 nu, .string tx, .slice vp n vc, .slice vq m vd] 61 (0, 0))) := hid (by rw [← hw4]; exact heap_alloc_to _ _ hbo)
  have HA4 := hid ((HA.out.k0 hvf).k0 hf4)
  have HX4 := hid (hf4.heap (hvf.heap HX.out (by simp)) (by simp))
  have HVR := hid (hvr.kept hf4 (by simp))
  have HVO := hid (hvo.kept hf4 (by simp))
  have HVB : Hid (∀ j ∈ Rp.B ⟨⟨s, id, er, nu, tx, ss, ds⟩, vp, vc, vq, vd⟩, w.heap.size ≤ j ∧ j < w4.heap.size ∧ j ≠ bo ∧ j ≠ bx) := hid (fun j hj => by
    have h1 := hvb j hj; have h2 := hf4.size; have h3 := HA.out.sz; have h4 := lt_of_heap HX.out
    exact ⟨by omega, by omega, by omega, by omega⟩)
  have HBO : Hid (bo ≠ bx ∧ w.heap.size ≤ bo) := hid (by have h3 := HA.out.sz; have h4 := lt_of_heap HX.out; have h5 := hvf.size; omega)
  have HBOE := hid hbo
  have HW4 := hid hw4
  have hke := keep_any b pl vs f2 a2 r2 ⟨⟨s, id, er, nu, tx, ss, ds⟩, vp, vc, vq, vd⟩ w4.drew (HA4.out.q.t.k0 (Frm.refl [] _).drew) (fun W hf => (HVR.out.kept (Frm.refl [] w4).drew (by simp)).kept hf (fun j hj hm => by have := (HVB.out j hj).1; have := HNW.out j (PrD.mem_foot.2 (Or.inr (Or.inl hm))); omega))
  unfold KeepP Rp.agg at hke
  simp only at hke
  rw [HN.out, HM.out, HC.out] at hke
  have HKE := hid hke
  have HKF : Hid (∀ W W' : World, (W.cell? ⟨xk, 0, none⟩ = some (.pointer (some ⟨b, 0, none⟩)) ∧ W.cell? ⟨bo, 0, none⟩ = some (.int .i64 s) ∧ W.cell? ⟨bo, 1, none⟩ = some (.int .i64 id) ∧ W.cell? ⟨bo, 2, none⟩ = some (.int .i64 er) ∧ W.cell? ⟨bo, 3, none⟩ = some (.int .i64 nu) ∧ W.cell? ⟨bo, 4, none⟩ = some (.string tx) ∧ W.cell? ⟨bo, 5, none⟩ = some (.slice vp n vc) ∧ W.cell? ⟨bo, 6, none⟩ = some (.slice vq m vd)) → Frm (foot24 b pl) W W' → (W'.cell? ⟨xk, 0, none⟩ = some (.pointer (some ⟨b, 0, none⟩)) ∧ W'.cell? ⟨bo, 0, none⟩ = some (.int .i64 s) ∧ W'.cell? ⟨bo, 1, none⟩ = some (.int .i64 id) ∧ W'.cell? ⟨bo, 2, none⟩ = some (.int .i64 er) ∧ W'.cell? ⟨bo, 3, none⟩ = some (.int .i64 nu) ∧ W'.cell? ⟨bo, 4, none⟩ = some (.string tx) ∧ W'.cell? ⟨bo, 5, none⟩ = some (.slice vp n vc) ∧ W'.cell? ⟨bo, 6, none⟩ = some (.slice vq m vd))) := hid (fun W W' hs hf => by
    have hnf : xk ∉ foot24 b pl ∧ bo ∉ foot24 b pl := ⟨HA4.out.q.kt.1, fun hm => by have := HNW.out bo (PrD.mem_foot.2 (Or.inr (Or.inl hm))); have := HBO.out; omega⟩
    have kc : ∀ q v, q.block ∉ foot24 b pl → W.cell? q = some v → W'.cell? q = some v := fun q v hq hv => (hf.cell (World.block_lt_of_cell? W _ hv) hq).trans hv
    exact ⟨kc _ _ hnf.1 hs.1, kc _ _ hnf.2 hs.2.1, kc _ _ hnf.2 hs.2.2.1, kc _ _ hnf.2 hs.2.2.2.1, kc _ _ hnf.2 hs.2.2.2.2.1, kc _ _ hnf.2 hs.2.2.2.2.2.1, kc _ _ hnf.2 hs.2.2.2.2.2.2.1, kc _ _ hnf.2 hs.2.2.2.2.2.2.2⟩)
  have hs0 : w4.drew.cell? ⟨xk, 0, none⟩ = some (.pointer (some ⟨b, 0, none⟩)) ∧ w4.drew.cell? ⟨bo, 0, none⟩ = some (.int .i64 s) ∧ w4.drew.cell? ⟨bo, 1, none⟩ = some (.int .i64 id) ∧ w4.drew.cell? ⟨bo, 2, none⟩ = some (.int .i64 er) ∧ w4.drew.cell? ⟨bo, 3, none⟩ = some (.int .i64 nu) ∧ w4.drew.cell? ⟨bo, 4, none⟩ = some (.string tx) ∧ w4.drew.cell? ⟨bo, 5, none⟩ = some (.slice vp n vc) ∧ w4.drew.cell? ⟨bo, 6, none⟩ = some (.slice vq m vd) := by
    have c0 := (Frm.refl [] w4).drew.heap HA4.out.q.pb (by simp)
    have c1 := (Frm.refl [] w4).drew.heap HL4.out (by simp)
    obtain ⟨e0, e1, e2, e3, e4, e5, e6⟩ := cells7 c1
    exact ⟨by rw [cell_of_row _ _ _ _ _ _ c0]; rfl, e0, e1, e2, e3, e4, e5, e6⟩
  clear hvr hvf hvb hvo hbo hw4 hf4 hke HA HX
  go_upto_region 10 with fail
  rw [HBOE.out, HW4.out]
  clear HW4 HBOE
  refine wp_region_tail (S := fun W => (W.cell? ⟨xk, 0, none⟩ = some (.pointer (some ⟨b, 0, none⟩)) ∧ W.cell? ⟨bo, 0, none⟩ = some (.int .i64 s) ∧ W.cell? ⟨bo, 1, none⟩ = some (.int .i64 id) ∧ W.cell? ⟨bo, 2, none⟩ = some (.int .i64 er) ∧ W.cell? ⟨bo, 3, none⟩ = some (.int .i64 nu) ∧ W.cell? ⟨bo, 4, none⟩ = some (.string tx) ∧ W.cell? ⟨bo, 5, none⟩ = some (.slice vp n vc) ∧ W.cell? ⟨bo, 6, none⟩ = some (.slice vq m vd))) 6 7 rfl (by kernel_rfl) (by kernel_rfl) ?_
  refine wpAnyHT_take (i := 0) (oi := _) (v := ?_) (by kernel_rfl) rfl (by kernel_rfl) (by kernel_rfl) (by kernel_rfl) (by kernel_rfl) (fun _ _ _ h => h) (Or.inl ⟨by rfl, ?_⟩) hs0 ?_
  rotate_left 1
  · (intro W hSw; obtain ⟨s0, s1, s2, s3, s4, s5, s6, s7⟩ := hSw; (try simp only [List.getElem_toArray, List.getElem_cons_zero]); go_simp; try with_reducible rfl)
  try simp only [List.getElem_toArray, List.getElem_cons_zero, Act.put, List.setIfInBounds_toArray, List.set_cons_zero, List.set_cons_succ]
  refine wpAnyHT_take (i := 1) (oi := _) (v := ?_) (by kernel_rfl) rfl (by kernel_rfl) (by kernel_rfl) (by kernel_rfl) (by kernel_rfl) (fun _ _ _ h => h) (Or.inl ⟨by rfl, ?_⟩) hs0 ?_
  rotate_left 1
  · (intro W hSw; obtain ⟨s0, s1, s2, s3, s4, s5, s6, s7⟩ := hSw; (try simp only [List.getElem_toArray, List.getElem_cons_succ, List.getElem_cons_zero]); go_simp; try with_reducible rfl)
  try simp only [List.getElem_toArray, List.getElem_cons_succ, List.getElem_cons_zero, Act.put, List.setIfInBounds_toArray, List.set_cons_zero, List.set_cons_succ]
  refine wpAnyHT_take (i := 2) (oi := _) (v := ?_) (by kernel_rfl) rfl (by kernel_rfl) (by kernel_rfl) (by kernel_rfl) (by kernel_rfl) (fun _ _ _ h => h) (Or.inl ⟨by rfl, ?_⟩) hs0 ?_
  rotate_left 1
  · (intro W hSw; obtain ⟨s0, s1, s2, s3, s4, s5, s6, s7⟩ := hSw; (try simp only [List.getElem_toArray, List.getElem_cons_succ, List.getElem_cons_zero]); go_simp; try with_reducible rfl)
  try simp only [List.getElem_toArray, List.getElem_cons_succ, List.getElem_cons_zero, Act.put, List.setIfInBounds_toArray, List.set_cons_zero, List.set_cons_succ]
  refine wpAnyHT_take (i := 3) (oi := _) (v := ?_) (by kernel_rfl) rfl (by kernel_rfl) (by kernel_rfl) (by kernel_rfl) (by kernel_rfl) (fun _ _ _ h => h) (Or.inl ⟨by rfl, ?_⟩) hs0 ?_
  rotate_left 1
  · (intro W hSw; obtain ⟨s0, s1, s2, s3, s4, s5, s6, s7⟩ := hSw; (try simp only [List.getElem_toArray, List.getElem_cons_succ, List.getElem_cons_zero]); go_simp; try with_reducible rfl)
  try simp only [List.getElem_toArray, List.getElem_cons_succ, List.getElem_cons_zero, Act.put, List.setIfInBounds_toArray, List.set_cons_zero, List.set_cons_succ]
  refine wpAnyHT_take (i := 4) (oi := _) (v := ?_) (by kernel_rfl) rfl (by kernel_rfl) (by kernel_rfl) (by kernel_rfl) (by kernel_rfl) (fun _ _ _ h => h) (Or.inl ⟨by rfl, ?_⟩) hs0 ?_
  rotate_left 1
  · (intro W hSw; obtain ⟨s0, s1, s2, s3, s4, s5, s6, s7⟩ := hSw; (try simp only [List.getElem_toArray, List.getElem_cons_succ, List.getElem_cons_zero]); go_simp; try with_reducible rfl)
  try simp only [List.getElem_toArray, List.getElem_cons_succ, List.getElem_cons_zero, Act.put, List.setIfInBounds_toArray, List.set_cons_zero, List.set_cons_succ]
  refine wpAnyHT_one (i := 5) rfl (by kernel_rfl) (by kernel_rfl) (fun K hK => ?_)
  try simp only [List.getElem_toArray, List.getElem_cons_succ, List.getElem_cons_zero]
  go_simp
  refine HKE.out.mono ?_
  rintro e w5 ⟨pl', vs', rfl, ht, hf, hnx, hne, heq⟩
  refine hK _ _ (HKF.out _ _ hs0 hf) ?_
  clear hK K
  refine wpAnyHT_end (by kernel_rfl) ?_
  simp only [List.drop_succ_cons, List.drop_zero]
  have HBV : Hid (∀ v ∈ vs', v ∈ vs ∨ ∀ k ∈ v.B, w4.drew.heap.size ≤ k) := hid (by
    by_cases hc : C = 0
    · obtain ⟨v', _, h2, h3⟩ := heq hc
      rw [h2]; exact keep_mem h3
    · rw [hne hc]; exact fun v hv => Or.inl hv)
  have HAQ := hid ((HA4.out.k0 (Frm.refl [] _).drew).prog ht hf hnx HBV.out)
  have HAN := hid (((Adv24.refl HA4.out.q).k0 (Frm.refl [] _).drew).prog ht hf hnx HBV.out).nx
  have HNF : Hid (∀ j, w.heap.size ≤ j → j ∉ foot24 b pl) := hid (fun j hj hm => by have := HNW.out j (PrD.mem_foot.2 (Or.inr (Or.inl hm))); omega)
  have HX5 := hid (hf.heap ((Frm.refl [] w4).drew.heap HX4.out (by simp)) (HNF.out bx (by have := HBX.out; omega)))
  have HL5 := hid (hf.heap ((Frm.refl [] w4).drew.heap HL4.out (by simp)) (HNF.out bo HBO.out.2))
  have HVO5 := hid ((HVO.out.kept (Frm.refl [] w4).drew (by simp)).kept hf (fun j hj => HNF.out j (HVB.out j hj).1))
  have HVF : Hid (∀ j ∈ Rp.B ⟨⟨s, id, er, nu, tx, ss, ds⟩, vp, vc, vq, vd⟩, w.heap.size ≤ j ∧ j ∉ PrD.foot ⟨xk, b, pl', vs', (if C = 0 then IntKind.i64.wrap (f2 + 1) else f2), a2, (if C ≠ 0 then IntKind.i64.wrap (r2 + 1) else r2), d, p, c, ls, f2, a2, r2⟩) := hid (fun j hj => ⟨(HVB.out j hj).1, fun hm => by
    rcases HAN.out j hm with h | h
    · have := HNW.out j h; have := (HVB.out j hj).1; omega
    · have := (HVB.out j hj).2.1; omega⟩)
  have HEQ := hid heq
  have HNE := hid hne
  clear ht hf hnx hne heq hs0 HKE HKF HAN HA4 HX4 HL4 HVO HVR
  obtain ⟨e0, e1, e2, e3, e4, e5, e6⟩ := cells7 HL5.out
  have hsp := spoil24_any ⟨⟨s, id, er, nu, tx, ss, ds⟩, vp, vc, vq, vd⟩ w5 HVO5.out ⟨by have := HOK.out.lb; simp only at this ⊢; omega, by have := HOK.out.db; simp only at this ⊢; omega⟩
  unfold Rp.agg at hsp
  simp only at hsp
  rw [HN.out, HM.out] at hsp
  have HSP := hid hsp
  clear hsp
  go_wp2_with fail
  refine HSP.out.mono ?_
  rintro e w7 ⟨rfl, hf7⟩
  have HA7 := hid (HAQ.out.spoil hf7 HVF.out)
  have HX7 := hid (hf7.heap HX5.out (fun hm => (HVB.out bx hm).2.2.2 rfl))
  clear hf7 HAQ HX5 HL5 HSP e0 e1 e2 e3 e4 e5 e6 HVO5
  have hdl : w.heap.size > d := HNW.out d (PrD.mem_foot.2 (Or.inr (Or.inr (Or.inl (by simp [footR])))))
  have hd0 : w0.heap.size ≤ d := (HA7.out.q.nw d (PrD.mem_foot.2 (Or.inr (Or.inr (Or.inl (by simp [footR])))))).1
  have hrk := rkeep_any d p c ls f2 a2 r2 ⟨⟨s, id, er, nu, tx, ss, ds⟩, lp, lc, dp, dc⟩ w7.drew (HA7.out.q.rt.k0 (Frm.refl [] _).drew) HAL.out.len ((HOK.out.kept HA7.out.q.fr (by simp)).kept (Frm.refl [] _).drew (by simp)) (fun hm => by have := HOK.out.lowN d hm; omega)
  have hcc : chkR ls ⟨s, id, er, nu, tx, ss, ds⟩ = C := by rw [HAL.out.chk]; exact HC.out
  unfold KeepR Rp.agg at hrk
  simp only at hrk
  rw [hcc, HN.out, HM.out] at hrk
  have HRK := hid hrk
  have HKF2 : Hid (∀ W W' : World, (W.cell? ⟨xk, 1, none⟩ = some (.pointer (some ⟨d, 0, none⟩)) ∧ W.cell? ⟨bx, 2, none⟩ = some (.int .i64 s) ∧ W.cell? ⟨bx, 3, none⟩ = some (.int .i64 id) ∧ W.cell? ⟨bx, 4, none⟩ = some (.int .i64 er) ∧ W.cell? ⟨bx, 5, none⟩ = some (.int .i64 nu) ∧ W.cell? ⟨bx, 6, none⟩ = some (.string tx) ∧ W.cell? ⟨bx, 7, none⟩ = some (.slice lp n lc) ∧ W.cell? ⟨bx, 8, none⟩ = some (.slice dp m dc)) → Frm [d] W W' → (W'.cell? ⟨xk, 1, none⟩ = some (.pointer (some ⟨d, 0, none⟩)) ∧ W'.cell? ⟨bx, 2, none⟩ = some (.int .i64 s) ∧ W'.cell? ⟨bx, 3, none⟩ = some (.int .i64 id) ∧ W'.cell? ⟨bx, 4, none⟩ = some (.int .i64 er) ∧ W'.cell? ⟨bx, 5, none⟩ = some (.int .i64 nu) ∧ W'.cell? ⟨bx, 6, none⟩ = some (.string tx) ∧ W'.cell? ⟨bx, 7, none⟩ = some (.slice lp n lc) ∧ W'.cell? ⟨bx, 8, none⟩ = some (.slice dp m dc))) := hid (fun W W' hs hf => by
    have hnf : xk ∉ [d] ∧ bx ∉ [d] := ⟨fun hm => by rw [List.mem_singleton] at hm; exact HA7.out.q.kt.2.1 (by simp [footR, hm]), fun hm => by rw [List.mem_singleton] at hm; have := HBX.out; omega⟩
    have kc : ∀ q v, q.block ∉ [d] → W.cell? q = some v → W'.cell? q = some v := fun q v hq hv => (hf.cell (World.block_lt_of_cell? W _ hv) hq).trans hv
    exact ⟨kc _ _ hnf.1 hs.1, kc _ _ hnf.2 hs.2.1, kc _ _ hnf.2 hs.2.2.1, kc _ _ hnf.2 hs.2.2.2.1, kc _ _ hnf.2 hs.2.2.2.2.1, kc _ _ hnf.2 hs.2.2.2.2.2.1, kc _ _ hnf.2 hs.2.2.2.2.2.2.1, kc _ _ hnf.2 hs.2.2.2.2.2.2.2⟩)
  have hs0 : w7.drew.cell? ⟨xk, 1, none⟩ = some (.pointer (some ⟨d, 0, none⟩)) ∧ w7.drew.cell? ⟨bx, 2, none⟩ = some (.int .i64 s) ∧ w7.drew.cell? ⟨bx, 3, none⟩ = some (.int .i64 id) ∧ w7.drew.cell? ⟨bx, 4, none⟩ = some (.int .i64 er) ∧ w7.drew.cell? ⟨bx, 5, none⟩ = some (.int .i64 nu) ∧ w7.drew.cell? ⟨bx, 6, none⟩ = some (.string tx) ∧ w7.drew.cell? ⟨bx, 7, none⟩ = some (.slice lp n lc) ∧ w7.drew.cell? ⟨bx, 8, none⟩ = some (.slice dp m dc) := by
    have c0 := (Frm.refl [] w7).drew.heap HA7.out.q.pb (by simp)
    have c1 := (Frm.refl [] w7).drew.heap HX7.out (by simp)
    refine ⟨?_, ?_, ?_, ?_, ?_, ?_, ?_, ?_⟩
    · rw [cell_of_row _ _ _ _ _ _ c0]; rfl
    all_goals (rw [cell_of_row _ _ _ _ _ _ c1]; rfl)
  clear hrk hcc hdl hd0
  go_upto_region 12 with fail
  refine wp_region_tail (S := fun W => (W.cell? ⟨xk, 1, none⟩ = some (.pointer (some ⟨d, 0, none⟩)) ∧ W.cell? ⟨bx, 2, none⟩ = some (.int .i64 s) ∧ W.cell? ⟨bx, 3, none⟩ = some (.int .i64 id) ∧ W.cell? ⟨bx, 4, none⟩ = some (.int .i64 er) ∧ W.cell? ⟨bx, 5, none⟩ = some (.int .i64 nu) ∧ W.cell? ⟨bx, 6, none⟩ = some (.string tx) ∧ W.cell? ⟨bx, 7, none⟩ = some (.slice lp n lc) ∧ W.cell? ⟨bx, 8, none⟩ = some (.slice dp m dc))) 7 8 rfl (by kernel_rfl) (by kernel_rfl) ?_
  refine wpAnyHT_take (i := 0) (oi := _) (v := ?_) (by kernel_rfl) rfl (by kernel_rfl) (by kernel_rfl) (by kernel_rfl) (by kernel_rfl) (fun _ _ _ h => h) (Or.inl ⟨by rfl, ?_⟩) hs0 ?_
  rotate_left 1
  · (intro W hSw; obtain ⟨s0, s1, s2, s3, s4, s5, s6, s7⟩ := hSw; (try simp only [List.getElem_toArray, List.getElem_cons_zero]); go_simp; try with_reducible rfl)
  try simp only [List.getElem_toArray, List.getElem_cons_zero, Act.put, List.setIfInBounds_toArray, List.set_cons_zero, List.set_cons_succ]
  refine wpAnyHT_take (i := 1) (oi := _) (v := ?_) (by kernel_rfl) rfl (by kernel_rfl) (by kernel_rfl) (by kernel_rfl) (by kernel_rfl) (fun _ _ _ h => h) (Or.inl ⟨by rfl, ?_⟩) hs0 ?_
  rotate_left 1
  · (intro W hSw; obtain ⟨s0, s1, s2, s3, s4, s5, s6, s7⟩ := hSw; (try simp only [List.getElem_toArray, List.getElem_cons_succ, List.getElem_cons_zero]); go_simp; try with_reducible rfl)
  try simp only [List.getElem_toArray, List.getElem_cons_succ, List.getElem_cons_zero, Act.put, List.setIfInBounds_toArray, List.set_cons_zero, List.set_cons_succ]
  refine wpAnyHT_take (i := 2) (oi := _) (v := ?_) (by kernel_rfl) rfl (by kernel_rfl) (by kernel_rfl) (by kernel_rfl) (by kernel_rfl) (fun _ _ _ h => h) (Or.inl ⟨by rfl, ?_⟩) hs0 ?_
  rotate_left 1
  · (intro W hSw; obtain ⟨s0, s1, s2, s3, s4, s5, s6, s7⟩ := hSw; (try simp only [List.getElem_toArray, List.getElem_cons_succ, List.getElem_cons_zero]); go_simp; try with_reducible rfl)
  try simp only [List.getElem_toArray, List.getElem_cons_succ, List.getElem_cons_zero, Act.put, List.setIfInBounds_toArray, List.set_cons_zero, List.set_cons_succ]
  refine wpAnyHT_take (i := 3) (oi := _) (v := ?_) (by kernel_rfl) rfl (by kernel_rfl) (by kernel_rfl) (by kernel_rfl) (by kernel_rfl) (fun _ _ _ h => h) (Or.inl ⟨by rfl, ?_⟩) hs0 ?_
  rotate_left 1
  · (intro W hSw; obtain ⟨s0, s1, s2, s3, s4, s5, s6, s7⟩ := hSw; (try simp only [List.getElem_toArray, List.getElem_cons_succ, List.getElem_cons_zero]); go_simp; try with_reducible rfl)
  try simp only [List.getElem_toArray, List.getElem_cons_succ, List.getElem_cons_zero, Act.put, List.setIfInBounds_toArray, List.set_cons_zero, List.set_cons_succ]
  refine wpAnyHT_take (i := 4) (oi := _) (v := ?_) (by kernel_rfl) rfl (by kernel_rfl) (by kernel_rfl) (by kernel_rfl) (by kernel_rfl) (fun _ _ _ h => h) (Or.inl ⟨by rfl, ?_⟩) hs0 ?_
  rotate_left 1
  · (intro W hSw; obtain ⟨s0, s1, s2, s3, s4, s5, s6, s7⟩ := hSw; (try simp only [List.getElem_toArray, List.getElem_cons_succ, List.getElem_cons_zero]); go_simp; try with_reducible rfl)
  try simp only [List.getElem_toArray, List.getElem_cons_succ, List.getElem_cons_zero, Act.put, List.setIfInBounds_toArray, List.set_cons_zero, List.set_cons_succ]
  refine wpAnyHT_take (i := 5) (oi := _) (v := ?_) (by kernel_rfl) rfl (by kernel_rfl) (by kernel_rfl) (by kernel_rfl) (by kernel_rfl) (fun _ _ _ h => h) (Or.inl ⟨by rfl, ?_⟩) hs0 ?_
  rotate_left 1
  · (intro W hSw; obtain ⟨s0, s1, s2, s3, s4, s5, s6, s7⟩ := hSw; (try simp only [List.getElem_toArray, List.getElem_cons_succ, List.getElem_cons_zero]); go_simp; try with_reducible rfl)
  try simp only [List.getElem_toArray, List.getElem_cons_succ, List.getElem_cons_zero, Act.put, List.setIfInBounds_toArray, List.set_cons_zero, List.set_cons_succ]
  refine wpAnyHT_one (i := 6) rfl (by kernel_rfl) (by kernel_rfl) (fun K hK => ?_)
  try simp only [List.getElem_toArray, List.getElem_cons_succ, List.getElem_cons_zero]
  go_simp
  refine HRK.out.mono ?_
  rintro e w8 ⟨q, cq, ls', rfl, ht, hf, hq, hne, heq⟩
  refine hK _ _ (HKF2.out _ _ hs0 hf) ?_
  clear hK K
  refine wpAnyHT_end (by kernel_rfl) ?_
  simp only [List.drop_succ_cons, List.drop_zero]
  have HFIN := hid ((HA7.out.k0 (Frm.refl [] _).drew).doc ht hf hq (by
    by_cases hc : C = 0
    · rw [heq hc]
      intro v hv
      rcases putL_mem _ _ _ hv with h | rfl
      · exact HA7.out.q.ok0 v h
      · exact HOK.out
    · rw [hne hc]; exact HA7.out.q.ok0))
  have HALF : Hid (Alike ls' vs') := hid (by
    by_cases hc : C = 0
    · obtain ⟨v', h1, h2, _⟩ := HEQ.out hc
      rw [heq hc, h2]
      exact HAL.out.put (v := ⟨⟨s, id, er, nu, tx, ss, ds⟩, lp, lc, dp, dc⟩) (by rw [← hc]; exact HC.out) h1
    · rw [hne hc, HNE.out hc]; exact HAL.out)
  clear ht hf hq hne heq hs0
  go_wp2_with fail
  first | go_returns | skip
  all_goals first | exact HP.out _ _ HFIN.out ⟨HALF.out, rfl, rfl, rfl⟩ | (simp; exact HP.out _ _ HFIN.out ⟨HALF.out, rfl, rfl, rfl⟩)
end Go.Proofs.Ytbgochkmplacaaa
