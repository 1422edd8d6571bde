/- The law's does: Last and Counts. -/
import Derived.Test.YtbgochkmplacaaaSsAc
namespace Go.Proofs.Ytbgochkmplacaaa
open Go.RowKit Go.Lib
set_option maxRecDepth 100000

set_option maxHeartbeats 12800000 in
theorem does_ask (w0 w : World) (x : PrD) (o : OpR) (h : PQ w0 w x) (hs : x.same) (hi : OpRIn w0 o) (hk0 : pickM o.kind 6 = 2) :
    Calls Try.prog 33 #[.pointer (some ⟨x.k, 0, none⟩), .agg o.row.toArray] w (DoesP w0 w x) := by
  obtain ⟨PO, hPO⟩ : ∃ PO : Ending → World → Prop, DoesP w0 w x = PO := ⟨_, rfl⟩
  rw [hPO]
  have HP : Hid (∀ x' w', Adv24 w0 w x w' x' → x'.same → PO (.returned (.bool true)) w') := hid (fun x' w' h1 h2 => by rw [← hPO]; exact ⟨rfl, x', h1, h2⟩)
  obtain ⟨xk, b, pl, vs, f, a, r, d, p, c, ls, f2, a2, r2⟩ := x
  obtain ⟨hal, h2f, h2a, h2r⟩ := hs
  simp only at hal h2f h2a h2r
  subst h2f h2a h2r
  have HAL := hid hal
  obtain ⟨kd, wh, ⟨⟨s, id, er, nu, tx, ss, ds⟩, lp, lc, dp, dc⟩, lq, ll, lr⟩ := o
  obtain ⟨hkd, hwh, hsb, hib, hok⟩ := hi
  simp only at hkd hsb hib hk0
  have HSB := hid hsb
  have HIB := hid hib
  have HOK := hid hok
  have HKB := hid hkd
  unfold OpR.row
  simp only
  obtain ⟨n, hn⟩ : ∃ q, ss.length = q := ⟨_, rfl⟩
  obtain ⟨m, hm⟩ : ∃ q, ds.length = q := ⟨_, rfl⟩
  have HN := hid hn
  have HM := hid hm
  rw [hn, hm]
  obtain ⟨bx, hbx⟩ : ∃ q, w.heap.size = q := ⟨_, rfl⟩
  obtain ⟨w1, hw1⟩ : ∃ q, w.alloc (.cells #[.int .i64 kd, .int .i64 wh, .int .i64 s, .int .i64 id, .int .i64 er, .int .i64 nu, .string tx, .slice lp n lc, .slice dp m dc, .slice lq ll lr] 63) = q := ⟨_, rfl⟩
  have hf1 : Frm [] w w1 := by rw [← hw1]; exact (Frm.refl _ _).alloc _
  have HX : Hid (w1.heap[bx]? = some (.cells #[.int .i64 kd, .int .i64 wh, .int .i64 s, .int .i64 id, .int .i64 er, .int .i64 nu, .string tx, .slice lp n lc, .slice dp m dc, .slice lq ll lr] 63 (0, 0))) := hid (by rw [← hw1]; exact heap_alloc_to _ _ hbx)
  have HA := hid ((Adv24.refl h).k0 hf1)
  have HNW := hid (fun j hj => (h.nw j hj).2)
  have HPK := hid (fun W => pick24_any kd 6 W HKB.out (by omega))
  have HW1 := hid hw1
  have HBX := hid hbx
  clear h hPO hal hkd hwh hsb hib hok hn hm hbx hw1 hf1
  go_enter Try.func33, Try.ntmps33
  go_upto_region 1 with fail
  rw [HBX.out, HW1.out]
  clear HW1
  have x0 : w1.cell? ⟨bx, 0, none⟩ = some (.int .i64 kd) := by rw [cell_of_row _ _ _ _ _ _ HX.out]; rfl
  go_wp2_with fail
  refine (HPK.out _).mono ?_
  rintro e w1' ⟨rfl, hww⟩
  subst hww
  clear x0
  rw [hk0]
  clear hk0
  obtain ⟨la, hla⟩ : ∃ q, last24 vs s = q := ⟨_, rfl⟩
  have hlast := last_any b pl vs f2 a2 r2 s w1'.drew (HA.out.q.t.k0 (Frm.refl [] _).drew)
  rw [hla] at hlast
  have HLA := hid hlast
  have HKF : Hid (∀ W W' : World, (W.cell? ⟨xk, 0, none⟩ = some (.pointer (some ⟨b, 0, none⟩)) ∧ W.cell? ⟨bx, 2, none⟩ = some (.int .i64 s)) → Frm (foot24 b pl) W W' → (W'.cell? ⟨xk, 0, none⟩ = some (.pointer (some ⟨b, 0, none⟩)) ∧ W'.cell? ⟨bx, 2, none⟩ = some (.int .i64 s))) := hid (fun W W' hs hf => by
    have hnf : xk ∉ foot24 b pl ∧ bx ∉ foot24 b pl := ⟨HA.out.q.kt.1, fun hm => by have := HNW.out bx (PrD.mem_foot.2 (Or.inr (Or.inl hm))); have := HBX.out; omega⟩
    have kc : ∀ q v, q.block ∉ foot24 b pl → W.cell? q = some v → W'.cell? q = some v := fun q v hq hv => (hf.cell (World.block_lt_of_cell? W _ hv) hq).trans hv
    exact ⟨kc _ _ hnf.1 hs.1, kc _ _ hnf.2 hs.2⟩)
  have hs0 : w1'.drew.cell? ⟨xk, 0, none⟩ = some (.pointer (some ⟨b, 0, none⟩)) ∧ w1'.drew.cell? ⟨bx, 2, none⟩ = some (.int .i64 s) := by
    have c0 := (Frm.refl [] w1').drew.heap HA.out.q.pb (by simp)
    have c1 := (Frm.refl [] w1').drew.heap HX.out (by simp)
    exact ⟨by rw [cell_of_row _ _ _ _ _ _ c0]; rfl, by rw [cell_of_row _ _ _ _ _ _ c1]; rfl⟩
  have HLE := hid hla
  clear hlast hla
  go_upto_region 23 with fail
  refine wp_region_tail (S := fun W => (W.cell? ⟨xk, 0, none⟩ = some (.pointer (some ⟨b, 0, none⟩)) ∧ W.cell? ⟨bx, 2, none⟩ = some (.int .i64 s))) 8 9 rfl (by kernel_rfl) (by kernel_rfl) ?_
  refine wpAnyHT_take (i := 0) (oi := _) (v := ?_) (by kernel_rfl) rfl (by kernel_rfl) (by kernel_rfl) (by kernel_rfl) (by kernel_rfl) (fun _ _ _ h => h) (Or.inl ⟨by rfl, ?_⟩) hs0 ?_
  rotate_left 1
  · (intro W hSw; obtain ⟨s0, s1⟩ := hSw; (try simp only [List.getElem_toArray, List.getElem_cons_zero]); go_simp; try with_reducible rfl)
  try simp only [List.getElem_toArray, List.getElem_cons_zero, Act.put, List.setIfInBounds_toArray, List.set_cons_zero, List.set_cons_succ]
  refine wpAnyHT_take (i := 1) (oi := _) (v := ?_) (by kernel_rfl) rfl (by kernel_rfl) (by kernel_rfl) (by kernel_rfl) (by kernel_rfl) (fun _ _ _ h => h) (Or.inl ⟨by rfl, ?_⟩) hs0 ?_
  rotate_left 1
  · (intro W hSw; obtain ⟨s0, s1⟩ := hSw; (try simp only [List.getElem_toArray, List.getElem_cons_succ, List.getElem_cons_zero]); go_simp; try with_reducible rfl)
  try simp only [List.getElem_toArray, List.getElem_cons_succ, List.getElem_cons_zero, Act.put, List.setIfInBounds_toArray, List.set_cons_zero, List.set_cons_succ]
  refine wpAnyHT_take (i := 2) (oi := _) (v := ?_) (by kernel_rfl) rfl (by kernel_rfl) (by kernel_rfl) (by kernel_rfl) (by kernel_rfl) (fun _ _ _ h => h) (Or.inl ⟨by rfl, ?_⟩) hs0 ?_
  rotate_left 1
  · (intro W hSw; obtain ⟨s0, s1⟩ := hSw; (try simp only [List.getElem_toArray, List.getElem_cons_succ, List.getElem_cons_zero]); go_simp; try with_reducible rfl)
  try simp only [List.getElem_toArray, List.getElem_cons_succ, List.getElem_cons_zero, Act.put, List.setIfInBounds_toArray, List.set_cons_zero, List.set_cons_succ]
  refine wpAnyHT_take (i := 3) (oi := _) (v := ?_) (by kernel_rfl) rfl (by kernel_rfl) (by kernel_rfl) (by kernel_rfl) (by kernel_rfl) (fun _ _ _ h => h) (Or.inl ⟨by rfl, ?_⟩) hs0 ?_
  rotate_left 1
  · (intro W hSw; obtain ⟨s0, s1⟩ := hSw; (try simp only [List.getElem_toArray, List.getElem_cons_succ, List.getElem_cons_zero]); go_simp; try with_reducible rfl)
  try simp only [List.getElem_toArray, List.getElem_cons_succ, List.getElem_cons_zero, Act.put, List.setIfInBounds_toArray, List.set_cons_zero, List.set_cons_succ]
  refine wpAnyHT_take (i := 4) (oi := _) (v := ?_) (by kernel_rfl) rfl (by kernel_rfl) (by kernel_rfl) (by kernel_rfl) (by kernel_rfl) (fun _ _ _ h => h) (Or.inl ⟨by rfl, ?_⟩) hs0 ?_
  rotate_left 1
  · (intro W hSw; obtain ⟨s0, s1⟩ := hSw; (try simp only [List.getElem_toArray, List.getElem_cons_succ, List.getElem_cons_zero]); go_simp; try with_reducible rfl)
  try simp only [List.getElem_toArray, List.getElem_cons_succ, List.getElem_cons_zero, Act.put, List.setIfInBounds_toArray, List.set_cons_zero, List.set_cons_succ]
  refine wpAnyHT_take (i := 5) (oi := _) (v := ?_) (by kernel_rfl) rfl (by kernel_rfl) (by kernel_rfl) (by kernel_rfl) (by kernel_rfl) (fun _ _ _ h => h) (Or.inl ⟨by rfl, ?_⟩) hs0 ?_
  rotate_left 1
  · (intro W hSw; obtain ⟨s0, s1⟩ := hSw; (try simp only [List.getElem_toArray, List.getElem_cons_succ, List.getElem_cons_zero]); go_simp; try with_reducible rfl)
  try simp only [List.getElem_toArray, List.getElem_cons_succ, List.getElem_cons_zero, Act.put, List.setIfInBounds_toArray, List.set_cons_zero, List.set_cons_succ]
  refine wpAnyHT_take (i := 6) (oi := _) (v := ?_) (by kernel_rfl) rfl (by kernel_rfl) (by kernel_rfl) (by kernel_rfl) (by kernel_rfl) (fun _ _ _ h => h) (Or.inl ⟨by rfl, ?_⟩) hs0 ?_
  rotate_left 1
  · (intro W hSw; obtain ⟨s0, s1⟩ := hSw; (try simp only [List.getElem_toArray, List.getElem_cons_succ, List.getElem_cons_zero]); go_simp; try with_reducible rfl)
  try simp only [List.getElem_toArray, List.getElem_cons_succ, List.getElem_cons_zero, Act.put, List.setIfInBounds_toArray, List.set_cons_zero, List.set_cons_succ]
  refine wpAnyHT_one (i := 7) rfl (by kernel_rfl) (by kernel_rfl) (fun K hK => ?_)
  try simp only [List.getElem_toArray, List.getElem_cons_succ, List.getElem_cons_zero]
  go_simp
  refine HLA.out.mono ?_
  rintro e w3 ⟨pl', rfl, ht, hf, hnx⟩
  refine hK _ _ (HKF.out _ _ hs0 hf) ?_
  clear hK K
  refine wpAnyHT_end (by kernel_rfl) ?_
  simp only [List.drop_succ_cons, List.drop_zero]
  have HA3 := hid ((HA.out.k0 (Frm.refl [] _).drew).prog ht hf hnx (fun v hv => Or.inl hv))
  have HX3 := hid (hf.heap ((Frm.refl [] w1').drew.heap HX.out (by simp)) (fun hm => by have := HNW.out bx (PrD.mem_foot.2 (Or.inr (Or.inl hm))); have := HBX.out; omega))
  clear ht hf hnx hs0 HLA HKF HA HX
  go_wp2_with fail
  obtain ⟨v, hv⟩ : ∃ q, of24 ls s = q := ⟨_, rfl⟩
  have hvid : v.x.id = la := by rw [← hv, HAL.out.id, HLE.out]
  have ho1 := of24_any d p c ls f2 a2 r2 s w3.drew (HA3.out.q.rt.k0 (Frm.refl [] _).drew) (by have := HAL.out.len; omega)
  have ho2 := of24_any d p c ls f2 a2 r2 s (w3.drew.alloc (.cells #[.int .i64 0, .int .i64 0, .int .i64 0, .int .i64 0, .string { data := #[] }, .slice none 0 0, .slice none 0 0] 61)) (HA3.out.q.rt.k0 ((Frm.refl [] _).drew.alloc _)) (by have := HAL.out.len; omega)
  rw [hv] at ho1 ho2
  obtain ⟨⟨s1, id1, er1, nu1, tx1, ss1, ds1⟩, vp, vc, vq, vd⟩ := v
  simp only at hvid
  subst hvid
  unfold Rp.agg at ho1 ho2
  simp only at ho1 ho2
  have HO1 := hid ho1
  have HO2 := hid ho2
  have DS0 : Hid (∀ W, Frm [] w3 W → W.cell? ⟨xk, 1, none⟩ = some (.pointer (some ⟨d, 0, none⟩)) ∧ W.cell? ⟨bx, 2, none⟩ = some (.int .i64 s)) := hid (fun W hf => by
    have c0 := hf.heap HA3.out.q.pb (by simp)
    have c1 := hf.heap HX3.out (by simp)
    exact ⟨by rw [cell_of_row _ _ _ _ _ _ c0]; rfl, by rw [cell_of_row _ _ _ _ _ _ c1]; rfl⟩)
  have DKE : Hid (∀ W W' : World, (W.cell? ⟨xk, 1, none⟩ = some (.pointer (some ⟨d, 0, none⟩)) ∧ W.cell? ⟨bx, 2, none⟩ = some (.int .i64 s)) → Frm [] W W' → (W'.cell? ⟨xk, 1, none⟩ = some (.pointer (some ⟨d, 0, none⟩)) ∧ W'.cell? ⟨bx, 2, none⟩ = some (.int .i64 s))) := hid (fun W W' hs hf => by
    have kc : ∀ q v, W.cell? q = some v → W'.cell? q = some v := fun q v hv => (hf.cell (World.block_lt_of_cell? W _ hv) (by simp)).trans hv
    exact ⟨kc _ _ hs.1, kc _ _ hs.2⟩)
  have DB2 : Hid ((w3.drew.alloc (.cells #[.int .i64 0, .int .i64 0, .int .i64 0, .int .i64 0, .string { data := #[] }, .slice none 0 0, .slice none 0 0] 61)).heap[w3.heap.size]? = some (.cells #[.int .i64 0, .int .i64 0, .int .i64 0, .int .i64 0, .string { data := #[] }, .slice none 0 0, .slice none 0 0] 61 (0, 0))) := hid (heap_alloc_to _ _ rfl)
  have DNW : Hid (w.heap.size ≤ w3.heap.size ∧ w3.heap.size ∉ PrD.foot ⟨xk, b, pl', vs, f2, a2, r2, d, p, c, ls, f2, a2, r2⟩) := hid ⟨HA3.out.sz, fun hm => by have := (HA3.out.q.nw _ hm).2; omega⟩
  clear ho1 ho2 hv
  go_upto_region 24 with fail
  go_cut [19] (fun z wx => ∃ bb : Nat, z = .pointer (some ⟨bb, 0, none⟩) ∧ Hid (wx.heap[bb]? = some (.cells #[.int .i64 s1, .int .i64 id1, .int .i64 er1, .int .i64 nu1, .string tx1, .slice vp ss1.length vc, .slice vq ds1.length vd] 61 (0, 0)) ∧ Adv24 w0 w ⟨xk, b, pl, vs, f2, a2, r2, d, p, c, ls, f2, a2, r2⟩ wx ⟨xk, b, pl', vs, f2, a2, r2, d, p, c, ls, f2, a2, r2⟩))
  case first =>
    refine wp_region_tail (S := fun W => (W.cell? ⟨xk, 1, none⟩ = some (.pointer (some ⟨d, 0, none⟩)) ∧ W.cell? ⟨bx, 2, none⟩ = some (.int .i64 s))) 9 10 rfl (by kernel_rfl) (by kernel_rfl) ?_
    refine wpAnyHT_take (i := 0) (oi := _) (v := ?_) (by kernel_rfl) rfl (by kernel_rfl) (by kernel_rfl) (by kernel_rfl) (by kernel_rfl) (fun _ _ _ h => h) (Or.inl ⟨by rfl, ?_⟩) (DS0.out _ (Frm.refl [] _).drew) ?_
    rotate_left 1
    · (intro W hSw; obtain ⟨s0, s1⟩ := hSw; (try simp only [List.getElem_toArray, List.getElem_cons_zero]); go_simp; try with_reducible rfl)
    try simp only [List.getElem_toArray, List.getElem_cons_zero, Act.put, List.setIfInBounds_toArray, List.set_cons_zero, List.set_cons_succ]
    refine wpAnyHT_take (i := 1) (oi := _) (v := ?_) (by kernel_rfl) rfl (by kernel_rfl) (by kernel_rfl) (by kernel_rfl) (by kernel_rfl) (fun _ _ _ h => h) (Or.inl ⟨by rfl, ?_⟩) (DS0.out _ (Frm.refl [] _).drew) ?_
    rotate_left 1
    · (intro W hSw; obtain ⟨s0, s1⟩ := hSw; (try simp only [List.getElem_toArray, List.getElem_cons_succ, List.getElem_cons_zero]); go_simp; try with_reducible rfl)
    try simp only [List.getElem_toArray, List.getElem_cons_succ, List.getElem_cons_zero, Act.put, List.setIfInBounds_toArray, List.set_cons_zero, List.set_cons_succ]
    refine wpAnyHT_take (i := 2) (oi := _) (v := ?_) (by kernel_rfl) rfl (by kernel_rfl) (by kernel_rfl) (by kernel_rfl) (by kernel_rfl) (fun _ _ _ h => h) (Or.inl ⟨by rfl, ?_⟩) (DS0.out _ (Frm.refl [] _).drew) ?_
    rotate_left 1
    · (intro W hSw; obtain ⟨s0, s1⟩ := hSw; (try simp only [List.getElem_toArray, List.getElem_cons_succ, List.getElem_cons_zero]); go_simp; try with_reducible rfl)
    try simp only [List.getElem_toArray, List.getElem_cons_succ, List.getElem_cons_zero, Act.put, List.setIfInBounds_toArray, List.set_cons_zero, List.set_cons_succ]
    refine wpAnyHT_take (i := 3) (oi := _) (v := ?_) (by kernel_rfl) rfl (by kernel_rfl) (by kernel_rfl) (by kernel_rfl) (by kernel_rfl) (fun _ _ _ h => h) (Or.inl ⟨by rfl, ?_⟩) (DS0.out _ (Frm.refl [] _).drew) ?_
    rotate_left 1
    · (intro W hSw; obtain ⟨s0, s1⟩ := hSw; (try simp only [List.getElem_toArray, List.getElem_cons_succ, List.getElem_cons_zero]); go_simp; try with_reducible rfl)
    try simp only [List.getElem_toArray, List.getElem_cons_succ, List.getElem_cons_zero, Act.put, List.setIfInBounds_toArray, List.set_cons_zero, List.set_cons_succ]
    refine wpAnyHT_take (i := 4) (oi := _) (v := ?_) (by kernel_rfl) rfl (by kernel_rfl) (by kernel_rfl) (by kernel_rfl) (by kernel_rfl) (fun _ _ _ h => h) (Or.inl ⟨by rfl, ?_⟩) (DS0.out _ (Frm.refl [] _).drew) ?_
    rotate_left 1
    · (intro W hSw; obtain ⟨s0, s1⟩ := hSw; (try simp only [List.getElem_toArray, List.getElem_cons_succ, List.getElem_cons_zero]); go_simp; try with_reducible rfl)
    try simp only [List.getElem_toArray, List.getElem_cons_succ, List.getElem_cons_zero, Act.put, List.setIfInBounds_toArray, List.set_cons_zero, List.set_cons_succ]
    refine wpAnyHT_take (i := 5) (oi := _) (v := ?_) (by kernel_rfl) rfl (by kernel_rfl) (by kernel_rfl) (by kernel_rfl) (by kernel_rfl) (fun _ _ _ h => h) (Or.inl ⟨by rfl, ?_⟩) (DS0.out _ (Frm.refl [] _).drew) ?_
    rotate_left 1
    · (intro W hSw; obtain ⟨s0, s1⟩ := hSw; (try simp only [List.getElem_toArray, List.getElem_cons_succ, List.getElem_cons_zero]); go_simp; try with_reducible rfl)
    try simp only [List.getElem_toArray, List.getElem_cons_succ, List.getElem_cons_zero, Act.put, List.setIfInBounds_toArray, List.set_cons_zero, List.set_cons_succ]
    refine wpAnyHT_take (i := 6) (oi := _) (v := ?_) (by kernel_rfl) rfl (by kernel_rfl) (by kernel_rfl) (by kernel_rfl) (by kernel_rfl) (fun _ _ _ h => h) (Or.inl ⟨by rfl, ?_⟩) (DS0.out _ (Frm.refl [] _).drew) ?_
    rotate_left 1
    · (intro W hSw; obtain ⟨s0, s1⟩ := hSw; (try simp only [List.getElem_toArray, List.getElem_cons_succ, List.getElem_cons_zero]); go_simp; try with_reducible rfl)
    try simp only [List.getElem_toArray, List.getElem_cons_succ, List.getElem_cons_zero, Act.put, List.setIfInBounds_toArray, List.set_cons_zero, List.set_cons_succ]
    refine wpAnyHT_two (i := 7) (j := 8) rfl rfl (by kernel_rfl) (by kernel_rfl) (by kernel_rfl) (fun K hK => ?_) (fun K hK => ?_)
    · try simp only [List.getElem_toArray, List.getElem_cons_succ, List.getElem_cons_zero]
      go_simp
      refine HO1.out.mono ?_
      rintro e w5 ⟨rfl, hf⟩
      refine hK _ _ (DKE.out _ _ (DS0.out _ (Frm.refl [] _).drew) hf) ?_
      clear hK K
      refine wpAnyHT_one (i := 8) rfl (by kernel_rfl) (by kernel_rfl) (fun K hK => ?_)
      try simp only [List.getElem_toArray, List.getElem_cons_succ, List.getElem_cons_zero]
      go_simp
      refine hK _ _ (DKE.out _ _ (DKE.out _ _ (DS0.out _ (Frm.refl [] _).drew) hf) ((Frm.refl [] _).alloc _)) ?_
      clear hK K
      try simp only [List.getElem_toArray, List.getElem_cons_succ, List.getElem_cons_zero, Act.put, List.setIfInBounds_toArray, List.set_cons_zero, List.set_cons_succ]
      refine wpAnyHT_end (by kernel_rfl) ?_
      simp only [List.drop_succ_cons, List.drop_zero]
      go_wp2_with fail
      go_meet
      exact ⟨_, rfl, hid ⟨heap_alloc_to _ _ rfl, (HA3.out.k0 (((Frm.refl [] w3).drew.trans hf (by simp)).trans ((Frm.refl [] w5).alloc _) (by simp)))⟩⟩
    · try simp only [List.getElem_toArray, List.getElem_cons_succ, List.getElem_cons_zero]
      go_simp
      refine hK _ _ (DS0.out _ ((Frm.refl [] _).drew.alloc _)) ?_
      clear hK K
      try simp only [List.getElem_toArray, List.getElem_cons_succ, List.getElem_cons_zero, Act.put, List.setIfInBounds_toArray, List.set_cons_zero, List.set_cons_succ]
      refine wpAnyHT_one (i := 7) rfl (by kernel_rfl) (by kernel_rfl) (fun K hK => ?_)
      try simp only [List.getElem_toArray, List.getElem_cons_succ, List.getElem_cons_zero]
      go_simp
      refine HO2.out.mono ?_
      rintro e w5 ⟨rfl, hf⟩
      refine hK _ _ (DKE.out _ _ (DS0.out _ ((Frm.refl [] _).drew.alloc _)) hf) ?_
      clear hK K
      have hrow := hf.heap DB2.out (by simp)
      obtain ⟨y0, y1, y2, y3, y4, y5, y6⟩ := cells7 hrow
      have z0 := frozen_of_row w5 w3.heap.size 0 _ _ hrow
      have z1 := frozen_of_row w5 w3.heap.size 1 _ _ hrow
      have z2 := frozen_of_row w5 w3.heap.size 2 _ _ hrow
      have z3 := frozen_of_row w5 w3.heap.size 3 _ _ hrow
      have z4 := frozen_of_row w5 w3.heap.size 4 _ _ hrow
      have z5 := frozen_of_row w5 w3.heap.size 5 _ _ hrow
      have z6 := frozen_of_row w5 w3.heap.size 6 _ _ hrow
      refine wpAnyHT_end (by kernel_rfl) ?_
      simp only [List.drop_succ_cons, List.drop_zero]
      go_wp2_with fail
      obtain ⟨h4, f4⟩ := sets_row w3.heap.size 61 [(0, .int .i64 s1), (1, .int .i64 id1), (2, .int .i64 er1), (3, .int .i64 nu1), (4, .string tx1), (5, .slice vp ss1.length vc), (6, .slice vq ds1.length vd)] w5 _ hrow
      simp only [List.foldl, List.setIfInBounds_toArray, List.set_cons_zero, List.set_cons_succ] at h4
      obtain ⟨wz, hwz⟩ : ∃ wz, sets w5 w3.heap.size [(0, .int .i64 s1), (1, .int .i64 id1), (2, .int .i64 er1), (3, .int .i64 nu1), (4, .string tx1), (5, .slice vp ss1.length vc), (6, .slice vq ds1.length vd)] = wz := ⟨_, rfl⟩
      rw [hwz] at h4 f4
      have hwz' : (((((((w5.setCell ⟨w3.heap.size, 0, none⟩ (.int .i64 s1)).setCell ⟨w3.heap.size, 1, none⟩ (.int .i64 id1)).setCell ⟨w3.heap.size, 2, none⟩ (.int .i64 er1)).setCell ⟨w3.heap.size, 3, none⟩ (.int .i64 nu1)).setCell ⟨w3.heap.size, 4, none⟩ (.string tx1)).setCell ⟨w3.heap.size, 5, none⟩ (.slice vp ss1.length vc)).setCell ⟨w3.heap.size, 6, none⟩ (.slice vq ds1.length vd)) = wz := hwz
      rw [hwz']
      go_meet
      exact ⟨_, rfl, hid ⟨h4, (HA3.out.k0 (((Frm.refl [] w3).drew.alloc _).trans hf (by simp))).spoil f4 (fun j hj => by rw [List.mem_singleton] at hj; subst hj; exact DNW.out)⟩⟩
  obtain ⟨bb, rfl, hrb⟩ := hcut
  have HA4 := hid hrb.out.2
  have y1 : wc.cell? ⟨bb, 1, none⟩ = some (.int .i64 id1) := by rw [cell_of_row _ _ _ _ _ _ hrb.out.1]; rfl
  have HRB := hid hrb.out.1
  clear hrb HO1 HO2 DS0 DKE DB2 DNW HA3 HX3
  have x0 : wc.cell? ⟨xk, 0, none⟩ = some (.pointer (some ⟨b, 0, none⟩)) := by rw [cell_of_row _ _ _ _ _ _ HA4.out.q.pb]; rfl
  have HCT := hid (counts_any b pl' vs f2 a2 r2 wc HA4.out.q.t)
  go_wp2_with fail
  refine HCT.out.mono ?_
  rintro e w6 ⟨rfl, hf6⟩
  have HA6 := hid (HA4.out.k0 hf6)
  have HRB6 := hid (hf6.heap HRB.out (by simp))
  clear hf6 HA4 HRB HCT y1 x0
  have y1 : w6.cell? ⟨bb, 1, none⟩ = some (.int .i64 id1) := by rw [cell_of_row _ _ _ _ _ _ HRB6.out]; rfl
  have x1 : w6.cell? ⟨xk, 1, none⟩ = some (.pointer (some ⟨d, 0, none⟩)) := by rw [cell_of_row _ _ _ _ _ _ HA6.out.q.pb]; rfl
  obtain ⟨c0, c1, c2, c3, _⟩ := HA6.out.q.rt.cells
  clear c0
  go_wp2_with fail
  first | go_returns | skip
  all_goals first | exact HP.out _ _ HA6.out ⟨HAL.out, rfl, rfl, rfl⟩ | (simp; exact HP.out _ _ HA6.out ⟨HAL.out, rfl, rfl, rfl⟩)
end Go.Proofs.Ytbgochkmplacaaa
