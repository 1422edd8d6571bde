/- The law's does: Look. -/
import Derived.Test.YtbgochkmplacaaaSsZ
import Derived.Test.YtbgochkmplacaaaHeldU
import Derived.Deep.RegionHeld3
import Derived.Deep.CutBlock
namespace Go.Proofs.Ytbgochkmplacaaa
open Go.RowKit Go.Lib
set_option maxRecDepth 100000

theorem rp_low {w : World} {v : Rp} (h : RpOwn w v) : ∀ j ∈ v.B, j < w.heap.size := fun j hj => by
  unfold Rp.B at hj
  rcases List.mem_append.1 hj with hj | hj
  · exact ownsRow_low h.l j hj
  · exact ownsRow_low (show w.ownsRow 0 5 1 (.slice v.dp v.x.ds.length v.dc) v.x.ds.length (bv v.x.ds) from h.d) j hj
theorem lookR_ok {W : World} {ls : List Rp} {s id : Int} (h : ∀ v ∈ ls, RpOk W v) : RpOk W (lookR ls s id).1 := by
  have ho : RpOk W (of24 ls s) := by
    unfold of24
    cases hf : ls.find? (fun v => decide (v.x.s = s)) with
    | none => exact rp0_ok W
    | some v => exact h v (List.mem_of_find?_eq_some hf)
  unfold lookR
  split
  · exact rp0_ok W
  · split
    · exact rp0_ok W
    · split
      · exact ho
      · exact rp0_ok W
/-- Behind the program's Look: the reply lies in a block of its own. -/
structure LK (w0 w wx : World) (x x' : PrD) (bx ba : Nat) (ox : Obj) (va : Rp) : Prop where
  adv : Adv24 w0 w x wx x'
  rowa : wx.heap[ba]? = some (.cells #[.int .i64 va.x.s, .int .i64 va.x.id, .int .i64 va.x.er, .int .i64 va.x.nu, .string va.x.tx, .slice va.lp va.x.ss.length va.lc, .slice va.dp va.x.ds.length va.dc] 61 (0, 0))
  rowx : wx.heap[bx]? = some ox
  ok : RpOk wx va
  own : RpOwn wx va
  nb : ∀ j ∈ va.B, w.heap.size ≤ j ∧ j ≠ ba ∧ j ∉ x'.foot
  na : w.heap.size ≤ ba
theorem LK.kept {w0 w wx w' : World} {x x' x2 : PrD} {bx ba : Nat} {ox : Obj} {va : Rp} {S : List Nat} (h : LK w0 w wx x x' bx ba ox va) (hf : Frm S wx w') (hn : ∀ j ∈ va.B, j ∉ S) (ha : ba ∉ S) (hx : bx ∉ S) (adv : Adv24 w0 w x w' x2) (hfo : ∀ j ∈ va.B, j ∉ x2.foot) : LK w0 w w' x x2 bx ba ox va :=
  ⟨adv, hf.heap h.rowa ha, hf.heap h.rowx hx, h.ok.kept hf hn, h.own.kept hf hn, fun j hj => ⟨(h.nb j hj).1, (h.nb j hj).2.1, hfo j hj⟩, h.na⟩
theorem lk_of {w0 w w3 wx : World} {xk b : Nat} {pl pl' : Option Nat} {vs : List Rp} {f a r a' r' : Int} {d : Nat} {p : Option Addr} {c : Nat} {ls : List Rp} {f2 a2 r2 : Int} {bx ba : Nat} {ox : Obj} {va : Rp} {S : List Nat} {N : Nat}
    (_ : Adv24 w0 w ⟨xk, b, pl, vs, f, a, r, d, p, c, ls, f2, a2, r2⟩ w3 ⟨xk, b, pl', vs, f, a', r', d, p, c, ls, f2, a2, r2⟩) (hnw : ∀ j ∈ PrD.foot ⟨xk, b, pl, vs, f, a, r, d, p, c, ls, f2, a2, r2⟩, j < w.heap.size) (hN : w.heap.size ≤ N) (hba : ∀ k ∈ va.B, N ≤ k ∧ k ∉ foot24 b pl') (hra : RpOk w3 va) (how : RpOwn w3 va) (hf : Frm S w3 wx) (hS : ∀ j ∈ va.B, j ∉ S)
    (adv : Adv24 w0 w ⟨xk, b, pl, vs, f, a, r, d, p, c, ls, f2, a2, r2⟩ wx ⟨xk, b, pl', vs, f, a', r', d, p, c, ls, f2, a2, r2⟩) (h4 : wx.heap[ba]? = some (.cells #[.int .i64 va.x.s, .int .i64 va.x.id, .int .i64 va.x.er, .int .i64 va.x.nu, .string va.x.tx, .slice va.lp va.x.ss.length va.lc, .slice va.dp va.x.ds.length va.dc] 61 (0, 0))) (hx : wx.heap[bx]? = some ox) (hne : ∀ j ∈ va.B, j ≠ ba) (hna : w.heap.size ≤ ba) :
    LK w0 w wx ⟨xk, b, pl, vs, f, a, r, d, p, c, ls, f2, a2, r2⟩ ⟨xk, b, pl', vs, f, a', r', d, p, c, ls, f2, a2, r2⟩ bx ba ox va := by
  have hm := fun j hj => hnw j (PrD.mem_foot.2 hj)
  refine ⟨adv, h4, hx, hra.kept hf hS, how.kept hf hS, fun j hj => ⟨by have := (hba j hj).1; omega, hne j hj, fun hfo => ?_⟩, hna⟩
  have h1 := (hba j hj).1
  rcases PrD.mem_foot.1 hfo with h | h | h | ⟨v, hv, h⟩
  · have := hm _ (Or.inl rfl); simp only at h this; omega
  · exact (hba j hj).2 h
  · have := hm j (Or.inr (Or.inr (Or.inl h))); omega
  · have := hm j (Or.inr (Or.inr (Or.inr ⟨v, hv, h⟩))); omega
set_option maxHeartbeats 12800000 in
theorem does_look (w0 w : World) (x : PrD) (o : OpR) (h : PQ w0 w x) (hs : x.same) (hi : OpRIn w0 o) (hk0 : pickM o.kind 6 = 0) :
    Calls Try.prog 33 #[.pointer (some ⟨x.k, 0, none⟩), .agg o.row.toArray] w (DoesP w0 w x) := by
  obtain ⟨PO, hPO⟩ : ∃ PO : Ending → World → Prop, DoesP w0 w x = PO := ⟨_, rfl⟩
  rw [hPO]
  have HP : Hid (∀ x' w', Adv24 w0 w x w' x' → x'.same → PO (.returned (.bool true)) w') := hid (fun x' w' h1 h2 => by rw [← hPO]; exact ⟨rfl, x', h1, h2⟩)
  obtain ⟨xk, b, pl, vs, f, a, r, d, p, c, ls, f2, a2, r2⟩ := x
  obtain ⟨hal, h2f, h2a, h2r⟩ := hs
  simp only at hal h2f h2a h2r
  subst h2f h2a h2r
  have HAL := hid hal
  obtain ⟨kd, wh, ⟨⟨s, id, er, nu, tx, ss, ds⟩, lp, lc, dp, dc⟩, lq, ll, lr⟩ := o
  obtain ⟨hkd, hwh, hsb, hib, hok⟩ := hi
  simp only at hkd hsb hib hk0
  have HSB := hid hsb
  have HIB := hid hib
  have HOK := hid hok
  have HKB := hid hkd
  unfold OpR.row
  simp only
  obtain ⟨n, hn⟩ : ∃ q, ss.length = q := ⟨_, rfl⟩
  obtain ⟨m, hm⟩ : ∃ q, ds.length = q := ⟨_, rfl⟩
  have HN := hid hn
  have HM := hid hm
  rw [hn, hm]
  obtain ⟨bx, hbx⟩ : ∃ q, w.heap.size = q := ⟨_, rfl⟩
  obtain ⟨w1, hw1⟩ : ∃ q, w.alloc (.cells #[.int .i64 kd, .int .i64 wh, .int .i64 s, .int .i64 id, .int .i64 er, .int .i64 nu, .string tx, .slice lp n lc, .slice dp m dc, .slice lq ll lr] 63) = q := ⟨_, rfl⟩
  have hf1 : Frm [] w w1 := by rw [← hw1]; exact (Frm.refl _ _).alloc _
  have HX : Hid (w1.heap[bx]? = some (.cells #[.int .i64 kd, .int .i64 wh, .int .i64 s, .int .i64 id, .int .i64 er, .int .i64 nu, .string tx, .slice lp n lc, .slice dp m dc, .slice lq ll lr] 63 (0, 0))) := hid (by rw [← hw1]; exact heap_alloc_to _ _ hbx)
  have HA := hid ((Adv24.refl h).k0 hf1)
  have HNW := hid (fun j hj => (h.nw j hj).2)
  have HPK := hid (fun W => pick24_any kd 6 W HKB.out (by omega))
  have HW1 := hid hw1
  have HBX := hid hbx
  clear h hPO hal hkd hwh hsb hib hok hn hm hbx hw1 hf1
  go_enter Try.func33, Try.ntmps33
  go_upto_region 1 with fail
  rw [HBX.out, HW1.out]
  clear HW1
  have x0 : w1.cell? ⟨bx, 0, none⟩ = some (.int .i64 kd) := by rw [cell_of_row _ _ _ _ _ _ HX.out]; rfl
  go_wp2_with fail
  refine (HPK.out _).mono ?_
  rintro e w1' ⟨rfl, hww⟩
  subst hww
  clear x0
  rw [hk0]
  clear hk0
  obtain ⟨⟨⟨s1, id1, er1, nu1, tx1, ss1, ds1⟩, li, le⟩, hlk⟩ : ∃ q, look24 vs s id = q := ⟨_, rfl⟩
  have HLK := hid hlk
  have HPB : Hid (w1'.heap[xk]? = some (.cells #[.pointer (some ⟨b, 0, none⟩), .pointer (some ⟨d, 0, none⟩)] 56 (0, 0))) := hid HA.out.q.pb
  have hl1 := lookO_any b pl vs f2 a2 r2 s id w1'.drew (HA.out.q.t.k0 (Frm.refl [] _).drew)
  have hl2 := lookO_any b pl vs f2 a2 r2 s id (w1'.drew.alloc (.cells #[.int .i64 0, .int .i64 0, .int .i64 0, .int .i64 0, .string { data := #[] }, .slice none 0 0, .slice none 0 0] 61)) (HA.out.q.t.k0 ((Frm.refl [] _).drew.alloc _))
  unfold LookO Rp.agg at hl1 hl2
  rw [hlk] at hl1 hl2
  simp only at hl1 hl2
  have HL1 := hid hl1
  have HL2 := hid hl2
  have HNF : Hid (xk ∉ foot24 b pl ∧ bx ∉ foot24 b pl) := hid ⟨HA.out.q.kt.1, fun hm => by have := HNW.out bx (PrD.mem_foot.2 (Or.inr (Or.inl hm))); have := HBX.out; omega⟩
  have HS0 : Hid (∀ W, Frm [] w1' W → W.cell? ⟨xk, 0, none⟩ = some (.pointer (some ⟨b, 0, none⟩)) ∧ W.cell? ⟨bx, 2, none⟩ = some (.int .i64 s) ∧ W.cell? ⟨bx, 3, none⟩ = some (.int .i64 id)) := hid (fun W hf => by
    have c0 := hf.heap HPB.out (by simp)
    have c1 := hf.heap HX.out (by simp)
    refine ⟨?_, ?_, ?_⟩
    · rw [cell_of_row _ _ _ _ _ _ c0]; rfl
    · rw [cell_of_row _ _ _ _ _ _ c1]; rfl
    · rw [cell_of_row _ _ _ _ _ _ c1]; rfl)
  have HKF : Hid (∀ W W' : World, (W.cell? ⟨xk, 0, none⟩ = some (.pointer (some ⟨b, 0, none⟩)) ∧ W.cell? ⟨bx, 2, none⟩ = some (.int .i64 s) ∧ W.cell? ⟨bx, 3, none⟩ = some (.int .i64 id)) → Frm (foot24 b pl) W W' → (W'.cell? ⟨xk, 0, none⟩ = some (.pointer (some ⟨b, 0, none⟩)) ∧ W'.cell? ⟨bx, 2, none⟩ = some (.int .i64 s) ∧ W'.cell? ⟨bx, 3, none⟩ = some (.int .i64 id))) := hid (fun W W' hs hf => by
    have kc : ∀ q v, q.block ∉ foot24 b pl → W.cell? q = some v → W'.cell? q = some v := fun q v hq hv => (hf.cell (World.block_lt_of_cell? W _ hv) hq).trans hv
    exact ⟨kc _ _ HNF.out.1 hs.1, kc _ _ HNF.out.2 hs.2.1, kc _ _ HNF.out.2 hs.2.2⟩)
  have HKE : Hid (∀ W W' : World, (W.cell? ⟨xk, 0, none⟩ = some (.pointer (some ⟨b, 0, none⟩)) ∧ W.cell? ⟨bx, 2, none⟩ = some (.int .i64 s) ∧ W.cell? ⟨bx, 3, none⟩ = some (.int .i64 id)) → Frm [] W W' → (W'.cell? ⟨xk, 0, none⟩ = some (.pointer (some ⟨b, 0, none⟩)) ∧ W'.cell? ⟨bx, 2, none⟩ = some (.int .i64 s) ∧ W'.cell? ⟨bx, 3, none⟩ = some (.int .i64 id))) := hid (fun W W' hs hf => by
    have kc : ∀ q v, W.cell? q = some v → W'.cell? q = some v := fun q v hv => (hf.cell (World.block_lt_of_cell? W _ hv) (by simp)).trans hv
    exact ⟨kc _ _ hs.1, kc _ _ hs.2.1, kc _ _ hs.2.2⟩)
  have HKG : Hid (∀ W W' : World, (W.cell? ⟨xk, 0, none⟩ = some (.pointer (some ⟨b, 0, none⟩)) ∧ W.cell? ⟨bx, 2, none⟩ = some (.int .i64 s) ∧ W.cell? ⟨bx, 3, none⟩ = some (.int .i64 id)) → Frm [w1'.heap.size] W W' → (W'.cell? ⟨xk, 0, none⟩ = some (.pointer (some ⟨b, 0, none⟩)) ∧ W'.cell? ⟨bx, 2, none⟩ = some (.int .i64 s) ∧ W'.cell? ⟨bx, 3, none⟩ = some (.int .i64 id))) := hid (fun W W' hs hf => by
    have h1 := lt_of_heap HPB.out
    have h2 := lt_of_heap HX.out
    have kc : ∀ q v, q.block < w1'.heap.size → W.cell? q = some v → W'.cell? q = some v := fun q v hq hv => (hf.cell (World.block_lt_of_cell? W _ hv) (fun hm => by rw [List.mem_singleton] at hm; omega)).trans hv
    exact ⟨kc _ _ h1 hs.1, kc _ _ h2 hs.2.1, kc _ _ h2 hs.2.2⟩)
  have HB2 : Hid ((w1'.drew.alloc (.cells #[.int .i64 0, .int .i64 0, .int .i64 0, .int .i64 0, .string { data := #[] }, .slice none 0 0, .slice none 0 0] 61)).heap[w1'.heap.size]? = some (.cells #[.int .i64 0, .int .i64 0, .int .i64 0, .int .i64 0, .string { data := #[] }, .slice none 0 0, .slice none 0 0] 61 (0, 0))) := hid (heap_alloc_to _ _ rfl)
  have HB2N : Hid (w1'.heap.size ∉ foot24 b pl) := hid (fun hm => by have := HNW.out _ (PrD.mem_foot.2 (Or.inr (Or.inl hm))); have := HA.out.sz; omega)
  have HBF : Hid (∀ pl', Nx (w1'.drew.alloc (.cells #[.int .i64 0, .int .i64 0, .int .i64 0, .int .i64 0, .string { data := #[] }, .slice none 0 0, .slice none 0 0] 61)) pl pl' → w1'.heap.size ∉ PrD.foot ⟨xk, b, pl', vs, f2, (if li then IntKind.i64.wrap (a2 + 1) else a2), (if le ≠ 0 then IntKind.i64.wrap (r2 + 1) else r2), d, p, c, ls, f2, a2, r2⟩) := hid (fun pl' hnx hm => by
    have h0 := HA.out.sz
    rcases PrD.mem_foot.1 hm with h | h | h | ⟨v, hv, h⟩
    · have := HNW.out _ (PrD.mem_foot.2 (Or.inl h)); omega
    · rcases hnx.foot _ h with h | h
      · exact HB2N.out h
      · simp at h; omega
    · have := HNW.out _ (PrD.mem_foot.2 (Or.inr (Or.inr (Or.inl h)))); omega
    · have := HNW.out _ (PrD.mem_foot.2 (Or.inr (Or.inr (Or.inr ⟨v, hv, h⟩)))); omega)
  clear hl1 hl2 hlk
  go_upto_region 3 with fail
  go_cut [5, 6, 7] (fun z5 z6 z7 wx => ∃ (ba : Nat) (va : Rp) (pl' : Option Nat), z5 = .pointer (some ⟨ba, 0, none⟩) ∧ z6 = .bool li ∧ z7 = .int .i64 le ∧ Hid (LK w0 w wx ⟨xk, b, pl, vs, f2, a2, r2, d, p, c, ls, f2, a2, r2⟩ ⟨xk, b, pl', vs, f2, (if li then IntKind.i64.wrap (a2 + 1) else a2), (if le ≠ 0 then IntKind.i64.wrap (r2 + 1) else r2), d, p, c, ls, f2, a2, r2⟩ bx ba (.cells #[.int .i64 kd, .int .i64 wh, .int .i64 s, .int .i64 id, .int .i64 er, .int .i64 nu, .string tx, .slice lp n lc, .slice dp m dc, .slice lq ll lr] 63 (0, 0)) va ∧ va.x = ⟨s1, id1, er1, nu1, tx1, ss1, ds1⟩))
  case first =>
    refine wp_region_tail (S := fun W => (W.cell? ⟨xk, 0, none⟩ = some (.pointer (some ⟨b, 0, none⟩)) ∧ W.cell? ⟨bx, 2, none⟩ = some (.int .i64 s) ∧ W.cell? ⟨bx, 3, none⟩ = some (.int .i64 id))) 18 19 rfl (by kernel_rfl) (by kernel_rfl) ?_
    refine wpAnyHT_take (i := 0) (oi := _) (v := ?_) (by kernel_rfl) rfl (by kernel_rfl) (by kernel_rfl) (by kernel_rfl) (by kernel_rfl) (fun _ _ _ h => h) (Or.inl ⟨by rfl, ?_⟩) (HS0.out _ (Frm.refl [] _).drew) ?_
    rotate_left 1
    · (intro W hSw; obtain ⟨s0, s1, s2⟩ := hSw; (try simp only [List.getElem_toArray, List.getElem_cons_zero]); go_simp; try with_reducible rfl)
    try simp only [List.getElem_toArray, List.getElem_cons_zero, Act.put, List.setIfInBounds_toArray, List.set_cons_zero, List.set_cons_succ]
    refine wpAnyHT_take (i := 1) (oi := _) (v := ?_) (by kernel_rfl) rfl (by kernel_rfl) (by kernel_rfl) (by kernel_rfl) (by kernel_rfl) (fun _ _ _ h => h) (Or.inl ⟨by rfl, ?_⟩) (HS0.out _ (Frm.refl [] _).drew) ?_
    rotate_left 1
    · (intro W hSw; obtain ⟨s0, s1, s2⟩ := hSw; (try simp only [List.getElem_toArray, List.getElem_cons_succ, List.getElem_cons_zero]); go_simp; try with_reducible rfl)
    try simp only [List.getElem_toArray, List.getElem_cons_succ, List.getElem_cons_zero, Act.put, List.setIfInBounds_toArray, List.set_cons_zero, List.set_cons_succ]
    refine wpAnyHT_take (i := 2) (oi := _) (v := ?_) (by kernel_rfl) rfl (by kernel_rfl) (by kernel_rfl) (by kernel_rfl) (by kernel_rfl) (fun _ _ _ h => h) (Or.inl ⟨by rfl, ?_⟩) (HS0.out _ (Frm.refl [] _).drew) ?_
    rotate_left 1
    · (intro W hSw; obtain ⟨s0, s1, s2⟩ := hSw; (try simp only [List.getElem_toArray, List.getElem_cons_succ, List.getElem_cons_zero]); go_simp; try with_reducible rfl)
    try simp only [List.getElem_toArray, List.getElem_cons_succ, List.getElem_cons_zero, Act.put, List.setIfInBounds_toArray, List.set_cons_zero, List.set_cons_succ]
    refine wpAnyHT_take (i := 3) (oi := _) (v := ?_) (by kernel_rfl) rfl (by kernel_rfl) (by kernel_rfl) (by kernel_rfl) (by kernel_rfl) (fun _ _ _ h => h) (Or.inl ⟨by rfl, ?_⟩) (HS0.out _ (Frm.refl [] _).drew) ?_
    rotate_left 1
    · (intro W hSw; obtain ⟨s0, s1, s2⟩ := hSw; (try simp only [List.getElem_toArray, List.getElem_cons_succ, List.getElem_cons_zero]); go_simp; try with_reducible rfl)
    try simp only [List.getElem_toArray, List.getElem_cons_succ, List.getElem_cons_zero, Act.put, List.setIfInBounds_toArray, List.set_cons_zero, List.set_cons_succ]
    refine wpAnyHT_take (i := 4) (oi := _) (v := ?_) (by kernel_rfl) rfl (by kernel_rfl) (by kernel_rfl) (by kernel_rfl) (by kernel_rfl) (fun _ _ _ h => h) (Or.inl ⟨by rfl, ?_⟩) (HS0.out _ (Frm.refl [] _).drew) ?_
    rotate_left 1
    · (intro W hSw; obtain ⟨s0, s1, s2⟩ := hSw; (try simp only [List.getElem_toArray, List.getElem_cons_succ, List.getElem_cons_zero]); go_simp; try with_reducible rfl)
    try simp only [List.getElem_toArray, List.getElem_cons_succ, List.getElem_cons_zero, Act.put, List.setIfInBounds_toArray, List.set_cons_zero, List.set_cons_succ]
    refine wpAnyHT_take (i := 5) (oi := _) (v := ?_) (by kernel_rfl) rfl (by kernel_rfl) (by kernel_rfl) (by kernel_rfl) (by kernel_rfl) (fun _ _ _ h => h) (Or.inl ⟨by rfl, ?_⟩) (HS0.out _ (Frm.refl [] _).drew) ?_
    rotate_left 1
    · (intro W hSw; obtain ⟨s0, s1, s2⟩ := hSw; (try simp only [List.getElem_toArray, List.getElem_cons_succ, List.getElem_cons_zero]); go_simp; try with_reducible rfl)
    try simp only [List.getElem_toArray, List.getElem_cons_succ, List.getElem_cons_zero, Act.put, List.setIfInBounds_toArray, List.set_cons_zero, List.set_cons_succ]
    refine wpAnyHT_take (i := 6) (oi := _) (v := ?_) (by kernel_rfl) rfl (by kernel_rfl) (by kernel_rfl) (by kernel_rfl) (by kernel_rfl) (fun _ _ _ h => h) (Or.inl ⟨by rfl, ?_⟩) (HS0.out _ (Frm.refl [] _).drew) ?_
    rotate_left 1
    · (intro W hSw; obtain ⟨s0, s1, s2⟩ := hSw; (try simp only [List.getElem_toArray, List.getElem_cons_succ, List.getElem_cons_zero]); go_simp; try with_reducible rfl)
    try simp only [List.getElem_toArray, List.getElem_cons_succ, List.getElem_cons_zero, Act.put, List.setIfInBounds_toArray, List.set_cons_zero, List.set_cons_succ]
    refine wpAnyHT_take (i := 7) (oi := _) (v := ?_) (by kernel_rfl) rfl (by kernel_rfl) (by kernel_rfl) (by kernel_rfl) (by kernel_rfl) (fun _ _ _ h => h) (Or.inl ⟨by rfl, ?_⟩) (HS0.out _ (Frm.refl [] _).drew) ?_
    rotate_left 1
    · (intro W hSw; obtain ⟨s0, s1, s2⟩ := hSw; (try simp only [List.getElem_toArray, List.getElem_cons_succ, List.getElem_cons_zero]); go_simp; try with_reducible rfl)
    try simp only [List.getElem_toArray, List.getElem_cons_succ, List.getElem_cons_zero, Act.put, List.setIfInBounds_toArray, List.set_cons_zero, List.set_cons_succ]
    refine wpAnyHT_take (i := 8) (oi := _) (v := ?_) (by kernel_rfl) rfl (by kernel_rfl) (by kernel_rfl) (by kernel_rfl) (by kernel_rfl) (fun _ _ _ h => h) (Or.inl ⟨by rfl, ?_⟩) (HS0.out _ (Frm.refl [] _).drew) ?_
    rotate_left 1
    · (intro W hSw; obtain ⟨s0, s1, s2⟩ := hSw; (try simp only [List.getElem_toArray, List.getElem_cons_succ, List.getElem_cons_zero]); go_simp; try with_reducible rfl)
    try simp only [List.getElem_toArray, List.getElem_cons_succ, List.getElem_cons_zero, Act.put, List.setIfInBounds_toArray, List.set_cons_zero, List.set_cons_succ]
    refine wpAnyHT_take (i := 9) (oi := _) (v := ?_) (by kernel_rfl) rfl (by kernel_rfl) (by kernel_rfl) (by kernel_rfl) (by kernel_rfl) (fun _ _ _ h => h) (Or.inl ⟨by rfl, ?_⟩) (HS0.out _ (Frm.refl [] _).drew) ?_
    rotate_left 1
    · (intro W hSw; obtain ⟨s0, s1, s2⟩ := hSw; (try simp only [List.getElem_toArray, List.getElem_cons_succ, List.getElem_cons_zero]); go_simp; try with_reducible rfl)
    try simp only [List.getElem_toArray, List.getElem_cons_succ, List.getElem_cons_zero, Act.put, List.setIfInBounds_toArray, List.set_cons_zero, List.set_cons_succ]
    refine wpAnyHT_two (i := 10) (j := 15) rfl rfl (by kernel_rfl) (by kernel_rfl) (by kernel_rfl) (fun K hK => ?_) (fun K hK => ?_)
    · try simp only [List.getElem_toArray, List.getElem_cons_succ, List.getElem_cons_zero]
      go_simp
      refine HL1.out.mono ?_
      rintro e w3 ⟨pl', ⟨vx, vp, vc, vq, vd⟩, rfl, hxa, hra, hba, ht, hf, hnx, how⟩
      simp only at hxa
      subst hxa
      refine hK _ _ (HKF.out _ _ (HS0.out _ (Frm.refl [] _).drew) hf) ?_
      clear hK K
      refine wpAnyHT_take (i := 11) (oi := _) (v := ?_) (by kernel_rfl) rfl (by kernel_rfl) (by kernel_rfl) (by kernel_rfl) (by kernel_rfl) (fun _ _ _ h => h) (Or.inl ⟨by rfl, ?_⟩) (HKF.out _ _ (HS0.out _ (Frm.refl [] _).drew) hf) ?_
      rotate_left 1
      · (intro W hSw; obtain ⟨s0, s1, s2⟩ := hSw; (try simp only [List.getElem_toArray, List.getElem_cons_succ, List.getElem_cons_zero]); go_simp; try with_reducible rfl)
      try simp only [List.getElem_toArray, List.getElem_cons_succ, List.getElem_cons_zero, Act.put, List.setIfInBounds_toArray, List.set_cons_zero, List.set_cons_succ]
      refine wpAnyHT_take (i := 12) (oi := _) (v := ?_) (by kernel_rfl) rfl (by kernel_rfl) (by kernel_rfl) (by kernel_rfl) (by kernel_rfl) (fun _ _ _ h => h) (Or.inl ⟨by rfl, ?_⟩) (HKF.out _ _ (HS0.out _ (Frm.refl [] _).drew) hf) ?_
      rotate_left 1
      · (intro W hSw; obtain ⟨s0, s1, s2⟩ := hSw; (try simp only [List.getElem_toArray, List.getElem_cons_succ, List.getElem_cons_zero]); go_simp; try with_reducible rfl)
      try simp only [List.getElem_toArray, List.getElem_cons_succ, List.getElem_cons_zero, Act.put, List.setIfInBounds_toArray, List.set_cons_zero, List.set_cons_succ]
      refine wpAnyHT_take (i := 13) (oi := _) (v := ?_) (by kernel_rfl) rfl (by kernel_rfl) (by kernel_rfl) (by kernel_rfl) (by kernel_rfl) (fun _ _ _ h => h) (Or.inl ⟨by rfl, ?_⟩) (HKF.out _ _ (HS0.out _ (Frm.refl [] _).drew) hf) ?_
      rotate_left 1
      · (intro W hSw; obtain ⟨s0, s1, s2⟩ := hSw; (try simp only [List.getElem_toArray, List.getElem_cons_succ, List.getElem_cons_zero]); go_simp; try with_reducible rfl)
      try simp only [List.getElem_toArray, List.getElem_cons_succ, List.getElem_cons_zero, Act.put, List.setIfInBounds_toArray, List.set_cons_zero, List.set_cons_succ]
      refine wpAnyHT_take (i := 14) (oi := _) (v := ?_) (by kernel_rfl) rfl (by kernel_rfl) (by kernel_rfl) (by kernel_rfl) (by kernel_rfl) (fun _ _ _ h => h) (Or.inl ⟨by rfl, ?_⟩) (HKF.out _ _ (HS0.out _ (Frm.refl [] _).drew) hf) ?_
      rotate_left 1
      · (intro W hSw; obtain ⟨s0, s1, s2⟩ := hSw; (try simp only [List.getElem_toArray, List.getElem_cons_succ, List.getElem_cons_zero]); go_simp; try with_reducible rfl)
      try simp only [List.getElem_toArray, List.getElem_cons_succ, List.getElem_cons_zero, Act.put, List.setIfInBounds_toArray, List.set_cons_zero, List.set_cons_succ]
      refine wpAnyHT_one (i := 15) rfl (by kernel_rfl) (by kernel_rfl) (fun K hK => ?_)
      try simp only [List.getElem_toArray, List.getElem_cons_succ, List.getElem_cons_zero]
      go_simp
      refine hK _ _ (HKE.out _ _ (HKF.out _ _ (HS0.out _ (Frm.refl [] _).drew) hf) ((Frm.refl [] _).alloc _)) ?_
      clear hK K
      try simp only [List.getElem_toArray, List.getElem_cons_succ, List.getElem_cons_zero, Act.put, List.setIfInBounds_toArray, List.set_cons_zero, List.set_cons_succ]
      refine wpAnyHT_one (i := 16) rfl (by kernel_rfl) (by kernel_rfl) (fun K hK => ?_)
      try simp only [List.getElem_toArray, List.getElem_cons_succ, List.getElem_cons_zero]
      go_simp
      refine hK _ _ (HKE.out _ _ (HKF.out _ _ (HS0.out _ (Frm.refl [] _).drew) hf) ((Frm.refl [] _).alloc _)) ?_
      clear hK K
      try simp only [List.getElem_toArray, List.getElem_cons_succ, List.getElem_cons_zero, Act.put, List.setIfInBounds_toArray, List.set_cons_zero, List.set_cons_succ]
      refine wpAnyHT_take (i := 17) (oi := _) (v := ?_) (by kernel_rfl) rfl (by kernel_rfl) (by kernel_rfl) (by kernel_rfl) (by kernel_rfl) (fun _ _ _ h => h) (Or.inl ⟨by rfl, ?_⟩) (HKE.out _ _ (HKF.out _ _ (HS0.out _ (Frm.refl [] _).drew) hf) ((Frm.refl [] _).alloc _)) ?_
      rotate_left 1
      · (intro W hSw; obtain ⟨s0, s1, s2⟩ := hSw; (try simp only [List.getElem_toArray, List.getElem_cons_succ, List.getElem_cons_zero]); go_simp; try with_reducible rfl)
      try simp only [List.getElem_toArray, List.getElem_cons_succ, List.getElem_cons_zero, Act.put, List.setIfInBounds_toArray, List.set_cons_zero, List.set_cons_succ]
      refine wpAnyHT_end (by kernel_rfl) ?_
      simp only [List.drop_succ_cons, List.drop_zero]
      go_wp2_with fail
      go_meet
      refine ⟨_, ⟨⟨s1, id1, er1, nu1, tx1, ss1, ds1⟩, vp, vc, vq, vd⟩, pl', rfl, rfl, rfl, hid ?_⟩
      have hfd : Frm [] w3 (w3.alloc (.cells #[.int .i64 s1, .int .i64 id1, .int .i64 er1, .int .i64 nu1, .string tx1, .slice vp ss1.length vc, .slice vq ds1.length vd] 61)) := (Frm.refl [] _).alloc _
      have adv3 := (HA.out.k0 (Frm.refl [] w1').drew).prog ht hf hnx (fun v hv => Or.inl hv)
      exact And.intro (lk_of adv3 HNW.out HA.out.sz hba hra how hfd (by simp) (adv3.k0 hfd) (heap_alloc_to _ _ rfl) (hfd.heap (hf.heap ((Frm.refl [] w1').drew.heap HX.out (by simp)) HNF.out.2) (by simp)) (fun j hj => by have h1 := rp_low how j hj; have h2 := HBX.out; have h3 := lt_of_heap HX.out; have h4 := (hba j hj).1; simp at h4; omega) (by have h1 := HA.out.sz; have h2 := hf.size; have h3 := lt_of_heap HX.out; simp at h2; omega)) rfl
    · try simp only [List.getElem_toArray, List.getElem_cons_succ, List.getElem_cons_zero]
      go_simp
      refine hK _ _ (HS0.out _ ((Frm.refl [] _).drew.alloc _)) ?_
      clear hK K
      try simp only [List.getElem_toArray, List.getElem_cons_succ, List.getElem_cons_zero, Act.put, List.setIfInBounds_toArray, List.set_cons_zero, List.set_cons_succ]
      refine wpAnyHT_one (i := 10) rfl (by kernel_rfl) (by kernel_rfl) (fun K hK => ?_)
      try simp only [List.getElem_toArray, List.getElem_cons_succ, List.getElem_cons_zero]
      go_simp
      refine HL2.out.mono ?_
      rintro e w3 ⟨pl', ⟨vx, vp, vc, vq, vd⟩, rfl, hxa, hra, hba, ht, hf, hnx, how⟩
      simp only at hxa
      subst hxa
      refine hK _ _ (HKF.out _ _ (HS0.out _ ((Frm.refl [] _).drew.alloc _)) hf) ?_
      clear hK K
      refine wpAnyHT_take (i := 11) (oi := _) (v := ?_) (by kernel_rfl) rfl (by kernel_rfl) (by kernel_rfl) (by kernel_rfl) (by kernel_rfl) (fun _ _ _ h => h) (Or.inl ⟨by rfl, ?_⟩) (HKF.out _ _ (HS0.out _ ((Frm.refl [] _).drew.alloc _)) hf) ?_
      rotate_left 1
      · (intro W hSw; obtain ⟨s0, s1, s2⟩ := hSw; (try simp only [List.getElem_toArray, List.getElem_cons_succ, List.getElem_cons_zero]); go_simp; try with_reducible rfl)
      try simp only [List.getElem_toArray, List.getElem_cons_succ, List.getElem_cons_zero, Act.put, List.setIfInBounds_toArray, List.set_cons_zero, List.set_cons_succ]
      refine wpAnyHT_take (i := 12) (oi := _) (v := ?_) (by kernel_rfl) rfl (by kernel_rfl) (by kernel_rfl) (by kernel_rfl) (by kernel_rfl) (fun _ _ _ h => h) (Or.inl ⟨by rfl, ?_⟩) (HKF.out _ _ (HS0.out _ ((Frm.refl [] _).drew.alloc _)) hf) ?_
      rotate_left 1
      · (intro W hSw; obtain ⟨s0, s1, s2⟩ := hSw; (try simp only [List.getElem_toArray, List.getElem_cons_succ, List.getElem_cons_zero]); go_simp; try with_reducible rfl)
      try simp only [List.getElem_toArray, List.getElem_cons_succ, List.getElem_cons_zero, Act.put, List.setIfInBounds_toArray, List.set_cons_zero, List.set_cons_succ]
      refine wpAnyHT_take (i := 13) (oi := _) (v := ?_) (by kernel_rfl) rfl (by kernel_rfl) (by kernel_rfl) (by kernel_rfl) (by kernel_rfl) (fun _ _ _ h => h) (Or.inl ⟨by rfl, ?_⟩) (HKF.out _ _ (HS0.out _ ((Frm.refl [] _).drew.alloc _)) hf) ?_
      rotate_left 1
      · (intro W hSw; obtain ⟨s0, s1, s2⟩ := hSw; (try simp only [List.getElem_toArray, List.getElem_cons_succ, List.getElem_cons_zero]); go_simp; try with_reducible rfl)
      try simp only [List.getElem_toArray, List.getElem_cons_succ, List.getElem_cons_zero, Act.put, List.setIfInBounds_toArray, List.set_cons_zero, List.set_cons_succ]
      refine wpAnyHT_take (i := 14) (oi := _) (v := ?_) (by kernel_rfl) rfl (by kernel_rfl) (by kernel_rfl) (by kernel_rfl) (by kernel_rfl) (fun _ _ _ h => h) (Or.inl ⟨by rfl, ?_⟩) (HKF.out _ _ (HS0.out _ ((Frm.refl [] _).drew.alloc _)) hf) ?_
      rotate_left 1
      · (intro W hSw; obtain ⟨s0, s1, s2⟩ := hSw; (try simp only [List.getElem_toArray, List.getElem_cons_succ, List.getElem_cons_zero]); go_simp; try with_reducible rfl)
      try simp only [List.getElem_toArray, List.getElem_cons_succ, List.getElem_cons_zero, Act.put, List.setIfInBounds_toArray, List.set_cons_zero, List.set_cons_succ]
      have hrow := hf.heap HB2.out HB2N.out
      obtain ⟨y0, y1, y2, y3, y4, y5, y6⟩ := cells7 hrow
      have z0 := frozen_of_row w3 w1'.heap.size 0 _ _ hrow
      have z1 := frozen_of_row w3 w1'.heap.size 1 _ _ hrow
      have z2 := frozen_of_row w3 w1'.heap.size 2 _ _ hrow
      have z3 := frozen_of_row w3 w1'.heap.size 3 _ _ hrow
      have z4 := frozen_of_row w3 w1'.heap.size 4 _ _ hrow
      have z5 := frozen_of_row w3 w1'.heap.size 5 _ _ hrow
      have z6 := frozen_of_row w3 w1'.heap.size 6 _ _ hrow
      refine wpAnyHT_one (i := 16) rfl (by kernel_rfl) (by kernel_rfl) (fun K hK => ?_)
      try simp only [List.getElem_toArray, List.getElem_cons_succ, List.getElem_cons_zero]
      go_simp
      obtain ⟨h4, f4⟩ := sets_row w1'.heap.size 61 [(0, .int .i64 s1), (1, .int .i64 id1), (2, .int .i64 er1), (3, .int .i64 nu1), (4, .string tx1), (5, .slice vp ss1.length vc), (6, .slice vq ds1.length vd)] w3 _ hrow
      simp only [List.foldl, List.setIfInBounds_toArray, List.set_cons_zero, List.set_cons_succ] at h4
      obtain ⟨wz, hwz⟩ : ∃ wz, sets w3 w1'.heap.size [(0, .int .i64 s1), (1, .int .i64 id1), (2, .int .i64 er1), (3, .int .i64 nu1), (4, .string tx1), (5, .slice vp ss1.length vc), (6, .slice vq ds1.length vd)] = wz := ⟨_, rfl⟩
      rw [hwz] at h4 f4
      have hwz' : (((((((w3.setCell ⟨w1'.heap.size, 0, none⟩ (.int .i64 s1)).setCell ⟨w1'.heap.size, 1, none⟩ (.int .i64 id1)).setCell ⟨w1'.heap.size, 2, none⟩ (.int .i64 er1)).setCell ⟨w1'.heap.size, 3, none⟩ (.int .i64 nu1)).setCell ⟨w1'.heap.size, 4, none⟩ (.string tx1)).setCell ⟨w1'.heap.size, 5, none⟩ (.slice vp ss1.length vc)).setCell ⟨w1'.heap.size, 6, none⟩ (.slice vq ds1.length vd)) = wz := hwz
      rw [hwz']
      have hkz := HKG.out _ _ (HKF.out _ _ (HS0.out _ ((Frm.refl [] _).drew.alloc _)) hf) f4
      refine hK _ _ hkz ?_
      clear hK K
      try simp only [List.getElem_toArray, List.getElem_cons_succ, List.getElem_cons_zero, Act.put, List.setIfInBounds_toArray, List.set_cons_zero, List.set_cons_succ]
      refine wpAnyHT_take (i := 17) (oi := _) (v := ?_) (by kernel_rfl) rfl (by kernel_rfl) (by kernel_rfl) (by kernel_rfl) (by kernel_rfl) (fun _ _ _ h => h) (Or.inl ⟨by rfl, ?_⟩) hkz ?_
      rotate_left 1
      · (intro W hSw; obtain ⟨s0, s1, s2⟩ := hSw; (try simp only [List.getElem_toArray, List.getElem_cons_succ, List.getElem_cons_zero]); go_simp; try with_reducible rfl)
      try simp only [List.getElem_toArray, List.getElem_cons_succ, List.getElem_cons_zero, Act.put, List.setIfInBounds_toArray, List.set_cons_zero, List.set_cons_succ]
      refine wpAnyHT_end (by kernel_rfl) ?_
      simp only [List.drop_succ_cons, List.drop_zero]
      go_wp2_with fail
      go_meet
      refine ⟨_, ⟨⟨s1, id1, er1, nu1, tx1, ss1, ds1⟩, vp, vc, vq, vd⟩, pl', rfl, rfl, rfl, hid ?_⟩
      have adv3 := (HA.out.k0 ((Frm.refl [] w1').drew.alloc (.cells #[.int .i64 0, .int .i64 0, .int .i64 0, .int .i64 0, .string { data := #[] }, .slice none 0 0, .slice none 0 0] 61))).prog ht hf hnx (fun v hv => Or.inl hv)
      have hbig : ∀ j ∈ Rp.B ⟨⟨s1, id1, er1, nu1, tx1, ss1, ds1⟩, vp, vc, vq, vd⟩, w1'.heap.size < j := fun j hj => by have h4 := (hba j hj).1; simp at h4; omega
      exact And.intro (lk_of adv3 HNW.out HA.out.sz (fun j hj => ⟨by have := hbig j hj; omega, (hba j hj).2⟩) hra how f4 (fun j hj hm => by rw [List.mem_singleton] at hm; have := hbig j hj; omega) (adv3.spoil f4 (fun j hj => by rw [List.mem_singleton] at hj; subst hj; exact ⟨HA.out.sz, HBF.out pl' hnx⟩)) h4 (f4.heap (hf.heap (((Frm.refl [] w1').drew.alloc _).heap HX.out (by simp)) HNF.out.2) (fun hm => by rw [List.mem_singleton] at hm; have := lt_of_heap HX.out; omega)) (fun j hj => by have h1 := hbig j hj; have h3 := lt_of_heap HX.out; omega) (by have h1 := HA.out.sz; have h3 := lt_of_heap HX.out; omega)) rfl
  obtain ⟨ba, ⟨vax, vp, vc, vq, vd⟩, pl', rfl, rfl, rfl, hlk'⟩ := hcut
  obtain ⟨hlkk, hva⟩ := hlk'.out
  simp only at hva
  subst hva
  have HLKc := hid hlkk
  clear hlk' hlkk HL1 HL2 HS0 HKF HKE HKG HB2 HB2N HBF HNF HPB HX HA
  obtain ⟨⟨vbx, up, uc, uq, ud⟩, hvbx, hlr⟩ : ∃ vb : Rp, vb.x = ⟨s1, id1, er1, nu1, tx1, ss1, ds1⟩ ∧ lookR ls s id = (vb, li, le) := by
    obtain ⟨h1, h2⟩ := HAL.out.look s id
    rw [HLK.out] at h1 h2
    exact ⟨(lookR ls s id).1, h1, Prod.ext rfl h2⟩
  simp only at hvbx
  subst hvbx
  have hdl1 := rlook_any d p c ls f2 a2 r2 s id wc.drew (HLKc.out.adv.q.rt.k0 (Frm.refl [] _).drew) (by have := HAL.out.len; omega)
  have hdl2 := rlook_any d p c ls f2 a2 r2 s id (wc.drew.alloc (.cells #[.int .i64 0, .int .i64 0, .int .i64 0, .int .i64 0, .string { data := #[] }, .slice none 0 0, .slice none 0 0] 61)) (HLKc.out.adv.q.rt.k0 ((Frm.refl [] _).drew.alloc _)) (by have := HAL.out.len; omega)
  have hro := fun W (h : ∀ v ∈ ls, RpOk W v) => lookR_ok (W := W) (ls := ls) (s := s) (id := id) h
  have hrn : ∀ k ∈ Rp.Bn ⟨⟨s1, id1, er1, nu1, tx1, ss1, ds1⟩, up, uc, uq, ud⟩, k < w0.heap.size := fun k hk => by
    have h1 := lookR_ok (s := s) (id := id) HLKc.out.adv.q.ok0
    rw [hlr] at h1
    exact h1.lowN k hk
  unfold LookR Rp.agg at hdl1 hdl2
  rw [hlr] at hdl1 hdl2
  simp only [hlr] at hdl1 hdl2 hro
  have DL1 := hid hdl1
  have DL2 := hid hdl2
  have HRO := hid hro
  have hq := HLKc.out.adv.q
  have hmf := fun j hj => hq.nw j (PrD.mem_foot.2 hj)
  have hdm := hmf d (Or.inr (Or.inr (Or.inl (by simp [footR]))))
  have hxk := hmf xk (Or.inl rfl)
  have hdk : d ≠ xk := fun e => hq.kt.2.1 (by simp [footR, e])
  have hdw := HNW.out d (PrD.mem_foot.2 (Or.inr (Or.inr (Or.inl (by simp [footR])))))
  have HDX : Hid (d ≠ xk ∧ d ≠ bx ∧ xk < wc.heap.size ∧ bx < wc.heap.size) := hid ⟨hdk, by have := HBX.out; omega, hxk.2, lt_of_heap HLKc.out.rowx⟩
  have DPB : Hid (wc.heap[xk]? = some (.cells #[.pointer (some ⟨b, 0, none⟩), .pointer (some ⟨d, 0, none⟩)] 56 (0, 0))) := hid hq.pb
  have DX : Hid (wc.heap[bx]? = some (.cells #[.int .i64 kd, .int .i64 wh, .int .i64 s, .int .i64 id, .int .i64 er, .int .i64 nu, .string tx, .slice lp n lc, .slice dp m dc, .slice lq ll lr] 63 (0, 0))) := hid HLKc.out.rowx
  have HDB : Hid ((∀ j ∈ Rp.B ⟨⟨s1, id1, er1, nu1, tx1, ss1, ds1⟩, vp, vc, vq, vd⟩, j ∉ [d]) ∧ ba ∉ [d] ∧ bx ∉ [d]) := hid ⟨fun j hj hm => by rw [List.mem_singleton] at hm; have := (HLKc.out.nb j hj).1; omega, fun hm => by rw [List.mem_singleton] at hm; have := HLKc.out.na; omega, fun hm => by rw [List.mem_singleton] at hm; have := HBX.out; omega⟩
  have HDH : Hid ((∀ j ∈ Rp.B ⟨⟨s1, id1, er1, nu1, tx1, ss1, ds1⟩, vp, vc, vq, vd⟩, j ∉ [d, wc.heap.size]) ∧ ba ∉ [d, wc.heap.size] ∧ bx ∉ [d, wc.heap.size]) := hid ⟨fun j hj hm => by
      rcases List.mem_cons.1 hm with hm | hm
      · have := (HLKc.out.nb j hj).1; omega
      · rw [List.mem_singleton] at hm; have := rp_low HLKc.out.own j hj; omega, fun hm => by
      rcases List.mem_cons.1 hm with hm | hm
      · have := HLKc.out.na; omega
      · rw [List.mem_singleton] at hm; have := lt_of_heap HLKc.out.rowa; omega, fun hm => by
      rcases List.mem_cons.1 hm with hm | hm
      · have := HBX.out; omega
      · rw [List.mem_singleton] at hm; have := lt_of_heap HLKc.out.rowx; omega⟩
  have HDF : Hid (∀ j ∈ Rp.B ⟨⟨s1, id1, er1, nu1, tx1, ss1, ds1⟩, vp, vc, vq, vd⟩, j ∉ PrD.foot ⟨xk, b, pl', vs, f2, (if li then IntKind.i64.wrap (a2 + 1) else a2), (if le ≠ 0 then IntKind.i64.wrap (r2 + 1) else r2), d, p, c, ls, f2, (if li then IntKind.i64.wrap (a2 + 1) else a2), (if le ≠ 0 then IntKind.i64.wrap (r2 + 1) else r2)⟩) := hid (fun j hj => (HLKc.out.nb j hj).2.2)
  have HDG : Hid (w.heap.size ≤ wc.heap.size ∧ wc.heap.size ∉ PrD.foot ⟨xk, b, pl', vs, f2, (if li then IntKind.i64.wrap (a2 + 1) else a2), (if le ≠ 0 then IntKind.i64.wrap (r2 + 1) else r2), d, p, c, ls, f2, (if li then IntKind.i64.wrap (a2 + 1) else a2), (if le ≠ 0 then IntKind.i64.wrap (r2 + 1) else r2)⟩) := hid ⟨HLKc.out.adv.sz, fun hm => by have := (hq.nw _ (show wc.heap.size ∈ PrD.foot ⟨xk, b, pl', vs, f2, (if li then IntKind.i64.wrap (a2 + 1) else a2), (if le ≠ 0 then IntKind.i64.wrap (r2 + 1) else r2), d, p, c, ls, f2, a2, r2⟩ from hm)).2; omega⟩
  have HRN : Hid (∀ k ∈ Rp.Bn ⟨⟨s1, id1, er1, nu1, tx1, ss1, ds1⟩, up, uc, uq, ud⟩, k ≠ wc.heap.size) := hid (fun k hk e => by have := hrn k hk; have := hq.fr.size; omega)
  have DS0 : Hid (∀ W, Frm [] wc W → W.cell? ⟨xk, 1, none⟩ = some (.pointer (some ⟨d, 0, none⟩)) ∧ W.cell? ⟨bx, 2, none⟩ = some (.int .i64 s) ∧ W.cell? ⟨bx, 3, none⟩ = some (.int .i64 id)) := hid (fun W hf => by
    have c0 := hf.heap DPB.out (by simp)
    have c1 := hf.heap DX.out (by simp)
    refine ⟨?_, ?_, ?_⟩
    · rw [cell_of_row _ _ _ _ _ _ c0]; rfl
    · rw [cell_of_row _ _ _ _ _ _ c1]; rfl
    · rw [cell_of_row _ _ _ _ _ _ c1]; rfl)
  have DKF : Hid (∀ W W' : World, (W.cell? ⟨xk, 1, none⟩ = some (.pointer (some ⟨d, 0, none⟩)) ∧ W.cell? ⟨bx, 2, none⟩ = some (.int .i64 s) ∧ W.cell? ⟨bx, 3, none⟩ = some (.int .i64 id)) → Frm [d] W W' → (W'.cell? ⟨xk, 1, none⟩ = some (.pointer (some ⟨d, 0, none⟩)) ∧ W'.cell? ⟨bx, 2, none⟩ = some (.int .i64 s) ∧ W'.cell? ⟨bx, 3, none⟩ = some (.int .i64 id))) := hid (fun W W' hs hf => by
    have h := HDX.out
    have kc : ∀ q v, d ≠ q.block → W.cell? q = some v → W'.cell? q = some v := fun q v hq hv => (hf.cell (World.block_lt_of_cell? W _ hv) (fun hm => hq (by rw [List.mem_singleton] at hm; exact hm.symm))).trans hv
    exact ⟨kc _ _ h.1 hs.1, kc _ _ h.2.1 hs.2.1, kc _ _ h.2.1 hs.2.2⟩)
  have DKE : Hid (∀ W W' : World, (W.cell? ⟨xk, 1, none⟩ = some (.pointer (some ⟨d, 0, none⟩)) ∧ W.cell? ⟨bx, 2, none⟩ = some (.int .i64 s) ∧ W.cell? ⟨bx, 3, none⟩ = some (.int .i64 id)) → Frm [] W W' → (W'.cell? ⟨xk, 1, none⟩ = some (.pointer (some ⟨d, 0, none⟩)) ∧ W'.cell? ⟨bx, 2, none⟩ = some (.int .i64 s) ∧ W'.cell? ⟨bx, 3, none⟩ = some (.int .i64 id))) := hid (fun W W' hs hf => by
    have kc : ∀ q v, W.cell? q = some v → W'.cell? q = some v := fun q v hv => (hf.cell (World.block_lt_of_cell? W _ hv) (by simp)).trans hv
    exact ⟨kc _ _ hs.1, kc _ _ hs.2.1, kc _ _ hs.2.2⟩)
  have DKG : Hid (∀ W W' : World, (W.cell? ⟨xk, 1, none⟩ = some (.pointer (some ⟨d, 0, none⟩)) ∧ W.cell? ⟨bx, 2, none⟩ = some (.int .i64 s) ∧ W.cell? ⟨bx, 3, none⟩ = some (.int .i64 id)) → Frm [wc.heap.size] W W' → (W'.cell? ⟨xk, 1, none⟩ = some (.pointer (some ⟨d, 0, none⟩)) ∧ W'.cell? ⟨bx, 2, none⟩ = some (.int .i64 s) ∧ W'.cell? ⟨bx, 3, none⟩ = some (.int .i64 id))) := hid (fun W W' hs hf => by
    have h := HDX.out
    have kc : ∀ q v, q.block < wc.heap.size → W.cell? q = some v → W'.cell? q = some v := fun q v hq hv => (hf.cell (World.block_lt_of_cell? W _ hv) (fun hm => by rw [List.mem_singleton] at hm; omega)).trans hv
    exact ⟨kc _ _ h.2.2.1 hs.1, kc _ _ h.2.2.2 hs.2.1, kc _ _ h.2.2.2 hs.2.2⟩)
  have DB2 : Hid ((wc.drew.alloc (.cells #[.int .i64 0, .int .i64 0, .int .i64 0, .int .i64 0, .string { data := #[] }, .slice none 0 0, .slice none 0 0] 61)).heap[wc.heap.size]? = some (.cells #[.int .i64 0, .int .i64 0, .int .i64 0, .int .i64 0, .string { data := #[] }, .slice none 0 0, .slice none 0 0] 61 (0, 0))) := hid (heap_alloc_to _ _ rfl)
  have DB2N : Hid (wc.heap.size ∉ [d]) := hid (fun hm => by rw [List.mem_singleton] at hm; omega)
  clear hdl1 hdl2 hlr hro hrn hq hmf hdm hxk hdk hdw
  go_upto_region 4 with fail
  go_cut [8, 9, 10] (fun z5 z6 z7 wx => ∃ (bb : Nat) (vb : Rp), z5 = .pointer (some ⟨bb, 0, none⟩) ∧ z6 = .bool li ∧ z7 = .int .i64 le ∧ Hid (LK w0 w wx ⟨xk, b, pl, vs, f2, a2, r2, d, p, c, ls, f2, a2, r2⟩ ⟨xk, b, pl', vs, f2, (if li then IntKind.i64.wrap (a2 + 1) else a2), (if le ≠ 0 then IntKind.i64.wrap (r2 + 1) else r2), d, p, c, ls, f2, (if li then IntKind.i64.wrap (a2 + 1) else a2), (if le ≠ 0 then IntKind.i64.wrap (r2 + 1) else r2)⟩ bx ba (.cells #[.int .i64 kd, .int .i64 wh, .int .i64 s, .int .i64 id, .int .i64 er, .int .i64 nu, .string tx, .slice lp n lc, .slice dp m dc, .slice lq ll lr] 63 (0, 0)) ⟨⟨s1, id1, er1, nu1, tx1, ss1, ds1⟩, vp, vc, vq, vd⟩ ∧ wx.heap[bb]? = some (.cells #[.int .i64 vb.x.s, .int .i64 vb.x.id, .int .i64 vb.x.er, .int .i64 vb.x.nu, .string vb.x.tx, .slice vb.lp vb.x.ss.length vb.lc, .slice vb.dp vb.x.ds.length vb.dc] 61 (0, 0)) ∧ RpOk wx vb ∧ vb.x = ⟨s1, id1, er1, nu1, tx1, ss1, ds1⟩))
  case first =>
    refine wp_region_tail (S := fun W => (W.cell? ⟨xk, 1, none⟩ = some (.pointer (some ⟨d, 0, none⟩)) ∧ W.cell? ⟨bx, 2, none⟩ = some (.int .i64 s) ∧ W.cell? ⟨bx, 3, none⟩ = some (.int .i64 id))) 18 19 rfl (by kernel_rfl) (by kernel_rfl) ?_
    refine wpAnyHT_take (i := 0) (oi := _) (v := ?_) (by kernel_rfl) rfl (by kernel_rfl) (by kernel_rfl) (by kernel_rfl) (by kernel_rfl) (fun _ _ _ h => h) (Or.inl ⟨by rfl, ?_⟩) (DS0.out _ (Frm.refl [] _).drew) ?_
    rotate_left 1
    · (intro W hSw; obtain ⟨s0, s1, s2⟩ := hSw; (try simp only [List.getElem_toArray, List.getElem_cons_zero]); go_simp; try with_reducible rfl)
    try simp only [List.getElem_toArray, List.getElem_cons_zero, Act.put, List.setIfInBounds_toArray, List.set_cons_zero, List.set_cons_succ]
    refine wpAnyHT_take (i := 1) (oi := _) (v := ?_) (by kernel_rfl) rfl (by kernel_rfl) (by kernel_rfl) (by kernel_rfl) (by kernel_rfl) (fun _ _ _ h => h) (Or.inl ⟨by rfl, ?_⟩) (DS0.out _ (Frm.refl [] _).drew) ?_
    rotate_left 1
    · (intro W hSw; obtain ⟨s0, s1, s2⟩ := hSw; (try simp only [List.getElem_toArray, List.getElem_cons_succ, List.getElem_cons_zero]); go_simp; try with_reducible rfl)
    try simp only [List.getElem_toArray, List.getElem_cons_succ, List.getElem_cons_zero, Act.put, List.setIfInBounds_toArray, List.set_cons_zero, List.set_cons_succ]
    refine wpAnyHT_take (i := 2) (oi := _) (v := ?_) (by kernel_rfl) rfl (by kernel_rfl) (by kernel_rfl) (by kernel_rfl) (by kernel_rfl) (fun _ _ _ h => h) (Or.inl ⟨by rfl, ?_⟩) (DS0.out _ (Frm.refl [] _).drew) ?_
    rotate_left 1
    · (intro W hSw; obtain ⟨s0, s1, s2⟩ := hSw; (try simp only [List.getElem_toArray, List.getElem_cons_succ, List.getElem_cons_zero]); go_simp; try with_reducible rfl)
    try simp only [List.getElem_toArray, List.getElem_cons_succ, List.getElem_cons_zero, Act.put, List.setIfInBounds_toArray, List.set_cons_zero, List.set_cons_succ]
    refine wpAnyHT_take (i := 3) (oi := _) (v := ?_) (by kernel_rfl) rfl (by kernel_rfl) (by kernel_rfl) (by kernel_rfl) (by kernel_rfl) (fun _ _ _ h => h) (Or.inl ⟨by rfl, ?_⟩) (DS0.out _ (Frm.refl [] _).drew) ?_
    rotate_left 1
    · (intro W hSw; obtain ⟨s0, s1, s2⟩ := hSw; (try simp only [List.getElem_toArray, List.getElem_cons_succ, List.getElem_cons_zero]); go_simp; try with_reducible rfl)
    try simp only [List.getElem_toArray, List.getElem_cons_succ, List.getElem_cons_zero, Act.put, List.setIfInBounds_toArray, List.set_cons_zero, List.set_cons_succ]
    refine wpAnyHT_take (i := 4) (oi := _) (v := ?_) (by kernel_rfl) rfl (by kernel_rfl) (by kernel_rfl) (by kernel_rfl) (by kernel_rfl) (fun _ _ _ h => h) (Or.inl ⟨by rfl, ?_⟩) (DS0.out _ (Frm.refl [] _).drew) ?_
    rotate_left 1
    · (intro W hSw; obtain ⟨s0, s1, s2⟩ := hSw; (try simp only [List.getElem_toArray, List.getElem_cons_succ, List.getElem_cons_zero]); go_simp; try with_reducible rfl)
    try simp only [List.getElem_toArray, List.getElem_cons_succ, List.getElem_cons_zero, Act.put, List.setIfInBounds_toArray, List.set_cons_zero, List.set_cons_succ]
    refine wpAnyHT_take (i := 5) (oi := _) (v := ?_) (by kernel_rfl) rfl (by kernel_rfl) (by kernel_rfl) (by kernel_rfl) (by kernel_rfl) (fun _ _ _ h => h) (Or.inl ⟨by rfl, ?_⟩) (DS0.out _ (Frm.refl [] _).drew) ?_
    rotate_left 1
    · (intro W hSw; obtain ⟨s0, s1, s2⟩ := hSw; (try simp only [List.getElem_toArray, List.getElem_cons_succ, List.getElem_cons_zero]); go_simp; try with_reducible rfl)
    try simp only [List.getElem_toArray, List.getElem_cons_succ, List.getElem_cons_zero, Act.put, List.setIfInBounds_toArray, List.set_cons_zero, List.set_cons_succ]
    refine wpAnyHT_take (i := 6) (oi := _) (v := ?_) (by kernel_rfl) rfl (by kernel_rfl) (by kernel_rfl) (by kernel_rfl) (by kernel_rfl) (fun _ _ _ h => h) (Or.inl ⟨by rfl, ?_⟩) (DS0.out _ (Frm.refl [] _).drew) ?_
    rotate_left 1
    · (intro W hSw; obtain ⟨s0, s1, s2⟩ := hSw; (try simp only [List.getElem_toArray, List.getElem_cons_succ, List.getElem_cons_zero]); go_simp; try with_reducible rfl)
    try simp only [List.getElem_toArray, List.getElem_cons_succ, List.getElem_cons_zero, Act.put, List.setIfInBounds_toArray, List.set_cons_zero, List.set_cons_succ]
    refine wpAnyHT_take (i := 7) (oi := _) (v := ?_) (by kernel_rfl) rfl (by kernel_rfl) (by kernel_rfl) (by kernel_rfl) (by kernel_rfl) (fun _ _ _ h => h) (Or.inl ⟨by rfl, ?_⟩) (DS0.out _ (Frm.refl [] _).drew) ?_
    rotate_left 1
    · (intro W hSw; obtain ⟨s0, s1, s2⟩ := hSw; (try simp only [List.getElem_toArray, List.getElem_cons_succ, List.getElem_cons_zero]); go_simp; try with_reducible rfl)
    try simp only [List.getElem_toArray, List.getElem_cons_succ, List.getElem_cons_zero, Act.put, List.setIfInBounds_toArray, List.set_cons_zero, List.set_cons_succ]
    refine wpAnyHT_take (i := 8) (oi := _) (v := ?_) (by kernel_rfl) rfl (by kernel_rfl) (by kernel_rfl) (by kernel_rfl) (by kernel_rfl) (fun _ _ _ h => h) (Or.inl ⟨by rfl, ?_⟩) (DS0.out _ (Frm.refl [] _).drew) ?_
    rotate_left 1
    · (intro W hSw; obtain ⟨s0, s1, s2⟩ := hSw; (try simp only [List.getElem_toArray, List.getElem_cons_succ, List.getElem_cons_zero]); go_simp; try with_reducible rfl)
    try simp only [List.getElem_toArray, List.getElem_cons_succ, List.getElem_cons_zero, Act.put, List.setIfInBounds_toArray, List.set_cons_zero, List.set_cons_succ]
    refine wpAnyHT_take (i := 9) (oi := _) (v := ?_) (by kernel_rfl) rfl (by kernel_rfl) (by kernel_rfl) (by kernel_rfl) (by kernel_rfl) (fun _ _ _ h => h) (Or.inl ⟨by rfl, ?_⟩) (DS0.out _ (Frm.refl [] _).drew) ?_
    rotate_left 1
    · (intro W hSw; obtain ⟨s0, s1, s2⟩ := hSw; (try simp only [List.getElem_toArray, List.getElem_cons_succ, List.getElem_cons_zero]); go_simp; try with_reducible rfl)
    try simp only [List.getElem_toArray, List.getElem_cons_succ, List.getElem_cons_zero, Act.put, List.setIfInBounds_toArray, List.set_cons_zero, List.set_cons_succ]
    refine wpAnyHT_two (i := 10) (j := 15) rfl rfl (by kernel_rfl) (by kernel_rfl) (by kernel_rfl) (fun K hK => ?_) (fun K hK => ?_)
    · try simp only [List.getElem_toArray, List.getElem_cons_succ, List.getElem_cons_zero]
      go_simp
      refine DL1.out.mono ?_
      rintro e w3 ⟨rfl, ht, hf⟩
      refine hK _ _ (DKF.out _ _ (DS0.out _ (Frm.refl [] _).drew) hf) ?_
      clear hK K
      refine wpAnyHT_take (i := 11) (oi := _) (v := ?_) (by kernel_rfl) rfl (by kernel_rfl) (by kernel_rfl) (by kernel_rfl) (by kernel_rfl) (fun _ _ _ h => h) (Or.inl ⟨by rfl, ?_⟩) (DKF.out _ _ (DS0.out _ (Frm.refl [] _).drew) hf) ?_
      rotate_left 1
      · (intro W hSw; obtain ⟨s0, s1, s2⟩ := hSw; (try simp only [List.getElem_toArray, List.getElem_cons_succ, List.getElem_cons_zero]); go_simp; try with_reducible rfl)
      try simp only [List.getElem_toArray, List.getElem_cons_succ, List.getElem_cons_zero, Act.put, List.setIfInBounds_toArray, List.set_cons_zero, List.set_cons_succ]
      refine wpAnyHT_take (i := 12) (oi := _) (v := ?_) (by kernel_rfl) rfl (by kernel_rfl) (by kernel_rfl) (by kernel_rfl) (by kernel_rfl) (fun _ _ _ h => h) (Or.inl ⟨by rfl, ?_⟩) (DKF.out _ _ (DS0.out _ (Frm.refl [] _).drew) hf) ?_
      rotate_left 1
      · (intro W hSw; obtain ⟨s0, s1, s2⟩ := hSw; (try simp only [List.getElem_toArray, List.getElem_cons_succ, List.getElem_cons_zero]); go_simp; try with_reducible rfl)
      try simp only [List.getElem_toArray, List.getElem_cons_succ, List.getElem_cons_zero, Act.put, List.setIfInBounds_toArray, List.set_cons_zero, List.set_cons_succ]
      refine wpAnyHT_take (i := 13) (oi := _) (v := ?_) (by kernel_rfl) rfl (by kernel_rfl) (by kernel_rfl) (by kernel_rfl) (by kernel_rfl) (fun _ _ _ h => h) (Or.inl ⟨by rfl, ?_⟩) (DKF.out _ _ (DS0.out _ (Frm.refl [] _).drew) hf) ?_
      rotate_left 1
      · (intro W hSw; obtain ⟨s0, s1, s2⟩ := hSw; (try simp only [List.getElem_toArray, List.getElem_cons_succ, List.getElem_cons_zero]); go_simp; try with_reducible rfl)
      try simp only [List.getElem_toArray, List.getElem_cons_succ, List.getElem_cons_zero, Act.put, List.setIfInBounds_toArray, List.set_cons_zero, List.set_cons_succ]
      refine wpAnyHT_take (i := 14) (oi := _) (v := ?_) (by kernel_rfl) rfl (by kernel_rfl) (by kernel_rfl) (by kernel_rfl) (by kernel_rfl) (fun _ _ _ h => h) (Or.inl ⟨by rfl, ?_⟩) (DKF.out _ _ (DS0.out _ (Frm.refl [] _).drew) hf) ?_
      rotate_left 1
      · (intro W hSw; obtain ⟨s0, s1, s2⟩ := hSw; (try simp only [List.getElem_toArray, List.getElem_cons_succ, List.getElem_cons_zero]); go_simp; try with_reducible rfl)
      try simp only [List.getElem_toArray, List.getElem_cons_succ, List.getElem_cons_zero, Act.put, List.setIfInBounds_toArray, List.set_cons_zero, List.set_cons_succ]
      refine wpAnyHT_one (i := 15) rfl (by kernel_rfl) (by kernel_rfl) (fun K hK => ?_)
      try simp only [List.getElem_toArray, List.getElem_cons_succ, List.getElem_cons_zero]
      go_simp
      refine hK _ _ (DKE.out _ _ (DKF.out _ _ (DS0.out _ (Frm.refl [] _).drew) hf) ((Frm.refl [] _).alloc _)) ?_
      clear hK K
      try simp only [List.getElem_toArray, List.getElem_cons_succ, List.getElem_cons_zero, Act.put, List.setIfInBounds_toArray, List.set_cons_zero, List.set_cons_succ]
      refine wpAnyHT_one (i := 16) rfl (by kernel_rfl) (by kernel_rfl) (fun K hK => ?_)
      try simp only [List.getElem_toArray, List.getElem_cons_succ, List.getElem_cons_zero]
      go_simp
      refine hK _ _ (DKE.out _ _ (DKF.out _ _ (DS0.out _ (Frm.refl [] _).drew) hf) ((Frm.refl [] _).alloc _)) ?_
      clear hK K
      try simp only [List.getElem_toArray, List.getElem_cons_succ, List.getElem_cons_zero, Act.put, List.setIfInBounds_toArray, List.set_cons_zero, List.set_cons_succ]
      refine wpAnyHT_take (i := 17) (oi := _) (v := ?_) (by kernel_rfl) rfl (by kernel_rfl) (by kernel_rfl) (by kernel_rfl) (by kernel_rfl) (fun _ _ _ h => h) (Or.inl ⟨by rfl, ?_⟩) (DKE.out _ _ (DKF.out _ _ (DS0.out _ (Frm.refl [] _).drew) hf) ((Frm.refl [] _).alloc _)) ?_
      rotate_left 1
      · (intro W hSw; obtain ⟨s0, s1, s2⟩ := hSw; (try simp only [List.getElem_toArray, List.getElem_cons_succ, List.getElem_cons_zero]); go_simp; try with_reducible rfl)
      try simp only [List.getElem_toArray, List.getElem_cons_succ, List.getElem_cons_zero, Act.put, List.setIfInBounds_toArray, List.set_cons_zero, List.set_cons_succ]
      refine wpAnyHT_end (by kernel_rfl) ?_
      simp only [List.drop_succ_cons, List.drop_zero]
      go_wp2_with fail
      go_meet
      refine ⟨_, ⟨⟨s1, id1, er1, nu1, tx1, ss1, ds1⟩, up, uc, uq, ud⟩, rfl, rfl, rfl, hid ⟨?_, ?_, ?_, rfl⟩⟩
      · exact (HLKc.out.kept ((((Frm.refl [] wc).drew.mono (T := [d]) (by simp)).trans hf (fun k hk _ => hk)).trans ((Frm.refl [] w3).alloc (.cells #[.int .i64 s1, .int .i64 id1, .int .i64 er1, .int .i64 nu1, .string tx1, .slice up ss1.length uc, .slice uq ds1.length ud] 61)) (by simp)) HDB.out.1 HDB.out.2.1 HDB.out.2.2 (((HLKc.out.adv.k0 (Frm.refl [] wc).drew).doc ht hf (fun k hk => Or.inl hk) HLKc.out.adv.q.ok0).k0 ((Frm.refl [] w3).alloc _)) HDF.out)
      · exact heap_alloc_to _ _ rfl
      · exact HRO.out _ ht.ok |>.kept ((Frm.refl [] w3).alloc _) (by simp)
    · try simp only [List.getElem_toArray, List.getElem_cons_succ, List.getElem_cons_zero]
      go_simp
      refine hK _ _ (DS0.out _ ((Frm.refl [] _).drew.alloc _)) ?_
      clear hK K
      try simp only [List.getElem_toArray, List.getElem_cons_succ, List.getElem_cons_zero, Act.put, List.setIfInBounds_toArray, List.set_cons_zero, List.set_cons_succ]
      refine wpAnyHT_one (i := 10) rfl (by kernel_rfl) (by kernel_rfl) (fun K hK => ?_)
      try simp only [List.getElem_toArray, List.getElem_cons_succ, List.getElem_cons_zero]
      go_simp
      refine DL2.out.mono ?_
      rintro e w3 ⟨rfl, ht, hf⟩
      refine hK _ _ (DKF.out _ _ (DS0.out _ ((Frm.refl [] _).drew.alloc _)) hf) ?_
      clear hK K
      refine wpAnyHT_take (i := 11) (oi := _) (v := ?_) (by kernel_rfl) rfl (by kernel_rfl) (by kernel_rfl) (by kernel_rfl) (by kernel_rfl) (fun _ _ _ h => h) (Or.inl ⟨by rfl, ?_⟩) (DKF.out _ _ (DS0.out _ ((Frm.refl [] _).drew.alloc _)) hf) ?_
      rotate_left 1
      · (intro W hSw; obtain ⟨s0, s1, s2⟩ := hSw; (try simp only [List.getElem_toArray, List.getElem_cons_succ, List.getElem_cons_zero]); go_simp; try with_reducible rfl)
      try simp only [List.getElem_toArray, List.getElem_cons_succ, List.getElem_cons_zero, Act.put, List.setIfInBounds_toArray, List.set_cons_zero, List.set_cons_succ]
      refine wpAnyHT_take (i := 12) (oi := _) (v := ?_) (by kernel_rfl) rfl (by kernel_rfl) (by kernel_rfl) (by kernel_rfl) (by kernel_rfl) (fun _ _ _ h => h) (Or.inl ⟨by rfl, ?_⟩) (DKF.out _ _ (DS0.out _ ((Frm.refl [] _).drew.alloc _)) hf) ?_
      rotate_left 1
      · (intro W hSw; obtain ⟨s0, s1, s2⟩ := hSw; (try simp only [List.getElem_toArray, List.getElem_cons_succ, List.getElem_cons_zero]); go_simp; try with_reducible rfl)
      try simp only [List.getElem_toArray, List.getElem_cons_succ, List.getElem_cons_zero, Act.put, List.setIfInBounds_toArray, List.set_cons_zero, List.set_cons_succ]
      refine wpAnyHT_take (i := 13) (oi := _) (v := ?_) (by kernel_rfl) rfl (by kernel_rfl) (by kernel_rfl) (by kernel_rfl) (by kernel_rfl) (fun _ _ _ h => h) (Or.inl ⟨by rfl, ?_⟩) (DKF.out _ _ (DS0.out _ ((Frm.refl [] _).drew.alloc _)) hf) ?_
      rotate_left 1
      · (intro W hSw; obtain ⟨s0, s1, s2⟩ := hSw; (try simp only [List.getElem_toArray, List.getElem_cons_succ, List.getElem_cons_zero]); go_simp; try with_reducible rfl)
      try simp only [List.getElem_toArray, List.getElem_cons_succ, List.getElem_cons_zero, Act.put, List.setIfInBounds_toArray, List.set_cons_zero, List.set_cons_succ]
      refine wpAnyHT_take (i := 14) (oi := _) (v := ?_) (by kernel_rfl) rfl (by kernel_rfl) (by kernel_rfl) (by kernel_rfl) (by kernel_rfl) (fun _ _ _ h => h) (Or.inl ⟨by rfl, ?_⟩) (DKF.out _ _ (DS0.out _ ((Frm.refl [] _).drew.alloc _)) hf) ?_
      rotate_left 1
      · (intro W hSw; obtain ⟨s0, s1, s2⟩ := hSw; (try simp only [List.getElem_toArray, List.getElem_cons_succ, List.getElem_cons_zero]); go_simp; try with_reducible rfl)
      try simp only [List.getElem_toArray, List.getElem_cons_succ, List.getElem_cons_zero, Act.put, List.setIfInBounds_toArray, List.set_cons_zero, List.set_cons_succ]
      have hrow := hf.heap DB2.out DB2N.out
      obtain ⟨y0, y1, y2, y3, y4, y5, y6⟩ := cells7 hrow
      have z0 := frozen_of_row w3 wc.heap.size 0 _ _ hrow
      have z1 := frozen_of_row w3 wc.heap.size 1 _ _ hrow
      have z2 := frozen_of_row w3 wc.heap.size 2 _ _ hrow
      have z3 := frozen_of_row w3 wc.heap.size 3 _ _ hrow
      have z4 := frozen_of_row w3 wc.heap.size 4 _ _ hrow
      have z5 := frozen_of_row w3 wc.heap.size 5 _ _ hrow
      have z6 := frozen_of_row w3 wc.heap.size 6 _ _ hrow
      refine wpAnyHT_one (i := 16) rfl (by kernel_rfl) (by kernel_rfl) (fun K hK => ?_)
      try simp only [List.getElem_toArray, List.getElem_cons_succ, List.getElem_cons_zero]
      go_simp
      obtain ⟨h4, f4⟩ := sets_row wc.heap.size 61 [(0, .int .i64 s1), (1, .int .i64 id1), (2, .int .i64 er1), (3, .int .i64 nu1), (4, .string tx1), (5, .slice up ss1.length uc), (6, .slice uq ds1.length ud)] w3 _ hrow
      simp only [List.foldl, List.setIfInBounds_toArray, List.set_cons_zero, List.set_cons_succ] at h4
      obtain ⟨wz, hwz⟩ : ∃ wz, sets w3 wc.heap.size [(0, .int .i64 s1), (1, .int .i64 id1), (2, .int .i64 er1), (3, .int .i64 nu1), (4, .string tx1), (5, .slice up ss1.length uc), (6, .slice uq ds1.length ud)] = wz := ⟨_, rfl⟩
      rw [hwz] at h4 f4
      have hwz' : (((((((w3.setCell ⟨wc.heap.size, 0, none⟩ (.int .i64 s1)).setCell ⟨wc.heap.size, 1, none⟩ (.int .i64 id1)).setCell ⟨wc.heap.size, 2, none⟩ (.int .i64 er1)).setCell ⟨wc.heap.size, 3, none⟩ (.int .i64 nu1)).setCell ⟨wc.heap.size, 4, none⟩ (.string tx1)).setCell ⟨wc.heap.size, 5, none⟩ (.slice up ss1.length uc)).setCell ⟨wc.heap.size, 6, none⟩ (.slice uq ds1.length ud)) = wz := hwz
      rw [hwz']
      have hkz := DKG.out _ _ (DKF.out _ _ (DS0.out _ ((Frm.refl [] _).drew.alloc _)) hf) f4
      refine hK _ _ hkz ?_
      clear hK K
      try simp only [List.getElem_toArray, List.getElem_cons_succ, List.getElem_cons_zero, Act.put, List.setIfInBounds_toArray, List.set_cons_zero, List.set_cons_succ]
      refine wpAnyHT_take (i := 17) (oi := _) (v := ?_) (by kernel_rfl) rfl (by kernel_rfl) (by kernel_rfl) (by kernel_rfl) (by kernel_rfl) (fun _ _ _ h => h) (Or.inl ⟨by rfl, ?_⟩) hkz ?_
      rotate_left 1
      · (intro W hSw; obtain ⟨s0, s1, s2⟩ := hSw; (try simp only [List.getElem_toArray, List.getElem_cons_succ, List.getElem_cons_zero]); go_simp; try with_reducible rfl)
      try simp only [List.getElem_toArray, List.getElem_cons_succ, List.getElem_cons_zero, Act.put, List.setIfInBounds_toArray, List.set_cons_zero, List.set_cons_succ]
      refine wpAnyHT_end (by kernel_rfl) ?_
      simp only [List.drop_succ_cons, List.drop_zero]
      go_wp2_with fail
      go_meet
      refine ⟨_, ⟨⟨s1, id1, er1, nu1, tx1, ss1, ds1⟩, up, uc, uq, ud⟩, rfl, rfl, rfl, hid ⟨?_, h4, ?_, rfl⟩⟩
      · have adv4 := ((HLKc.out.adv.k0 ((Frm.refl [] wc).drew.alloc (.cells #[.int .i64 0, .int .i64 0, .int .i64 0, .int .i64 0, .string { data := #[] }, .slice none 0 0, .slice none 0 0] 61))).doc ht hf (fun k hk => Or.inl hk) HLKc.out.adv.q.ok0).spoil f4 (fun j hj => by rw [List.mem_singleton] at hj; subst hj; exact HDG.out)
        exact HLKc.out.kept ((((Frm.refl [] wc).drew.alloc (.cells #[.int .i64 0, .int .i64 0, .int .i64 0, .int .i64 0, .string { data := #[] }, .slice none 0 0, .slice none 0 0] 61)).mono (T := [d, wc.heap.size]) (by simp) |>.trans (hf.mono (T := [d, wc.heap.size]) (fun k hk _ => by simp at hk; simp [hk])) (fun k hk _ => hk)).trans (f4.mono (T := [d, wc.heap.size]) (fun k hk _ => by simp at hk; simp [hk])) (fun k hk _ => hk)) HDH.out.1 HDH.out.2.1 HDH.out.2.2 adv4 HDF.out
      · exact (HRO.out _ ht.ok).keptN f4 (fun k hk hm => by rw [List.mem_singleton] at hm; exact HRN.out k hk hm)
  obtain ⟨bb, ⟨vbx, up2, uc2, uq2, ud2⟩, rfl, rfl, rfl, hlk'⟩ := hcut
  obtain ⟨hlkk, hrb, hvo, hva⟩ := hlk'.out
  simp only at hva
  subst hva
  have HLd := hid hlkk
  have HVO := hid hvo
  have HRB := hid hrb
  clear hlk' hlkk hrb hvo HLKc DL1 DL2 DS0 DKF DKE DKG DB2 DB2N HDB HDH HDF HDG HDX DPB DX HRO HRN
  obtain ⟨x0, x1, x2, x3, x4, x5, x6⟩ := cells7 HLd.out.rowa
  obtain ⟨y0, y1, y2, y3, y4, y5, y6⟩ := cells7 HRB.out
  have hsm := same24_any ⟨⟨s1, id1, er1, nu1, tx1, ss1, ds1⟩, vp, vc, vq, vd⟩ ⟨⟨s1, id1, er1, nu1, tx1, ss1, ds1⟩, up2, uc2, uq2, ud2⟩ wc HLd.out.ok HVO.out rfl
  unfold Rp.agg at hsm
  have HSM := hid hsm
  clear hsm
  go_wp2_with fail
  refine HSM.out.mono ?_
  rintro e w5 ⟨rfl, hf5⟩
  have HL5 := hid (HLd.out.kept hf5 (by simp) (by simp) (by simp) (HLd.out.adv.k0 hf5) (fun j hj => (HLd.out.nb j hj).2.2))
  clear hf5 HSM x0 x1 x2 x3 x4 x5 x6 y0 y1 y2 y3 y4 y5 y6
  obtain ⟨x0, x1, x2, x3, x4, x5, x6⟩ := cells7 HL5.out.rowa
  have hsp := spoil24_any ⟨⟨s1, id1, er1, nu1, tx1, ss1, ds1⟩, vp, vc, vq, vd⟩ w5 HL5.out.own ⟨by have := HL5.out.ok.lb; simp only at this ⊢; omega, by have := HL5.out.ok.db; simp only at this ⊢; omega⟩
  unfold Rp.agg at hsp
  have HSP := hid hsp
  clear hsp
  go_wp2_with fail
  refine HSP.out.mono ?_
  rintro e w6 ⟨rfl, hf6⟩
  have HFIN := hid (HL5.out.adv.spoil hf6 (fun j hj => ⟨(HL5.out.nb j hj).1, (HL5.out.nb j hj).2.2⟩))
  clear hf6 HSP x0 x1 x2 x3 x4 x5 x6
  go_wp2_with fail
  first | go_returns | skip
  all_goals first | exact HP.out _ _ HFIN.out ⟨HAL.out, rfl, rfl, rfl⟩ | (simp; exact HP.out _ _ HFIN.out ⟨HAL.out, rfl, rfl, rfl⟩)
end Go.Proofs.Ytbgochkmplacaaa
