/- A reply copied into memory of its own. -/
import Derived.Test.YtbgochkmplacaaaSsD
namespace Go.Proofs.Ytbgochkmplacaaa
open Go.RowKit Go.Lib
set_option maxRecDepth 100000

/-- Stores into one block, one after another. -/
def sets (w : World) (b : Nat) : List (Nat × Value) → World
  | [] => w
  | p :: t => sets (w.setCell ⟨b, p.1, none⟩ p.2) b t
theorem sets_row (b : Nat) (T : TypeId) (l : List (Nat × Value)) : ∀ (w : World) (row : Array Value), w.heap[b]? = some (.cells row T (0, 0)) → (sets w b l).heap[b]? = some (.cells (l.foldl (fun r p => r.setIfInBounds p.1 p.2) row) T (0, 0)) ∧ Frm [b] w (sets w b l) := by
  induction l with
  | nil => intro w row h; exact ⟨h, Frm.refl _ _⟩
  | cons p t ih =>
    intro w row h
    have h1 : (w.setCell ⟨b, p.1, none⟩ p.2).heap[b]? = some (.cells (row.setIfInBounds p.1 p.2) T (0, 0)) := heap_setCell_same _ _ _ _ _ _ h
    obtain ⟨h2, f2⟩ := ih _ _ h1
    exact ⟨h2, ((Frm.refl _ w).setCell _ _ (by simp)).trans f2 (fun i hi _ => hi)⟩
theorem infoStr : (Try.prog.info? 9).map (fun i => (i.zero, i.size, i.bytes)) = some (some (.string ByteArray.empty), 1, 16) := by kernel_rfl
theorem infoE24 : (Try.prog.info? 5).map (fun i => (i.zero, i.size, i.bytes)) = some (some (.int .u8 0), 1, 1) := by kernel_rfl
theorem strs_len (ss : List ByteArray) : (strs ss).length = ss.length := by simp [strs]
theorem strs_one (ss : List ByteArray) : ∀ u ∈ strs ss, u.oneCell' = true := fun u hu => by
  obtain ⟨s, _, rfl⟩ := List.mem_map.1 hu
  rfl
theorem owns_nil {w : World} {E : TypeId} {sz : Nat} {p : Option Addr} {n c m : Nat} {xs : List Value} (h : w.ownsRow 0 E sz (.slice p n c) m xs) (hp : p = none) : c = 0 := by
  rcases h.2 with ⟨he, _⟩ | ⟨g, c', cur, he, _⟩
  · simp only [Value.slice.injEq] at he
    exact he.2.2
  · simp only [Value.slice.injEq] at he
    rw [hp] at he; simp at he
theorem rv_of_owns {w : World} {E : TypeId} {p : Option Addr} {n c : Nat} {xs : List Value} (h : w.ownsRow 0 E 1 (.slice p n c) n xs) (hn : xs.length = n) : Rv w p xs := by
  rcases h.2 with ⟨_, h0⟩ | ⟨g, c', cur, he, _, hg, hc, hm, hs, ht⟩
  · exact Or.inl (List.eq_nil_of_length_eq_zero (by omega))
  · simp only [Value.slice.injEq] at he
    obtain ⟨rfl, _, _⟩ := he
    refine Or.inr ⟨g, 0, rfl, fun i u hu => ?_⟩
    rw [cell_of_row _ _ _ _ _ _ hg, Nat.zero_add]
    rw [← ht, List.getElem?_take] at hu
    split at hu
    · simpa using hu
    · cases hu
/-- A reply whose lists lie in blocks of their own. -/
structure RpOwn (w : World) (v : Rp) : Prop where
  l : w.ownsRow 0 9 1 (.slice v.lp v.x.ss.length v.lc) v.x.ss.length (strs v.x.ss)
  d : Own w 5 (.slice v.dp v.x.ds.length v.dc) v.x.ds
  ne : ∀ k ∈ blk v.lp, k ∉ blk v.dp
theorem RpOwn.kept {w w' : World} {v : Rp} {S : List Nat} (h : RpOwn w v) (hf : Frm S w w') (hn : ∀ k ∈ v.B, k ∉ S) : RpOwn w' v :=
  ⟨ownsRow_kept h.l hf (fun k hk => hn k (by simp [Rp.B, hk])), h.d.kept hf (fun k hk => hn k (by rw [own_blk] at hk; simp [Rp.B, hk])), h.ne⟩
theorem rp0_own (w : World) : RpOwn w rp0 := ⟨⟨rfl, Or.inl ⟨rfl, rfl⟩⟩, Own.nil _ _, by simp [rp0, blk]⟩
set_option maxHeartbeats 6400000 in
theorem copyOfO_any (v : Rp) (w : World) (h : RpOk w v) :
    Calls Try.prog 50 #[v.agg] w fun e w' => ∃ v' : Rp, e = .returned v'.agg ∧ v'.x = v.x ∧ RpOk w' v' ∧ Frm [] w w' ∧ (∀ k ∈ v'.B, w.heap.size ≤ k ∧ k < w'.heap.size) ∧ RpOwn w' v' := by
  obtain ⟨PO, hPO⟩ : ∃ PO : Ending → World → Prop, (fun e w' => ∃ v' : Rp, e = .returned v'.agg ∧ v'.x = v.x ∧ RpOk w' v' ∧ Frm [] w w' ∧ (∀ k ∈ v'.B, w.heap.size ≤ k ∧ k < w'.heap.size) ∧ RpOwn w' v') = PO := ⟨_, rfl⟩
  rw [hPO]
  have HP : Hid (∀ (v' : Rp) w', v'.x = v.x → RpOk w' v' → Frm [] w w' → (∀ k ∈ v'.B, w.heap.size ≤ k ∧ k < w'.heap.size) → RpOwn w' v' → PO (.returned v'.agg) w') := hid (fun v' w' h1 h2 h3 h4 h5 => by rw [← hPO]; exact ⟨v', rfl, h1, h2, h3, h4, h5⟩)
  have HV := hid (fun W (hf : Frm [] w W) => h.kept hf (by simp))
  have HB := hid h.lb
  have HDB := hid h.db
  have HLN := hid h.ln
  have HDN := hid h.dn
  clear h hPO
  obtain ⟨⟨s, id, er, nu, tx, ss, ds⟩, lp, lc, dp, dc⟩ := v
  simp only at HB HDB HLN HDN
  obtain ⟨n, hn⟩ : ∃ q, ss.length = q := ⟨_, rfl⟩
  obtain ⟨m, hm⟩ : ∃ q, ds.length = q := ⟨_, rfl⟩
  have HN := hid hn
  have HM := hid hm
  rw [hn] at HB
  rw [hm] at HDB
  have hb1 := HB.out
  have hb2 := HDB.out
  unfold Rp.agg
  simp only
  rw [hn, hm]
  clear hn hm
  obtain ⟨bx, hbx⟩ : ∃ q, w.heap.size = q := ⟨_, rfl⟩
  obtain ⟨wa, hwa⟩ : ∃ q, (w.alloc (.cells #[.int .i64 s, .int .i64 id, .int .i64 er, .int .i64 nu, .string tx, .slice lp n lc, .slice dp m dc] 61)).alloc (.cells #[.int .i64 0, .int .i64 0, .int .i64 0, .int .i64 0, .string { data := #[] }, .slice none 0 0, .slice none 0 0] 61) = q := ⟨_, rfl⟩
  have hfx : Frm [] w wa := by rw [← hwa]; exact ((Frm.refl _ _).alloc _).alloc _
  have hx : wa.heap[bx]? = some (.cells #[.int .i64 s, .int .i64 id, .int .i64 er, .int .i64 nu, .string tx, .slice lp n lc, .slice dp m dc] 61 (0, 0)) := by
    rw [← hwa]; exact ((Frm.refl [] _).alloc _).heap (heap_alloc_to _ _ hbx) (by simp)
  have hy : wa.heap[bx + 1]? = some (.cells #[.int .i64 0, .int .i64 0, .int .i64 0, .int .i64 0, .string { data := #[] }, .slice none 0 0, .slice none 0 0] 61 (0, 0)) := by
    rw [← hwa]; exact heap_alloc_to _ _ (by simp [hbx])
  have x5 : wa.cell? ⟨bx, 5, none⟩ = some (.slice lp n lc) := by rw [cell_of_row _ _ _ _ _ _ hx]; rfl
  have HFX := hid hfx
  have HX := hid hx
  have HY := hid hy
  have HWA := hid hwa
  have HBX := hid hbx
  clear hwa hbx hfx hx hy
  have HOW : Hid (∀ W : World, W.ownsRow 0 9 1 (.slice none 0 0) 0 []) := hid (fun W => ⟨rfl, Or.inl ⟨rfl, rfl⟩⟩)
  go_enter Try.func50, Try.ntmps50
  go_upto_region 1 with fail
  rw [HBX.out, HWA.out]
  clear HWA
  go_wp2_with (at_builtin; refine wpList_appV rfl _ _ 58 rfl 9 1 16 _ Try.underlying58 infoStr rfl (by decide) none 0 0 [] rfl (HOW.out _) lp n lc (strs ss) rfl (by rw [strs_len, HN.out]; omega) (fun h0 hp => HLN.out (List.eq_nil_of_length_eq_zero (by rw [HN.out]; exact h0)) hp) (HV.out wa HFX.out).l (strs_one _) (by unfold maxLen; omega) (by omega) ?_)
  intro p1 c1 w1 ho1 hf1 hb1'
  have HF1 : Hid (Frm [] wa w1) := hid (by have := hf1.out; simpa [blk] using this)
  have HO1 := hid ho1.out
  have HB1 : Hid (∀ k ∈ blk p1, wa.heap.size ≤ k) := hid (fun k hk => by have := hb1'.out k hk; simpa [blk] using this)
  have hx1 := HF1.out.heap HX.out (by simp)
  have z5 : w1.frozen? ⟨bx, 5, none⟩ = false := frozen_of_row _ _ _ _ _ hx1
  have y5 : w1.cell? ⟨bx, 5, none⟩ = some (.slice lp n lc) := by rw [cell_of_row _ _ _ _ _ _ hx1]; rfl
  have hx2 := heap_setCell_same w1 bx 5 _ _ (.slice p1 n c1) hx1
  obtain ⟨w2, hw2⟩ : ∃ q, w1.setCell ⟨bx, 5, none⟩ (.slice p1 n c1) = q := ⟨_, rfl⟩
  rw [hw2] at hx2
  have HX2 : Hid (w2.heap[bx]? = some (.cells #[.int .i64 s, .int .i64 id, .int .i64 er, .int .i64 nu, .string tx, .slice p1 n c1, .slice dp m dc] 61 (0, 0))) := hid (by simpa using hx2)
  have HF2 : Hid (Frm [bx] w1 w2) := hid (by rw [← hw2]; exact (Frm.refl _ _).setCell _ _ (by simp))
  have HW2 := hid hw2
  have e0 : 0 + n = n := by omega
  try rw [e0]
  clear ho1 hf1 hb1' hx1 hx2 hw2 HX
  go_upto_region 2 with fail
  rw [HW2.out]
  clear HW2 y5 z5 x5
  have hx2 := HX2.out
  have x6 : w2.cell? ⟨bx, 6, none⟩ = some (.slice dp m dc) := by rw [cell_of_row _ _ _ _ _ _ hx2]; rfl
  have HF02 : Hid (Frm [] w w2) := hid ((HFX.out.trans HF1.out (by simp)).trans HF2.out (fun k hk hkl => by simp at hk; have := HBX.out; omega))
  clear hx2
  go_wp2_with (at_builtin; refine wpList_appB rfl _ _ 59 rfl 5 Try.underlying59 infoE24 none 0 0 [] rfl rfl (Own.nil _ _) dp m dc ds rfl HM.out.symm (fun h0 hp => HDN.out h0 hp) (HV.out w2 HF02.out).d (by simp only [List.length_nil]; rw [HM.out]; omega) ?_)
  intro xs p3 c3 w3 hxs ho3 hf3 hb3
  have hx : xs = ds := by simpa using hxs.out
  subst hx
  rw [HM.out]
  have HF3 : Hid (Frm [] w2 w3) := hid (by have := hf3.out; simpa [blk] using this)
  have HO3 := hid ho3.out
  have HB3 : Hid (∀ k ∈ blk p3, w2.heap.size ≤ k) := hid (fun k hk => by have := hb3.out k hk; simpa [blk] using this)
  have hx3 := HF3.out.heap HX2.out (by simp)
  have z6 : w3.frozen? ⟨bx, 6, none⟩ = false := frozen_of_row _ _ _ _ _ hx3
  have y6 : w3.cell? ⟨bx, 6, none⟩ = some (.slice dp m dc) := by rw [cell_of_row _ _ _ _ _ _ hx3]; rfl
  have hx4 := heap_setCell_same w3 bx 6 _ _ (.slice p3 m c3) hx3
  obtain ⟨w4, hw4⟩ : ∃ q, w3.setCell ⟨bx, 6, none⟩ (.slice p3 m c3) = q := ⟨_, rfl⟩
  rw [hw4] at hx4
  have HX4 : Hid (w4.heap[bx]? = some (.cells #[.int .i64 s, .int .i64 id, .int .i64 er, .int .i64 nu, .string tx, .slice p1 n c1, .slice p3 m c3] 61 (0, 0))) := hid (by simpa using hx4)
  have HF4 : Hid (Frm [bx] w3 w4) := hid (by rw [← hw4]; exact (Frm.refl _ _).setCell _ _ (by simp))
  have HW4 := hid hw4
  clear hxs ho3 hf3 hb3 hx3 hx4 hw4 HX2
  go_upto_region 3 with fail
  rw [HW4.out]
  clear HW4 y6 z6 x6
  have hsa := HFX.out.size
  have HLT : Hid (bx + 1 < wa.heap.size ∧ wa.heap.size ≤ w1.heap.size ∧ w1.heap.size ≤ w2.heap.size ∧ w2.heap.size ≤ w3.heap.size) := hid ⟨lt_of_heap HY.out, HF1.out.size, HF2.out.size, HF3.out.size⟩
  have HY4 : Hid (w4.heap[bx + 1]? = some (.cells #[.int .i64 0, .int .i64 0, .int .i64 0, .int .i64 0, .string { data := #[] }, .slice none 0 0, .slice none 0 0] 61 (0, 0))) := hid (HF4.out.heap (HF3.out.heap (HF2.out.heap (HF1.out.heap HY.out (by simp)) (by simp)) (by simp)) (by simp))
  have x0 : w4.cell? ⟨bx, 0, none⟩ = some (.int .i64 s) := by rw [cell_of_row _ _ _ _ _ _ HX4.out]; rfl
  have x1 : w4.cell? ⟨bx, 1, none⟩ = some (.int .i64 id) := by rw [cell_of_row _ _ _ _ _ _ HX4.out]; rfl
  have x2 : w4.cell? ⟨bx, 2, none⟩ = some (.int .i64 er) := by rw [cell_of_row _ _ _ _ _ _ HX4.out]; rfl
  have x3 : w4.cell? ⟨bx, 3, none⟩ = some (.int .i64 nu) := by rw [cell_of_row _ _ _ _ _ _ HX4.out]; rfl
  have x4 : w4.cell? ⟨bx, 4, none⟩ = some (.string tx) := by rw [cell_of_row _ _ _ _ _ _ HX4.out]; rfl
  have x5 : w4.cell? ⟨bx, 5, none⟩ = some (.slice p1 n c1) := by rw [cell_of_row _ _ _ _ _ _ HX4.out]; rfl
  have x6 : w4.cell? ⟨bx, 6, none⟩ = some (.slice p3 m c3) := by rw [cell_of_row _ _ _ _ _ _ HX4.out]; rfl
  have y0 : w4.cell? ⟨bx + 1, 0, none⟩ = some (.int .i64 0) := by rw [cell_of_row _ _ _ _ _ _ HY4.out]; rfl
  have y1 : w4.cell? ⟨bx + 1, 1, none⟩ = some (.int .i64 0) := by rw [cell_of_row _ _ _ _ _ _ HY4.out]; rfl
  have y2 : w4.cell? ⟨bx + 1, 2, none⟩ = some (.int .i64 0) := by rw [cell_of_row _ _ _ _ _ _ HY4.out]; rfl
  have y3 : w4.cell? ⟨bx + 1, 3, none⟩ = some (.int .i64 0) := by rw [cell_of_row _ _ _ _ _ _ HY4.out]; rfl
  have y4 : w4.cell? ⟨bx + 1, 4, none⟩ = some (.string { data := #[] }) := by rw [cell_of_row _ _ _ _ _ _ HY4.out]; rfl
  have y5 : w4.cell? ⟨bx + 1, 5, none⟩ = some (.slice none 0 0) := by rw [cell_of_row _ _ _ _ _ _ HY4.out]; rfl
  have y6 : w4.cell? ⟨bx + 1, 6, none⟩ = some (.slice none 0 0) := by rw [cell_of_row _ _ _ _ _ _ HY4.out]; rfl
  have z0 := frozen_of_row w4 (bx + 1) 0 _ _ HY4.out
  have z1 := frozen_of_row w4 (bx + 1) 1 _ _ HY4.out
  have z2 := frozen_of_row w4 (bx + 1) 2 _ _ HY4.out
  have z3 := frozen_of_row w4 (bx + 1) 3 _ _ HY4.out
  have z4 := frozen_of_row w4 (bx + 1) 4 _ _ HY4.out
  have z5 := frozen_of_row w4 (bx + 1) 5 _ _ HY4.out
  have z6 := frozen_of_row w4 (bx + 1) 6 _ _ HY4.out
  go_wp2_with fail
  obtain ⟨h4, f4⟩ := sets_row (bx + 1) 61 [(0, .int .i64 s), (1, .int .i64 id), (2, .int .i64 er), (3, .int .i64 nu), (4, .string tx), (5, .slice p1 n c1), (6, .slice p3 m c3)] w4 _ HY4.out
  simp only [List.foldl, List.setIfInBounds_toArray, List.set_cons_zero, List.set_cons_succ] at h4
  obtain ⟨wz, hwz⟩ : ∃ wz, sets w4 (bx + 1) [(0, .int .i64 s), (1, .int .i64 id), (2, .int .i64 er), (3, .int .i64 nu), (4, .string tx), (5, .slice p1 n c1), (6, .slice p3 m c3)] = wz := ⟨_, rfl⟩
  rw [hwz] at h4 f4
  have hwz' : ((((((w4.setCell ⟨bx + 1, 0, none⟩ (.int .i64 s)).setCell ⟨bx + 1, 1, none⟩ (.int .i64 id)).setCell ⟨bx + 1, 2, none⟩ (.int .i64 er)).setCell ⟨bx + 1, 3, none⟩ (.int .i64 nu)).setCell ⟨bx + 1, 4, none⟩ (.string tx)).setCell ⟨bx + 1, 5, none⟩ (.slice p1 n c1)).setCell ⟨bx + 1, 6, none⟩ (.slice p3 m c3) = wz := hwz
  rw [hwz']
  have g0 : wz.cell? ⟨bx + 1, 0, none⟩ = some (.int .i64 s) := by rw [cell_of_row wz _ _ _ _ _ h4]; rfl
  have g1 : wz.cell? ⟨bx + 1, 1, none⟩ = some (.int .i64 id) := by rw [cell_of_row wz _ _ _ _ _ h4]; rfl
  have g2 : wz.cell? ⟨bx + 1, 2, none⟩ = some (.int .i64 er) := by rw [cell_of_row wz _ _ _ _ _ h4]; rfl
  have g3 : wz.cell? ⟨bx + 1, 3, none⟩ = some (.int .i64 nu) := by rw [cell_of_row wz _ _ _ _ _ h4]; rfl
  have g4 : wz.cell? ⟨bx + 1, 4, none⟩ = some (.string tx) := by rw [cell_of_row wz _ _ _ _ _ h4]; rfl
  have g5 : wz.cell? ⟨bx + 1, 5, none⟩ = some (.slice p1 n c1) := by rw [cell_of_row wz _ _ _ _ _ h4]; rfl
  have g6 : wz.cell? ⟨bx + 1, 6, none⟩ = some (.slice p3 m c3) := by rw [cell_of_row wz _ _ _ _ _ h4]; rfl
  have hF14 : Frm [bx] w1 w4 := (HF2.out.trans HF3.out (by simp)).trans HF4.out (by simp)
  have hF4z : Frm [bx + 1] w4 wz := f4
  have hLZ : Rv wz p1 (strs ss) := by
    have h1 : w1.ownsRow 0 9 1 (.slice p1 n c1) n (strs ss) := by have := HO1.out; simpa using this
    have h2 : Rv w1 p1 (strs ss) := rv_of_owns h1 (strs_len ss ▸ HN.out)
    have hne : ∀ k ∈ blk p1, k ≠ bx ∧ k ≠ bx + 1 := fun k hk => by have := HB1.out k hk; have := HLT.out.1; omega
    exact (h2.kept hF14 (fun k hk hm => by simp at hm; exact (hne k hk).1 hm)).kept hF4z (fun k hk hm => by simp at hm; exact (hne k hk).2 hm)
  have hDZ : Rd wz p3 xs := by
    have hne : ∀ k ∈ blk p3, k ≠ bx ∧ k ≠ bx + 1 := fun k hk => by have := HB3.out k hk; have := HLT.out; omega
    exact (HO3.out.rd.kept HF4.out (fun k hk hm => by simp at hm; exact (hne k hk).1 hm)).kept hF4z (fun k hk hm => by simp at hm; exact (hne k hk).2 hm)
  have hne1 : ∀ k ∈ blk p1, w.heap.size ≤ k := fun k hk => by have := HB1.out k hk; omega
  have hne3 : ∀ k ∈ blk p3, w.heap.size ≤ k := fun k hk => by have := HB3.out k hk; have := HLT.out; omega
  have hFZ : Frm [] w wz := ((HFX.out.trans HF1.out (by simp)).trans hF14 (fun k hk hkl => by rw [List.mem_singleton] at hk; have := HBX.out; omega)).trans hF4z (fun k hk hkl => by rw [List.mem_singleton] at hk; have := HBX.out; omega)
  have hOZ : RpOwn wz ⟨⟨s, id, er, nu, tx, ss, xs⟩, p1, c1, p3, c3⟩ := by
    have hne : ∀ k ∈ blk p1, k ≠ bx ∧ k ≠ bx + 1 := fun k hk => by have := HB1.out k hk; have := HLT.out.1; omega
    have hne3' : ∀ k ∈ blk p3, k ≠ bx ∧ k ≠ bx + 1 := fun k hk => by have := HB3.out k hk; have := HLT.out; omega
    have hl1 : w1.ownsRow 0 9 1 (.slice p1 n c1) n (strs ss) := by have := HO1.out; simpa using this
    refine ⟨?_, ?_, fun k hk hm => ?_⟩
    · show wz.ownsRow 0 9 1 (.slice p1 ss.length c1) ss.length (strs ss)
      rw [HN.out]
      exact ownsRow_kept (ownsRow_kept hl1 hF14 (fun k hk hm => by simp at hm; exact (hne k hk).1 hm)) hF4z (fun k hk hm => by simp at hm; exact (hne k hk).2 hm)
    · show Own wz 5 (.slice p3 xs.length c3) xs
      rw [HM.out]
      refine ((show Own w3 5 (.slice p3 m c3) xs by have := HO3.out; simpa [HM.out] using this).kept HF4.out (fun k hk hm => ?_)).kept hF4z (fun k hk hm => ?_)
      · rw [own_blk] at hk; simp at hm; exact (hne3' k hk).1 hm
      · rw [own_blk] at hk; simp at hm; exact (hne3' k hk).2 hm
    · have h1 := ownsRow_low hl1 k hk
      have h2 := HB3.out k hm
      have h3 := HLT.out
      omega
  have hfin := HP.out ⟨⟨s, id, er, nu, tx, ss, xs⟩, p1, c1, p3, c3⟩ wz rfl ⟨hLZ, hDZ, fun h0 hp => ?_, fun h0 hp => ?_, by show ss.length * 16 ≤ _; rw [HN.out]; exact HB.out, by show xs.length ≤ _; rw [HM.out]; exact HDB.out⟩ hFZ (fun k hk => by
    simp [Rp.B] at hk
    rcases hk with hk | hk
    · exact ⟨hne1 k hk, by
        have h1 := ownsRow_low (show w1.ownsRow 0 9 1 (.slice p1 n c1) n (strs ss) by have := HO1.out; simpa using this) k hk
        have h2 := hF14.size
        have h3 := hF4z.size
        omega⟩
    · exact ⟨hne3 k hk, by
        have h1 : k < w3.heap.size := by
          have h0 := HO3.out.shape
          obtain ⟨p', c', he, _, _, h5, _⟩ := h0
          simp only [Value.slice.injEq] at he
          obtain ⟨rfl, _, _⟩ := he
          cases p3 with
          | none => simp [blk] at hk
          | some q => simp [blk] at hk; subst hk; exact (h5 q rfl).2.2
        have h2 := HF4.out.size
        have h3 := hF4z.size
        omega⟩) hOZ
  · unfold Rp.agg at hfin
    simp only at hfin
    rw [HN.out, HM.out] at hfin
    exact bodyPost_ret (v := .agg #[.int .i64 s, .int .i64 id, .int .i64 er, .int .i64 nu, .string tx, .slice p1 n c1, .slice p3 m c3]) (by simp [results, Try.results50, go_sem, g0, g1, g2, g3, g4, g5, g6]) rfl hfin
  · exact owns_nil HO1.out hp
  · exact owns_nil HO3.out hp
theorem copyOf_any (v : Rp) (w : World) (h : RpOk w v) :
    Calls Try.prog 50 #[v.agg] w fun e w' => ∃ v' : Rp, e = .returned v'.agg ∧ v'.x = v.x ∧ RpOk w' v' ∧ Frm [] w w' ∧ ∀ k ∈ v'.B, w.heap.size ≤ k ∧ k < w'.heap.size :=
  (copyOfO_any v w h).mono (fun _ _ ⟨v', h1, h2, h3, h4, h5, _⟩ => ⟨v', h1, h2, h3, h4, h5⟩)
end Go.Proofs.Ytbgochkmplacaaa
