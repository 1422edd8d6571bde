/- The law's lent, spoil, all. -/
import Derived.Test.YtbgochkmplacaaaSsX
namespace Go.Proofs.Ytbgochkmplacaaa
open Go.RowKit Go.Lib
set_option maxRecDepth 100000

set_option maxHeartbeats 6400000 in
theorem lent24_any (v : Rp) (w : World) (h : RpOk w v) :
    Calls Try.prog 53 #[v.agg] w fun e w' => ∃ v' : Rp, e = .returned v'.agg ∧ v'.x = v.x ∧ RpOk w' v' ∧ Frm [] w w' ∧ (∀ k ∈ v'.B, w.heap.size ≤ k ∧ k < w'.heap.size) ∧ RpOwn w' v' := by
  obtain ⟨PO, hPO⟩ : ∃ PO : Ending → World → Prop, (fun e w' => ∃ v' : Rp, e = .returned v'.agg ∧ v'.x = v.x ∧ RpOk w' v' ∧ Frm [] w w' ∧ (∀ k ∈ v'.B, w.heap.size ≤ k ∧ k < w'.heap.size) ∧ RpOwn w' v') = PO := ⟨_, rfl⟩
  rw [hPO]
  have HP : Hid (∀ (v' : Rp) w', v'.x = v.x → RpOk w' v' → Frm [] w w' → (∀ k ∈ v'.B, w.heap.size ≤ k ∧ k < w'.heap.size) → RpOwn w' v' → PO (.returned v'.agg) w') := hid (fun v' w' h1 h2 h3 h4 h5 => by rw [← hPO]; exact ⟨v', rfl, h1, h2, h3, h4, h5⟩)
  have HV := hid (fun W (hf : Frm [] w W) => h.kept hf (by simp))
  have HB := hid h.lb
  have HDB := hid h.db
  have HLN := hid h.ln
  have HDN := hid h.dn
  clear h hPO
  obtain ⟨⟨s, id, er, nu, tx, ss, ds⟩, lp, lc, dp, dc⟩ := v
  simp only at HB HDB HLN HDN
  obtain ⟨n, hn⟩ : ∃ q, ss.length = q := ⟨_, rfl⟩
  obtain ⟨m, hm⟩ : ∃ q, ds.length = q := ⟨_, rfl⟩
  have HN := hid hn
  have HM := hid hm
  rw [hn] at HB
  rw [hm] at HDB
  have hb1 := HB.out
  have hb2 := HDB.out
  unfold Rp.agg
  simp only
  rw [hn, hm]
  clear hn hm
  obtain ⟨bx, hbx⟩ : ∃ q, w.heap.size = q := ⟨_, rfl⟩
  obtain ⟨wa, hwa⟩ : ∃ q, (w.alloc (.cells #[.int .i64 s, .int .i64 id, .int .i64 er, .int .i64 nu, .string tx, .slice lp n lc, .slice dp m dc] 61)).alloc (.cells #[.int .i64 0, .int .i64 0, .int .i64 0, .int .i64 0, .string { data := #[] }, .slice none 0 0, .slice none 0 0] 61) = q := ⟨_, rfl⟩
  have hfx : Frm [] w wa := by rw [← hwa]; exact ((Frm.refl _ _).alloc _).alloc _
  have hx : wa.heap[bx]? = some (.cells #[.int .i64 s, .int .i64 id, .int .i64 er, .int .i64 nu, .string tx, .slice lp n lc, .slice dp m dc] 61 (0, 0)) := by
    rw [← hwa]; exact ((Frm.refl [] _).alloc _).heap (heap_alloc_to _ _ hbx) (by simp)
  have hy : wa.heap[bx + 1]? = some (.cells #[.int .i64 0, .int .i64 0, .int .i64 0, .int .i64 0, .string { data := #[] }, .slice none 0 0, .slice none 0 0] 61 (0, 0)) := by
    rw [← hwa]; exact heap_alloc_to _ _ (by simp [hbx])
  have x5 : wa.cell? ⟨bx, 5, none⟩ = some (.slice lp n lc) := by rw [cell_of_row _ _ _ _ _ _ hx]; rfl
  have HFX := hid hfx
  have HX := hid hx
  have HY := hid hy
  have HWA := hid hwa
  have HBX := hid hbx
  clear hwa hbx hfx hx hy
  have HOW : Hid (∀ W : World, W.ownsRow 0 9 1 (.slice none 0 0) 0 []) := hid (fun W => ⟨rfl, Or.inl ⟨rfl, rfl⟩⟩)
  go_enter Try.func53, Try.ntmps53
  go_upto_region 1 with fail
  rw [HBX.out, HWA.out]
  clear HWA
  go_wp2_with (at_builtin; refine wpList_appV rfl _ _ 58 rfl 9 1 16 _ Try.underlying58 infoStr rfl (by decide) none 0 0 [] rfl (HOW.out _) lp n lc (strs ss) rfl (by rw [strs_len, HN.out]; omega) (fun h0 hp => HLN.out (List.eq_nil_of_length_eq_zero (by rw [HN.out]; exact h0)) hp) (HV.out wa HFX.out).l (strs_one _) (by unfold maxLen; omega) (by omega) ?_)
  intro p1 c1 w1 ho1 hf1 hb1'
  have HF1 : Hid (Frm [] wa w1) := hid (by have := hf1.out; simpa [blk] using this)
  have HO1 := hid ho1.out
  have HB1 : Hid (∀ k ∈ blk p1, wa.heap.size ≤ k) := hid (fun k hk => by have := hb1'.out k hk; simpa [blk] using this)
  have hx1 := HF1.out.heap HX.out (by simp)
  have z5 : w1.frozen? ⟨bx, 5, none⟩ = false := frozen_of_row _ _ _ _ _ hx1
  have y5 : w1.cell? ⟨bx, 5, none⟩ = some (.slice lp n lc) := by rw [cell_of_row _ _ _ _ _ _ hx1]; rfl
  have hx2 := heap_setCell_same w1 bx 5 _ _ (.slice p1 n c1) hx1
  obtain ⟨w2, hw2⟩ : ∃ q, w1.setCell ⟨bx, 5, none⟩ (.slice p1 n c1) = q := ⟨_, rfl⟩
  rw [hw2] at hx2
  have HX2 : Hid (w2.heap[bx]? = some (.cells #[.int .i64 s, .int .i64 id, .int .i64 er, .int .i64 nu, .string tx, .slice p1 n c1, .slice dp m dc] 61 (0, 0))) := hid (by simpa using hx2)
  have HF2 : Hid (Frm [bx] w1 w2) := hid (by rw [← hw2]; exact (Frm.refl _ _).setCell _ _ (by simp))
  have HW2 := hid hw2
  have e0 : 0 + n = n := by omega
  try rw [e0]
  clear ho1 hf1 hb1' hx1 hx2 hw2 HX
  go_upto_region 4 with fail
  rw [HW2.out]
  clear HW2 y5 z5 x5
  have hx2 := HX2.out
  have x6 : w2.cell? ⟨bx, 6, none⟩ = some (.slice dp m dc) := by rw [cell_of_row _ _ _ _ _ _ hx2]; rfl
  have HF02 : Hid (Frm [] w w2) := hid ((HFX.out.trans HF1.out (by simp)).trans HF2.out (fun k hk hkl => by simp at hk; have := HBX.out; omega))
  clear hx2
  go_wp2_with (at_builtin; refine wpList_appB rfl _ _ 59 rfl 5 Try.underlying59 infoE24 none 0 0 [] rfl rfl (Own.nil _ _) dp m dc ds rfl HM.out.symm (fun h0 hp => HDN.out h0 hp) (HV.out w2 HF02.out).d (by simp only [List.length_nil]; rw [HM.out]; omega) ?_)
  intro xs p3 c3 w3 hxs ho3 hf3 hb3
  have hx : xs = ds := by simpa using hxs.out
  subst hx
  rw [HM.out]
  have HF3 : Hid (Frm [] w2 w3) := hid (by have := hf3.out; simpa [blk] using this)
  have HO3 := hid ho3.out
  have HB3 : Hid (∀ k ∈ blk p3, w2.heap.size ≤ k) := hid (fun k hk => by have := hb3.out k hk; simpa [blk] using this)
  have hx3 := HF3.out.heap HX2.out (by simp)
  have z6 : w3.frozen? ⟨bx, 6, none⟩ = false := frozen_of_row _ _ _ _ _ hx3
  have y6 : w3.cell? ⟨bx, 6, none⟩ = some (.slice dp m dc) := by rw [cell_of_row _ _ _ _ _ _ hx3]; rfl
  have hx4 := heap_setCell_same w3 bx 6 _ _ (.slice p3 m c3) hx3
  obtain ⟨w4, hw4⟩ : ∃ q, w3.setCell ⟨bx, 6, none⟩ (.slice p3 m c3) = q := ⟨_, rfl⟩
  rw [hw4] at hx4
  have HX4 : Hid (w4.heap[bx]? = some (.cells #[.int .i64 s, .int .i64 id, .int .i64 er, .int .i64 nu, .string tx, .slice p1 n c1, .slice p3 m c3] 61 (0, 0))) := hid (by simpa using hx4)
  have HF4 : Hid (Frm [bx] w3 w4) := hid (by rw [← hw4]; exact (Frm.refl _ _).setCell _ _ (by simp))
  have HW4 := hid hw4
  clear hxs ho3 hf3 hb3 hx3 hx4 hw4 HX2
  go_upto_region 5 with fail
  rw [HW4.out]
  clear HW4 y6 z6 x6
  have hsa := HFX.out.size
  have HLT : Hid (bx + 1 < wa.heap.size ∧ wa.heap.size ≤ w1.heap.size ∧ w1.heap.size ≤ w2.heap.size ∧ w2.heap.size ≤ w3.heap.size) := hid ⟨lt_of_heap HY.out, HF1.out.size, HF2.out.size, HF3.out.size⟩
  have HY4 : Hid (w4.heap[bx + 1]? = some (.cells #[.int .i64 0, .int .i64 0, .int .i64 0, .int .i64 0, .string { data := #[] }, .slice none 0 0, .slice none 0 0] 61 (0, 0))) := hid (HF4.out.heap (HF3.out.heap (HF2.out.heap (HF1.out.heap HY.out (by simp)) (by simp)) (by simp)) (by simp))
  have x0 : w4.cell? ⟨bx, 0, none⟩ = some (.int .i64 s) := by rw [cell_of_row _ _ _ _ _ _ HX4.out]; rfl
  have x1 : w4.cell? ⟨bx, 1, none⟩ = some (.int .i64 id) := by rw [cell_of_row _ _ _ _ _ _ HX4.out]; rfl
  have x2 : w4.cell? ⟨bx, 2, none⟩ = some (.int .i64 er) := by rw [cell_of_row _ _ _ _ _ _ HX4.out]; rfl
  have x3 : w4.cell? ⟨bx, 3, none⟩ = some (.int .i64 nu) := by rw [cell_of_row _ _ _ _ _ _ HX4.out]; rfl
  have x4 : w4.cell? ⟨bx, 4, none⟩ = some (.string tx) := by rw [cell_of_row _ _ _ _ _ _ HX4.out]; rfl
  have x5 : w4.cell? ⟨bx, 5, none⟩ = some (.slice p1 n c1) := by rw [cell_of_row _ _ _ _ _ _ HX4.out]; rfl
  have x6 : w4.cell? ⟨bx, 6, none⟩ = some (.slice p3 m c3) := by rw [cell_of_row _ _ _ _ _ _ HX4.out]; rfl
  have y0 : w4.cell? ⟨bx + 1, 0, none⟩ = some (.int .i64 0) := by rw [cell_of_row _ _ _ _ _ _ HY4.out]; rfl
  have y1 : w4.cell? ⟨bx + 1, 1, none⟩ = some (.int .i64 0) := by rw [cell_of_row _ _ _ _ _ _ HY4.out]; rfl
  have y2 : w4.cell? ⟨bx + 1, 2, none⟩ = some (.int .i64 0) := by rw [cell_of_row _ _ _ _ _ _ HY4.out]; rfl
  have y3 : w4.cell? ⟨bx + 1, 3, none⟩ = some (.int .i64 0) := by rw [cell_of_row _ _ _ _ _ _ HY4.out]; rfl
  have y4 : w4.cell? ⟨bx + 1, 4, none⟩ = some (.string { data := #[] }) := by rw [cell_of_row _ _ _ _ _ _ HY4.out]; rfl
  have y5 : w4.cell? ⟨bx + 1, 5, none⟩ = some (.slice none 0 0) := by rw [cell_of_row _ _ _ _ _ _ HY4.out]; rfl
  have y6 : w4.cell? ⟨bx + 1, 6, none⟩ = some (.slice none 0 0) := by rw [cell_of_row _ _ _ _ _ _ HY4.out]; rfl
  have z0 := frozen_of_row w4 (bx + 1) 0 _ _ HY4.out
  have z1 := frozen_of_row w4 (bx + 1) 1 _ _ HY4.out
  have z2 := frozen_of_row w4 (bx + 1) 2 _ _ HY4.out
  have z3 := frozen_of_row w4 (bx + 1) 3 _ _ HY4.out
  have z4 := frozen_of_row w4 (bx + 1) 4 _ _ HY4.out
  have z5 := frozen_of_row w4 (bx + 1) 5 _ _ HY4.out
  have z6 := frozen_of_row w4 (bx + 1) 6 _ _ HY4.out
  go_wp2_with fail
  obtain ⟨h4, f4⟩ := sets_row (bx + 1) 61 [(0, .int .i64 s), (1, .int .i64 id), (2, .int .i64 er), (3, .int .i64 nu), (4, .string tx), (5, .slice p1 n c1), (6, .slice p3 m c3)] w4 _ HY4.out
  simp only [List.foldl, List.setIfInBounds_toArray, List.set_cons_zero, List.set_cons_succ] at h4
  obtain ⟨wz, hwz⟩ : ∃ wz, sets w4 (bx + 1) [(0, .int .i64 s), (1, .int .i64 id), (2, .int .i64 er), (3, .int .i64 nu), (4, .string tx), (5, .slice p1 n c1), (6, .slice p3 m c3)] = wz := ⟨_, rfl⟩
  rw [hwz] at h4 f4
  have hwz' : ((((((w4.setCell ⟨bx + 1, 0, none⟩ (.int .i64 s)).setCell ⟨bx + 1, 1, none⟩ (.int .i64 id)).setCell ⟨bx + 1, 2, none⟩ (.int .i64 er)).setCell ⟨bx + 1, 3, none⟩ (.int .i64 nu)).setCell ⟨bx + 1, 4, none⟩ (.string tx)).setCell ⟨bx + 1, 5, none⟩ (.slice p1 n c1)).setCell ⟨bx + 1, 6, none⟩ (.slice p3 m c3) = wz := hwz
  rw [hwz']
  have g0 : wz.cell? ⟨bx + 1, 0, none⟩ = some (.int .i64 s) := by rw [cell_of_row wz _ _ _ _ _ h4]; rfl
  have g1 : wz.cell? ⟨bx + 1, 1, none⟩ = some (.int .i64 id) := by rw [cell_of_row wz _ _ _ _ _ h4]; rfl
  have g2 : wz.cell? ⟨bx + 1, 2, none⟩ = some (.int .i64 er) := by rw [cell_of_row wz _ _ _ _ _ h4]; rfl
  have g3 : wz.cell? ⟨bx + 1, 3, none⟩ = some (.int .i64 nu) := by rw [cell_of_row wz _ _ _ _ _ h4]; rfl
  have g4 : wz.cell? ⟨bx + 1, 4, none⟩ = some (.string tx) := by rw [cell_of_row wz _ _ _ _ _ h4]; rfl
  have g5 : wz.cell? ⟨bx + 1, 5, none⟩ = some (.slice p1 n c1) := by rw [cell_of_row wz _ _ _ _ _ h4]; rfl
  have g6 : wz.cell? ⟨bx + 1, 6, none⟩ = some (.slice p3 m c3) := by rw [cell_of_row wz _ _ _ _ _ h4]; rfl
  have hF14 : Frm [bx] w1 w4 := (HF2.out.trans HF3.out (by simp)).trans HF4.out (by simp)
  have hF4z : Frm [bx + 1] w4 wz := f4
  have hLZ : Rv wz p1 (strs ss) := by
    have h1 : w1.ownsRow 0 9 1 (.slice p1 n c1) n (strs ss) := by have := HO1.out; simpa using this
    have h2 : Rv w1 p1 (strs ss) := rv_of_owns h1 (strs_len ss ▸ HN.out)
    have hne : ∀ k ∈ blk p1, k ≠ bx ∧ k ≠ bx + 1 := fun k hk => by have := HB1.out k hk; have := HLT.out.1; omega
    exact (h2.kept hF14 (fun k hk hm => by simp at hm; exact (hne k hk).1 hm)).kept hF4z (fun k hk hm => by simp at hm; exact (hne k hk).2 hm)
  have hDZ : Rd wz p3 xs := by
    have hne : ∀ k ∈ blk p3, k ≠ bx ∧ k ≠ bx + 1 := fun k hk => by have := HB3.out k hk; have := HLT.out; omega
    exact (HO3.out.rd.kept HF4.out (fun k hk hm => by simp at hm; exact (hne k hk).1 hm)).kept hF4z (fun k hk hm => by simp at hm; exact (hne k hk).2 hm)
  have hne1 : ∀ k ∈ blk p1, w.heap.size ≤ k := fun k hk => by have := HB1.out k hk; omega
  have hne3 : ∀ k ∈ blk p3, w.heap.size ≤ k := fun k hk => by have := HB3.out k hk; have := HLT.out; omega
  have hFZ : Frm [] w wz := ((HFX.out.trans HF1.out (by simp)).trans hF14 (fun k hk hkl => by rw [List.mem_singleton] at hk; have := HBX.out; omega)).trans hF4z (fun k hk hkl => by rw [List.mem_singleton] at hk; have := HBX.out; omega)
  have hOZ : RpOwn wz ⟨⟨s, id, er, nu, tx, ss, xs⟩, p1, c1, p3, c3⟩ := by
    have hne : ∀ k ∈ blk p1, k ≠ bx ∧ k ≠ bx + 1 := fun k hk => by have := HB1.out k hk; have := HLT.out.1; omega
    have hne3' : ∀ k ∈ blk p3, k ≠ bx ∧ k ≠ bx + 1 := fun k hk => by have := HB3.out k hk; have := HLT.out; omega
    have hl1 : w1.ownsRow 0 9 1 (.slice p1 n c1) n (strs ss) := by have := HO1.out; simpa using this
    refine ⟨?_, ?_, fun k hk hm => ?_⟩
    · show wz.ownsRow 0 9 1 (.slice p1 ss.length c1) ss.length (strs ss)
      rw [HN.out]
      exact ownsRow_kept (ownsRow_kept hl1 hF14 (fun k hk hm => by simp at hm; exact (hne k hk).1 hm)) hF4z (fun k hk hm => by simp at hm; exact (hne k hk).2 hm)
    · show Own wz 5 (.slice p3 xs.length c3) xs
      rw [HM.out]
      refine ((show Own w3 5 (.slice p3 m c3) xs by have := HO3.out; simpa [HM.out] using this).kept HF4.out (fun k hk hm => ?_)).kept hF4z (fun k hk hm => ?_)
      · rw [own_blk] at hk; simp at hm; exact (hne3' k hk).1 hm
      · rw [own_blk] at hk; simp at hm; exact (hne3' k hk).2 hm
    · have h1 := ownsRow_low hl1 k hk
      have h2 := HB3.out k hm
      have h3 := HLT.out
      omega
  have hfin := HP.out ⟨⟨s, id, er, nu, tx, ss, xs⟩, p1, c1, p3, c3⟩ wz rfl ⟨hLZ, hDZ, fun h0 hp => ?_, fun h0 hp => ?_, by show ss.length * 16 ≤ _; rw [HN.out]; exact HB.out, by show xs.length ≤ _; rw [HM.out]; exact HDB.out⟩ hFZ (fun k hk => by
    simp [Rp.B] at hk
    rcases hk with hk | hk
    · exact ⟨hne1 k hk, by
        have h1 := ownsRow_low (show w1.ownsRow 0 9 1 (.slice p1 n c1) n (strs ss) by have := HO1.out; simpa using this) k hk
        have h2 := hF14.size
        have h3 := hF4z.size
        omega⟩
    · exact ⟨hne3 k hk, by
        have h1 : k < w3.heap.size := by
          have h0 := HO3.out.shape
          obtain ⟨p', c', he, _, _, h5, _⟩ := h0
          simp only [Value.slice.injEq] at he
          obtain ⟨rfl, _, _⟩ := he
          cases p3 with
          | none => simp [blk] at hk
          | some q => simp [blk] at hk; subst hk; exact (h5 q rfl).2.2
        have h2 := HF4.out.size
        have h3 := hF4z.size
        omega⟩) hOZ
  · unfold Rp.agg at hfin
    simp only at hfin
    rw [HN.out, HM.out] at hfin
    exact bodyPost_ret (v := .agg #[.int .i64 s, .int .i64 id, .int .i64 er, .int .i64 nu, .string tx, .slice p1 n c1, .slice p3 m c3]) (by simp [results, Try.results53, go_sem, g0, g1, g2, g3, g4, g5, g6]) rfl hfin
  · exact owns_nil HO1.out hp
  · exact owns_nil HO3.out hp
/-- A list of one's own is a block that may be written. -/
theorem owns_block {w : World} {T : TypeId} {p : Option Addr} {n c : Nat} {xs : List Value} (h : w.ownsRow 0 T 1 (.slice p n c) n xs) : n = 0 ∨ ∃ g cur, p = some ⟨g, 0, none⟩ ∧ w.heap[g]? = some (.cells cur T (0, 0)) ∧ n ≤ cur.size := by
  rcases h.2 with ⟨_, h0⟩ | ⟨g, c', cur, he, _, hg, hc, hm, hs, ht⟩
  · exact Or.inl h0
  · simp only [Value.slice.injEq] at he
    exact Or.inr ⟨g, cur, he.1, hg, by omega⟩
set_option maxHeartbeats 6400000 in
theorem spoil24_any (v : Rp) (w : World) (h : RpOwn w v) (hb : v.x.ss.length ≤ 4611686018427387904 ∧ v.x.ds.length ≤ 4611686018427387904) :
    Calls Try.prog 55 #[v.agg] w fun e w' => e = .returned (.tuple #[]) ∧ Frm v.B w w' := by
  obtain ⟨PO, hPO⟩ : ∃ PO : Ending → World → Prop, (fun e w' => e = .returned (.tuple #[]) ∧ Frm v.B w w') = PO := ⟨_, rfl⟩
  rw [hPO]
  have HP : Hid (∀ w', Frm v.B w w' → PO (.returned (.tuple #[])) w') := hid (fun w' h1 => by rw [← hPO]; exact ⟨rfl, h1⟩)
  obtain ⟨⟨s, id, er, nu, tx, ss, ds⟩, lp, lc, dp, dc⟩ := v
  unfold Rp.agg
  simp only at hb
  simp only [Rp.B] at HP
  simp only
  obtain ⟨n, hn⟩ : ∃ q, ss.length = q := ⟨_, rfl⟩
  obtain ⟨m, hm⟩ : ∃ q, ds.length = q := ⟨_, rfl⟩
  have hL := owns_block h.l
  have hD : m = 0 ∨ ∃ g cur, dp = some ⟨g, 0, none⟩ ∧ w.heap[g]? = some (.cells cur 5 (0, 0)) ∧ m ≤ cur.size := by
    have h1 := h.d
    unfold Own at h1
    have h2 : (Value.slice dp ds.length dc) = .slice dp m dc := by rw [hm]
    rw [h2, hm] at h1
    exact owns_block h1
  simp only at hL
  have hne := h.ne
  simp only at hne
  rw [hn] at hL hb ⊢
  rw [hm] at hb ⊢
  obtain ⟨hb1, hb2⟩ := hb
  obtain ⟨bx, hbx⟩ : ∃ q, w.heap.size = q := ⟨_, rfl⟩
  obtain ⟨wa, hwa⟩ : ∃ q, w.alloc (.cells #[.int .i64 s, .int .i64 id, .int .i64 er, .int .i64 nu, .string tx, .slice lp n lc, .slice dp m dc] 61) = q := ⟨_, rfl⟩
  have hfx : Frm [] w wa := by rw [← hwa]; exact (Frm.refl _ _).alloc _
  have HX : Hid (wa.heap[bx]? = some (.cells #[.int .i64 s, .int .i64 id, .int .i64 er, .int .i64 nu, .string tx, .slice lp n lc, .slice dp m dc] 61 (0, 0))) := hid (by rw [← hwa]; exact heap_alloc_to _ _ hbx)
  have HLB : Hid (n = 0 ∨ ∃ g cur, lp = some ⟨g, 0, none⟩ ∧ wa.heap[g]? = some (.cells cur 9 (0, 0)) ∧ n ≤ cur.size) := hid (hL.imp (fun h => h) (fun ⟨g, cur, h1, h2, h3⟩ => ⟨g, cur, h1, hfx.heap h2 (by simp), h3⟩))
  have HDB : Hid (m = 0 ∨ ∃ g cur, dp = some ⟨g, 0, none⟩ ∧ wa.heap[g]? = some (.cells cur 5 (0, 0)) ∧ m ≤ cur.size) := hid (hD.imp (fun h => h) (fun ⟨g, cur, h1, h2, h3⟩ => ⟨g, cur, h1, hfx.heap h2 (by simp), h3⟩))
  have HLN : Hid (n ≠ 0 → ∀ k ∈ blk lp, k ≠ bx) := hid (fun h0 k hk e => by
    rcases hL with h | ⟨g, cur, h1, h2, h3⟩
    · exact h0 h
    · rw [h1] at hk; simp [blk] at hk; have := lt_of_heap h2; omega)
  have HDN : Hid (m ≠ 0 → ∀ k ∈ blk dp, k ≠ bx) := hid (fun h0 k hk e => by
    rcases hD with h | ⟨g, cur, h1, h2, h3⟩
    · exact h0 h
    · rw [h1] at hk; simp [blk] at hk; have := lt_of_heap h2; omega)
  have HNE := hid hne
  have HFX := hid hfx
  have HWA := hid hwa
  have HBX := hid hbx
  clear hPO h hL hD hne hn hm hbx hwa hfx
  go_enter Try.func55, Try.ntmps55
  go_upto_region 1 with fail
  rw [HBX.out, HWA.out]
  clear HWA
  go_wp2_with fail
  go_loopw [2] (fun i wr => ∃ t : Nat, t ≤ n ∧ i = .int .i64 (t : Int) ∧ Hid (Frm (blk lp) wa wr ∧ wr.heap[bx]? = some (.cells #[.int .i64 s, .int .i64 id, .int .i64 er, .int .i64 nu, .string tx, .slice lp n lc, .slice dp m dc] 61 (0, 0)) ∧ (n = 0 ∨ ∃ g cur, lp = some ⟨g, 0, none⟩ ∧ wr.heap[g]? = some (.cells cur 9 (0, 0)) ∧ n ≤ cur.size))) (fun i _ => n - (intOf i).toNat)
  case atStart => exact ⟨0, Nat.zero_le _, rfl, hid ⟨Frm.refl _ _, HX.out, HLB.out⟩⟩
  case round =>
    obtain ⟨t, ht, rfl, hin⟩ := hrel
    have x5 : wr.cell? ⟨bx, 5, none⟩ = some (.slice lp n lc) := by rw [cell_of_row _ _ _ _ _ _ hin.out.2.1]; rfl
    by_cases hlt : t < n
    · have t1 : (t : Int) < (n : Int) := by omega
      obtain ⟨g, cur, rfl, hg, hcs⟩ : ∃ g cur, lp = some ⟨g, 0, none⟩ ∧ wr.heap[g]? = some (.cells cur 9 (0, 0)) ∧ n ≤ cur.size := by
        rcases hin.out.2.2 with h | h
        · omega
        · exact h
      have y0 : wr.cell? ⟨g, t, none⟩ = some cur[t] := by rw [cell_of_row _ _ _ _ _ _ hg]; simp
      have z0 := frozen_of_row wr g t _ _ hg
      have h2 := heap_setCell_same wr g t _ _ (.string { data := #[63] }) hg
      have HIN2 : Hid (Frm (blk (some ⟨g, 0, none⟩)) wa (wr.setCell ⟨g, t, none⟩ (.string { data := #[63] })) ∧ (wr.setCell ⟨g, t, none⟩ (.string { data := #[63] })).heap[bx]? = some (.cells #[.int .i64 s, .int .i64 id, .int .i64 er, .int .i64 nu, .string tx, .slice (some ⟨g, 0, none⟩) n lc, .slice dp m dc] 61 (0, 0)) ∧ (n = 0 ∨ ∃ g' cur, (some ⟨g, 0, none⟩ : Option Addr) = some ⟨g', 0, none⟩ ∧ (wr.setCell ⟨g, t, none⟩ (.string { data := #[63] })).heap[g']? = some (.cells cur 9 (0, 0)) ∧ n ≤ cur.size)) := hid (by
        have hf : Frm (blk (some ⟨g, 0, none⟩)) wr (wr.setCell ⟨g, t, none⟩ (.string { data := #[63] })) := (Frm.refl _ _).setCell _ _ (by simp [blk])
        exact ⟨hin.out.1.trans hf (fun k hk _ => hk), hf.heap hin.out.2.1 (fun hm => HLN.out (by omega) bx hm rfl), Or.inr ⟨g, _, rfl, h2, by simpa using hcs⟩⟩)
      clear hg h2 hin
      go_wp2_with fail
      go_roundw
      case rel => exact ⟨t + 1, by omega, by go_num, HIN2⟩
      case measure => first | (simp [intOf]; done) | (simp [intOf]; omega)
    · obtain rfl : n = t := by omega
      have HF1 := hid hin.out.1
      have HX1 := hid hin.out.2.1
      have HDB1 : Hid (m = 0 ∨ ∃ g cur, dp = some ⟨g, 0, none⟩ ∧ wr.heap[g]? = some (.cells cur 5 (0, 0)) ∧ m ≤ cur.size) := hid (by
        rcases HDB.out with h | ⟨g, cur, h1, h2, h3⟩
        · exact Or.inl h
        · by_cases hm0 : m = 0
          · exact Or.inl hm0
          · refine Or.inr ⟨g, cur, h1, hin.out.1.heap h2 (fun hm => HNE.out g hm (by rw [h1]; simp [blk])), h3⟩)
      clear hin HDB
      go_wp2_with fail
      clear x5
      obtain ⟨wm, rfl⟩ : ∃ q, q = wr := ⟨_, rfl⟩
      go_loopw [3] (fun i w2 => ∃ t : Nat, t ≤ m ∧ i = .int .i64 (t : Int) ∧ Hid (Frm (blk dp) wm w2 ∧ w2.heap[bx]? = some (.cells #[.int .i64 s, .int .i64 id, .int .i64 er, .int .i64 nu, .string tx, .slice lp n lc, .slice dp m dc] 61 (0, 0)) ∧ (m = 0 ∨ ∃ g cur, dp = some ⟨g, 0, none⟩ ∧ w2.heap[g]? = some (.cells cur 5 (0, 0)) ∧ m ≤ cur.size))) (fun i _ => m - (intOf i).toNat)
      case atStart => exact ⟨0, Nat.zero_le _, rfl, hid ⟨Frm.refl _ _, HX1.out, HDB1.out⟩⟩
      case round =>
        obtain ⟨t, ht, rfl, hin⟩ := hrel
        have x6 : wr.cell? ⟨bx, 6, none⟩ = some (.slice dp m dc) := by rw [cell_of_row _ _ _ _ _ _ hin.out.2.1]; rfl
        by_cases hlt2 : t < m
        · have t1 : (t : Int) < (m : Int) := by omega
          obtain ⟨g, cur, rfl, hg, hcs⟩ : ∃ g cur, dp = some ⟨g, 0, none⟩ ∧ wr.heap[g]? = some (.cells cur 5 (0, 0)) ∧ m ≤ cur.size := by
            rcases hin.out.2.2 with h | h
            · omega
            · exact h
          have y0 : wr.cell? ⟨g, t, none⟩ = some cur[t] := by rw [cell_of_row _ _ _ _ _ _ hg]; simp
          have z0 := frozen_of_row wr g t _ _ hg
          have h2 := heap_setCell_same wr g t _ _ (.int .u8 99) hg
          have HIN2 : Hid (Frm (blk (some ⟨g, 0, none⟩)) wm (wr.setCell ⟨g, t, none⟩ (.int .u8 99)) ∧ (wr.setCell ⟨g, t, none⟩ (.int .u8 99)).heap[bx]? = some (.cells #[.int .i64 s, .int .i64 id, .int .i64 er, .int .i64 nu, .string tx, .slice lp n lc, .slice (some ⟨g, 0, none⟩) m dc] 61 (0, 0)) ∧ (m = 0 ∨ ∃ g' cur, (some ⟨g, 0, none⟩ : Option Addr) = some ⟨g', 0, none⟩ ∧ (wr.setCell ⟨g, t, none⟩ (.int .u8 99)).heap[g']? = some (.cells cur 5 (0, 0)) ∧ m ≤ cur.size)) := hid (by
            have hf : Frm (blk (some ⟨g, 0, none⟩)) wr (wr.setCell ⟨g, t, none⟩ (.int .u8 99)) := (Frm.refl _ _).setCell _ _ (by simp [blk])
            exact ⟨hin.out.1.trans hf (fun k hk _ => hk), hf.heap hin.out.2.1 (fun hm => HDN.out (by omega) bx hm rfl), Or.inr ⟨g, _, rfl, h2, by simpa using hcs⟩⟩)
          clear hg h2 hin
          go_wp2_with fail
          go_roundw
          case rel => exact ⟨t + 1, by omega, by go_num, HIN2⟩
          case measure => first | (simp [intOf]; done) | (simp [intOf]; omega)
        · have HF2 := hid hin.out.1
          clear hin
          go_wp2_with fail
          first | go_returns | skip
          exact HP.out _ (((HFX.out.mono (by simp)).trans (HF1.out.mono (fun k hk _ => by simp [hk])) (fun k hk _ => hk)).trans (HF2.out.mono (T := blk lp ++ blk dp) (fun k hk _ => by simp [hk])) (fun k hk _ => hk))
/-- Replies that can be read, and lists of them, that say the same. -/
theorem alls24_any (pa pb : Option Addr) (n ca cb : Nat) (la lb : List Rp) (w : World) (ha : Rv w pa (rowsR la)) (hb : Rv w pb (rowsR lb)) (hna : la.length = n) (hnb : lb.length = n) (hoa : ∀ v ∈ la, RpOk w v) (hob : ∀ v ∈ lb, RpOk w v) (he : la.map Rp.x = lb.map Rp.x) (hm : n ≤ 4611686018427387904) :
    Calls Try.prog 60 #[.slice pa n ca, .slice pb n cb] w fun e w' => e = .returned (.bool true) ∧ Frm [] w w' := by
  obtain ⟨PO, hPO⟩ : ∃ PO : Ending → World → Prop, (fun e w' => e = .returned (.bool true) ∧ Frm [] w w') = PO := ⟨_, rfl⟩
  rw [hPO]
  have HP : Hid (∀ w', Frm [] w w' → PO (.returned (.bool true)) w') := hid (fun w' h => by rw [← hPO]; exact ⟨rfl, h⟩)
  have HA := hid (fun W (hf : Frm [] w W) => ha.kept hf (by simp))
  have HB := hid (fun W (hf : Frm [] w W) => hb.kept hf (by simp))
  have HOA := hid (fun v hv W (hf : Frm [] w W) => (hoa v hv).kept hf (by simp))
  have HOB := hid (fun v hv W (hf : Frm [] w W) => (hob v hv).kept hf (by simp))
  have HNA := hid hna
  have HNB := hid hnb
  have HE := hid he
  clear ha hb hoa hob hna hnb he hPO
  go_enter Try.func60, Try.ntmps60
  go_wp2_with fail
  go_loopw [5, 4] (fun i s4 wr => ∃ t : Nat, t ≤ n ∧ i = .int .i64 (t : Int) ∧ s4 = .bool false ∧ Hid (Frm [] w wr)) (fun i _ _ => n - (intOf i).toNat)
  case atStart => exact ⟨0, Nat.zero_le _, rfl, rfl, hid (Frm.refl _ _)⟩
  case round =>
    obtain ⟨t, ht, rfl, rfl, hin⟩ := hrel
    by_cases hlt : t < n
    · have t1 : (t : Int) < (n : Int) := by omega
      obtain ⟨u, hu⟩ : ∃ u, la[t]? = some u := ⟨_, List.getElem?_eq_getElem (by rw [HNA.out]; exact hlt)⟩
      obtain ⟨v, hv⟩ : ∃ v, lb[t]? = some v := ⟨_, List.getElem?_eq_getElem (by rw [HNB.out]; exact hlt)⟩
      have hx : u.x = v.x := by
        have h1 : (la.map Rp.x)[t]? = some u.x := by rw [List.getElem?_map, hu]; rfl
        have h2 : (lb.map Rp.x)[t]? = some v.x := by rw [List.getElem?_map, hv]; rfl
        rw [HE.out, h2] at h1
        exact (Option.some.inj h1).symm
      have hra := HA.out wr hin.out
      have hrb := HB.out wr hin.out
      rcases hra with h0 | ⟨g, o, rfl, hca⟩
      · exact absurd (rowsR_get la t u hu 0 _ rfl) (by rw [h0]; simp)
      rcases hrb with h0 | ⟨g', o', rfl, hcb⟩
      · exact absurd (rowsR_get lb t v hv 0 _ rfl) (by rw [h0]; simp)
      have HS := hid (fun W (hf : Frm [] w W) => same24_any u v W (HOA.out u (List.mem_of_getElem? hu) W hf) (HOB.out v (List.mem_of_getElem? hv) W hf) hx)
      have q0 : wr.cell? ⟨g, o + t * 7, none⟩ = some (.int .i64 u.x.s) := hca _ _ (rowsR_get la t u hu 0 _ rfl)
      have q1 : wr.cell? ⟨g, o + t * 7 + 1, none⟩ = some (.int .i64 u.x.id) := hca _ _ (rowsR_get la t u hu 1 _ rfl)
      have q2 : wr.cell? ⟨g, o + t * 7 + 2, none⟩ = some (.int .i64 u.x.er) := hca _ _ (rowsR_get la t u hu 2 _ rfl)
      have q3 : wr.cell? ⟨g, o + t * 7 + 3, none⟩ = some (.int .i64 u.x.nu) := hca _ _ (rowsR_get la t u hu 3 _ rfl)
      have q4 : wr.cell? ⟨g, o + t * 7 + 4, none⟩ = some (.string u.x.tx) := hca _ _ (rowsR_get la t u hu 4 _ rfl)
      have q5 : wr.cell? ⟨g, o + t * 7 + 5, none⟩ = some (.slice u.lp u.x.ss.length u.lc) := hca _ _ (rowsR_get la t u hu 5 _ rfl)
      have q6 : wr.cell? ⟨g, o + t * 7 + 6, none⟩ = some (.slice u.dp u.x.ds.length u.dc) := hca _ _ (rowsR_get la t u hu 6 _ rfl)
      have r0 : wr.cell? ⟨g', o' + t * 7, none⟩ = some (.int .i64 v.x.s) := hcb _ _ (rowsR_get lb t v hv 0 _ rfl)
      have r1 : wr.cell? ⟨g', o' + t * 7 + 1, none⟩ = some (.int .i64 v.x.id) := hcb _ _ (rowsR_get lb t v hv 1 _ rfl)
      have r2 : wr.cell? ⟨g', o' + t * 7 + 2, none⟩ = some (.int .i64 v.x.er) := hcb _ _ (rowsR_get lb t v hv 2 _ rfl)
      have r3 : wr.cell? ⟨g', o' + t * 7 + 3, none⟩ = some (.int .i64 v.x.nu) := hcb _ _ (rowsR_get lb t v hv 3 _ rfl)
      have r4 : wr.cell? ⟨g', o' + t * 7 + 4, none⟩ = some (.string v.x.tx) := hcb _ _ (rowsR_get lb t v hv 4 _ rfl)
      have r5 : wr.cell? ⟨g', o' + t * 7 + 5, none⟩ = some (.slice v.lp v.x.ss.length v.lc) := hcb _ _ (rowsR_get lb t v hv 5 _ rfl)
      have r6 : wr.cell? ⟨g', o' + t * 7 + 6, none⟩ = some (.slice v.dp v.x.ds.length v.dc) := hcb _ _ (rowsR_get lb t v hv 6 _ rfl)
      obtain ⟨⟨s, id, er, nu, tx, ss, ds⟩, lp, lc, dp, dc⟩ := u
      obtain ⟨⟨s2, id2, er2, nu2, tx2, ss2, ds2⟩, lp2, lc2, dp2, dc2⟩ := v
      unfold Rp.agg at HS
      simp only at HS q0 q1 q2 q3 q4 q5 q6 r0 r1 r2 r3 r4 r5 r6
      clear hca hcb hu hv hx
      have hs0 : wr.drew.cell? ⟨g, o + t * 7, none⟩ = some (.int .i64 s) ∧ wr.drew.cell? ⟨g, o + t * 7 + 1, none⟩ = some (.int .i64 id) ∧ wr.drew.cell? ⟨g, o + t * 7 + 2, none⟩ = some (.int .i64 er) ∧ wr.drew.cell? ⟨g, o + t * 7 + 3, none⟩ = some (.int .i64 nu) ∧ wr.drew.cell? ⟨g, o + t * 7 + 4, none⟩ = some (.string tx) ∧ wr.drew.cell? ⟨g, o + t * 7 + 5, none⟩ = some (.slice lp ss.length lc) ∧ wr.drew.cell? ⟨g, o + t * 7 + 6, none⟩ = some (.slice dp ds.length dc) ∧ wr.drew.cell? ⟨g', o' + t * 7, none⟩ = some (.int .i64 s2) ∧ wr.drew.cell? ⟨g', o' + t * 7 + 1, none⟩ = some (.int .i64 id2) ∧ wr.drew.cell? ⟨g', o' + t * 7 + 2, none⟩ = some (.int .i64 er2) ∧ wr.drew.cell? ⟨g', o' + t * 7 + 3, none⟩ = some (.int .i64 nu2) ∧ wr.drew.cell? ⟨g', o' + t * 7 + 4, none⟩ = some (.string tx2) ∧ wr.drew.cell? ⟨g', o' + t * 7 + 5, none⟩ = some (.slice lp2 ss2.length lc2) ∧ wr.drew.cell? ⟨g', o' + t * 7 + 6, none⟩ = some (.slice dp2 ds2.length dc2) ∧ Frm [] w wr.drew := ⟨q0, q1, q2, q3, q4, q5, q6, r0, r1, r2, r3, r4, r5, r6, hin.out.drew⟩
      clear q0 q1 q2 q3 q4 q5 q6 r0 r1 r2 r3 r4 r5 r6
      go_upto_region 6 with fail
      refine wp_region_tail (S := fun W => (W.cell? ⟨g, o + t * 7, none⟩ = some (.int .i64 s) ∧ W.cell? ⟨g, o + t * 7 + 1, none⟩ = some (.int .i64 id) ∧ W.cell? ⟨g, o + t * 7 + 2, none⟩ = some (.int .i64 er) ∧ W.cell? ⟨g, o + t * 7 + 3, none⟩ = some (.int .i64 nu) ∧ W.cell? ⟨g, o + t * 7 + 4, none⟩ = some (.string tx) ∧ W.cell? ⟨g, o + t * 7 + 5, none⟩ = some (.slice lp ss.length lc) ∧ W.cell? ⟨g, o + t * 7 + 6, none⟩ = some (.slice dp ds.length dc) ∧ W.cell? ⟨g', o' + t * 7, none⟩ = some (.int .i64 s2) ∧ W.cell? ⟨g', o' + t * 7 + 1, none⟩ = some (.int .i64 id2) ∧ W.cell? ⟨g', o' + t * 7 + 2, none⟩ = some (.int .i64 er2) ∧ W.cell? ⟨g', o' + t * 7 + 3, none⟩ = some (.int .i64 nu2) ∧ W.cell? ⟨g', o' + t * 7 + 4, none⟩ = some (.string tx2) ∧ W.cell? ⟨g', o' + t * 7 + 5, none⟩ = some (.slice lp2 ss2.length lc2) ∧ W.cell? ⟨g', o' + t * 7 + 6, none⟩ = some (.slice dp2 ds2.length dc2) ∧ Frm [] w W)) 9 10 rfl (by kernel_rfl) (by kernel_rfl) ?_
      refine wpAnyHT_take (i := 0) (oi := _) (v := ?_) (by kernel_rfl) rfl (by kernel_rfl) (by kernel_rfl) (by kernel_rfl) (by kernel_rfl) (fun _ _ _ h => h) (Or.inl ⟨by rfl, ?_⟩) hs0 ?_
      rotate_left 1
      · (intro W hSw; obtain ⟨s0, s1, s2, s3, s4, s5, s6, s7, s8, s9, s10, s11, s12, s13, s14⟩ := hSw; (try simp only [List.getElem_toArray, List.getElem_cons_zero]); go_simp; try with_reducible rfl)
      try simp only [List.getElem_toArray, List.getElem_cons_zero, Act.put, List.setIfInBounds_toArray, List.set_cons_zero, List.set_cons_succ]
      refine wpAnyHT_take (i := 1) (oi := _) (v := ?_) (by kernel_rfl) rfl (by kernel_rfl) (by kernel_rfl) (by kernel_rfl) (by kernel_rfl) (fun _ _ _ h => h) (Or.inl ⟨by rfl, ?_⟩) hs0 ?_
      rotate_left 1
      · (intro W hSw; obtain ⟨s0, s1, s2, s3, s4, s5, s6, s7, s8, s9, s10, s11, s12, s13, s14⟩ := hSw; (try simp only [List.getElem_toArray, List.getElem_cons_succ, List.getElem_cons_zero]); go_simp; try with_reducible rfl)
      try simp only [List.getElem_toArray, List.getElem_cons_succ, List.getElem_cons_zero, Act.put, List.setIfInBounds_toArray, List.set_cons_zero, List.set_cons_succ]
      refine wpAnyHT_take (i := 2) (oi := _) (v := ?_) (by kernel_rfl) rfl (by kernel_rfl) (by kernel_rfl) (by kernel_rfl) (by kernel_rfl) (fun _ _ _ h => h) (Or.inl ⟨by rfl, ?_⟩) hs0 ?_
      rotate_left 1
      · (intro W hSw; obtain ⟨s0, s1, s2, s3, s4, s5, s6, s7, s8, s9, s10, s11, s12, s13, s14⟩ := hSw; (try simp only [List.getElem_toArray, List.getElem_cons_succ, List.getElem_cons_zero]); go_simp; try with_reducible rfl)
      try simp only [List.getElem_toArray, List.getElem_cons_succ, List.getElem_cons_zero, Act.put, List.setIfInBounds_toArray, List.set_cons_zero, List.set_cons_succ]
      refine wpAnyHT_take (i := 3) (oi := _) (v := ?_) (by kernel_rfl) rfl (by kernel_rfl) (by kernel_rfl) (by kernel_rfl) (by kernel_rfl) (fun _ _ _ h => h) (Or.inl ⟨by rfl, ?_⟩) hs0 ?_
      rotate_left 1
      · (intro W hSw; obtain ⟨s0, s1, s2, s3, s4, s5, s6, s7, s8, s9, s10, s11, s12, s13, s14⟩ := hSw; (try simp only [List.getElem_toArray, List.getElem_cons_succ, List.getElem_cons_zero]); go_simp; try with_reducible rfl)
      try simp only [List.getElem_toArray, List.getElem_cons_succ, List.getElem_cons_zero, Act.put, List.setIfInBounds_toArray, List.set_cons_zero, List.set_cons_succ]
      refine wpAnyHT_take (i := 4) (oi := _) (v := ?_) (by kernel_rfl) rfl (by kernel_rfl) (by kernel_rfl) (by kernel_rfl) (by kernel_rfl) (fun _ _ _ h => h) (Or.inl ⟨by rfl, ?_⟩) hs0 ?_
      rotate_left 1
      · (intro W hSw; obtain ⟨s0, s1, s2, s3, s4, s5, s6, s7, s8, s9, s10, s11, s12, s13, s14⟩ := hSw; (try simp only [List.getElem_toArray, List.getElem_cons_succ, List.getElem_cons_zero]); go_simp; try with_reducible rfl)
      try simp only [List.getElem_toArray, List.getElem_cons_succ, List.getElem_cons_zero, Act.put, List.setIfInBounds_toArray, List.set_cons_zero, List.set_cons_succ]
      refine wpAnyHT_take (i := 5) (oi := _) (v := ?_) (by kernel_rfl) rfl (by kernel_rfl) (by kernel_rfl) (by kernel_rfl) (by kernel_rfl) (fun _ _ _ h => h) (Or.inl ⟨by rfl, ?_⟩) hs0 ?_
      rotate_left 1
      · (intro W hSw; obtain ⟨s0, s1, s2, s3, s4, s5, s6, s7, s8, s9, s10, s11, s12, s13, s14⟩ := hSw; (try simp only [List.getElem_toArray, List.getElem_cons_succ, List.getElem_cons_zero]); go_simp; try with_reducible rfl)
      try simp only [List.getElem_toArray, List.getElem_cons_succ, List.getElem_cons_zero, Act.put, List.setIfInBounds_toArray, List.set_cons_zero, List.set_cons_succ]
      refine wpAnyHT_take (i := 6) (oi := _) (v := ?_) (by kernel_rfl) rfl (by kernel_rfl) (by kernel_rfl) (by kernel_rfl) (by kernel_rfl) (fun _ _ _ h => h) (Or.inl ⟨by rfl, ?_⟩) hs0 ?_
      rotate_left 1
      · (intro W hSw; obtain ⟨s0, s1, s2, s3, s4, s5, s6, s7, s8, s9, s10, s11, s12, s13, s14⟩ := hSw; (try simp only [List.getElem_toArray, List.getElem_cons_succ, List.getElem_cons_zero]); go_simp; try with_reducible rfl)
      try simp only [List.getElem_toArray, List.getElem_cons_succ, List.getElem_cons_zero, Act.put, List.setIfInBounds_toArray, List.set_cons_zero, List.set_cons_succ]
      refine wpAnyHT_take (i := 7) (oi := _) (v := ?_) (by kernel_rfl) rfl (by kernel_rfl) (by kernel_rfl) (by kernel_rfl) (by kernel_rfl) (fun _ _ _ h => h) (Or.inl ⟨by rfl, ?_⟩) hs0 ?_
      rotate_left 1
      · (intro W hSw; obtain ⟨s0, s1, s2, s3, s4, s5, s6, s7, s8, s9, s10, s11, s12, s13, s14⟩ := hSw; (try simp only [List.getElem_toArray, List.getElem_cons_succ, List.getElem_cons_zero]); go_simp; try with_reducible rfl)
      try simp only [List.getElem_toArray, List.getElem_cons_succ, List.getElem_cons_zero, Act.put, List.setIfInBounds_toArray, List.set_cons_zero, List.set_cons_succ]
      refine wpAnyHT_one (i := 8) rfl (by kernel_rfl) (by kernel_rfl) (fun K hK => ?_)
      try simp only [List.getElem_toArray, List.getElem_cons_succ, List.getElem_cons_zero]
      go_simp
      refine (HS.out _ hin.out.drew).mono ?_
      rintro e w4 ⟨rfl, hf4⟩
      have kc : ∀ q v, wr.drew.cell? q = some v → w4.cell? q = some v := fun q v hv => (hf4.cell (World.block_lt_of_cell? _ _ hv) (by simp)).trans hv
      refine hK _ _ ⟨kc _ _ hs0.1, kc _ _ hs0.2.1, kc _ _ hs0.2.2.1, kc _ _ hs0.2.2.2.1, kc _ _ hs0.2.2.2.2.1, kc _ _ hs0.2.2.2.2.2.1, kc _ _ hs0.2.2.2.2.2.2.1, kc _ _ hs0.2.2.2.2.2.2.2.1, kc _ _ hs0.2.2.2.2.2.2.2.2.1, kc _ _ hs0.2.2.2.2.2.2.2.2.2.1, kc _ _ hs0.2.2.2.2.2.2.2.2.2.2.1, kc _ _ hs0.2.2.2.2.2.2.2.2.2.2.2.1, kc _ _ hs0.2.2.2.2.2.2.2.2.2.2.2.2.1, kc _ _ hs0.2.2.2.2.2.2.2.2.2.2.2.2.2.1, hs0.2.2.2.2.2.2.2.2.2.2.2.2.2.2.trans hf4 (by simp)⟩ ?_
      clear hK K kc
      try simp only [Act.put, List.setIfInBounds_toArray, List.set_cons_zero, List.set_cons_succ]
      refine wpAnyHT_end (by kernel_rfl) ?_
      simp only [List.drop_succ_cons, List.drop_zero]
      have HF4 := hid (hin.out.drew.trans hf4 (by simp))
      clear hs0 hf4
      go_wp2_with fail
      go_roundw
      case rel => exact ⟨t + 1, by omega, by go_num, by first | rfl | trivial, hid (by exact HF4.out)⟩
      case measure => first | (simp [intOf]; done) | (simp [intOf]; omega)
    · have HF := hid hin.out
      clear hin
      go_wp2_with fail
      first | go_returns | skip
      exact HP.out _ HF.out
end Go.Proofs.Ytbgochkmplacaaa
