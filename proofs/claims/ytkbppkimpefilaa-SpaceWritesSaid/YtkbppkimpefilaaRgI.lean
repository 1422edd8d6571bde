/- The program's sets: Remove. -/
import Derived.Test.YtkbppkimpefilaaRgF
import Derived.Test.YtkbppkimpefilaaRgG
namespace Go.Proofs.Ytkbppkimpefilaa
open Go.RowKit Go.Lib
set_option maxRecDepth 100000

/-- What Remove answers and leaves. -/
def RemP (l : List Sp) (x : Sp) (E : Int) (l' : List Sp) : Prop :=
  (¬ HasP l x ∧ E = 90 ∧ l' = l) ∨ (HasP l x ∧ ∃ l1, (∃ K, Behind l x.a K ∧ l1 = remL l x K) ∧ Norm 0 l1 ∧ (∀ n, Mem9 l1 n ↔ Mem9 l n ∧ ¬ (x.a ≤ n ∧ n < x.e)) ∧ ((l1.length ≤ 4096 ∧ E = 0 ∧ l' = l1) ∨ (4096 < l1.length ∧ E = 2 ∧ l' = l)))
/-- Where Remove stands. -/
structure RemS (w wx : World) (sb : Nat) (p : Option Addr) (c : Nat) (l : List Sp) (bx : Nat) (x : Sp) (by_ : Nat) (y : Sp) (q : Option Addr) (m cq : Nat) (ls : List Sp) : Prop where
  fr : Frm [] w wx
  rs : RSet wx sb p c l
  vx : wx.heap[bx]? = some (.cells #[.int .i64 x.a, .int .i64 x.m] 39 (0, 0))
  vy : wx.heap[by_]? = some (.cells #[.int .i64 y.a, .int .i64 y.m] 39 (0, 0))
  ow : OwnS wx q m cq ls
  nb : ∀ k ∈ blk q, w.heap.size ≤ k ∧ k ≠ bx ∧ k ≠ by_
theorem RemS.k0 {w wx w' : World} {sb : Nat} {p : Option Addr} {c : Nat} {l : List Sp} {bx by_ : Nat} {x y : Sp} {q : Option Addr} {m cq : Nat} {ls : List Sp} (h : RemS w wx sb p c l bx x by_ y q m cq ls) (hf : Frm [] wx w') : RemS w w' sb p c l bx x by_ y q m cq ls :=
  ⟨h.fr.trans hf (by simp), h.rs.k0 hf, hf.heap h.vx (by simp), hf.heap h.vy (by simp), h.ow.kept hf (by simp), h.nb⟩
theorem RemS.cells {w wx : World} {sb : Nat} {p : Option Addr} {c : Nat} {l : List Sp} {bx by_ : Nat} {x y : Sp} {q : Option Addr} {m cq : Nat} {ls : List Sp} (h : RemS w wx sb p c l bx x by_ y q m cq ls) : wx.cell? ⟨bx, 0, none⟩ = some (.int .i64 x.a) ∧ wx.cell? ⟨bx, 1, none⟩ = some (.int .i64 x.m) ∧ wx.cell? ⟨by_, 0, none⟩ = some (.int .i64 y.a) ∧ wx.cell? ⟨by_, 1, none⟩ = some (.int .i64 y.m) := by
  refine ⟨?_, ?_, ?_, ?_⟩
  · rw [cell_of_row _ _ _ _ _ _ h.vx]; rfl
  · rw [cell_of_row _ _ _ _ _ _ h.vx]; rfl
  · rw [cell_of_row _ _ _ _ _ _ h.vy]; rfl
  · rw [cell_of_row _ _ _ _ _ _ h.vy]; rfl
theorem RemS.app {w wx wa w' : World} {sb : Nat} {p : Option Addr} {c : Nat} {l : List Sp} {bx by_ : Nat} {x y : Sp} {q : Option Addr} {m cq : Nat} {ls : List Sp} (h : RemS w wx sb p c l bx x by_ y q m cq ls) (hl : sb < w.heap.size ∧ ∀ k ∈ blk p, k < w.heap.size) (ha : Frm [] wx wa) {s : Sp} {q2 : Option Addr} {c2 : Nat} (ho : w'.ownsRow 0 39 2 (.slice q2 (m + 1) c2) (m + 1) (rowS ls ++ rowS [s])) (hf : Frm (blk q) wa w') (hb : ∀ k ∈ blk q2, k ∈ blk q ∨ wa.heap.size ≤ k) : RemS w w' sb p c l bx x by_ y q2 (m + 1) c2 (ls ++ [s]) := by
  have h1 := h.k0 ha
  have hbx := lt_of_heap h1.vx
  have hby := lt_of_heap h1.vy
  refine ⟨h1.fr.trans hf (fun k hk hkl => by have := (h.nb k hk).1; omega), h1.rs.kept hf (fun hm => by have := (h.nb _ hm).1; omega) (fun k hk hm => by have := (h.nb _ hm).1; have := hl.2 k hk; omega), hf.heap h1.vx (fun hm => (h.nb _ hm).2.1 rfl), hf.heap h1.vy (fun hm => (h.nb _ hm).2.2 rfl), ⟨by rw [rowS_app]; exact ho, by rw [List.length_append, h.ow.2]; rfl⟩, fun k hk => ?_⟩
  rcases hb k hk with h2 | h2
  · exact h.nb k h2
  · have := h1.fr.size; exact ⟨by omega, by omega, by omega⟩
set_option maxHeartbeats 12800000 in
theorem rem_any (sb : Nat) (p : Option Addr) (c : Nat) (l : List Sp) (x : Sp) (w : World) (h : RSet w sb p c l) (hN : Norm 0 l) (hl : l.length ≤ 4096) (hx : x.In) :
    Calls Try.prog 53 #[.pointer (some ⟨sb, 0, none⟩), .agg #[.int .i64 x.a, .int .i64 x.m]] w fun e w' => ∃ E l' p' c', e = .returned (.int .i64 E) ∧ RemP l x E l' ∧ RSet w' sb p' c' l' ∧ Norm 0 l' ∧ l'.length ≤ 4096 ∧ Frm (sb :: blk p) w w' ∧ ∀ k ∈ blk p', k ∈ blk p ∨ w.heap.size ≤ k := by
  obtain ⟨PO, hPO⟩ : ∃ PO : Ending → World → Prop, (fun e w' => ∃ E l' p' c', e = .returned (.int .i64 E) ∧ RemP l x E l' ∧ RSet w' sb p' c' l' ∧ Norm 0 l' ∧ l'.length ≤ 4096 ∧ Frm (sb :: blk p) w w' ∧ ∀ k ∈ blk p', k ∈ blk p ∨ w.heap.size ≤ k) = PO := ⟨_, rfl⟩
  rw [hPO]
  have HP : Hid (∀ E l' p' c' w', RemP l x E l' → RSet w' sb p' c' l' → Norm 0 l' → l'.length ≤ 4096 → Frm (sb :: blk p) w w' → (∀ k ∈ blk p', k ∈ blk p ∨ w.heap.size ≤ k) → PO (.returned (.int .i64 E)) w') := hid (fun E l' p' c' w' h1 h2 h3 h3' h4 h5 => by rw [← hPO]; exact ⟨E, l', p', c', rfl, h1, h2, h3, h3', h4, h5⟩)
  have HPS : Hid (∀ E w', RemP l x E l → RSet w' sb p c l → Frm [] w w' → PO (.returned (.int .i64 E)) w') := hid (fun E w' h1 h2 h4 => HP.out E l p c w' h1 h2 hN hl (h4.mono (by simp)) (fun k hk => Or.inl hk))
  obtain ⟨w1, hw1⟩ : ∃ q, w.alloc (.cells #[.int .i64 x.a, .int .i64 x.m] 39) = q := ⟨_, rfl⟩
  obtain ⟨bx, hbx⟩ : ∃ q, w.heap.size = q := ⟨_, rfl⟩
  have hf1 : Frm [] w w1 := by rw [← hw1]; exact (Frm.refl _ _).alloc _
  have g1 : w1.heap[bx]? = some (.cells #[.int .i64 x.a, .int .i64 x.m] 39 (0, 0)) := by rw [← hw1]; exact heap_alloc_to _ _ hbx
  have HR1 := hid (h.k0 hf1)
  have HLOW : Hid (sb < w.heap.size ∧ ∀ k ∈ blk p, k < w.heap.size) := hid ⟨lt_of_heap h.row, ownsRow_low h.own.1⟩
  have HHA := hid (has_any sb p c l x w1 HR1.out hN (by omega) hx)
  have HW1 := hid hw1
  have HBX := hid hbx
  have HN := hid hN
  have HX := hid hx
  have HG1 := hid g1
  have HF1 := hid hf1
  have c0 : w1.cell? ⟨bx, 0, none⟩ = some (.int .i64 x.a) := by rw [cell_of_row _ _ _ _ _ _ g1]; rfl
  have c1 : w1.cell? ⟨bx, 1, none⟩ = some (.int .i64 x.m) := by rw [cell_of_row _ _ _ _ _ _ g1]; rfl
  clear h hN hw1 hbx hf1 g1 hPO hx
  go_enter Try.func53, Try.ntmps53
  go_upto_region 1 with fail
  rw [HBX.out, HW1.out]
  go_wp2_with fail
  refine HHA.out.mono ?_
  rintro e w2 ⟨b, rfl, hb, hf2⟩
  have HB := hid hb
  have HF2 := hid (HF1.out.trans hf2 (by simp))
  have HR2 := hid (HR1.out.k0 hf2)
  have HG2 := hid (hf2.heap HG1.out (by simp))
  have d0 : w2.cell? ⟨bx, 0, none⟩ = some (.int .i64 x.a) := by rw [cell_of_row _ _ _ _ _ _ HG2.out]; rfl
  have d1 : w2.cell? ⟨bx, 1, none⟩ = some (.int .i64 x.m) := by rw [cell_of_row _ _ _ _ _ _ HG2.out]; rfl
  clear hf2 hb c0 c1 HHA HW1 HBX
  cases b with
  | false =>
    have HFIN := hid (HPS.out 90 w2 (Or.inl ⟨fun h => (by have := HB.out.2 h; cases this), rfl, rfl⟩) HR2.out HF2.out)
    go_wp2_with fail
    first | go_returns | skip
    exact HFIN.out
  | true =>
  have HHP := hid (HB.out.1 rfl)
  have HM := hid HHP.out.1
  have HBH := hid (behind_any sb p c l x.a w2 HR2.out HN.out (by omega))
  clear HB
  go_wp2_with fail
  refine HBH.out.mono ?_
  rintro e w3 ⟨K, rfl, hbK, hf3⟩
  have HK := hid hbK
  have HF3 := hid (HF2.out.trans hf3 (by simp))
  have HR3 := hid (HR2.out.k0 hf3)
  have HG3 := hid (hf3.heap HG2.out (by simp))
  have x0 := HR3.out.cell
  obtain ⟨y, hy, hya, hye⟩ := (has9_iff HN.out HM.out hbK).2 HHP.out.2
  obtain ⟨g, hg, y0, y1⟩ := HR3.out.own.at hy
  subst hg
  obtain ⟨L, hL⟩ : ∃ q, l.length = q := ⟨_, rfl⟩
  rw [hL] at x0 hl
  have hKL : K < L := by rw [← hL]; exact (List.getElem?_eq_some_iff.1 hy).1
  have t1 : (K : Int) < (L : Int) := by omega
  have HL := hid hL
  have HY := hid hy
  have HYE := hid hye
  clear hf3 hbK hL HBH d0 d1 hy hye
  obtain ⟨w4, hw4⟩ : ∃ q, w3.alloc (.cells #[.int .i64 y.a, .int .i64 y.m] 39) = q := ⟨_, rfl⟩
  obtain ⟨by_, hby⟩ : ∃ q, w3.heap.size = q := ⟨_, rfl⟩
  have hf4 : Frm [] w3 w4 := by rw [← hw4]; exact (Frm.refl _ _).alloc _
  have g4 : w4.heap[by_]? = some (.cells #[.int .i64 y.a, .int .i64 y.m] 39 (0, 0)) := by rw [← hw4]; exact heap_alloc_to _ _ hby
  have HS4 : Hid (RemS w w4 sb (some ⟨g, 0, none⟩) c l bx x by_ y none 0 0 []) := hid ⟨HF3.out.trans hf4 (by simp), HR3.out.k0 hf4, hf4.heap HG3.out (by simp), g4, ⟨⟨rfl, Or.inl ⟨rfl, rfl⟩⟩, rfl⟩, by simp [blk]⟩
  have HW4 := hid hw4
  have HBY := hid hby
  obtain ⟨q0, q1, q2, q3⟩ := HS4.out.cells
  have hfy := HN.out.fits HY.out
  have hfx := HM.out.fits
  have HFY := hid hfy
  have HFX := hid hfx
  clear hw4 hby hf4 g4
  go_upto_region 6 with fail
  rw [HBY.out, HW4.out]
  clear HBY HW4 x0 y0 y1
  have hfx' := hfx
  obtain ⟨fx1, fx2, fx3, fx4⟩ := hfx'
  obtain ⟨fy1, fy2, fy3, fy4⟩ := hfy
  go_upto_if 27 with fail
  go_cut [7] (fun s7 wx => ∃ q m cq, s7 = .slice q m cq ∧ Hid (RemS w wx sb (some ⟨g, 0, none⟩) c l bx x by_ y q m cq (if y.a < x.a then [⟨y.a, x.a - y.a⟩] else [])))
  case first =>
    by_cases hlt : y.a < x.a
    · have HOW := hid (ownsRow_kept HS4.out.ow.1 ((Frm.refl [] w4).alloc (.cells #[.int .i64 y.a, .int .i64 (x.a - y.a)] 39)) (by simp))
      have HRV := hid (rv_block (heap_alloc_new w4 (.cells #[.int .i64 y.a, .int .i64 (x.a - y.a)] 39)))
      have HLT := hid hlt
      go_wp2_with (at_builtin; refine wpList_appV rfl _ _ 43 rfl 39 2 16 _ Try.underlying43 infoSp rfl (by decide) none 0 0 (rowS []) rfl HOW.out (some ⟨w4.heap.size, 0, none⟩) 1 1 [.int .i64 y.a, .int .i64 (x.a - y.a)] rfl rfl (by simp) HRV.out (by intro u hu; simp at hu; rcases hu with rfl | rfl <;> rfl) (by unfold maxLen; omega) (by omega) ?_)
      intro p5 c5 w5 ho5 hf5 hb5
      have HN5 : Hid (RemS w w5 sb (some ⟨g, 0, none⟩) c l bx x by_ y p5 (0 + 1) c5 ([] ++ [⟨y.a, x.a - y.a⟩])) := hid (HS4.out.app HLOW.out ((Frm.refl [] w4).alloc _) ho5.out hf5.out (fun k hk => by have := hb5.out k hk; simpa using this))
      clear ho5 hf5 hb5 hlt
      go_wp2_with fail
      go_meet
      case rel => exact ⟨p5, 1, c5, rfl, hid (by rw [if_pos HLT.out]; exact HN5.out)⟩
    · have HIF : Hid ((if y.a < x.a then [(⟨y.a, x.a - y.a⟩ : Sp)] else []) = []) := hid (if_neg hlt)
      go_wp2_with fail
      go_meet
      case rel => exact ⟨none, 0, 0, rfl, hid (by rw [HIF.out]; exact HS4.out)⟩
  obtain ⟨q, m, cq, rfl, hS5⟩ := hcut
  have HS5 := hid hS5.out
  obtain ⟨A1, hA1⟩ : ∃ z, (if y.a < x.a then [(⟨y.a, x.a - y.a⟩ : Sp)] else []) = z := ⟨_, rfl⟩
  rw [hA1] at HS5
  have HA1 := hid hA1
  have hm1 : m ≤ 1 := by rw [← HS5.out.ow.2, ← hA1]; split <;> simp
  clear hS5 hA1 HS4 q0 q1 q2 q3
  obtain ⟨q0, q1, q2, q3⟩ := HS5.out.cells
  have HEX := hid (fun W => end_any x HFX.out W)
  have HEY := hid (fun W => end_any y HFY.out W)
  obtain ⟨xe, hxe⟩ : ∃ z, x.e = z := ⟨_, rfl⟩
  obtain ⟨ye, hyee⟩ : ∃ z, y.e = z := ⟨_, rfl⟩
  rw [hxe] at HEX
  rw [hyee] at HEY
  have HXE := hid hxe
  have HYEE := hid hyee
  have hmx := HM.out
  unfold May9 at hmx
  have hmy := HN.out.at HY.out
  have hxb : -9223372036854775808 ≤ xe ∧ xe ≤ 9223372036854775807 ∧ -9223372036854775808 ≤ ye ∧ ye ≤ 9223372036854775807 := by unfold Sp.e at hxe hyee; omega
  have hwr : IntKind.i64.wrap (ye - xe) = ye - xe := by unfold Sp.e at hxe hyee; rw [IntKind.wrap_i64]; omega
  have HWR := hid hwr
  have HXB := hid hxb
  clear hxe hyee hxb hwr hmx hmy
  go_upto_region 8 with fail
  go_cut [43] (fun s wx => s = .bool (decide (xe < ye)) ∧ Hid (RemS w wx sb (some ⟨g, 0, none⟩) c l bx x by_ y q m cq A1))
  case first =>
    have HF5D : Hid (Frm [] wc wc.drew) := hid (Frm.refl [] wc).drew
    have HKS : Hid (∀ W W' : World, (W.cell? ⟨bx, 0, none⟩ = some (.int .i64 x.a) ∧ W.cell? ⟨bx, 1, none⟩ = some (.int .i64 x.m) ∧ W.cell? ⟨by_, 0, none⟩ = some (.int .i64 y.a) ∧ W.cell? ⟨by_, 1, none⟩ = some (.int .i64 y.m) ∧ Frm [] wc W) → Frm [] W W' → (W'.cell? ⟨bx, 0, none⟩ = some (.int .i64 x.a) ∧ W'.cell? ⟨bx, 1, none⟩ = some (.int .i64 x.m) ∧ W'.cell? ⟨by_, 0, none⟩ = some (.int .i64 y.a) ∧ W'.cell? ⟨by_, 1, none⟩ = some (.int .i64 y.m) ∧ Frm [] wc W')) := hid (fun W W' hs hf => by
      have kc : ∀ q v, W.cell? q = some v → W'.cell? q = some v := fun q v hv => (hf.cell (World.block_lt_of_cell? W _ hv) (by simp)).trans hv
      exact ⟨kc _ _ hs.1, kc _ _ hs.2.1, kc _ _ hs.2.2.1, kc _ _ hs.2.2.2.1, hs.2.2.2.2.trans hf (by simp)⟩)
    go_region_held3 (fun W => W.cell? ⟨bx, 0, none⟩ = some (.int .i64 x.a) ∧ W.cell? ⟨bx, 1, none⟩ = some (.int .i64 x.m) ∧ W.cell? ⟨by_, 0, none⟩ = some (.int .i64 y.a) ∧ W.cell? ⟨by_, 1, none⟩ = some (.int .i64 y.m) ∧ Frm [] wc W) (first | (exact ⟨q0, q1, q2, q3, HF5D.out⟩) | (exact HKS.out _ _ (by assumption) (by assumption))) (first | ((with_reducible refine (HEX.out _).mono ?_); rintro e w6 ⟨rfl, hf6⟩) | ((with_reducible refine (HEY.out _).mono ?_); rintro e w7 ⟨rfl, hf7⟩))
    all_goals (
      have hh := (show _ ∧ _ ∧ _ ∧ _ ∧ Frm [] wc w7 by assumption).2.2.2.2
      have HH := hid (HS5.out.k0 hh)
      clear hh
      go_wp2_with fail
      go_meet
      case rel => exact ⟨rfl, HH.out⟩)
  obtain ⟨rfl, hS6⟩ := hcut
  have HS6 := hid hS6.out
  clear hS6 HS5 q0 q1 q2 q3
  obtain ⟨q0, q1, q2, q3⟩ := HS6.out.cells
  go_upto_if 43 with fail
  go_cut [7] (fun s7 wx => ∃ q m cq, s7 = .slice q m cq ∧ m ≤ 2 ∧ Hid (RemS w wx sb (some ⟨g, 0, none⟩) c l bx x by_ y q m cq (A1 ++ (if xe < ye then [⟨xe, ye - xe⟩] else []))))
  case first =>
    by_cases hlt : xe < ye
    · have hd : decide (xe < ye) = true := decide_eq_true hlt
      have HLT := hid hlt
      rw [hd]
      clear hd hlt
      have HKS : Hid (∀ W W' : World, (W.cell? ⟨bx, 0, none⟩ = some (.int .i64 x.a) ∧ W.cell? ⟨bx, 1, none⟩ = some (.int .i64 x.m) ∧ W.cell? ⟨by_, 0, none⟩ = some (.int .i64 y.a) ∧ W.cell? ⟨by_, 1, none⟩ = some (.int .i64 y.m) ∧ Frm [] wc W) → Frm [] W W' → (W'.cell? ⟨bx, 0, none⟩ = some (.int .i64 x.a) ∧ W'.cell? ⟨bx, 1, none⟩ = some (.int .i64 x.m) ∧ W'.cell? ⟨by_, 0, none⟩ = some (.int .i64 y.a) ∧ W'.cell? ⟨by_, 1, none⟩ = some (.int .i64 y.m) ∧ Frm [] wc W')) := hid (fun W W' hs hf => by
        have kc : ∀ q v, W.cell? q = some v → W'.cell? q = some v := fun q v hv => (hf.cell (World.block_lt_of_cell? W _ hv) (by simp)).trans hv
        exact ⟨kc _ _ hs.1, kc _ _ hs.2.1, kc _ _ hs.2.2.1, kc _ _ hs.2.2.2.1, hs.2.2.2.2.trans hf (by simp)⟩)
      have HS0 : Hid (wc.drew.cell? ⟨bx, 0, none⟩ = some (.int .i64 x.a) ∧ wc.drew.cell? ⟨bx, 1, none⟩ = some (.int .i64 x.m) ∧ wc.drew.cell? ⟨by_, 0, none⟩ = some (.int .i64 y.a) ∧ wc.drew.cell? ⟨by_, 1, none⟩ = some (.int .i64 y.m) ∧ Frm [] wc wc.drew) := hid ⟨q0, q1, q2, q3, (Frm.refl [] _).drew⟩
      go_upto_region 9 with fail
      refine wp_region_tail (S := fun W => (W.cell? ⟨bx, 0, none⟩ = some (.int .i64 x.a) ∧ W.cell? ⟨bx, 1, none⟩ = some (.int .i64 x.m) ∧ W.cell? ⟨by_, 0, none⟩ = some (.int .i64 y.a) ∧ W.cell? ⟨by_, 1, none⟩ = some (.int .i64 y.m) ∧ Frm [] wc W)) 10 12 rfl (by kernel_rfl) (by kernel_rfl) ?_
      refine wpAnyHT_take (i := 0) (oi := _) (v := ?_) (by kernel_rfl) rfl (by kernel_rfl) (by kernel_rfl) (by kernel_rfl) (by kernel_rfl) (fun _ _ _ h => h) (Or.inl ⟨by rfl, ?_⟩) HS0.out ?_
      rotate_left 1
      · (intro W hSw; obtain ⟨s0, s1, s2, s3, s4⟩ := hSw; (try simp only [List.getElem_toArray, List.getElem_cons_zero]); go_simp; try with_reducible rfl)
      try simp only [List.getElem_toArray, List.getElem_cons_zero, Act.put, List.setIfInBounds_toArray, List.set_cons_zero, List.set_cons_succ]
      refine wpAnyHT_take (i := 1) (oi := _) (v := ?_) (by kernel_rfl) rfl (by kernel_rfl) (by kernel_rfl) (by kernel_rfl) (by kernel_rfl) (fun _ _ _ h => h) (Or.inl ⟨by rfl, ?_⟩) HS0.out ?_
      rotate_left 1
      · (intro W hSw; obtain ⟨s0, s1, s2, s3, s4⟩ := hSw; (try simp only [List.getElem_toArray, List.getElem_cons_succ, List.getElem_cons_zero]); go_simp; try with_reducible rfl)
      try simp only [List.getElem_toArray, List.getElem_cons_succ, List.getElem_cons_zero, Act.put, List.setIfInBounds_toArray, List.set_cons_zero, List.set_cons_succ]
      refine wpAnyHT_take (i := 3) (oi := _) (v := ?_) (by kernel_rfl) rfl (by kernel_rfl) (by kernel_rfl) (by kernel_rfl) (by kernel_rfl) (fun _ _ _ h => h) (Or.inl ⟨by rfl, ?_⟩) HS0.out ?_
      rotate_left 1
      · (intro W hSw; obtain ⟨s0, s1, s2, s3, s4⟩ := hSw; (try simp only [List.getElem_toArray, List.getElem_cons_succ, List.getElem_cons_zero]); go_simp; try with_reducible rfl)
      try simp only [List.getElem_toArray, List.getElem_cons_succ, List.getElem_cons_zero, Act.put, List.setIfInBounds_toArray, List.set_cons_zero, List.set_cons_succ]
      refine wpAnyHT_take (i := 5) (oi := _) (v := ?_) (by kernel_rfl) rfl (by kernel_rfl) (by kernel_rfl) (by kernel_rfl) (by kernel_rfl) (fun _ _ _ h => h) (Or.inl ⟨by rfl, ?_⟩) HS0.out ?_
      rotate_left 1
      · (intro W hSw; obtain ⟨s0, s1, s2, s3, s4⟩ := hSw; (try simp only [List.getElem_toArray, List.getElem_cons_succ, List.getElem_cons_zero]); go_simp; try with_reducible rfl)
      try simp only [List.getElem_toArray, List.getElem_cons_succ, List.getElem_cons_zero, Act.put, List.setIfInBounds_toArray, List.set_cons_zero, List.set_cons_succ]
      refine wpAnyHT_one (i := 2) rfl (by kernel_rfl) (by kernel_rfl) (fun K hK => ?_)
      try simp only [List.getElem_toArray, List.getElem_cons_succ, List.getElem_cons_zero]
      go_simp
      refine (HEX.out _).mono ?_
      rintro e w6 ⟨rfl, hf6⟩
      have hs6 := HKS.out _ _ HS0.out hf6
      refine hK _ _ hs6 ?_
      clear hK K
      try simp only [List.getElem_toArray, List.getElem_cons_succ, List.getElem_cons_zero, Act.put, List.setIfInBounds_toArray, List.set_cons_zero, List.set_cons_succ]
      refine wpAnyHT_one (i := 4) rfl (by kernel_rfl) (by kernel_rfl) (fun K hK => ?_)
      try simp only [List.getElem_toArray, List.getElem_cons_succ, List.getElem_cons_zero]
      go_simp
      refine (HEY.out _).mono ?_
      rintro e w7 ⟨rfl, hf7⟩
      have hs7 := HKS.out _ _ hs6 hf7
      refine hK _ _ hs7 ?_
      clear hK K
      try simp only [List.getElem_toArray, List.getElem_cons_succ, List.getElem_cons_zero, Act.put, List.setIfInBounds_toArray, List.set_cons_zero, List.set_cons_succ]
      refine wpAnyHT_one (i := 6) rfl (by kernel_rfl) (by kernel_rfl) (fun K hK => ?_)
      try simp only [List.getElem_toArray, List.getElem_cons_succ, List.getElem_cons_zero]
      go_simp
      refine (HEX.out _).mono ?_
      rintro e w8 ⟨rfl, hf8⟩
      have hs8 := HKS.out _ _ hs7 hf8
      refine hK _ _ hs8 ?_
      clear hK K
      try simp only [List.getElem_toArray, List.getElem_cons_succ, List.getElem_cons_zero, Act.put, List.setIfInBounds_toArray, List.set_cons_zero, List.set_cons_succ]
      refine wpAnyHT_take (i := 7) (oi := _) (v := ?_) (by kernel_rfl) rfl (by kernel_rfl) (by kernel_rfl) (by kernel_rfl) (by kernel_rfl) (fun _ _ _ h => h) (Or.inl ⟨by rfl, ?_⟩) hs8 ?_
      rotate_left 1
      · (intro W hSw; obtain ⟨s0, s1, s2, s3, s4⟩ := hSw; (try simp only [List.getElem_toArray, List.getElem_cons_succ, List.getElem_cons_zero]); go_simp; try with_reducible rfl)
      try simp only [List.getElem_toArray, List.getElem_cons_succ, List.getElem_cons_zero, Act.put, List.setIfInBounds_toArray, List.set_cons_zero, List.set_cons_succ]
      refine wpAnyHT_take (i := 8) (oi := _) (v := ?_) (by kernel_rfl) rfl (by kernel_rfl) (by kernel_rfl) (by kernel_rfl) (by kernel_rfl) (fun _ _ _ h => h) (Or.inl ⟨by rfl, ?_⟩) hs8 ?_
      rotate_left 1
      · (intro W hSw; obtain ⟨s0, s1, s2, s3, s4⟩ := hSw; (try simp only [List.getElem_toArray, List.getElem_cons_succ, List.getElem_cons_zero]); go_simp; try with_reducible rfl)
      try simp only [List.getElem_toArray, List.getElem_cons_succ, List.getElem_cons_zero, Act.put, List.setIfInBounds_toArray, List.set_cons_zero, List.set_cons_succ]
      refine wpAnyHT_one (i := 9) rfl (by kernel_rfl) (by kernel_rfl) (fun K hK => ?_)
      try simp only [List.getElem_toArray, List.getElem_cons_succ, List.getElem_cons_zero]
      go_simp
      refine hK _ _ (HKS.out _ _ hs8 ((Frm.refl [] _).alloc _)) ?_
      clear hK K
      try simp only [List.getElem_toArray, List.getElem_cons_succ, List.getElem_cons_zero, Act.put, List.setIfInBounds_toArray, List.set_cons_zero, List.set_cons_succ]
      refine wpAnyHT_end (by kernel_rfl) ?_
      simp only [List.drop_succ_cons, List.drop_zero]
      rw [HWR.out]
      have hfc := hs8.2.2.2.2
      have HS8 := hid (HS6.out.k0 hfc)
      have HOW := hid (ownsRow_kept HS8.out.ow.1 ((Frm.refl [] w8).alloc (.cells #[.int .i64 xe, .int .i64 (ye - xe)] 39)) (by simp))
      have HRV := hid (rv_block (heap_alloc_new w8 (.cells #[.int .i64 xe, .int .i64 (ye - xe)] 39)))
      clear hs6 hs7 hs8 hf6 hf7 hf8 hfc HS0 HKS HS6 q0 q1 q2 q3
      go_wp2_with (at_builtin; refine wpList_appV rfl _ _ 43 rfl 39 2 16 _ Try.underlying43 infoSp rfl (by decide) q m cq (rowS A1) rfl HOW.out (some ⟨w8.heap.size, 0, none⟩) 1 1 [.int .i64 xe, .int .i64 (ye - xe)] rfl rfl (by simp) HRV.out (by intro u hu; simp at hu; rcases hu with rfl | rfl <;> rfl) (by unfold maxLen; omega) (by omega) ?_)
      intro p5 c5 w5 ho5 hf5 hb5
      have HN5 : Hid (RemS w w5 sb (some ⟨g, 0, none⟩) c l bx x by_ y p5 (m + 1) c5 (A1 ++ [⟨xe, ye - xe⟩])) := hid (HS8.out.app HLOW.out ((Frm.refl [] w8).alloc _) ho5.out hf5.out (fun k hk => by have := hb5.out k hk; simpa using this))
      clear ho5 hf5 hb5
      go_wp2_with fail
      go_meet
      case rel => exact ⟨p5, m + 1, c5, rfl, by omega, hid (by rw [if_pos HLT.out]; exact HN5.out)⟩
    · have hd : decide (xe < ye) = false := decide_eq_false hlt
      have HIF : Hid (A1 ++ (if xe < ye then [(⟨xe, ye - xe⟩ : Sp)] else []) = A1) := hid (by rw [if_neg hlt, List.append_nil])
      rw [hd]
      clear hd hlt
      go_wp2_with fail
      go_meet
      case rel => exact ⟨q, m, cq, rfl, by omega, hid (by rw [HIF.out]; exact HS6.out)⟩
  obtain ⟨q', m', cq', rfl, hm2, hS7⟩ := hcut
  obtain ⟨A2, hA2⟩ : ∃ z, A1 ++ (if xe < ye then [(⟨xe, ye - xe⟩ : Sp)] else []) = z := ⟨_, rfl⟩
  have HS7 := hid hS7.out
  rw [hA2] at HS7
  have hok := remL_ok HN.out HM.out HK.out (by obtain ⟨z, h1, h2, h3⟩ := (has9_iff HN.out HM.out HK.out).2 HHP.out.2; exact ⟨z, h1, h2, h3⟩)
  have hshape : remL l x K = l.take K ++ A2 ++ l.drop (K + 1) := by
    unfold remL
    rw [HY.out]
    simp only
    rw [HA1.out, HXE.out, HYEE.out, hA2]
  obtain ⟨lN, hlN⟩ : ∃ z, remL l x K = z := ⟨_, rfl⟩
  have HKK : Hid (∃ K, Behind l x.a K ∧ lN = remL l x K) := hid ⟨K, HK.out, hlN.symm⟩
  rw [hlN] at hok hshape
  have HOK := hid hok
  have HSH := hid hshape
  have hlen : lN.length + 1 = L + m' := by
    rw [hshape, List.length_append, List.length_append, List.length_take, List.length_drop, HL.out, HS7.out.ow.2]
    omega
  have HLE := hid hlen
  have x0 := HS7.out.rs.cell
  rw [HL.out] at x0
  have HSW := hid (swap_any sb (some ⟨g, 0, none⟩) c l K 1 q' m' cq' A2 wc HS7.out.rs (by rw [HL.out]; omega) HS7.out.ow (fun k hk hm => by have := (HS7.out.nb k hk).1; have := HLOW.out.2 k hm; omega) (fun hm => by have := (HS7.out.nb _ hm).1; have := HLOW.out.1; omega) (by rw [HL.out]; omega))
  clear hS7 hA2 hok hshape hlN hlen HS6 q0 q1 q2 q3 HEX HEY
  by_cases hbig : L - 1 + m' ≤ 4096
  · have HFIT : Hid (lN.length ≤ 4096) := hid (by have := HLE.out; omega)
    have t5 : ¬ ((4096 : Int) < (L : Int) - 1 + (m' : Int)) := by omega
    clear hbig
    go_wp2_with fail
    refine HSW.out.mono ?_
    rintro e w7 ⟨rfl, p', c', r1, r2, r3⟩
    rw [← HSH.out] at r1
    have HFIN := hid (HP.out 0 lN p' c' w7 (Or.inr ⟨HHP.out, lN, HKK.out, HOK.out.1, HOK.out.2, Or.inl ⟨HFIT.out, rfl, rfl⟩⟩) r1 HOK.out.1 HFIT.out ((HS7.out.fr.mono (by simp)).trans r2 (fun k hk _ => hk)) (fun k hk => (r3 k hk).imp id (fun h => by have := HS7.out.fr.size; omega)))
    clear r1 r2 r3 HSW
    go_wp2_with fail
    first | go_returns | skip
    exact HFIN.out
  · have t5 : (4096 : Int) < (L : Int) - 1 + (m' : Int) := by omega
    have HFIN := hid (HPS.out 2 wc (Or.inr ⟨HHP.out, lN, HKK.out, HOK.out.1, HOK.out.2, Or.inr ⟨by have := HLE.out; omega, rfl, rfl⟩⟩) HS7.out.rs HS7.out.fr)
    clear hbig HSW
    go_wp2_with fail
    first | go_returns | skip
    exact HFIN.out
end Go.Proofs.Ytkbppkimpefilaa
