/- The program's sets: Add. -/
import Derived.Test.YtkbppkimpefilaaRgF
import Derived.Test.YtkbppkimpefilaaRgG
namespace Go.Proofs.Ytkbppkimpefilaa
open Go.RowKit Go.Lib
set_option maxRecDepth 100000

/-- What Add answers and leaves. -/
def AddP (l : List Sp) (x : Sp) (E : Int) (l' : List Sp) : Prop :=
  ((¬ May9 x ∨ MeetsP l x) ∧ E = 90 ∧ l' = l) ∨ (May9 x ∧ ¬ MeetsP l x ∧ ∃ l1, (∃ K, Behind l x.a K ∧ l1 = addL l x K) ∧ Norm 0 l1 ∧ (∀ n, Mem9 l1 n ↔ Mem9 l n ∨ (x.a ≤ n ∧ n < x.e)) ∧ ((l1.length ≤ 4096 ∧ E = 0 ∧ l' = l1) ∨ (4096 < l1.length ∧ E = 2 ∧ l' = l)))
/-- Where Add stands: its variable, the set as it was. -/
structure AS (w wx : World) (sb : Nat) (p : Option Addr) (c : Nat) (l : List Sp) (bx : Nat) (x : Sp) : Prop where
  fr : Frm [] w wx
  rs : RSet wx sb p c l
  vx : wx.heap[bx]? = some (.cells #[.int .i64 x.a, .int .i64 x.m] 39 (0, 0))
  nb : w.heap.size ≤ bx
theorem AS.k0 {w wx w' : World} {sb : Nat} {p : Option Addr} {c : Nat} {l : List Sp} {bx : Nat} {x : Sp} (h : AS w wx sb p c l bx x) (hf : Frm [] wx w') : AS w w' sb p c l bx x := ⟨h.fr.trans hf (by simp), h.rs.k0 hf, hf.heap h.vx (by simp), h.nb⟩
theorem AS.x0 {w wx : World} {sb : Nat} {p : Option Addr} {c : Nat} {l : List Sp} {bx : Nat} {x : Sp} (h : AS w wx sb p c l bx x) : wx.cell? ⟨bx, 0, none⟩ = some (.int .i64 x.a) ∧ wx.cell? ⟨bx, 1, none⟩ = some (.int .i64 x.m) := by
  constructor <;> (rw [cell_of_row _ _ _ _ _ _ h.vx]; rfl)
theorem AS.set {w wx w' : World} {sb : Nat} {p : Option Addr} {c : Nat} {l : List Sp} {bx : Nat} {x x' : Sp} (h : AS w wx sb p c l bx x) (hl : sb < w.heap.size ∧ ∀ k ∈ blk p, k < w.heap.size) (hf : Frm [bx] wx w') (hv : w'.heap[bx]? = some (.cells #[.int .i64 x'.a, .int .i64 x'.m] 39 (0, 0))) : AS w w' sb p c l bx x' :=
  ⟨h.fr.trans hf (fun k hk hkl => by simp at hk; subst hk; have := h.nb; omega), h.rs.kept hf (by simp; have := h.nb; omega) (fun k hk hm => by simp at hm; subst hm; have := hl.2 k hk; have := h.nb; omega), hv, h.nb⟩
theorem leftN_one {l : List Sp} {x : Sp} {k : Nat} : leftN l x k = 1 ↔ ∃ j y, k = j + 1 ∧ l[j]? = some y ∧ y.e = x.a := by
  cases k with
  | zero => simp [leftN]
  | succ j =>
    constructor
    · intro h
      simp only [leftN] at h
      cases hg : l[j]? with
      | none => rw [hg] at h; simp at h
      | some y =>
        rw [hg] at h
        simp only at h
        by_cases he : y.e = x.a
        · exact ⟨j, y, rfl, hg, he⟩
        · rw [if_neg he] at h; simp at h
    · rintro ⟨i, y, hi, hg, he⟩
      obtain rfl : i = j := by omega
      simp only [leftN, hg, if_pos he]
theorem leftN_zero {l : List Sp} {x : Sp} {k : Nat} (h : leftN l x k ≠ 1) : leftN l x k = 0 ∧ leftX l x k = x := by
  cases k with
  | zero => exact ⟨rfl, rfl⟩
  | succ j =>
    cases hg : l[j]? with
    | none => simp [leftN, leftX, hg]
    | some y =>
      by_cases he : y.e = x.a
      · exact absurd (by simp [leftN, hg, he]) h
      · simp [leftN, leftX, hg, he]
theorem rightN_one {l : List Sp} {x : Sp} {k : Nat} : rightN l x k = 1 ↔ ∃ y, l[k]? = some y ∧ y.a = x.e := by
  unfold rightN
  cases hg : l[k]? with
  | none => simp
  | some y =>
    by_cases he : y.a = x.e
    · simp [he]
    · simp [he]
theorem rightN_zero {l : List Sp} {x z : Sp} {k : Nat} (h : rightN l x k ≠ 1) : rightN l x k = 0 ∧ rightX l x z k = z := by
  unfold rightN at h ⊢
  unfold rightX
  cases hg : l[k]? with
  | none => exact ⟨rfl, rfl⟩
  | some y =>
    rw [hg] at h
    simp only at h ⊢
    by_cases he : y.a = x.e
    · rw [if_pos he] at h; exact absurd rfl h
    · rw [if_neg he, if_neg he]; exact ⟨rfl, rfl⟩
/-- The new span is small. -/
theorem leftX_in {l : List Sp} {x : Sp} {k : Nat} (hn : Norm 0 l) (hx : May9 x) : 0 ≤ (leftX l x k).a ∧ 1 ≤ (leftX l x k).m ∧ (leftX l x k).e = x.e := by
  by_cases h : leftN l x k = 1
  · obtain ⟨j, y, rfl, hg, he⟩ := leftN_one.1 h
    have hy := hn.at hg
    have e1 : leftX l x (j + 1) = ⟨y.a, y.m + x.m⟩ := by simp [leftX, hg, he]
    rw [e1]
    unfold May9 at hx
    unfold Sp.e at he ⊢
    exact ⟨hy.1, by show 1 ≤ y.m + x.m; omega, by show y.a + (y.m + x.m) = x.a + x.m; omega⟩
  · rw [(leftN_zero h).2]
    unfold May9 at hx
    exact ⟨hx.1, hx.2.1, rfl⟩
theorem addL_len {l : List Sp} {x : Sp} {k : Nat} (hk : k ≤ l.length) : (addL l x k).length + (leftN l x k + rightN l x k) = l.length + 1 ∧ leftN l x k ≤ k ∧ k + rightN l x k ≤ l.length ∧ leftN l x k ≤ 1 ∧ rightN l x k ≤ 1 := by
  have h1 : leftN l x k ≤ k ∧ leftN l x k ≤ 1 := by
    by_cases h : leftN l x k = 1
    · obtain ⟨j, y, rfl, _, _⟩ := leftN_one.1 h; omega
    · rw [(leftN_zero h).1]; omega
  have h2 : k + rightN l x k ≤ l.length ∧ rightN l x k ≤ 1 := by
    by_cases h : rightN l x k = 1
    · obtain ⟨y, hy, _⟩ := rightN_one.1 h
      have := (List.getElem?_eq_some_iff.1 hy).1
      omega
    · rw [(rightN_zero (z := x) h).1]; omega
  unfold addL
  rw [List.length_append, List.length_append, List.length_take, List.length_drop, List.length_singleton]
  omega
set_option maxHeartbeats 12800000 in
theorem add_any (sb : Nat) (p : Option Addr) (c : Nat) (l : List Sp) (x : Sp) (w : World) (h : RSet w sb p c l) (hN : Norm 0 l) (hl : l.length ≤ 4096) (hx : x.In) :
    Calls Try.prog 52 #[.pointer (some ⟨sb, 0, none⟩), .agg #[.int .i64 x.a, .int .i64 x.m]] w fun e w' => ∃ E l' p' c', e = .returned (.int .i64 E) ∧ AddP l x E l' ∧ RSet w' sb p' c' l' ∧ Norm 0 l' ∧ l'.length ≤ 4096 ∧ Frm (sb :: blk p) w w' ∧ ∀ k ∈ blk p', k ∈ blk p ∨ w.heap.size ≤ k := by
  obtain ⟨PO, hPO⟩ : ∃ PO : Ending → World → Prop, (fun e w' => ∃ E l' p' c', e = .returned (.int .i64 E) ∧ AddP l x E l' ∧ RSet w' sb p' c' l' ∧ Norm 0 l' ∧ l'.length ≤ 4096 ∧ Frm (sb :: blk p) w w' ∧ ∀ k ∈ blk p', k ∈ blk p ∨ w.heap.size ≤ k) = PO := ⟨_, rfl⟩
  rw [hPO]
  have HP : Hid (∀ E l' p' c' w', AddP l x E l' → RSet w' sb p' c' l' → Norm 0 l' → l'.length ≤ 4096 → Frm (sb :: blk p) w w' → (∀ k ∈ blk p', k ∈ blk p ∨ w.heap.size ≤ k) → PO (.returned (.int .i64 E)) w') := hid (fun E l' p' c' w' h1 h2 h3 h3' h4 h5 => by rw [← hPO]; exact ⟨E, l', p', c', rfl, h1, h2, h3, h3', h4, h5⟩)
  have HPS : Hid (∀ E w', AddP l x E l → RSet w' sb p c l → Frm [] w w' → PO (.returned (.int .i64 E)) w') := hid (fun E w' h1 h2 h4 => HP.out E l p c w' h1 h2 hN hl (h4.mono (by simp)) (fun k hk => Or.inl hk))
  obtain ⟨w1, hw1⟩ : ∃ q, w.alloc (.cells #[.int .i64 x.a, .int .i64 x.m] 39) = q := ⟨_, rfl⟩
  obtain ⟨bx, hbx⟩ : ∃ q, w.heap.size = q := ⟨_, rfl⟩
  have hf1 : Frm [] w w1 := by rw [← hw1]; exact (Frm.refl _ _).alloc _
  have g1 : w1.heap[bx]? = some (.cells #[.int .i64 x.a, .int .i64 x.m] 39 (0, 0)) := by rw [← hw1]; exact heap_alloc_to _ _ hbx
  have HA1 : Hid (AS w w1 sb p c l bx x) := hid ⟨hf1, h.k0 hf1, g1, by omega⟩
  have HLOW : Hid (sb < w.heap.size ∧ ∀ k ∈ blk p, k < w.heap.size) := hid ⟨lt_of_heap h.row, ownsRow_low h.own.1⟩
  have HMB := hid (mayBe_any x hx w1)
  have HW1 := hid hw1
  have HBX := hid hbx
  have HN := hid hN
  have HX := hid hx
  obtain ⟨c0, c1⟩ := HA1.out.x0
  clear h hN hw1 hbx hf1 g1 hPO hx
  go_enter Try.func52, Try.ntmps52
  go_upto_region 1 with fail
  rw [HBX.out, HW1.out]
  go_wp2_with fail
  refine HMB.out.mono ?_
  rintro e w2 ⟨rfl, hf2⟩
  have HA2 := hid (HA1.out.k0 hf2)
  obtain ⟨d0, d1⟩ := HA2.out.x0
  clear hf2 c0 c1 HMB HW1 HBX
  by_cases hmay : May9 x
  case neg =>
    have hd : decide (May9 x) = false := decide_eq_false hmay
    have HFIN := hid (HPS.out 90 w2 (Or.inl ⟨Or.inl hmay, rfl, rfl⟩) HA2.out.rs HA2.out.fr)
    rw [hd]
    clear hd hmay
    go_wp2_with fail
    first | go_returns | skip
    exact HFIN.out
  have hd : decide (May9 x) = true := decide_eq_true hmay
  have HM := hid hmay
  have HME := hid (meets_any sb p c l x w2 HA2.out.rs HN.out (by omega) HX.out)
  rw [hd]
  clear hd hmay
  go_wp2_with fail
  refine HME.out.mono ?_
  rintro e w3 ⟨b, rfl, hb, hf3⟩
  have HB := hid hb
  have HA3 := hid (HA2.out.k0 hf3)
  obtain ⟨e0, e1⟩ := HA3.out.x0
  clear hf3 d0 d1 HME hb
  cases b with
  | true =>
    have HFIN := hid (HPS.out 90 w3 (Or.inl ⟨Or.inr (HB.out.1 rfl), rfl, rfl⟩) HA3.out.rs HA3.out.fr)
    go_wp2_with fail
    first | go_returns | skip
    exact HFIN.out
  | false =>
  have HNM : Hid (¬ MeetsP l x) := hid (fun h => by have := HB.out.2 h; cases this)
  have HBH := hid (behind_any sb p c l x.a w3 HA3.out.rs HN.out (by omega))
  clear HB
  go_wp2_with fail
  refine HBH.out.mono ?_
  rintro e w4 ⟨K, rfl, hbK, hf4⟩
  have HK := hid hbK
  have HA4 := hid (HA3.out.k0 hf4)
  obtain ⟨k0, k1⟩ := HA4.out.x0
  have x0 := HA4.out.rs.cell
  obtain ⟨L, hL⟩ : ∃ q, l.length = q := ⟨_, rfl⟩
  rw [hL] at x0 hl
  have HL := hid hL
  have hKL : K ≤ L := by rw [← hL]; exact hbK.1
  clear hf4 e0 e1 HBH hbK hL
  go_upto_region 4 with fail
  go_cut [35] (fun s wx => s = .bool (decide (leftN l x K = 1)) ∧ Hid (AS w wx sb p c l bx x))
  case first =>
    by_cases hK0 : K = 0
    · have hd : decide (leftN l x K = 1) = false := decide_eq_false (fun h => by obtain ⟨j, y, hj, _⟩ := leftN_one.1 h; omega)
      have t1 : decide ((0 : Int) < (K : Int)) = false := decide_eq_false (by omega)
      have t0 : decide (0 < K) = false := decide_eq_false (by omega)
      clear hK0
      go_quiet (fail)
      go_wp2_with fail
      go_meet
      case rel => exact ⟨by rw [hd], hid (HA4.out.k0 ((Frm.refl [] w4).drewN _))⟩
    · obtain ⟨j, hj⟩ : ∃ j, K = j + 1 := ⟨K - 1, by omega⟩
      obtain ⟨y, hy⟩ : ∃ y, l[j]? = some y := ⟨_, List.getElem?_eq_getElem (by rw [HL.out]; omega)⟩
      obtain ⟨g, hg, y0, y1⟩ := HA4.out.rs.own.at hy
      subst hg
      have t1 : decide ((0 : Int) < (K : Int)) = true := decide_eq_true (by omega)
      have t0 : 0 < K := by omega
      have hwr : IntKind.i64.wrap ((K : Int) - 1) = (j : Int) := by rw [IntKind.wrap_i64]; omega
      have t2 : (0 : Int) ≤ IntKind.i64.wrap ((K : Int) - 1) := by rw [hwr]; omega
      have t3 : IntKind.i64.wrap ((K : Int) - 1) < (L : Int) := by rw [hwr]; omega
      have ejt : j = (IntKind.i64.wrap ((K : Int) - 1)).toNat := by rw [hwr]; rfl
      have HEY := hid (fun W => end_any y (HN.out.fits hy) W)
      have hd : decide (y.e = x.a) = decide (leftN l x K = 1) := by
        refine decide_eq_decide.2 ⟨fun h => leftN_one.2 ⟨j, y, hj, hy, h⟩, fun h => ?_⟩
        obtain ⟨i, z, hi, hz, h2⟩ := leftN_one.1 h
        obtain rfl : i = j := by omega
        rw [hy] at hz; cases hz; exact h2
      have HD := hid hd
      have HF4D : Hid (Frm [] w4 w4.drew) := hid (Frm.refl [] w4).drew
      obtain ⟨ye, hye⟩ : ∃ q, y.e = q := ⟨_, rfl⟩
      rw [hye] at HEY HD
      rw [ejt] at y0 y1
      have HKS : Hid (∀ W W' : World, (W.cell? ⟨sb, 0, none⟩ = some (.slice (some ⟨g, 0, none⟩) L c) ∧ W.cell? ⟨g, (IntKind.i64.wrap ((K : Int) - 1)).toNat * 2, none⟩ = some (.int .i64 y.a) ∧ W.cell? ⟨g, (IntKind.i64.wrap ((K : Int) - 1)).toNat * 2 + 1, none⟩ = some (.int .i64 y.m) ∧ W.cell? ⟨bx, 0, none⟩ = some (.int .i64 x.a) ∧ W.cell? ⟨bx, 1, none⟩ = some (.int .i64 x.m) ∧ Frm [] w4 W) → Frm [] W W' → (W'.cell? ⟨sb, 0, none⟩ = some (.slice (some ⟨g, 0, none⟩) L c) ∧ W'.cell? ⟨g, (IntKind.i64.wrap ((K : Int) - 1)).toNat * 2, none⟩ = some (.int .i64 y.a) ∧ W'.cell? ⟨g, (IntKind.i64.wrap ((K : Int) - 1)).toNat * 2 + 1, none⟩ = some (.int .i64 y.m) ∧ W'.cell? ⟨bx, 0, none⟩ = some (.int .i64 x.a) ∧ W'.cell? ⟨bx, 1, none⟩ = some (.int .i64 x.m) ∧ Frm [] w4 W')) := hid (fun W W' hs hf => by
        have kc : ∀ q v, W.cell? q = some v → W'.cell? q = some v := fun q v hv => (hf.cell (World.block_lt_of_cell? W _ hv) (by simp)).trans hv
        exact ⟨kc _ _ hs.1, kc _ _ hs.2.1, kc _ _ hs.2.2.1, kc _ _ hs.2.2.2.1, kc _ _ hs.2.2.2.2.1, hs.2.2.2.2.2.trans hf (by simp)⟩)
      clear hd hy hye hj hwr ejt hK0
      go_region_held3 (fun W => W.cell? ⟨sb, 0, none⟩ = some (.slice (some ⟨g, 0, none⟩) L c) ∧ W.cell? ⟨g, (IntKind.i64.wrap ((K : Int) - 1)).toNat * 2, none⟩ = some (.int .i64 y.a) ∧ W.cell? ⟨g, (IntKind.i64.wrap ((K : Int) - 1)).toNat * 2 + 1, none⟩ = some (.int .i64 y.m) ∧ W.cell? ⟨bx, 0, none⟩ = some (.int .i64 x.a) ∧ W.cell? ⟨bx, 1, none⟩ = some (.int .i64 x.m) ∧ Frm [] w4 W) (first | (exact ⟨x0, y0, y1, k0, k1, HF4D.out⟩) | (exact HKS.out _ _ (by assumption) (by assumption))) (((with_reducible refine (HEY.out _).mono ?_); rintro e w5 ⟨rfl, hf5⟩))
      all_goals (
        have hh := (show _ ∧ _ ∧ _ ∧ _ ∧ _ ∧ Frm [] w4 w5 by assumption).2.2.2.2.2
        have HH := hid (HA4.out.k0 hh)
        clear hh
        go_wp2_with fail
        go_meet
        case rel => exact ⟨by rw [← HD.out]; first | rfl | (congr 1; by_cases h : ye = x.a <;> simp [h]), HH.out⟩)
  obtain ⟨rfl, hA5⟩ := hcut
  have HA5 := hid hA5.out
  clear hA5 HA4 k0 k1 x0
  go_upto_if 35 with fail
  go_cut [5, 6] (fun s5 s6 wx => s5 = .int .i64 ((K - leftN l x K : Nat) : Int) ∧ s6 = .int .i64 ((leftN l x K : Nat) : Int) ∧ Hid (AS w wx sb p c l bx (leftX l x K)))
  case first =>
    by_cases h1 : leftN l x K = 1
    · have hd : decide (leftN l x K = 1) = true := decide_eq_true h1
      obtain ⟨j, y, hj, hy, hye⟩ := leftN_one.1 h1
      have hlx : leftX l x K = ⟨y.a, y.m + x.m⟩ := by rw [hj]; simp [leftX, hy, hye]
      obtain ⟨g, hg, y0, y1⟩ := HA5.out.rs.own.at hy
      have x0 := HA5.out.rs.cell
      rw [HL.out] at x0
      subst hg
      obtain ⟨k0, k1⟩ := HA5.out.x0
      have HKJ : Hid ((K : Int) - 1 = (j : Int)) := hid (by omega)
      have HLX := hid hlx
      have H1 := hid h1
      have HJ := hid hj
      have t3 : (j : Int) < (L : Int) := by omega
      have hf := HN.out.fits hy
      have hfx := HM.out.fits
      have hsum : IntKind.i64.wrap (y.m + x.m) = y.m + x.m := by obtain ⟨_, _, f3, f4⟩ := hf; obtain ⟨_, _, f5, f6⟩ := hfx; rw [IntKind.wrap_i64]; omega
      have HSUM := hid hsum
      have HS0 : Hid (wc.drew.cell? ⟨sb, 0, none⟩ = some (.slice (some ⟨g, 0, none⟩) L c) ∧ wc.drew.cell? ⟨g, j * 2, none⟩ = some (.int .i64 y.a) ∧ wc.drew.cell? ⟨g, j * 2 + 1, none⟩ = some (.int .i64 y.m) ∧ wc.drew.cell? ⟨bx, 0, none⟩ = some (.int .i64 x.a) ∧ wc.drew.cell? ⟨bx, 1, none⟩ = some (.int .i64 x.m)) := hid ⟨x0, y0, y1, k0, k1⟩
      rw [hd]
      clear hd hy hye hlx hj h1 hf hfx hsum
      go_upto_region 6 with fail
      rw [HKJ.out]
      refine wp_region_tail (S := fun W => (W.cell? ⟨sb, 0, none⟩ = some (.slice (some ⟨g, 0, none⟩) L c) ∧ W.cell? ⟨g, j * 2, none⟩ = some (.int .i64 y.a) ∧ W.cell? ⟨g, j * 2 + 1, none⟩ = some (.int .i64 y.m) ∧ W.cell? ⟨bx, 0, none⟩ = some (.int .i64 x.a) ∧ W.cell? ⟨bx, 1, none⟩ = some (.int .i64 x.m))) 20 21 rfl (by kernel_rfl) (by kernel_rfl) ?_
      refine wpAnyHT_take (i := 0) (oi := _) (v := ?_) (by kernel_rfl) rfl (by kernel_rfl) (by kernel_rfl) (by kernel_rfl) (by kernel_rfl) (fun _ _ _ h => h) (Or.inl ⟨by rfl, ?_⟩) HS0.out ?_
      rotate_left 1
      · (intro W hSw; obtain ⟨s0, s1, s2, s3, s4⟩ := hSw; (try simp only [List.getElem_toArray, List.getElem_cons_zero]); go_simp; try with_reducible rfl)
      try simp only [List.getElem_toArray, List.getElem_cons_zero, Act.put, List.setIfInBounds_toArray, List.set_cons_zero, List.set_cons_succ]
      refine wpAnyHT_take (i := 1) (oi := _) (v := ?_) (by kernel_rfl) rfl (by kernel_rfl) (by kernel_rfl) (by kernel_rfl) (by kernel_rfl) (fun _ _ _ h => h) (Or.inl ⟨by rfl, ?_⟩) HS0.out ?_
      rotate_left 1
      · (intro W hSw; obtain ⟨s0, s1, s2, s3, s4⟩ := hSw; (try simp only [List.getElem_toArray, List.getElem_cons_succ, List.getElem_cons_zero]); go_simp; try with_reducible rfl)
      try simp only [List.getElem_toArray, List.getElem_cons_succ, List.getElem_cons_zero, Act.put, List.setIfInBounds_toArray, List.set_cons_zero, List.set_cons_succ]
      refine wpAnyHT_take (i := 2) (oi := _) (v := ?_) (by kernel_rfl) rfl (by kernel_rfl) (by kernel_rfl) (by kernel_rfl) (by kernel_rfl) (fun _ _ _ h => h) (Or.inl ⟨by rfl, ?_⟩) HS0.out ?_
      rotate_left 1
      · (intro W hSw; obtain ⟨s0, s1, s2, s3, s4⟩ := hSw; (try simp only [List.getElem_toArray, List.getElem_cons_succ, List.getElem_cons_zero]); go_simp; try with_reducible rfl)
      try simp only [List.getElem_toArray, List.getElem_cons_succ, List.getElem_cons_zero, Act.put, List.setIfInBounds_toArray, List.set_cons_zero, List.set_cons_succ]
      refine wpAnyHT_take (i := 3) (oi := _) (v := ?_) (by kernel_rfl) rfl (by kernel_rfl) (by kernel_rfl) (by kernel_rfl) (by kernel_rfl) (fun _ _ _ h => h) (Or.inl ⟨by rfl, ?_⟩) HS0.out ?_
      rotate_left 1
      · (intro W hSw; obtain ⟨s0, s1, s2, s3, s4⟩ := hSw; (try simp only [List.getElem_toArray, List.getElem_cons_succ, List.getElem_cons_zero]); go_simp; try with_reducible rfl)
      try simp only [List.getElem_toArray, List.getElem_cons_succ, List.getElem_cons_zero, Act.put, List.setIfInBounds_toArray, List.set_cons_zero, List.set_cons_succ]
      refine wpAnyHT_take (i := 4) (oi := _) (v := ?_) (by kernel_rfl) rfl (by kernel_rfl) (by kernel_rfl) (by kernel_rfl) (by kernel_rfl) (fun _ _ _ h => h) (Or.inl ⟨by rfl, ?_⟩) HS0.out ?_
      rotate_left 1
      · (intro W hSw; obtain ⟨s0, s1, s2, s3, s4⟩ := hSw; (try simp only [List.getElem_toArray, List.getElem_cons_succ, List.getElem_cons_zero]); go_simp; try with_reducible rfl)
      try simp only [List.getElem_toArray, List.getElem_cons_succ, List.getElem_cons_zero, Act.put, List.setIfInBounds_toArray, List.set_cons_zero, List.set_cons_succ]
      refine wpAnyHT_take (i := 5) (oi := _) (v := ?_) (by kernel_rfl) rfl (by kernel_rfl) (by kernel_rfl) (by kernel_rfl) (by kernel_rfl) (fun _ _ _ h => h) (Or.inl ⟨by rfl, ?_⟩) HS0.out ?_
      rotate_left 1
      · (intro W hSw; obtain ⟨s0, s1, s2, s3, s4⟩ := hSw; (try simp only [List.getElem_toArray, List.getElem_cons_succ, List.getElem_cons_zero]); go_simp; try with_reducible rfl)
      try simp only [List.getElem_toArray, List.getElem_cons_succ, List.getElem_cons_zero, Act.put, List.setIfInBounds_toArray, List.set_cons_zero, List.set_cons_succ]
      refine wpAnyHT_take (i := 6) (oi := _) (v := ?_) (by kernel_rfl) rfl (by kernel_rfl) (by kernel_rfl) (by kernel_rfl) (by kernel_rfl) (fun _ _ _ h => h) (Or.inl ⟨by rfl, ?_⟩) HS0.out ?_
      rotate_left 1
      · (intro W hSw; obtain ⟨s0, s1, s2, s3, s4⟩ := hSw; (try simp only [List.getElem_toArray, List.getElem_cons_succ, List.getElem_cons_zero]); go_simp; try with_reducible rfl)
      try simp only [List.getElem_toArray, List.getElem_cons_succ, List.getElem_cons_zero, Act.put, List.setIfInBounds_toArray, List.set_cons_zero, List.set_cons_succ]
      refine wpAnyHT_take (i := 7) (oi := _) (v := ?_) (by kernel_rfl) rfl (by kernel_rfl) (by kernel_rfl) (by kernel_rfl) (by kernel_rfl) (fun _ _ _ h => h) (Or.inl ⟨by rfl, ?_⟩) HS0.out ?_
      rotate_left 1
      · (intro W hSw; obtain ⟨s0, s1, s2, s3, s4⟩ := hSw; (try simp only [List.getElem_toArray, List.getElem_cons_succ, List.getElem_cons_zero]); go_simp; try with_reducible rfl)
      try simp only [List.getElem_toArray, List.getElem_cons_succ, List.getElem_cons_zero, Act.put, List.setIfInBounds_toArray, List.set_cons_zero, List.set_cons_succ]
      refine wpAnyHT_take (i := 8) (oi := _) (v := ?_) (by kernel_rfl) rfl (by kernel_rfl) (by kernel_rfl) (by kernel_rfl) (by kernel_rfl) (fun _ _ _ h => h) (Or.inl ⟨by rfl, ?_⟩) HS0.out ?_
      rotate_left 1
      · (intro W hSw; obtain ⟨s0, s1, s2, s3, s4⟩ := hSw; (try simp only [List.getElem_toArray, List.getElem_cons_succ, List.getElem_cons_zero]); go_simp; try with_reducible rfl)
      try simp only [List.getElem_toArray, List.getElem_cons_succ, List.getElem_cons_zero, Act.put, List.setIfInBounds_toArray, List.set_cons_zero, List.set_cons_succ]
      refine wpAnyHT_take (i := 9) (oi := _) (v := ?_) (by kernel_rfl) rfl (by kernel_rfl) (by kernel_rfl) (by kernel_rfl) (by kernel_rfl) (fun _ _ _ h => h) (Or.inl ⟨by rfl, ?_⟩) HS0.out ?_
      rotate_left 1
      · (intro W hSw; obtain ⟨s0, s1, s2, s3, s4⟩ := hSw; (try simp only [List.getElem_toArray, List.getElem_cons_succ, List.getElem_cons_zero]); go_simp; try with_reducible rfl)
      try simp only [List.getElem_toArray, List.getElem_cons_succ, List.getElem_cons_zero, Act.put, List.setIfInBounds_toArray, List.set_cons_zero, List.set_cons_succ]
      refine wpAnyHT_take (i := 10) (oi := _) (v := ?_) (by kernel_rfl) rfl (by kernel_rfl) (by kernel_rfl) (by kernel_rfl) (by kernel_rfl) (fun _ _ _ h => h) (Or.inl ⟨by rfl, ?_⟩) HS0.out ?_
      rotate_left 1
      · (intro W hSw; obtain ⟨s0, s1, s2, s3, s4⟩ := hSw; (try simp only [List.getElem_toArray, List.getElem_cons_succ, List.getElem_cons_zero]); go_simp; try with_reducible rfl)
      try simp only [List.getElem_toArray, List.getElem_cons_succ, List.getElem_cons_zero, Act.put, List.setIfInBounds_toArray, List.set_cons_zero, List.set_cons_succ]
      refine wpAnyHT_take (i := 11) (oi := _) (v := ?_) (by kernel_rfl) rfl (by kernel_rfl) (by kernel_rfl) (by kernel_rfl) (by kernel_rfl) (fun _ _ _ h => h) (Or.inl ⟨by rfl, ?_⟩) HS0.out ?_
      rotate_left 1
      · (intro W hSw; obtain ⟨s0, s1, s2, s3, s4⟩ := hSw; (try simp only [List.getElem_toArray, List.getElem_cons_succ, List.getElem_cons_zero]); go_simp; try with_reducible rfl)
      try simp only [List.getElem_toArray, List.getElem_cons_succ, List.getElem_cons_zero, Act.put, List.setIfInBounds_toArray, List.set_cons_zero, List.set_cons_succ]
      refine wpAnyHT_take (i := 12) (oi := _) (v := ?_) (by kernel_rfl) rfl (by kernel_rfl) (by kernel_rfl) (by kernel_rfl) (by kernel_rfl) (fun _ _ _ h => h) (Or.inl ⟨by rfl, ?_⟩) HS0.out ?_
      rotate_left 1
      · (intro W hSw; obtain ⟨s0, s1, s2, s3, s4⟩ := hSw; (try simp only [List.getElem_toArray, List.getElem_cons_succ, List.getElem_cons_zero]); go_simp; try with_reducible rfl)
      try simp only [List.getElem_toArray, List.getElem_cons_succ, List.getElem_cons_zero, Act.put, List.setIfInBounds_toArray, List.set_cons_zero, List.set_cons_succ]
      refine wpAnyHT_take (i := 13) (oi := _) (v := ?_) (by kernel_rfl) rfl (by kernel_rfl) (by kernel_rfl) (by kernel_rfl) (by kernel_rfl) (fun _ _ _ h => h) (Or.inl ⟨by rfl, ?_⟩) HS0.out ?_
      rotate_left 1
      · (intro W hSw; obtain ⟨s0, s1, s2, s3, s4⟩ := hSw; (try simp only [List.getElem_toArray, List.getElem_cons_succ, List.getElem_cons_zero]); go_simp; try with_reducible rfl)
      try simp only [List.getElem_toArray, List.getElem_cons_succ, List.getElem_cons_zero, Act.put, List.setIfInBounds_toArray, List.set_cons_zero, List.set_cons_succ]
      refine wpAnyHT_take (i := 14) (oi := _) (v := ?_) (by kernel_rfl) rfl (by kernel_rfl) (by kernel_rfl) (by kernel_rfl) (by kernel_rfl) (fun _ _ _ h => h) (Or.inl ⟨by rfl, ?_⟩) HS0.out ?_
      rotate_left 1
      · (intro W hSw; obtain ⟨s0, s1, s2, s3, s4⟩ := hSw; (try simp only [List.getElem_toArray, List.getElem_cons_succ, List.getElem_cons_zero]); go_simp; try with_reducible rfl)
      try simp only [List.getElem_toArray, List.getElem_cons_succ, List.getElem_cons_zero, Act.put, List.setIfInBounds_toArray, List.set_cons_zero, List.set_cons_succ]
      refine wpAnyHT_take (i := 15) (oi := _) (v := ?_) (by kernel_rfl) rfl (by kernel_rfl) (by kernel_rfl) (by kernel_rfl) (by kernel_rfl) (fun _ _ _ h => h) (Or.inl ⟨by rfl, ?_⟩) HS0.out ?_
      rotate_left 1
      · (intro W hSw; obtain ⟨s0, s1, s2, s3, s4⟩ := hSw; (try simp only [List.getElem_toArray, List.getElem_cons_succ, List.getElem_cons_zero]); go_simp; try with_reducible rfl)
      try simp only [List.getElem_toArray, List.getElem_cons_succ, List.getElem_cons_zero, Act.put, List.setIfInBounds_toArray, List.set_cons_zero, List.set_cons_succ]
      refine wpAnyHT_take (i := 16) (oi := _) (v := ?_) (by kernel_rfl) rfl (by kernel_rfl) (by kernel_rfl) (by kernel_rfl) (by kernel_rfl) (fun _ _ _ h => h) (Or.inl ⟨by rfl, ?_⟩) HS0.out ?_
      rotate_left 1
      · (intro W hSw; obtain ⟨s0, s1, s2, s3, s4⟩ := hSw; (try simp only [List.getElem_toArray, List.getElem_cons_succ, List.getElem_cons_zero]); go_simp; try with_reducible rfl)
      try simp only [List.getElem_toArray, List.getElem_cons_succ, List.getElem_cons_zero, Act.put, List.setIfInBounds_toArray, List.set_cons_zero, List.set_cons_succ]
      refine wpAnyHT_take (i := 17) (oi := _) (v := ?_) (by kernel_rfl) rfl (by kernel_rfl) (by kernel_rfl) (by kernel_rfl) (by kernel_rfl) (fun _ _ _ h => h) (Or.inl ⟨by rfl, ?_⟩) HS0.out ?_
      rotate_left 1
      · (intro W hSw; obtain ⟨s0, s1, s2, s3, s4⟩ := hSw; (try simp only [List.getElem_toArray, List.getElem_cons_succ, List.getElem_cons_zero]); go_simp; try with_reducible rfl)
      try simp only [List.getElem_toArray, List.getElem_cons_succ, List.getElem_cons_zero, Act.put, List.setIfInBounds_toArray, List.set_cons_zero, List.set_cons_succ]
      refine wpAnyHT_take (i := 18) (oi := _) (v := ?_) (by kernel_rfl) rfl (by kernel_rfl) (by kernel_rfl) (by kernel_rfl) (by kernel_rfl) (fun _ _ _ h => h) (Or.inl ⟨by rfl, ?_⟩) HS0.out ?_
      rotate_left 1
      · (intro W hSw; obtain ⟨s0, s1, s2, s3, s4⟩ := hSw; (try simp only [List.getElem_toArray, List.getElem_cons_succ, List.getElem_cons_zero]); go_simp; try with_reducible rfl)
      try simp only [List.getElem_toArray, List.getElem_cons_succ, List.getElem_cons_zero, Act.put, List.setIfInBounds_toArray, List.set_cons_zero, List.set_cons_succ]
      refine wpAnyHT_take (i := 19) (oi := _) (v := ?_) (by kernel_rfl) rfl (by kernel_rfl) (by kernel_rfl) (by kernel_rfl) (by kernel_rfl) (fun _ _ _ h => h) (Or.inl ⟨by rfl, ?_⟩) HS0.out ?_
      rotate_left 1
      · (intro W hSw; obtain ⟨s0, s1, s2, s3, s4⟩ := hSw; (try simp only [List.getElem_toArray, List.getElem_cons_succ, List.getElem_cons_zero]); go_simp; try with_reducible rfl)
      try simp only [List.getElem_toArray, List.getElem_cons_succ, List.getElem_cons_zero, Act.put, List.setIfInBounds_toArray, List.set_cons_zero, List.set_cons_succ]
      refine wpAnyHT_end (by kernel_rfl) ?_
      simp only [List.drop_succ_cons, List.drop_zero]
      rw [HSUM.out]
      have hvd : wc.drew.heap[bx]? = some (.cells #[.int .i64 x.a, .int .i64 x.m] 39 (0, 0)) := HA5.out.vx
      have z0 : wc.drew.frozen? ⟨bx, 0, none⟩ = false := frozen_of_row _ _ 0 _ _ hvd
      have z1 : wc.drew.frozen? ⟨bx, 1, none⟩ = false := frozen_of_row _ _ 1 _ _ hvd
      have z2 : wc.frozen? ⟨bx, 0, none⟩ = false := frozen_of_row _ _ 0 _ _ HA5.out.vx
      have z3 : wc.frozen? ⟨bx, 1, none⟩ = false := frozen_of_row _ _ 1 _ _ HA5.out.vx
      have z4 : (wc.setCell ⟨bx, 0, none⟩ (.int .i64 y.a)).frozen? ⟨bx, 1, none⟩ = false := frozen_of_row _ _ 1 _ _ (heap_setCell_same _ _ 0 _ _ _ HA5.out.vx)
      have z5 : (wc.setCell ⟨bx, 0, none⟩ (.int .i64 y.a)).drew.frozen? ⟨bx, 1, none⟩ = false := z4
      have z6 : (wc.setCell ⟨bx, 0, none⟩ (.int .i64 y.a)).drew.cell? ⟨bx, 1, none⟩ = some (.int .i64 x.m) := by
        show (wc.setCell ⟨bx, 0, none⟩ (.int .i64 y.a)).cell? ⟨bx, 1, none⟩ = _
        rw [cell_of_row _ _ _ _ _ _ (heap_setCell_same _ _ 0 _ _ _ HA5.out.vx)]; rfl
      have HVD := hid hvd
      clear hvd
      go_wp2_with fail
      go_meet
      case rel => exact ⟨by rw [H1.out, HJ.out]; rfl, by rw [H1.out]; rfl, hid (HA5.out.set HLOW.out ((((Frm.refl [bx] wc).setCell _ _ (by simp)).setCell _ _ (by simp)).drew) (by rw [HLX.out]; show ((wc.setCell _ _).setCell _ _).heap[bx]? = _; rw [heap_setCell_same _ _ 1 _ _ _ (heap_setCell_same _ _ 0 _ _ _ HA5.out.vx)]; rfl))⟩
    · have hd : decide (leftN l x K = 1) = false := decide_eq_false h1
      obtain ⟨z1, z2⟩ := leftN_zero h1
      rw [hd]
      have Z1 := hid z1
      have Z2 := hid z2
      clear hd h1 z1 z2
      go_wp2_with fail
      go_meet
      case rel => exact ⟨by rw [Z1.out, Nat.sub_zero], by rw [Z1.out]; rfl, hid (by rw [Z2.out]; exact HA5.out)⟩
  obtain ⟨rfl, rfl, hA6⟩ := hcut
  have hx1 := leftX_in (l := l) (x := x) (k := K) HN.out HM.out
  have hlen := addL_len (l := l) (x := x) (k := K) (by rw [HL.out]; exact hKL)
  obtain ⟨z, hz⟩ : ∃ z, leftX l x K = z := ⟨_, rfl⟩
  obtain ⟨A, hA⟩ : ∃ q, K - leftN l x K = q := ⟨_, rfl⟩
  obtain ⟨N1, hN1⟩ : ∃ q, leftN l x K = q := ⟨_, rfl⟩
  rw [hz] at hA6 hx1
  rw [hN1] at hlen
  rw [hA, hN1]
  have HA6 := hid hA6.out
  have HZ := hid hz
  have HXZ := hid hx1
  have HLEN := hid hlen
  have HAE := hid (show A + N1 = K by omega)
  have HAN := hid (And.intro hA hN1)
  have H7 : Hid ((A : Int) + (N1 : Int) = (K : Int)) := hid (by omega)
  have HZF : Hid z.Fits := hid (by
    obtain ⟨q1, q2, q3⟩ := hx1
    have := HM.out
    unfold May9 at this
    unfold Sp.e at q3
    exact ⟨by omega, by omega, by omega, by omega⟩)
  have hAb : A ≤ 4096 := by omega
  have hNb : N1 ≤ 1 := hlen.2.2.2.1
  clear hA6 hz hx1 hlen hA hN1 HA5
  go_upto_region 8 with fail
  rw [H7.out]
  obtain ⟨k0, k1⟩ := HA6.out.x0
  have x0 := HA6.out.rs.cell
  rw [HL.out] at x0
  go_cut [80] (fun s wx => s = .bool (decide (rightN l x K = 1)) ∧ Hid (AS w wx sb p c l bx z))
  case first =>
    by_cases hKlt : K < L
    · obtain ⟨y, hy⟩ : ∃ y, l[K]? = some y := ⟨_, List.getElem?_eq_getElem (by rw [HL.out]; exact hKlt)⟩
      obtain ⟨g, hg, y0, y1⟩ := HA6.out.rs.own.at hy
      subst hg
      have t1 : (K : Int) < (L : Int) := by omega
      have HEZ := hid (fun W => end_any z HZF.out W)
      have hd : decide (y.a = z.e) = decide (rightN l x K = 1) := by
        rw [HXZ.out.2.2]
        refine decide_eq_decide.2 ⟨fun h => rightN_one.2 ⟨y, hy, h⟩, fun h => ?_⟩
        obtain ⟨y', hy', h2⟩ := rightN_one.1 h
        rw [hy] at hy'; cases hy'; exact h2
      have HD := hid hd
      have HF4D : Hid (Frm [] wc wc.drew) := hid (Frm.refl [] wc).drew
      obtain ⟨ze, hze⟩ : ∃ q, z.e = q := ⟨_, rfl⟩
      rw [hze] at HEZ HD
      have HKS : Hid (∀ W W' : World, (W.cell? ⟨sb, 0, none⟩ = some (.slice (some ⟨g, 0, none⟩) L c) ∧ W.cell? ⟨g, K * 2, none⟩ = some (.int .i64 y.a) ∧ W.cell? ⟨g, K * 2 + 1, none⟩ = some (.int .i64 y.m) ∧ W.cell? ⟨bx, 0, none⟩ = some (.int .i64 z.a) ∧ W.cell? ⟨bx, 1, none⟩ = some (.int .i64 z.m) ∧ Frm [] wc W) → Frm [] W W' → (W'.cell? ⟨sb, 0, none⟩ = some (.slice (some ⟨g, 0, none⟩) L c) ∧ W'.cell? ⟨g, K * 2, none⟩ = some (.int .i64 y.a) ∧ W'.cell? ⟨g, K * 2 + 1, none⟩ = some (.int .i64 y.m) ∧ W'.cell? ⟨bx, 0, none⟩ = some (.int .i64 z.a) ∧ W'.cell? ⟨bx, 1, none⟩ = some (.int .i64 z.m) ∧ Frm [] wc W')) := hid (fun W W' hs hf => by
        have kc : ∀ q v, W.cell? q = some v → W'.cell? q = some v := fun q v hv => (hf.cell (World.block_lt_of_cell? W _ hv) (by simp)).trans hv
        exact ⟨kc _ _ hs.1, kc _ _ hs.2.1, kc _ _ hs.2.2.1, kc _ _ hs.2.2.2.1, kc _ _ hs.2.2.2.2.1, hs.2.2.2.2.2.trans hf (by simp)⟩)
      clear hd hy hze hKlt
      go_region_held3 (fun W => W.cell? ⟨sb, 0, none⟩ = some (.slice (some ⟨g, 0, none⟩) L c) ∧ W.cell? ⟨g, K * 2, none⟩ = some (.int .i64 y.a) ∧ W.cell? ⟨g, K * 2 + 1, none⟩ = some (.int .i64 y.m) ∧ W.cell? ⟨bx, 0, none⟩ = some (.int .i64 z.a) ∧ W.cell? ⟨bx, 1, none⟩ = some (.int .i64 z.m) ∧ Frm [] wc W) (first | (exact ⟨x0, y0, y1, k0, k1, HF4D.out⟩) | (exact HKS.out _ _ (by assumption) (by assumption))) (((with_reducible refine (HEZ.out _).mono ?_); rintro e w5 ⟨rfl, hf5⟩))
      all_goals (
        have hh := (show _ ∧ _ ∧ _ ∧ _ ∧ _ ∧ Frm [] wc w5 by assumption).2.2.2.2.2
        have HH := hid (HA6.out.k0 hh)
        clear hh
        go_wp2_with fail
        go_meet
        case rel => exact ⟨by rw [← HD.out]; first | rfl | (congr 1; by_cases h : y.a = ze <;> simp [h]), HH.out⟩)
    · have hd : decide (rightN l x K = 1) = false := decide_eq_false (fun h => by
        obtain ⟨y, hy, _⟩ := rightN_one.1 h
        have := (List.getElem?_eq_some_iff.1 hy).1
        have := HL.out
        omega)
      have HD := hid hd
      have hKe : L = K := by omega
      clear hKlt hd
      subst hKe
      go_quiet (fail)
      go_wp2_with fail
      go_meet
      case rel => exact ⟨by rw [HD.out], hid (HA6.out.k0 ((Frm.refl [] _).drewN _))⟩
  obtain ⟨rfl, hA7⟩ := hcut
  have HA7 := hid hA7.out
  clear hA7 k0 k1 x0 HA6
  go_upto_if 80 with fail
  go_cut [6] (fun s6 wx => s6 = .int .i64 ((N1 + rightN l x K : Nat) : Int) ∧ Hid (AS w wx sb p c l bx (rightX l x z K)))
  case first =>
    by_cases h1 : rightN l x K = 1
    · have hd : decide (rightN l x K = 1) = true := decide_eq_true h1
      obtain ⟨y, hy, hye⟩ := rightN_one.1 h1
      have hlx : rightX l x z K = ⟨z.a, z.m + y.m⟩ := by simp [rightX, hy, hye]
      obtain ⟨g, hg, y0, y1⟩ := HA7.out.rs.own.at hy
      have x0 := HA7.out.rs.cell
      rw [HL.out] at x0
      subst hg
      obtain ⟨k0, k1⟩ := HA7.out.x0
      have HLX := hid hlx
      have H1 := hid h1
      have hKlt : K < L := by have := (List.getElem?_eq_some_iff.1 hy).1; have := HL.out; omega
      have t3 : (K : Int) < (L : Int) := by omega
      have hf := HN.out.fits hy
      have hsum : IntKind.i64.wrap (z.m + y.m) = z.m + y.m := by obtain ⟨_, _, f3, f4⟩ := hf; obtain ⟨_, _, f5, f6⟩ := HZF.out; rw [IntKind.wrap_i64]; omega
      have HSUM := hid hsum
      have HS0 : Hid (wc.drew.cell? ⟨sb, 0, none⟩ = some (.slice (some ⟨g, 0, none⟩) L c) ∧ wc.drew.cell? ⟨g, K * 2, none⟩ = some (.int .i64 y.a) ∧ wc.drew.cell? ⟨g, K * 2 + 1, none⟩ = some (.int .i64 y.m) ∧ wc.drew.cell? ⟨bx, 0, none⟩ = some (.int .i64 z.a) ∧ wc.drew.cell? ⟨bx, 1, none⟩ = some (.int .i64 z.m)) := hid ⟨x0, y0, y1, k0, k1⟩
      rw [hd]
      clear hd hy hye hlx h1 hf hsum hKlt
      go_upto_region 10 with fail
      refine wp_region_tail (S := fun W => (W.cell? ⟨sb, 0, none⟩ = some (.slice (some ⟨g, 0, none⟩) L c) ∧ W.cell? ⟨g, K * 2, none⟩ = some (.int .i64 y.a) ∧ W.cell? ⟨g, K * 2 + 1, none⟩ = some (.int .i64 y.m) ∧ W.cell? ⟨bx, 0, none⟩ = some (.int .i64 z.a) ∧ W.cell? ⟨bx, 1, none⟩ = some (.int .i64 z.m))) 12 13 rfl (by kernel_rfl) (by kernel_rfl) ?_
      refine wpAnyHT_take (i := 0) (oi := _) (v := ?_) (by kernel_rfl) rfl (by kernel_rfl) (by kernel_rfl) (by kernel_rfl) (by kernel_rfl) (fun _ _ _ h => h) (Or.inl ⟨by rfl, ?_⟩) HS0.out ?_
      rotate_left 1
      · (intro W hSw; obtain ⟨s0, s1, s2, s3, s4⟩ := hSw; (try simp only [List.getElem_toArray, List.getElem_cons_zero]); go_simp; try with_reducible rfl)
      try simp only [List.getElem_toArray, List.getElem_cons_zero, Act.put, List.setIfInBounds_toArray, List.set_cons_zero, List.set_cons_succ]
      refine wpAnyHT_take (i := 1) (oi := _) (v := ?_) (by kernel_rfl) rfl (by kernel_rfl) (by kernel_rfl) (by kernel_rfl) (by kernel_rfl) (fun _ _ _ h => h) (Or.inl ⟨by rfl, ?_⟩) HS0.out ?_
      rotate_left 1
      · (intro W hSw; obtain ⟨s0, s1, s2, s3, s4⟩ := hSw; (try simp only [List.getElem_toArray, List.getElem_cons_succ, List.getElem_cons_zero]); go_simp; try with_reducible rfl)
      try simp only [List.getElem_toArray, List.getElem_cons_succ, List.getElem_cons_zero, Act.put, List.setIfInBounds_toArray, List.set_cons_zero, List.set_cons_succ]
      refine wpAnyHT_take (i := 2) (oi := _) (v := ?_) (by kernel_rfl) rfl (by kernel_rfl) (by kernel_rfl) (by kernel_rfl) (by kernel_rfl) (fun _ _ _ h => h) (Or.inl ⟨by rfl, ?_⟩) HS0.out ?_
      rotate_left 1
      · (intro W hSw; obtain ⟨s0, s1, s2, s3, s4⟩ := hSw; (try simp only [List.getElem_toArray, List.getElem_cons_succ, List.getElem_cons_zero]); go_simp; try with_reducible rfl)
      try simp only [List.getElem_toArray, List.getElem_cons_succ, List.getElem_cons_zero, Act.put, List.setIfInBounds_toArray, List.set_cons_zero, List.set_cons_succ]
      refine wpAnyHT_take (i := 3) (oi := _) (v := ?_) (by kernel_rfl) rfl (by kernel_rfl) (by kernel_rfl) (by kernel_rfl) (by kernel_rfl) (fun _ _ _ h => h) (Or.inl ⟨by rfl, ?_⟩) HS0.out ?_
      rotate_left 1
      · (intro W hSw; obtain ⟨s0, s1, s2, s3, s4⟩ := hSw; (try simp only [List.getElem_toArray, List.getElem_cons_succ, List.getElem_cons_zero]); go_simp; try with_reducible rfl)
      try simp only [List.getElem_toArray, List.getElem_cons_succ, List.getElem_cons_zero, Act.put, List.setIfInBounds_toArray, List.set_cons_zero, List.set_cons_succ]
      refine wpAnyHT_take (i := 4) (oi := _) (v := ?_) (by kernel_rfl) rfl (by kernel_rfl) (by kernel_rfl) (by kernel_rfl) (by kernel_rfl) (fun _ _ _ h => h) (Or.inl ⟨by rfl, ?_⟩) HS0.out ?_
      rotate_left 1
      · (intro W hSw; obtain ⟨s0, s1, s2, s3, s4⟩ := hSw; (try simp only [List.getElem_toArray, List.getElem_cons_succ, List.getElem_cons_zero]); go_simp; try with_reducible rfl)
      try simp only [List.getElem_toArray, List.getElem_cons_succ, List.getElem_cons_zero, Act.put, List.setIfInBounds_toArray, List.set_cons_zero, List.set_cons_succ]
      refine wpAnyHT_take (i := 5) (oi := _) (v := ?_) (by kernel_rfl) rfl (by kernel_rfl) (by kernel_rfl) (by kernel_rfl) (by kernel_rfl) (fun _ _ _ h => h) (Or.inl ⟨by rfl, ?_⟩) HS0.out ?_
      rotate_left 1
      · (intro W hSw; obtain ⟨s0, s1, s2, s3, s4⟩ := hSw; (try simp only [List.getElem_toArray, List.getElem_cons_succ, List.getElem_cons_zero]); go_simp; try with_reducible rfl)
      try simp only [List.getElem_toArray, List.getElem_cons_succ, List.getElem_cons_zero, Act.put, List.setIfInBounds_toArray, List.set_cons_zero, List.set_cons_succ]
      refine wpAnyHT_take (i := 6) (oi := _) (v := ?_) (by kernel_rfl) rfl (by kernel_rfl) (by kernel_rfl) (by kernel_rfl) (by kernel_rfl) (fun _ _ _ h => h) (Or.inl ⟨by rfl, ?_⟩) HS0.out ?_
      rotate_left 1
      · (intro W hSw; obtain ⟨s0, s1, s2, s3, s4⟩ := hSw; (try simp only [List.getElem_toArray, List.getElem_cons_succ, List.getElem_cons_zero]); go_simp; try with_reducible rfl)
      try simp only [List.getElem_toArray, List.getElem_cons_succ, List.getElem_cons_zero, Act.put, List.setIfInBounds_toArray, List.set_cons_zero, List.set_cons_succ]
      refine wpAnyHT_take (i := 7) (oi := _) (v := ?_) (by kernel_rfl) rfl (by kernel_rfl) (by kernel_rfl) (by kernel_rfl) (by kernel_rfl) (fun _ _ _ h => h) (Or.inl ⟨by rfl, ?_⟩) HS0.out ?_
      rotate_left 1
      · (intro W hSw; obtain ⟨s0, s1, s2, s3, s4⟩ := hSw; (try simp only [List.getElem_toArray, List.getElem_cons_succ, List.getElem_cons_zero]); go_simp; try with_reducible rfl)
      try simp only [List.getElem_toArray, List.getElem_cons_succ, List.getElem_cons_zero, Act.put, List.setIfInBounds_toArray, List.set_cons_zero, List.set_cons_succ]
      refine wpAnyHT_take (i := 8) (oi := _) (v := ?_) (by kernel_rfl) rfl (by kernel_rfl) (by kernel_rfl) (by kernel_rfl) (by kernel_rfl) (fun _ _ _ h => h) (Or.inl ⟨by rfl, ?_⟩) HS0.out ?_
      rotate_left 1
      · (intro W hSw; obtain ⟨s0, s1, s2, s3, s4⟩ := hSw; (try simp only [List.getElem_toArray, List.getElem_cons_succ, List.getElem_cons_zero]); go_simp; try with_reducible rfl)
      try simp only [List.getElem_toArray, List.getElem_cons_succ, List.getElem_cons_zero, Act.put, List.setIfInBounds_toArray, List.set_cons_zero, List.set_cons_succ]
      refine wpAnyHT_take (i := 9) (oi := _) (v := ?_) (by kernel_rfl) rfl (by kernel_rfl) (by kernel_rfl) (by kernel_rfl) (by kernel_rfl) (fun _ _ _ h => h) (Or.inl ⟨by rfl, ?_⟩) HS0.out ?_
      rotate_left 1
      · (intro W hSw; obtain ⟨s0, s1, s2, s3, s4⟩ := hSw; (try simp only [List.getElem_toArray, List.getElem_cons_succ, List.getElem_cons_zero]); go_simp; try with_reducible rfl)
      try simp only [List.getElem_toArray, List.getElem_cons_succ, List.getElem_cons_zero, Act.put, List.setIfInBounds_toArray, List.set_cons_zero, List.set_cons_succ]
      refine wpAnyHT_take (i := 10) (oi := _) (v := ?_) (by kernel_rfl) rfl (by kernel_rfl) (by kernel_rfl) (by kernel_rfl) (by kernel_rfl) (fun _ _ _ h => h) (Or.inl ⟨by rfl, ?_⟩) HS0.out ?_
      rotate_left 1
      · (intro W hSw; obtain ⟨s0, s1, s2, s3, s4⟩ := hSw; (try simp only [List.getElem_toArray, List.getElem_cons_succ, List.getElem_cons_zero]); go_simp; try with_reducible rfl)
      try simp only [List.getElem_toArray, List.getElem_cons_succ, List.getElem_cons_zero, Act.put, List.setIfInBounds_toArray, List.set_cons_zero, List.set_cons_succ]
      refine wpAnyHT_take (i := 11) (oi := _) (v := ?_) (by kernel_rfl) rfl (by kernel_rfl) (by kernel_rfl) (by kernel_rfl) (by kernel_rfl) (fun _ _ _ h => h) (Or.inl ⟨by rfl, ?_⟩) HS0.out ?_
      rotate_left 1
      · (intro W hSw; obtain ⟨s0, s1, s2, s3, s4⟩ := hSw; (try simp only [List.getElem_toArray, List.getElem_cons_succ, List.getElem_cons_zero]); go_simp; try with_reducible rfl)
      try simp only [List.getElem_toArray, List.getElem_cons_succ, List.getElem_cons_zero, Act.put, List.setIfInBounds_toArray, List.set_cons_zero, List.set_cons_succ]
      refine wpAnyHT_end (by kernel_rfl) ?_
      simp only [List.drop_succ_cons, List.drop_zero]
      rw [HSUM.out]
      have z3 : wc.frozen? ⟨bx, 1, none⟩ = false := frozen_of_row _ _ 1 _ _ HA7.out.vx
      go_wp2_with fail
      go_meet
      case rel => exact ⟨by rw [H1.out]; rfl, hid (HA7.out.set HLOW.out (((Frm.refl [bx] wc).setCell _ _ (by simp)).drew) (by rw [HLX.out]; show (wc.setCell _ _).heap[bx]? = _; rw [heap_setCell_same _ _ 1 _ _ _ HA7.out.vx]; rfl))⟩
    · have hd : decide (rightN l x K = 1) = false := decide_eq_false h1
      obtain ⟨z1, z2⟩ := rightN_zero (z := z) h1
      rw [hd]
      have Z1 := hid z1
      have Z2 := hid z2
      clear hd h1 z1 z2
      go_wp2_with fail
      go_meet
      case rel => exact ⟨by rw [Z1.out, Nat.add_zero], hid (by rw [Z2.out]; exact HA7.out)⟩
  obtain ⟨rfl, hA8⟩ := hcut
  have HA8 := hid hA8.out
  obtain ⟨R1, hR1⟩ : ∃ q, rightN l x K = q := ⟨_, rfl⟩
  obtain ⟨v, hv⟩ : ∃ q, rightX l x z K = q := ⟨_, rfl⟩
  rw [hv] at HA8
  rw [hR1] at HLEN ⊢
  have hm9 : ¬ meets9 l x K := fun h => HNM.out ⟨HM.out, (meets9_iff HN.out HM.out HK.out).1 h⟩
  have hok := addL_ok HN.out HM.out HK.out hm9
  have hshape : addL l x K = l.take A ++ [v] ++ l.drop (A + (N1 + R1)) := by
    unfold addL
    rw [HAN.out.1, HZ.out, hv, hR1, show K + R1 = A + (N1 + R1) by have := HAE.out; omega]
  obtain ⟨lN, hlN⟩ : ∃ q, addL l x K = q := ⟨_, rfl⟩
  have HKK : Hid (∃ K, Behind l x.a K ∧ lN = addL l x K) := hid ⟨K, HK.out, hlN.symm⟩
  rw [hlN] at hok hshape HLEN
  have HOK := hid hok
  have HSH := hid hshape
  have hRb : R1 ≤ 1 := HLEN.out.2.2.2.2
  have hNL : N1 + R1 ≤ L + 1 := by have := HLEN.out.1; have := HL.out; omega
  have hAR : A + (N1 + R1) ≤ L := by have := HAE.out; have := HLEN.out.2.2.1; have := HL.out; omega
  have HLE : Hid (lN.length + (N1 + R1) = L + 1) := hid (by rw [← HL.out]; exact HLEN.out.1)
  clear hA8 hv hR1 hm9 hok hshape hlN HLEN HAE H7 HXZ HZ HAN HA7
  have x0 := HA8.out.rs.cell
  rw [HL.out] at x0
  obtain ⟨v0, v1⟩ := HA8.out.x0
  obtain ⟨M, hM⟩ : ∃ q, N1 + R1 = q := ⟨_, rfl⟩
  rw [hM] at HSH HLE hNL hAR ⊢
  have hMb : M ≤ 2 := by omega
  clear hM hRb hNb
  by_cases hbig : L - M + 1 ≤ 4096
  · have HFIT : Hid (lN.length ≤ 4096) := hid (by have := HLE.out; omega)
    obtain ⟨nb, hnb⟩ : ∃ q, wc.heap.size = q := ⟨_, rfl⟩
    obtain ⟨wn, hwn⟩ : ∃ q, wc.alloc (.cells #[.int .i64 v.a, .int .i64 v.m] 39) = q := ⟨_, rfl⟩
    have hfn : Frm [] wc wn := by rw [← hwn]; exact (Frm.refl _ _).alloc _
    have gn : wn.heap[nb]? = some (.cells #[.int .i64 v.a, .int .i64 v.m] 39 (0, 0)) := by rw [← hwn]; exact heap_alloc_to _ _ hnb
    have hov : OwnS wn (some ⟨nb, 0, none⟩) 1 1 [v] := OwnS.of (C := [.int .i64 v.a, .int .i64 v.m]) gn (Nat.le_refl _) (by unfold maxLen; omega) rfl rfl rfl
    have HAN' := hid (HA8.out.k0 hfn)
    have hnbw : w.heap.size ≤ nb := by rw [← hnb]; exact HA8.out.fr.size
    have HSW := hid (swap_any sb p c l A M (some ⟨nb, 0, none⟩) 1 1 [v] wn HAN'.out.rs (by rw [HL.out]; exact hAR) hov (by intro k hk hm; simp [blk] at hk; subst hk; have := HLOW.out.2 _ hm; omega) (by simp [blk]; have := HLOW.out.1; omega) (by rw [HL.out]; omega))
    have HWN := hid hwn
    have HNB := hid hnb
    have t5 : ¬ ((4096 : Int) < (L : Int) - (M : Int) + 1) := by omega
    clear hfn gn hov hwn hnb hbig
    go_wp2_with fail
    rw [HNB.out, HWN.out]
    refine HSW.out.mono ?_
    rintro e w7 ⟨rfl, p', c', q1, q2, q3⟩
    rw [← HSH.out] at q1
    have HFIN := hid (HP.out 0 lN p' c' w7 (Or.inr ⟨HM.out, HNM.out, lN, HKK.out, HOK.out.1, HOK.out.2, Or.inl ⟨HFIT.out, rfl, rfl⟩⟩) q1 HOK.out.1 HFIT.out ((HAN'.out.fr.mono (by simp)).trans q2 (fun k hk _ => hk)) (fun k hk => (q3 k hk).imp id (fun h => by have := HAN'.out.fr.size; omega)))
    clear q1 q2 q3 HSW
    go_wp2_with fail
    first | go_returns | skip
    exact HFIN.out
  · have t5 : (4096 : Int) < (L : Int) - (M : Int) + 1 := by omega
    have HFIN := hid (HPS.out 2 wc (Or.inr ⟨HM.out, HNM.out, lN, HKK.out, HOK.out.1, HOK.out.2, Or.inr ⟨by have := HLE.out; omega, rfl, rfl⟩⟩) HA8.out.rs HA8.out.fr)
    clear hbig
    go_wp2_with fail
    first | go_returns | skip
    exact HFIN.out
end Go.Proofs.Ytkbppkimpefilaa
