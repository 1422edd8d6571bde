/- The program's sets: the small functions, and the search. -/
import Derived.Test.YtkbppkimpefilaaRgD
import Derived.Deep.RegionHeld3
namespace Go.Proofs.Ytkbppkimpefilaa
open Go.RowKit Go.Lib
set_option maxRecDepth 100000

def Sp.v (y : Sp) : Value := .agg #[.int .i64 y.a, .int .i64 y.m]
def Sp.In (y : Sp) : Prop := (-9223372036854775808 ≤ y.a ∧ y.a ≤ 9223372036854775807) ∧ (-9223372036854775808 ≤ y.m ∧ y.m ≤ 9223372036854775807)
def Sp.Fits (y : Sp) : Prop := -4611686018427387904 ≤ y.a ∧ y.a ≤ 4611686018427387903 ∧ -4611686018427387904 ≤ y.m ∧ y.m ≤ 4611686018427387903
set_option maxHeartbeats 1600000 in
theorem end_any (y : Sp) (h : y.Fits) (w : World) : Calls Try.prog 89 #[.agg #[.int .i64 y.a, .int .i64 y.m]] w fun e w' => e = .returned (.int .i64 y.e) ∧ Frm [] w w' := by
  obtain ⟨h1, h2, h3, h4⟩ := h
  obtain ⟨a, m⟩ := y
  simp only at h1 h2 h3 h4
  go_enter Try.func89, Try.ntmps89
  go_wp2_with fail
  go_returns
  exact ⟨rfl, (Frm.refl _ _).alloc _⟩
set_option maxHeartbeats 3200000 in
theorem mayBe_any (y : Sp) (h : y.In) (w : World) : Calls Try.prog 86 #[.agg #[.int .i64 y.a, .int .i64 y.m]] w fun e w' => e = .returned (.bool (decide (May9 y))) ∧ Frm [] w w' := by
  obtain ⟨⟨h1, h2⟩, h3, h4⟩ := h
  obtain ⟨a, m⟩ := y
  simp only at h1 h2 h3 h4
  obtain ⟨PO, hPO⟩ : ∃ PO : Ending → World → Prop, (fun e w' => e = .returned (.bool (decide (May9 ⟨a, m⟩))) ∧ Frm [] w w') = PO := ⟨_, rfl⟩
  rw [hPO]
  have HP : Hid (∀ b w', (b = true ↔ May9 ⟨a, m⟩) → Frm [] w w' → PO (.returned (.bool b)) w') := hid (fun b w' h1 h2 => by
    rw [← hPO]
    refine ⟨?_, h2⟩
    have : b = decide (May9 ⟨a, m⟩) := by by_cases h : May9 ⟨a, m⟩ <;> cases b <;> simp_all
    rw [this])
  clear hPO
  go_enter Try.func86, Try.ntmps86
  by_cases c1 : 0 ≤ a
  · by_cases c2 : 1 ≤ m
    · by_cases c3 : m ≤ 1099511627776
      · by_cases c4 : a ≤ 1099511627776 - m
        · go_wp2_with fail
          first | go_returns | skip
          exact HP.out _ _ ⟨fun _ => ⟨c1, c2, c3, c4⟩, fun _ => rfl⟩ ((Frm.refl _ _).alloc _)
        · go_wp2_with fail
          first | go_returns | skip
          exact HP.out _ _ ⟨fun h => by simp at h, fun h => absurd h.2.2.2 (by show ¬ a ≤ 1099511627776 - m; omega)⟩ ((Frm.refl _ _).alloc _)
      · go_wp2_with fail
        first | go_returns | skip
        exact HP.out _ _ ⟨fun h => by simp at h, fun h => absurd h.2.2.1 (by show ¬ m ≤ 1099511627776; omega)⟩ ((Frm.refl _ _).alloc _)
    · go_wp2_with fail
      first | go_returns | skip
      exact HP.out _ _ ⟨fun h => by simp at h, fun h => absurd h.2.1 (by show ¬ 1 ≤ m; omega)⟩ ((Frm.refl _ _).alloc _)
  · go_wp2_with fail
    first | go_returns | skip
    exact HP.out _ _ ⟨fun h => by simp at h, fun h => absurd h.1 (by show ¬ 0 ≤ a; omega)⟩ ((Frm.refl _ _).alloc _)
/-- A set: its block, its list. -/
structure RSet (w : World) (sb : Nat) (p : Option Addr) (c : Nat) (l : List Sp) : Prop where
  row : w.heap[sb]? = some (.cells #[.slice p l.length c] 92 (0, 0))
  own : OwnS w p l.length c l
  ap : sb ∉ blk p
theorem RSet.kept {w w' : World} {sb : Nat} {p : Option Addr} {c : Nat} {l : List Sp} {T : List Nat} (h : RSet w sb p c l) (hf : Frm T w w') (hs : sb ∉ T) (hp : ∀ k ∈ blk p, k ∉ T) : RSet w' sb p c l := ⟨hf.heap h.row hs, h.own.kept hf hp, h.ap⟩
theorem RSet.k0 {w w' : World} {sb : Nat} {p : Option Addr} {c : Nat} {l : List Sp} (h : RSet w sb p c l) (hf : Frm [] w w') : RSet w' sb p c l := h.kept hf (by simp) (by simp)
theorem RSet.cell {w : World} {sb : Nat} {p : Option Addr} {c : Nat} {l : List Sp} (h : RSet w sb p c l) : w.cell? ⟨sb, 0, none⟩ = some (.slice p l.length c) := by rw [cell_of_row _ _ _ _ _ _ h.row]; rfl
/-- Its numbers are small. -/
theorem Norm.fits {l : List Sp} (h : Norm 0 l) {i : Nat} {y : Sp} (hi : l[i]? = some y) : y.Fits := by
  obtain ⟨h1, h2, h3⟩ := h.at hi
  unfold Sp.e at h3
  exact ⟨by omega, by omega, by omega, by omega⟩
set_option maxHeartbeats 3200000 in
theorem later_any (sb : Nat) (p : Option Addr) (c : Nat) (l : List Sp) (b1 b2 : Nat) (n : Int) (j : Nat) (y : Sp) (w : World) (h : RSet w sb p c l) (hN : Norm 0 l) (hy : l[j]? = some y) (h1 : w.cell? ⟨b1, 0, none⟩ = some (.pointer (some ⟨sb, 0, none⟩))) (h2 : w.cell? ⟨b2, 0, none⟩ = some (.int .i64 n)) :
    Calls Try.prog 108 #[.int .i64 (j : Int), .pointer (some ⟨b1, 0, none⟩), .pointer (some ⟨b2, 0, none⟩)] w fun e w' => e = .returned (.bool (decide (n < y.e))) ∧ Frm [] w w' := by
  obtain ⟨g, hg, y0, y1⟩ := h.own.at hy
  have x0 := h.cell
  have hjl : j < l.length := (List.getElem?_eq_some_iff.1 hy).1
  obtain ⟨L, hL⟩ : ∃ q, l.length = q := ⟨_, rfl⟩
  rw [hL] at x0 hjl
  subst hg
  have HE := hid (fun W => end_any y (hN.fits hy) W)
  have t1 : (j : Int) < (L : Int) := by omega
  have HKS : Hid (∀ W W' : World, (W.cell? ⟨b1, 0, none⟩ = some (.pointer (some ⟨sb, 0, none⟩)) ∧ W.cell? ⟨b2, 0, none⟩ = some (.int .i64 n) ∧ W.cell? ⟨sb, 0, none⟩ = some (.slice (some ⟨g, 0, none⟩) L c) ∧ W.cell? ⟨g, j * 2, none⟩ = some (.int .i64 y.a) ∧ W.cell? ⟨g, j * 2 + 1, none⟩ = some (.int .i64 y.m) ∧ Frm [] w W) → Frm [] W W' → (W'.cell? ⟨b1, 0, none⟩ = some (.pointer (some ⟨sb, 0, none⟩)) ∧ W'.cell? ⟨b2, 0, none⟩ = some (.int .i64 n) ∧ W'.cell? ⟨sb, 0, none⟩ = some (.slice (some ⟨g, 0, none⟩) L c) ∧ W'.cell? ⟨g, j * 2, none⟩ = some (.int .i64 y.a) ∧ W'.cell? ⟨g, j * 2 + 1, none⟩ = some (.int .i64 y.m) ∧ Frm [] w W')) := hid (fun W W' hs hf => by
    have kc : ∀ q v, W.cell? q = some v → W'.cell? q = some v := fun q v hv => (hf.cell (World.block_lt_of_cell? W _ hv) (by simp)).trans hv
    exact ⟨kc _ _ hs.1, kc _ _ hs.2.1, kc _ _ hs.2.2.1, kc _ _ hs.2.2.2.1, kc _ _ hs.2.2.2.2.1, hs.2.2.2.2.2.trans hf (by simp)⟩)
  have HF0 := hid (Frm.refl [] w)
  obtain ⟨ye, hye⟩ : ∃ q, y.e = q := ⟨_, rfl⟩
  rw [hye] at HE ⊢
  clear h hN hy hL hye
  go_enter Try.func108, Try.ntmps108
  go_upto_region 1 with fail
  go_region_held3 (fun W => W.cell? ⟨b1, 0, none⟩ = some (.pointer (some ⟨sb, 0, none⟩)) ∧ W.cell? ⟨b2, 0, none⟩ = some (.int .i64 n) ∧ W.cell? ⟨sb, 0, none⟩ = some (.slice (some ⟨g, 0, none⟩) L c) ∧ W.cell? ⟨g, j * 2, none⟩ = some (.int .i64 y.a) ∧ W.cell? ⟨g, j * 2 + 1, none⟩ = some (.int .i64 y.m) ∧ Frm [] w W) (first | (exact ⟨h1, h2, x0, y0, y1, HF0.out.drew⟩) | (exact HKS.out _ _ (by assumption) (by assumption))) (((with_reducible refine (HE.out _).mono ?_); rintro e w5 ⟨rfl, hf5⟩))
  all_goals (
    have hh := (show _ ∧ _ ∧ _ ∧ _ ∧ _ ∧ Frm [] w w5 by assumption).2.2.2.2.2
    have HH := hid hh
    clear hh
    go_wp2_with fail
    go_returns
    exact ⟨rfl, HH.out⟩)
set_option maxHeartbeats 6400000 in
/-- The search, over the ends of a list. -/
theorem search_any (sb : Nat) (p : Option Addr) (c : Nat) (l : List Sp) (b1 b2 : Nat) (n : Int) (w : World) (h : RSet w sb p c l) (hN : Norm 0 l) (h1 : w.cell? ⟨b1, 0, none⟩ = some (.pointer (some ⟨sb, 0, none⟩))) (h2 : w.cell? ⟨b2, 0, none⟩ = some (.int .i64 n)) (hl : l.length ≤ 1000000) :
    Calls Try.prog 107 #[.int .i64 (l.length : Int), .func (.func 108) #[] #[.pointer (some ⟨b1, 0, none⟩), .pointer (some ⟨b2, 0, none⟩)]] w fun e w' => ∃ k : Nat, e = .returned (.int .i64 (k : Int)) ∧ Behind l n k ∧ Frm [] w w' := by
  have HR := hid h
  have HN := hid hN
  have HC := hid (And.intro h1 h2)
  obtain ⟨L, hL⟩ : ∃ q, l.length = q := ⟨_, rfl⟩
  have HL := hid hL
  rw [hL] at hl ⊢
  clear h hN h1 h2 hL
  go_enter Try.func107, Try.ntmps107
  go_wp2_with fail
  go_loopw [5, 6, 7] (fun t s6 s7 wr => ∃ i j : Nat, i ≤ j ∧ j ≤ L ∧ t = .int .i64 (i : Int) ∧ s6 = .int .i64 (j : Int) ∧ Hid ((∀ q y, q < i → l[q]? = some y → y.e ≤ n) ∧ (∀ q y, j ≤ q → l[q]? = some y → n < y.e) ∧ Frm [] w wr)) (fun t s6 _ _ => (intOf s6).toNat - (intOf t).toNat)
  case atStart => exact ⟨0, L, Nat.zero_le _, Nat.le_refl _, rfl, rfl, hid ⟨fun q y h => by omega, fun q y h hy => by have := (List.getElem?_eq_some_iff.1 hy).1; have := HL.out; omega, Frm.refl _ _⟩⟩
  case round =>
    obtain ⟨i, j, hij, hjL, rfl, rfl, hin⟩ := hrel
    by_cases hlt : i < j
    · have t1 : (i : Int) < (j : Int) := by omega
      obtain ⟨m, hm, him, hmj⟩ : ∃ m : Nat, ((i : Int) + (j : Int)) / 2 = (m : Int) ∧ i ≤ m ∧ m < j := ⟨(i + j) / 2, by omega, by omega, by omega⟩
      obtain ⟨y, hy⟩ : ∃ y, l[m]? = some y := ⟨_, List.getElem?_eq_getElem (by have := HL.out; omega)⟩
      have hcl := later_any sb p c l b1 b2 n m y wr (HR.out.k0 hin.out.2.2) HN.out hy ((hin.out.2.2.cell (World.block_lt_of_cell? w _ HC.out.1) (by simp)).trans HC.out.1) ((hin.out.2.2.cell (World.block_lt_of_cell? w _ HC.out.2) (by simp)).trans HC.out.2)
      have HCL := hid hcl
      have HY := hid hy
      have HM := hid hm
      clear hcl hy hm
      go_upto_region 4 with fail
      rw [HM.out]
      go_wp2_with fail
      refine HCL.out.mono ?_
      rintro e w2 ⟨rfl, hf2⟩
      have HF2 := hid (hin.out.2.2.trans hf2 (by simp))
      clear hf2 HCL
      by_cases hle : n < y.e
      · have HN2 : Hid ((∀ q y, q < i → l[q]? = some y → y.e ≤ n) ∧ (∀ q y, m ≤ q → l[q]? = some y → n < y.e) ∧ Frm [] w w2) := hid ⟨hin.out.1, fun q z hq hz => by
          rcases Nat.lt_or_ge m q with h | h
          · have h3 := HN.out.lt h HY.out hz
            have h4 := (HN.out.at hz).2.1
            unfold Sp.e at h3 hle ⊢
            omega
          · obtain rfl : q = m := by omega
            rw [HY.out] at hz; cases hz; exact hle, HF2.out⟩
        go_wp2_with fail
        go_roundw
        case rel => exact ⟨i, m, him, by omega, rfl, rfl, HN2⟩
        case measure => simp [intOf]; omega
      · have HN2 : Hid ((∀ q y, q < m + 1 → l[q]? = some y → y.e ≤ n) ∧ (∀ q y, j ≤ q → l[q]? = some y → n < y.e) ∧ Frm [] w w2) := hid ⟨fun q z hq hz => by
          rcases Nat.lt_or_ge q m with h | h
          · have h3 := HN.out.lt h hz HY.out
            have h4 := (HN.out.at HY.out).2.1
            unfold Sp.e at h3 hle ⊢
            omega
          · obtain rfl : q = m := by omega
            rw [HY.out] at hz; cases hz; omega, hin.out.2.1, HF2.out⟩
        have hb : decide (n < y.e) = false := decide_eq_false hle
        clear hle
        go_wp2_with fail
        go_roundw
        case rel => exact ⟨m + 1, j, by omega, hjL, by go_num, rfl, HN2⟩
        case measure => simp [intOf]; omega
    · obtain rfl : i = j := by omega
      go_wp2_with fail
      go_returns
      exact ⟨i, rfl, ⟨by rw [HL.out]; exact hjL, hin.out.1, hin.out.2.1⟩, hin.out.2.2⟩
set_option maxHeartbeats 3200000 in
theorem behind_any (sb : Nat) (p : Option Addr) (c : Nat) (l : List Sp) (n : Int) (w : World) (h : RSet w sb p c l) (hN : Norm 0 l) (hl : l.length ≤ 1000000) :
    Calls Try.prog 88 #[.pointer (some ⟨sb, 0, none⟩), .int .i64 n] w fun e w' => ∃ k : Nat, e = .returned (.int .i64 (k : Int)) ∧ Behind l n k ∧ Frm [] w w' := by
  obtain ⟨w1, hw1⟩ : ∃ q, w.alloc (.cells #[.pointer (some ⟨sb, 0, none⟩)] 29) = q := ⟨_, rfl⟩
  obtain ⟨w2, hw2⟩ : ∃ q, w1.alloc (.cells #[.int .i64 n] 3) = q := ⟨_, rfl⟩
  obtain ⟨b1, hb1⟩ : ∃ q, w.heap.size = q := ⟨_, rfl⟩
  have hb2 : w1.heap.size = b1 + 1 := by rw [← hw1, ← hb1]; simp
  obtain ⟨b2, hb2e⟩ : ∃ q, b1 + 1 = q := ⟨_, rfl⟩
  rw [hb2e] at hb2
  have hf1 : Frm [] w w1 := by rw [← hw1]; exact (Frm.refl _ _).alloc _
  have hf2' : Frm [] w1 w2 := by rw [← hw2]; exact (Frm.refl _ _).alloc _
  have hf2 : Frm [] w w2 := hf1.trans hf2' (by simp)
  have g1 : w1.heap[b1]? = some (.cells #[.pointer (some ⟨sb, 0, none⟩)] 29 (0, 0)) := by rw [← hw1]; exact heap_alloc_to _ _ hb1
  have g2 : w2.heap[b2]? = some (.cells #[.int .i64 n] 3 (0, 0)) := by rw [← hw2]; exact heap_alloc_to _ _ hb2
  have c1 : w2.cell? ⟨b1, 0, none⟩ = some (.pointer (some ⟨sb, 0, none⟩)) := by rw [cell_of_row _ _ _ _ _ _ (hf2'.heap g1 (by simp))]; rfl
  have c2 : w2.cell? ⟨b2, 0, none⟩ = some (.int .i64 n) := by rw [cell_of_row _ _ _ _ _ _ g2]; rfl
  have HS := hid (search_any sb p c l b1 b2 n w2 (h.k0 hf2) hN c1 c2 hl)
  have x0 := (h.k0 hf2).cell
  have HW1 := hid hw1
  have HW2 := hid hw2
  have HB1 := hid hb1
  have HB2 := hid hb2e
  have HF2 := hid hf2
  obtain ⟨L, hL⟩ : ∃ q, l.length = q := ⟨_, rfl⟩
  rw [hL] at x0 HS
  clear h hN hw1 hw2 hb1 hb2 hb2e hf1 hf2' hf2 g1 g2 c2 hL
  go_enter Try.func88, Try.ntmps88
  go_upto_region 1 with fail
  rw [HW1.out, HB1.out]
  rw [HB2.out, HW2.out]
  go_wp2_with fail
  refine HS.out.mono ?_
  rintro e w3 ⟨k, rfl, hb, hf3⟩
  have HFIN := hid (And.intro hb (HF2.out.trans hf3 (by simp)))
  clear hb hf3 HS
  go_wp2_with fail
  go_returns
  exact ⟨k, rfl, HFIN.out⟩
end Go.Proofs.Ytkbppkimpefilaa
