/- The document's sets of numbers: plain facts. -/
import Derived.Test.YtkbppkimpefilaaRgO
namespace Go.Proofs.Ytkbppkimpefilaa
open Go.RowKit Go.Lib
set_option maxRecDepth 100000

/-- How many numbers two spans have in common. -/
def cm9 (a b : Sp) : Int := if min a.e b.e < max a.a b.a then 0 else min a.e b.e - max a.a b.a
theorem cm9_ge (a b : Sp) : 0 ≤ cm9 a b := by unfold cm9; split <;> omega
theorem cm9_pos {a b : Sp} : 0 < cm9 a b ↔ ∃ n, (a.a ≤ n ∧ n < a.e) ∧ b.a ≤ n ∧ n < b.e := by
  unfold cm9
  constructor
  · intro h
    split at h
    · omega
    · exact ⟨max a.a b.a, ⟨by omega, by omega⟩, by omega, by omega⟩
  · rintro ⟨n, h1, h2⟩
    split <;> omega
/-- How many of a span's numbers are there. -/
def inL (x : Sp) : List Sp → Int
  | [] => 0
  | y :: l => cm9 y x + inL x l
theorem inL_bound {x : Sp} : ∀ {l : List Sp} {lo : Int}, Norm lo l → 0 ≤ inL x l ∧ inL x l ≤ max 0 (x.e - max x.a lo)
  | [], lo, _ => by simp only [inL]; omega
  | y :: l, lo, ⟨h1, h2, h3, h4⟩ => by
    have ih := inL_bound (x := x) h4
    have hye : y.e = y.a + y.m := rfl
    simp only [inL]
    unfold cm9
    split <;> omega
theorem inL_pos {x : Sp} : ∀ {l : List Sp} {lo : Int}, Norm lo l → (0 < inL x l ↔ ∃ n, x.a ≤ n ∧ n < x.e ∧ Mem9 l n)
  | [], lo, _ => by
    simp only [inL]
    exact ⟨fun h => by omega, fun ⟨n, _, _, h⟩ => (mem9_nil h).elim⟩
  | y :: l, lo, ⟨h1, h2, h3, h4⟩ => by
    have ih := inL_pos (x := x) h4
    have hb := (inL_bound (x := x) h4).1
    have hc := cm9_ge y x
    simp only [inL]
    constructor
    · intro h
      by_cases h5 : 0 < cm9 y x
      · obtain ⟨n, q1, q2⟩ := cm9_pos.1 h5
        exact ⟨n, q2.1, q2.2, mem9_cons.2 (Or.inl q1)⟩
      · obtain ⟨n, q1, q2, q3⟩ := ih.1 (by omega)
        exact ⟨n, q1, q2, mem9_cons.2 (Or.inr q3)⟩
    · rintro ⟨n, q1, q2, q3⟩
      rcases mem9_cons.1 q3 with q4 | q4
      · have := cm9_pos.2 ⟨n, q4, q1, q2⟩; omega
      · have := ih.2 ⟨n, q1, q2, q4⟩; omega
theorem inL_cover {x : Sp} (hx : 1 ≤ x.m) : ∀ {l : List Sp} {lo : Int}, Norm lo l → (∃ y ∈ l, y.a ≤ x.a ∧ x.e ≤ y.e) → inL x l = x.m
  | [], lo, _, h => by obtain ⟨y, hy, _⟩ := h; simp at hy
  | y :: l, lo, ⟨h1, h2, h3, h4⟩, h => by
    have hb := inL_bound (x := x) (l := y :: l) (lo := lo) ⟨h1, h2, h3, h4⟩
    have hb2 := inL_bound (x := x) h4
    have hxe : x.e = x.a + x.m := rfl
    have hye : y.e = y.a + y.m := rfl
    obtain ⟨z, hz, q1, q2⟩ := h
    rcases List.mem_cons.1 hz with rfl | hz'
    · simp only [inL] at hb ⊢
      unfold cm9 at hb ⊢
      split at hb <;> split <;> omega
    · have ih := inL_cover hx h4 ⟨z, hz', q1, q2⟩
      obtain ⟨i, hi⟩ := List.mem_iff_getElem?.1 hz'
      have := (h4.at hi).1
      simp only [inL]
      rw [ih]
      unfold cm9
      split <;> omega
theorem inL_less {x : Sp} (hx : 1 ≤ x.m) : ∀ {l : List Sp} {lo : Int}, Norm lo l → (¬ ∃ y ∈ l, y.a ≤ x.a ∧ x.e ≤ y.e) → inL x l < x.m
  | [], lo, _, _ => by simp only [inL]; omega
  | y :: l, lo, ⟨h1, h2, h3, h4⟩, h => by
    have hb2 := inL_bound (x := x) h4
    have hxe : x.e = x.a + x.m := rfl
    have hye : y.e = y.a + y.m := rfl
    have ih := inL_less hx h4 (fun ⟨z, hz, q⟩ => h ⟨z, by simp [hz], q⟩)
    have hny : ¬ (y.a ≤ x.a ∧ x.e ≤ y.e) := fun q => h ⟨y, by simp, q⟩
    simp only [inL]
    unfold cm9
    split <;> omega
theorem has9_in {l : List Sp} {x : Sp} (hN : Norm 0 l) (hx : May9 x) : (inL x l = x.m ↔ HasP l x) ∧ inL x l ≤ x.m := by
  have hm : 1 ≤ x.m := hx.2.1
  have hb := inL_bound (x := x) hN
  have hxe : x.e = x.a + x.m := rfl
  have hx0 : 0 ≤ x.a := hx.1
  refine ⟨⟨fun h => ⟨hx, ?_⟩, fun h => ?_⟩, by omega⟩
  · have : ∃ y ∈ l, y.a ≤ x.a ∧ x.e ≤ y.e := Classical.byContradiction (fun hn => by have := inL_less hm hN hn; omega)
    obtain ⟨y, hy, q1, q2⟩ := this
    exact fun n a b => ⟨y, hy, by omega, by omega⟩
  · refine inL_cover hm hN (Classical.byContradiction (fun hn => ?_))
    have := inL_less hm hN hn
    -- some number of the span is not there
    have hsome : ∃ y ∈ l, y.a ≤ x.a ∧ x.e ≤ y.e := by
      obtain ⟨y, hy, q1, q2⟩ := h.2 x.a (Int.le_refl _) (by omega)
      refine ⟨y, hy, q1, Int.not_lt.1 (fun hlt => ?_)⟩
      obtain ⟨z, hz, q3, q4⟩ := h.2 y.e (by omega) hlt
      obtain ⟨i, hi⟩ := List.mem_iff_getElem?.1 hy
      obtain ⟨j, hj⟩ := List.mem_iff_getElem?.1 hz
      rcases Nat.lt_trichotomy i j with h5 | h5 | h5
      · have := hN.lt h5 hi hj; omega
      · subst h5; rw [hi] at hj; cases hj; omega
      · have := hN.lt h5 hj hi
        have := (hN.at hi).2.1
        have : y.e = y.a + y.m := rfl
        omega
    exact hn hsome
/-- Spans and one more, as the document puts it in. -/
def withR : List Sp → Sp → Bool → List Sp
  | [], x, done => if done then [] else [x]
  | y :: l, x, done => if y.e = x.a then withR l ⟨y.a, y.m + x.m⟩ done else if x.e = y.a then withR l ⟨x.a, x.m + y.m⟩ done else if x.a < y.a ∧ done = false then x :: y :: withR l x true else y :: withR l x done
theorem withR_done {x : Sp} (hx : 1 ≤ x.m) : ∀ {l : List Sp} {lo : Int}, Norm lo l → x.e < lo → withR l x true = l
  | [], _, _, _ => rfl
  | y :: l, lo, ⟨h1, h2, h3, h4⟩, h => by
    have hxe : x.e = x.a + x.m := rfl
    have hye : y.e = y.a + y.m := rfl
    simp only [withR]
    rw [if_neg (by omega), if_neg (by omega), if_neg (by simp), withR_done hx h4 (by omega)]
theorem withR_ok : ∀ {l : List Sp} {lo : Int} {x : Sp}, Norm lo l → lo ≤ x.a → 1 ≤ x.m → x.e ≤ 1099511627776 → (∀ n, x.a ≤ n → n < x.e → ¬ Mem9 l n) → Norm lo (withR l x false) ∧ ∀ n, Mem9 (withR l x false) n ↔ Mem9 l n ∨ (x.a ≤ n ∧ n < x.e)
  | [], lo, x, _, h1, h2, h3, _ => by
    simp only [withR]
    refine ⟨⟨h1, h2, h3, trivial⟩, fun n => ?_⟩
    rw [if_neg (by simp), mem9_one]
    exact ⟨Or.inr, fun h => h.elim (fun h => (mem9_nil h).elim) id⟩
  | y :: l, lo, x, ⟨k1, k2, k3, k4⟩, h1, h2, h3, hd => by
    have hxe : x.e = x.a + x.m := rfl
    have hye : y.e = y.a + y.m := rfl
    have hlow : ∀ n, Mem9 l n → y.e + 1 ≤ n := fun n h => Norm.from k4 h
    simp only [withR]
    by_cases c1 : y.e = x.a
    · rw [if_pos c1]
      have e1 : (⟨y.a, y.m + x.m⟩ : Sp).e = x.e := by show y.a + (y.m + x.m) = _; omega
      obtain ⟨q1, q2⟩ := withR_ok (l := l) (lo := y.a) (x := ⟨y.a, y.m + x.m⟩) (k4.low (by omega)) (Int.le_refl _) (by show 1 ≤ y.m + x.m; omega) (by rw [e1]; exact h3) (fun n a b h => by
        have := hlow n h
        rw [e1] at b
        exact hd n (by omega) b (mem9_cons.2 (Or.inr h)))
      refine ⟨q1.low k1, fun n => ?_⟩
      rw [q2, mem9_cons, e1]
      constructor
      · rintro (h | ⟨a, b⟩)
        · exact Or.inl (Or.inr h)
        · have a' : y.a ≤ n := a
          by_cases c : n < y.e
          · exact Or.inl (Or.inl ⟨a', c⟩)
          · exact Or.inr ⟨by omega, b⟩
      · rintro ((h | h) | h)
        · exact Or.inr ⟨h.1, by omega⟩
        · exact Or.inl h
        · exact Or.inr ⟨by show y.a ≤ n; omega, h.2⟩
    · rw [if_neg c1]
      by_cases c2 : x.e = y.a
      · rw [if_pos c2]
        have e1 : (⟨x.a, x.m + y.m⟩ : Sp).e = y.e := by show x.a + (x.m + y.m) = _; omega
        obtain ⟨q1, q2⟩ := withR_ok (l := l) (lo := lo) (x := ⟨x.a, x.m + y.m⟩) (k4.low (by omega)) h1 (by show 1 ≤ x.m + y.m; omega) (by rw [e1]; exact k3) (fun n a b h => by
          have := hlow n h
          rw [e1] at b
          omega)
        refine ⟨q1, fun n => ?_⟩
        rw [q2, mem9_cons, e1]
        constructor
        · rintro (h | ⟨a, b⟩)
          · exact Or.inl (Or.inr h)
          · have a' : x.a ≤ n := a
            by_cases c : n < x.e
            · exact Or.inr ⟨a', c⟩
            · exact Or.inl (Or.inl ⟨by omega, b⟩)
        · rintro ((h | h) | h)
          · exact Or.inr ⟨by show x.a ≤ n; omega, h.2⟩
          · exact Or.inl h
          · exact Or.inr ⟨h.1, by omega⟩
      · rw [if_neg c2]
        have hno : ¬ (x.a < y.e ∧ y.a < x.e) := fun ⟨a, b⟩ => hd (max x.a y.a) (by omega) (by omega) (mem9_cons.2 (Or.inl ⟨by omega, by omega⟩))
        by_cases c3 : x.a < y.a
        · rw [if_pos ⟨c3, trivial⟩, withR_done h2 k4 (by omega)]
          refine ⟨⟨h1, h2, h3, by omega, k2, k3, k4⟩, fun n => ?_⟩
          rw [mem9_cons (y := x)]
          exact or_comm
        · rw [if_neg (fun h => c3 h.1)]
          obtain ⟨q1, q2⟩ := withR_ok (l := l) (lo := y.e + 1) (x := x) k4 (by omega) h2 h3 (fun n a b h => hd n a b (mem9_cons.2 (Or.inr h)))
          refine ⟨⟨k1, k2, k3, q1⟩, fun n => ?_⟩
          rw [mem9_cons, mem9_cons, q2]
          exact or_assoc.symm
/-- Spans without one, as the document takes it out. -/
def remR (x : Sp) : List Sp → List Sp
  | [] => []
  | y :: l => (if cm9 x y = 0 then [y] else (if y.a < x.a then [⟨y.a, x.a - y.a⟩] else []) ++ (if x.e < y.e then [⟨x.e, y.e - x.e⟩] else [])) ++ remR x l
theorem cm9_zero {x y : Sp} (h : cm9 x y = 0) (hx : 1 ≤ x.m) (hy : 1 ≤ y.m) : x.e ≤ y.a ∨ y.e ≤ x.a := by
  have hxe : x.e = x.a + x.m := rfl
  have hye : y.e = y.a + y.m := rfl
  unfold cm9 at h
  split at h <;> omega
theorem remR_ok {x : Sp} (hx : 1 ≤ x.m) : ∀ {l : List Sp} {lo : Int}, Norm lo l → Norm lo (remR x l) ∧ ∀ n, Mem9 (remR x l) n ↔ Mem9 l n ∧ ¬ (x.a ≤ n ∧ n < x.e)
  | [], lo, _ => ⟨trivial, fun n => ⟨fun h => (mem9_nil h).elim, fun h => (mem9_nil h.1).elim⟩⟩
  | y :: l, lo, ⟨k1, k2, k3, k4⟩ => by
    have hxe : x.e = x.a + x.m := rfl
    have hye : y.e = y.a + y.m := rfl
    obtain ⟨q1, q2⟩ := remR_ok (x := x) hx k4
    simp only [remR]
    by_cases c0 : cm9 x y = 0
    · rw [if_pos c0]
      have hz := cm9_zero c0 hx k2
      refine ⟨⟨k1, k2, k3, q1⟩, fun n => ?_⟩
      rw [List.singleton_append, mem9_cons, mem9_cons, q2]
      constructor
      · rintro (h | h)
        · exact ⟨Or.inl h, by omega⟩
        · exact ⟨Or.inr h.1, h.2⟩
      · rintro ⟨h | h, h3⟩
        · exact Or.inl h
        · exact Or.inr ⟨h, h3⟩
    · rw [if_neg c0]
      obtain ⟨n0, p1, p2⟩ := cm9_pos.1 (show 0 < cm9 x y by have := cm9_ge x y; omega)
      have e1 : ∀ n, Mem9 (if y.a < x.a then [(⟨y.a, x.a - y.a⟩ : Sp)] else []) n ↔ y.a ≤ n ∧ n < x.a := fun n => by
        by_cases c1 : y.a < x.a
        · rw [if_pos c1, mem9_one]
          constructor
          · rintro ⟨h, h'⟩; exact ⟨h, by have h6 : n < y.a + (x.a - y.a) := h'; omega⟩
          · rintro ⟨h, h'⟩; exact ⟨h, by show n < y.a + (x.a - y.a); omega⟩
        · rw [if_neg c1]
          exact ⟨fun h => (mem9_nil h).elim, fun h => by omega⟩
      have e2 : ∀ n, Mem9 (if x.e < y.e then [(⟨x.e, y.e - x.e⟩ : Sp)] else []) n ↔ x.e ≤ n ∧ n < y.e := fun n => by
        by_cases c1 : x.e < y.e
        · rw [if_pos c1, mem9_one]
          constructor
          · rintro ⟨h, h'⟩; exact ⟨h, by have h6 : n < x.e + (y.e - x.e) := h'; omega⟩
          · rintro ⟨h, h'⟩; exact ⟨h, by show n < x.e + (y.e - x.e); omega⟩
        · rw [if_neg c1]
          exact ⟨fun h => (mem9_nil h).elim, fun h => by omega⟩
      constructor
      · by_cases c1 : y.a < x.a <;> by_cases c2 : x.e < y.e
        · rw [if_pos c1, if_pos c2]
          refine ⟨k1, by show 1 ≤ x.a - y.a; omega, by show y.a + (x.a - y.a) ≤ _; omega, by show y.a + (x.a - y.a) + 1 ≤ x.e; omega, by show 1 ≤ y.e - x.e; omega, by show x.e + (y.e - x.e) ≤ _; omega, ?_⟩
          rw [show (⟨x.e, y.e - x.e⟩ : Sp).e = y.e by show x.e + (y.e - x.e) = y.e; omega]
          exact q1
        · rw [if_pos c1, if_neg c2]
          exact ⟨k1, by show 1 ≤ x.a - y.a; omega, by show y.a + (x.a - y.a) ≤ _; omega, q1.low (by show y.a + (x.a - y.a) + 1 ≤ y.e + 1; omega)⟩
        · rw [if_neg c1, if_pos c2]
          refine ⟨by show _ ≤ x.e; omega, by show 1 ≤ y.e - x.e; omega, by show x.e + (y.e - x.e) ≤ _; omega, ?_⟩
          rw [show (⟨x.e, y.e - x.e⟩ : Sp).e = y.e by show x.e + (y.e - x.e) = y.e; omega]
          exact q1
        · rw [if_neg c1, if_neg c2]
          exact q1.low (by omega)
      · intro n
        rw [mem9_app, mem9_app, mem9_cons, e1, e2, q2]
        constructor
        · rintro ((h | h) | h)
          · exact ⟨Or.inl ⟨h.1, by omega⟩, by omega⟩
          · exact ⟨Or.inl ⟨by omega, h.2⟩, by omega⟩
          · exact ⟨Or.inr h.1, h.2⟩
        · rintro ⟨h | h, h3⟩
          · by_cases c : n < x.a
            · exact Or.inl (Or.inl ⟨h.1, c⟩)
            · exact Or.inl (Or.inr ⟨by omega, h.2⟩)
          · exact Or.inr ⟨h, h3⟩
end Go.Proofs.Ytkbppkimpefilaa
