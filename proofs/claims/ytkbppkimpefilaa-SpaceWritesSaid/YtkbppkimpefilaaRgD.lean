/- Sets of numbers as ranges: what Add and Remove make of a list. -/
import Derived.Test.YtkbppkimpefilaaRgC
namespace Go.Proofs.Ytkbppkimpefilaa

theorem split9 {l : List Sp} {n : Int} {k : Nat} (h : Behind l n k) : ∃ A B, l = A ++ B ∧ A.length = k ∧ (∀ y ∈ A, y.e ≤ n) ∧ ∀ y ∈ B, n < y.e := by
  refine ⟨l.take k, l.drop k, (List.take_append_drop k l).symm, by rw [List.length_take, Nat.min_eq_left h.1], fun y hy => ?_, fun y hy => ?_⟩
  · obtain ⟨i, hi⟩ := List.mem_iff_getElem?.1 hy
    rw [List.getElem?_take] at hi
    split at hi
    · rename_i hlt; exact h.2.1 i y hlt hi
    · cases hi
  · obtain ⟨i, hi⟩ := List.mem_iff_getElem?.1 hy
    rw [List.getElem?_drop] at hi
    exact h.2.2 (k + i) y (by omega) hi
theorem mem9_le {A : List Sp} {n m : Int} (h : ∀ y ∈ A, y.e ≤ n) (hm : n ≤ m) : ¬ Mem9 A m := by
  rintro ⟨y, hy, h1, h2⟩
  have := h y hy
  omega
theorem get_right {A B : List Sp} {k : Nat} (hk : A.length = k) : (A ++ B)[k]? = B[0]? := by
  rw [List.getElem?_append_right (by omega), hk, Nat.sub_self]
theorem get_left {A B : List Sp} {y : Sp} {k : Nat} (hk : (A ++ [y]).length = k + 1) : ((A ++ [y]) ++ B)[k]? = some y := by
  have h0 : A.length = k := by simpa using hk
  rw [List.append_assoc, List.getElem?_append_right (by omega), h0, Nat.sub_self]
  rfl
theorem meets9_iff {l : List Sp} {x : Sp} {k : Nat} (hn : Norm 0 l) (hx : May9 x) (hb : Behind l x.a k) : meets9 l x k ↔ ∃ n, x.a ≤ n ∧ n < x.e ∧ Mem9 l n := by
  obtain ⟨A, B, rfl, hk, hA, hB⟩ := split9 hb
  have h2 := ((norm_app A B 0).1 hn).2
  unfold May9 at hx
  unfold meets9
  rw [get_right hk]
  cases B with
  | nil =>
    constructor
    · rintro ⟨y, hy, _⟩; simp at hy
    · rintro ⟨n, h3, h4, h5⟩
      rw [List.append_nil] at h5
      exact absurd h5 (mem9_le hA h3)
  | cons z B =>
    have hz := hB z (by simp)
    constructor
    · rintro ⟨y, hy, h3⟩
      simp at hy
      subst hy
      refine ⟨max x.a z.a, by omega, ?_, mem9_app.2 (Or.inr (mem9_cons.2 (Or.inl ⟨by omega, ?_⟩)))⟩
      · unfold Sp.e at h3 ⊢; omega
      · have := h2.2.1; unfold Sp.e at hz ⊢; omega
    · rintro ⟨n, h3, h4, h5⟩
      refine ⟨z, rfl, ?_⟩
      rcases mem9_app.1 h5 with h5 | h5
      · exact absurd h5 (mem9_le hA h3)
      · have := Norm.from (l := z :: B) (lo := z.a) ⟨Int.le_refl _, h2.2⟩ h5
        omega
theorem has9_iff {l : List Sp} {x : Sp} {k : Nat} (hn : Norm 0 l) (hx : May9 x) (hb : Behind l x.a k) : has9 l x k ↔ ∀ n, x.a ≤ n → n < x.e → Mem9 l n := by
  obtain ⟨A, B, rfl, hk, hA, hB⟩ := split9 hb
  have h2 := ((norm_app A B 0).1 hn).2
  unfold May9 at hx
  unfold has9
  rw [get_right hk]
  cases B with
  | nil =>
    constructor
    · rintro ⟨y, hy, _⟩; simp at hy
    · intro h
      have h5 := h x.a (Int.le_refl _) (by unfold Sp.e; omega)
      rw [List.append_nil] at h5
      exact absurd h5 (mem9_le hA (Int.le_refl _))
  | cons z B =>
    have hz := hB z (by simp)
    constructor
    · rintro ⟨y, hy, h3, h4⟩ n h5 h6
      simp at hy
      subst hy
      exact mem9_app.2 (Or.inr (mem9_cons.2 (Or.inl ⟨by omega, by omega⟩)))
    · intro h
      refine ⟨z, rfl, ?_, ?_⟩
      · rcases mem9_app.1 (h x.a (Int.le_refl _) (by unfold Sp.e; omega)) with h5 | h5
        · exact absurd h5 (mem9_le hA (Int.le_refl _))
        · exact Norm.from (l := z :: B) (lo := z.a) ⟨Int.le_refl _, h2.2⟩ h5
      · have hza : z.a ≤ x.a := by
          rcases mem9_app.1 (h x.a (Int.le_refl _) (by unfold Sp.e; omega)) with h5 | h5
          · exact absurd h5 (mem9_le hA (Int.le_refl _))
          · exact Norm.from (l := z :: B) (lo := z.a) ⟨Int.le_refl _, h2.2⟩ h5
        refine Int.not_lt.1 (fun hlt => ?_)
        rcases mem9_app.1 (h z.e (by omega) hlt) with h5 | h5
        · exact absurd h5 (mem9_le hA (by omega))
        · rcases mem9_cons.1 h5 with h6 | h6
          · omega
          · have := Norm.from h2.2.2.2 h6; omega
theorem addL_split {A B : List Sp} {x : Sp} {k : Nat} (hk : A.length = k) : ∃ A' x' x'' B', addL (A ++ B) x k = A' ++ [x''] ++ B' ∧ ((A' = A ∧ x' = x ∧ (∀ A0 y, A = A0 ++ [y] → y.e ≠ x.a)) ∨ ∃ y, A = A' ++ [y] ∧ y.e = x.a ∧ x' = ⟨y.a, y.m + x.m⟩) ∧ ((B' = B ∧ x'' = x' ∧ (∀ z B0, B = z :: B0 → z.a ≠ x.e)) ∨ ∃ z, B = z :: B' ∧ z.a = x.e ∧ x'' = ⟨x'.a, x'.m + z.m⟩) := by
  have hL : ∃ A' x', (A ++ B).take (k - leftN (A ++ B) x k) = A' ∧ leftX (A ++ B) x k = x' ∧ ((A' = A ∧ x' = x ∧ (∀ A0 y, A = A0 ++ [y] → y.e ≠ x.a)) ∨ ∃ y, A = A' ++ [y] ∧ y.e = x.a ∧ x' = ⟨y.a, y.m + x.m⟩) := by
    rcases List.eq_nil_or_concat A with rfl | ⟨A0, y, rfl⟩
    · have h0 : k = 0 := by simpa using hk.symm
      subst h0
      exact ⟨[], x, by simp, rfl, Or.inl ⟨rfl, rfl, fun A0 y h => by simp at h⟩⟩
    · obtain ⟨j, rfl⟩ : ∃ j, k = j + 1 := ⟨A0.length, by simpa using hk.symm⟩
      have hg := get_left (B := B) (by simpa using hk : (A0 ++ [y]).length = j + 1)
      have hjl : A0.length = j := by simpa using hk
      by_cases h : y.e = x.a
      · refine ⟨A0, ⟨y.a, y.m + x.m⟩, ?_, ?_, Or.inr ⟨y, by simp, h, rfl⟩⟩
        · simp only [leftN, List.concat_eq_append, hg, if_pos h]
          rw [Nat.add_sub_cancel, List.append_assoc, ← hjl, List.take_left]
        · simp only [leftX, List.concat_eq_append, hg, if_pos h]
      · refine ⟨A0 ++ [y], x, ?_, ?_, Or.inl ⟨by simp, rfl, fun A1 y1 he => ?_⟩⟩
        · simp only [leftN, List.concat_eq_append, hg, if_neg h]
          rw [Nat.sub_zero, ← (by simpa using hk : (A0 ++ [y]).length = j + 1), List.take_left]
        · simp only [leftX, List.concat_eq_append, hg, if_neg h]
        · rw [List.concat_eq_append] at he
          have := List.append_inj_right' he rfl
          simp at this
          rw [← this]; exact h
  obtain ⟨A', x', hA, hX, hL⟩ := hL
  unfold addL
  rw [hA, hX]
  have hg := get_right (B := B) hk
  cases B with
  | nil =>
    refine ⟨A', x', x', [], ?_, hL, Or.inl ⟨rfl, rfl, fun z B0 h => by simp at h⟩⟩
    simp only [rightX, rightN, hg, List.getElem?_nil]
    rw [List.drop_eq_nil_of_le (by simp; omega)]
  | cons z B0 =>
    simp only [List.getElem?_cons_zero] at hg
    by_cases h : z.a = x.e
    · refine ⟨A', x', ⟨x'.a, x'.m + z.m⟩, B0, ?_, hL, Or.inr ⟨z, rfl, h, rfl⟩⟩
      simp only [rightX, rightN, hg, if_pos h]
      rw [List.append_cons A z B0, show k + 1 = (A ++ [z]).length by simp [hk], List.drop_left]
    · refine ⟨A', x', x', z :: B0, ?_, hL, Or.inl ⟨rfl, rfl, fun z1 B1 he => ?_⟩⟩
      · simp only [rightX, rightN, hg, if_neg h]
        rw [Nat.add_zero, ← hk, List.drop_left]
      · simp at he; rw [← he.1]; exact h
theorem norm_one {lo : Int} {A B : List Sp} {z : Sp} : Norm lo (A ++ [z] ++ B) ↔ Norm lo A ∧ nxt lo A ≤ z.a ∧ 1 ≤ z.m ∧ z.e ≤ 1099511627776 ∧ Norm (z.e + 1) B := by
  rw [List.append_assoc, norm_app]
  rfl
/-- What is added is there, and all else as it was. -/
theorem addL_ok {l : List Sp} {x : Sp} {k : Nat} (hn : Norm 0 l) (hx : May9 x) (hb : Behind l x.a k) (hm : ¬ meets9 l x k) : Norm 0 (addL l x k) ∧ ∀ n, Mem9 (addL l x k) n ↔ Mem9 l n ∨ (x.a ≤ n ∧ n < x.e) := by
  obtain ⟨A, B, rfl, hk, hA, hB⟩ := split9 hb
  have hzb : ∀ z B0, B = z :: B0 → x.e ≤ z.a := fun z B0 h => by
    unfold meets9 at hm
    rw [get_right hk, h] at hm
    exact Int.not_lt.1 (fun hlt => hm ⟨z, rfl, hlt⟩)
  obtain ⟨A', x', x'', B', he, h1, h2⟩ := addL_split (B := B) (x := x) hk
  have hxe : x.e = x.a + x.m := rfl
  unfold May9 at hx
  rw [he]
  have hfr : ∀ (A : List Sp) (lo : Int), Norm lo A → lo ≤ x.a → (∀ y ∈ A, y.e < x.a) → nxt lo A ≤ x.a := by
    intro A
    induction A with
    | nil => intro lo _ h _; exact h
    | cons y A ih => intro lo hN hlo hy; exact ih _ hN.2.2.2 (by have := hy y (by simp); omega) (fun w hw => hy w (by simp [hw]))
  -- the left part and the new span
  have hleft : Norm 0 A' ∧ nxt 0 A' ≤ x'.a ∧ 1 ≤ x'.m ∧ x'.e = x.e ∧ (∀ n, Mem9 A' n ∨ (x'.a ≤ n ∧ n < x'.e) ↔ Mem9 A n ∨ (x.a ≤ n ∧ n < x.e)) := by
    have hN := ((norm_app A B 0).1 hn).1
    rcases h1 with ⟨rfl, rfl, hno⟩ | ⟨y, rfl, hy, rfl⟩
    · refine ⟨hN, ?_, hx.2.1, rfl, fun n => Iff.rfl⟩
      rcases List.eq_nil_or_concat A' with rfl | ⟨A0, y, rfl⟩
      · exact hx.1
      · rw [List.concat_eq_append] at hN hA ⊢
        have hye := hA y (by simp)
        have hne := hno A0 y (by simp)
        rw [nxt_app]
        show y.e + 1 ≤ x'.a
        omega
    · have hN2 := (norm_one (B := [])).1 (by rw [List.append_nil]; exact hN)
      refine ⟨hN2.1, hN2.2.1, by show 1 ≤ y.m + x.m; omega, by show y.a + (y.m + x.m) = x.e; unfold Sp.e at hy; omega, fun n => ?_⟩
      have e1 : (⟨y.a, y.m + x.m⟩ : Sp).e = x.e := by show y.a + (y.m + x.m) = x.e; unfold Sp.e at hy; omega
      rw [e1, mem9_app, mem9_cons]
      have hy1 := hN2.2.2.1
      have hy2 : y.a ≤ y.e := by unfold Sp.e; omega
      constructor
      · rintro (h | h)
        · exact Or.inl (Or.inl h)
        · by_cases hlt : n < y.e
          · exact Or.inl (Or.inr (Or.inl ⟨h.1, hlt⟩))
          · exact Or.inr ⟨by omega, h.2⟩
      · rintro ((h | h | h) | h)
        · exact Or.inl h
        · exact Or.inr ⟨h.1, by omega⟩
        · exact (mem9_nil h).elim
        · exact Or.inr ⟨by show y.a ≤ n; omega, h.2⟩
  have hNB := ((norm_app A B 0).1 hn).2
  have hright : x''.a = x'.a ∧ 1 ≤ x''.m ∧ x''.e ≤ 1099511627776 ∧ Norm (x''.e + 1) B' ∧ (∀ n, (x''.a ≤ n ∧ n < x''.e) ∨ Mem9 B' n ↔ (x'.a ≤ n ∧ n < x'.e) ∨ Mem9 B n) := by
    rcases h2 with ⟨rfl, rfl, hno⟩ | ⟨z, rfl, hz, rfl⟩
    · refine ⟨rfl, hleft.2.2.1, by rw [hleft.2.2.2.1]; omega, ?_, fun n => Iff.rfl⟩
      rw [hleft.2.2.2.1]
      cases B' with
      | nil => trivial
      | cons z B0 =>
        have := hzb z B0 rfl
        have := hno z B0 rfl
        exact ⟨by omega, hNB.2⟩
    · have e1 : (⟨x'.a, x'.m + z.m⟩ : Sp).e = z.e := by
        have := hleft.2.2.2.1
        show x'.a + (x'.m + z.m) = z.a + z.m
        unfold Sp.e at this hz; omega
      refine ⟨rfl, by show 1 ≤ x'.m + z.m; have := hleft.2.2.1; have := hNB.2.1; omega, by rw [e1]; exact hNB.2.2.1, by rw [e1]; exact hNB.2.2.2, fun n => ?_⟩
      rw [e1, mem9_cons]
      have hz1 := hNB.2.1
      have hz2 : z.e = z.a + z.m := rfl
      have hx1 := hleft.2.2.2.1
      have hx2 := hleft.2.2.1
      have hx3 : x'.e = x'.a + x'.m := rfl
      constructor
      · rintro (h | h)
        · by_cases hlt : n < x'.e
          · exact Or.inl ⟨h.1, hlt⟩
          · exact Or.inr (Or.inl ⟨by omega, h.2⟩)
        · exact Or.inr (Or.inr h)
      · rintro (h | h | h)
        · exact Or.inl ⟨h.1, by omega⟩
        · exact Or.inl ⟨by show x'.a ≤ n; omega, h.2⟩
        · exact Or.inr h
  refine ⟨norm_one.2 ⟨hleft.1, by rw [hright.1]; exact hleft.2.1, hright.2.1, hright.2.2.1, hright.2.2.2.1⟩, fun n => ?_⟩
  rw [List.append_assoc, mem9_app, List.singleton_append, mem9_cons, mem9_app]
  have k1 := hleft.2.2.2.2 n
  have k2 := hright.2.2.2.2 n
  constructor
  · rintro (h | h)
    · rcases k1.1 (Or.inl h) with h3 | h3
      · exact Or.inl (Or.inl h3)
      · exact Or.inr h3
    · rcases k2.1 h with h3 | h3
      · rcases k1.1 (Or.inr h3) with h4 | h4
        · exact Or.inl (Or.inl h4)
        · exact Or.inr h4
      · exact Or.inl (Or.inr h3)
  · rintro ((h | h) | h)
    · rcases k1.2 (Or.inl h) with h3 | h3
      · exact Or.inl h3
      · exact Or.inr (k2.2 (Or.inl h3))
    · exact Or.inr (k2.2 (Or.inr h))
    · rcases k1.2 (Or.inr h) with h3 | h3
      · exact Or.inl h3
      · exact Or.inr (k2.2 (Or.inl h3))
/-- What is removed is not there, and all else as it was. -/
theorem remL_ok {l : List Sp} {x : Sp} {k : Nat} (hn : Norm 0 l) (hx : May9 x) (hb : Behind l x.a k) (hm : has9 l x k) : Norm 0 (remL l x k) ∧ ∀ n, Mem9 (remL l x k) n ↔ Mem9 l n ∧ ¬ (x.a ≤ n ∧ n < x.e) := by
  obtain ⟨A, B, rfl, hk, hA, hB⟩ := split9 hb
  unfold has9 at hm
  rw [get_right hk] at hm
  obtain ⟨z, hz, h1, h2⟩ := hm
  cases B with
  | nil => simp at hz
  | cons z' B =>
    simp at hz
    subst hz
    have hg := get_right (B := z' :: B) hk
    simp only [List.getElem?_cons_zero] at hg
    have hN := (norm_app A (z' :: B) 0).1 hn
    unfold May9 at hx
    have hxe : x.e = x.a + x.m := rfl
    have hze : z'.e = z'.a + z'.m := rfl
    have e0 : remL (A ++ z' :: B) x k = A ++ ((if z'.a < x.a then [⟨z'.a, x.a - z'.a⟩] else []) ++ (if x.e < z'.e then [⟨x.e, z'.e - x.e⟩] else []) ++ B) := by
      unfold remL
      rw [hg]
      simp only
      rw [← hk, List.take_left, List.append_cons A z' B, show A.length + 1 = (A ++ [z']).length by simp, List.drop_left, List.append_assoc]
    have hA2 : ∀ n, Mem9 A n → ¬ (x.a ≤ n ∧ n < x.e) := fun n hm h3 => mem9_le hA h3.1 hm
    have hB2 : ∀ n, Mem9 B n → z'.e < n := fun n hm => by have := Norm.from hN.2.2.2.2 hm; omega
    rw [e0, norm_app]
    obtain ⟨q1, q2, q3, q4⟩ := hN.2
    refine ⟨⟨hN.1, ?_⟩, fun n => ?_⟩
    · by_cases c1 : z'.a < x.a <;> by_cases c2 : x.e < z'.e
      · rw [if_pos c1, if_pos c2]
        exact ⟨q1, by show 1 ≤ x.a - z'.a; omega, by show z'.a + (x.a - z'.a) ≤ _; omega, by show z'.a + (x.a - z'.a) + 1 ≤ x.e; omega, by show 1 ≤ z'.e - x.e; omega, by show x.e + (z'.e - x.e) ≤ _; omega, by rw [show (⟨x.e, z'.e - x.e⟩ : Sp).e = z'.e by show x.e + (z'.e - x.e) = z'.e; omega]; exact q4⟩
      · rw [if_pos c1, if_neg c2]
        exact ⟨q1, by show 1 ≤ x.a - z'.a; omega, by show z'.a + (x.a - z'.a) ≤ _; omega, q4.low (by show z'.a + (x.a - z'.a) + 1 ≤ z'.e + 1; omega)⟩
      · rw [if_neg c1, if_pos c2]
        exact ⟨by show _ ≤ x.e; omega, by show 1 ≤ z'.e - x.e; omega, by show x.e + (z'.e - x.e) ≤ _; omega, by rw [show (⟨x.e, z'.e - x.e⟩ : Sp).e = z'.e by show x.e + (z'.e - x.e) = z'.e; omega]; exact q4⟩
      · rw [if_neg c1, if_neg c2]
        exact q4.low (by omega)
    · rw [mem9_app, mem9_app, mem9_app, mem9_app, mem9_cons]
      have e1 : Mem9 (if z'.a < x.a then [⟨z'.a, x.a - z'.a⟩] else []) n ↔ z'.a ≤ n ∧ n < x.a := by
        by_cases c1 : z'.a < x.a
        · rw [if_pos c1, mem9_cons]
          constructor
          · rintro (h | h)
            · exact ⟨h.1, by have h6 : n < z'.a + (x.a - z'.a) := h.2; omega⟩
            · exact (mem9_nil h).elim
          · rintro h
            exact Or.inl ⟨h.1, by show n < z'.a + (x.a - z'.a); omega⟩
        · rw [if_neg c1]
          exact ⟨fun h => (mem9_nil h).elim, fun h => by omega⟩
      have e2 : Mem9 (if x.e < z'.e then [⟨x.e, z'.e - x.e⟩] else []) n ↔ x.e ≤ n ∧ n < z'.e := by
        by_cases c1 : x.e < z'.e
        · rw [if_pos c1, mem9_cons]
          constructor
          · rintro (h | h)
            · exact ⟨h.1, by have h6 : n < x.e + (z'.e - x.e) := h.2; omega⟩
            · exact (mem9_nil h).elim
          · rintro h
            exact Or.inl ⟨h.1, by show n < x.e + (z'.e - x.e); omega⟩
        · rw [if_neg c1]
          exact ⟨fun h => (mem9_nil h).elim, fun h => by omega⟩
      rw [e1, e2]
      constructor
      · rintro (h | (h | h) | h)
        · exact ⟨Or.inl h, hA2 n h⟩
        · exact ⟨Or.inr (Or.inl ⟨h.1, by omega⟩), by omega⟩
        · exact ⟨Or.inr (Or.inl ⟨by omega, h.2⟩), by omega⟩
        · exact ⟨Or.inr (Or.inr h), by have := hB2 n h; omega⟩
      · rintro ⟨h | h | h, h7⟩
        · exact Or.inl h
        · by_cases c1 : n < x.a
          · exact Or.inr (Or.inl (Or.inl ⟨h.1, c1⟩))
          · exact Or.inr (Or.inl (Or.inr ⟨by omega, h.2⟩))
        · exact Or.inr (Or.inr h)
/-- There is such a place. -/
theorem behind_uniq {l : List Sp} {n : Int} {j k : Nat} (h1 : Behind l n j) (h2 : Behind l n k) : j = k := by
  rcases Nat.lt_trichotomy j k with h | h | h
  · obtain ⟨y, hy⟩ : ∃ y, l[j]? = some y := ⟨_, List.getElem?_eq_getElem (by have := h2.1; omega)⟩
    have a := h1.2.2 j y (Nat.le_refl _) hy
    have b := h2.2.1 j y h hy
    omega
  · exact h
  · obtain ⟨y, hy⟩ : ∃ y, l[k]? = some y := ⟨_, List.getElem?_eq_getElem (by have := h1.1; omega)⟩
    have a := h2.2.2 k y (Nat.le_refl _) hy
    have b := h1.2.1 k y h hy
    omega
end Go.Proofs.Ytkbppkimpefilaa
