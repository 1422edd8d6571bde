/- Sets of numbers as ranges: plain facts of lists of spans. -/
import Derived.Test.YtkbppkimpefilaaRgB
namespace Go.Proofs.Ytkbppkimpefilaa

/-- Spans by rising place, none of which touches another one, from a number on. -/
def Norm (lo : Int) : List Sp → Prop
  | [] => True
  | y :: l => lo ≤ y.a ∧ 1 ≤ y.m ∧ y.e ≤ 1099511627776 ∧ Norm (y.e + 1) l
theorem Norm.low {lo lo' : Int} (h : lo' ≤ lo) : ∀ {l : List Sp}, Norm lo l → Norm lo' l
  | [], _ => trivial
  | _ :: _, ⟨h1, h2⟩ => ⟨Int.le_trans h h1, h2⟩
/-- Where the next one may begin. -/
def nxt (lo : Int) : List Sp → Int
  | [] => lo
  | y :: l => nxt (y.e + 1) l
theorem norm_app : ∀ (A B : List Sp) (lo : Int), Norm lo (A ++ B) ↔ Norm lo A ∧ Norm (nxt lo A) B
  | [], B, lo => by simp [Norm, nxt]
  | y :: A, B, lo => by simp only [List.cons_append, Norm, nxt, norm_app A B]; simp only [and_assoc]
theorem nxt_app : ∀ (A B : List Sp) (lo : Int), nxt lo (A ++ B) = nxt (nxt lo A) B
  | [], _, _ => rfl
  | _ :: A, B, _ => by simp only [List.cons_append, nxt, nxt_app A B]
theorem Norm.at : ∀ {l : List Sp} {lo : Int}, Norm lo l → ∀ {i : Nat} {y : Sp}, l[i]? = some y → lo ≤ y.a ∧ 1 ≤ y.m ∧ y.e ≤ 1099511627776
  | [], _, _, i, y, h => by simp at h
  | x :: l, lo, ⟨h1, h2, h3, h4⟩, 0, y, h => by simp at h; subst h; exact ⟨h1, h2, h3⟩
  | x :: l, lo, ⟨h1, h2, h3, h4⟩, i + 1, y, h => by
    simp only [List.getElem?_cons_succ] at h
    obtain ⟨k1, k2, k3⟩ := Norm.at h4 h
    unfold Sp.e at k1
    exact ⟨by omega, k2, k3⟩
theorem Norm.lt : ∀ {l : List Sp} {lo : Int}, Norm lo l → ∀ {i j : Nat} {x y : Sp}, i < j → l[i]? = some x → l[j]? = some y → x.e < y.a
  | [], _, _, i, j, x, y, _, h, _ => by simp at h
  | z :: l, lo, ⟨h1, h2, h3, h4⟩, 0, j + 1, x, y, _, hx, hy => by
    simp at hx; subst hx
    simp only [List.getElem?_cons_succ] at hy
    have := (Norm.at h4 hy).1
    omega
  | z :: l, lo, ⟨h1, h2, h3, h4⟩, i + 1, j + 1, x, y, hij, hx, hy => by
    simp only [List.getElem?_cons_succ] at hx hy
    exact Norm.lt h4 (by omega) hx hy
  | z :: l, lo, _, i, 0, x, y, hij, _, _ => by omega
/-- The place of the first that ends behind a number. -/
def Behind (l : List Sp) (n : Int) (k : Nat) : Prop := k ≤ l.length ∧ (∀ i y, i < k → l[i]? = some y → y.e ≤ n) ∧ ∀ i y, k ≤ i → l[i]? = some y → n < y.e
/-- A number is there. -/
def Mem9 (l : List Sp) (n : Int) : Prop := ∃ y ∈ l, y.a ≤ n ∧ n < y.e
theorem mem9_app {A B : List Sp} {n : Int} : Mem9 (A ++ B) n ↔ Mem9 A n ∨ Mem9 B n := by
  simp only [Mem9, List.mem_append]
  constructor
  · rintro ⟨y, h | h, h2⟩
    · exact Or.inl ⟨y, h, h2⟩
    · exact Or.inr ⟨y, h, h2⟩
  · rintro (⟨y, h, h2⟩ | ⟨y, h, h2⟩)
    · exact ⟨y, Or.inl h, h2⟩
    · exact ⟨y, Or.inr h, h2⟩
theorem mem9_cons {y : Sp} {l : List Sp} {n : Int} : Mem9 (y :: l) n ↔ (y.a ≤ n ∧ n < y.e) ∨ Mem9 l n := by
  simp only [Mem9, List.mem_cons]
  constructor
  · rintro ⟨z, rfl | h, h2⟩
    · exact Or.inl h2
    · exact Or.inr ⟨z, h, h2⟩
  · rintro (h | ⟨z, h, h2⟩)
    · exact ⟨y, Or.inl rfl, h⟩
    · exact ⟨z, Or.inr h, h2⟩
theorem mem9_nil {n : Int} : ¬ Mem9 [] n := by rintro ⟨y, h, _⟩; simp at h
theorem Norm.from : ∀ {l : List Sp} {lo : Int}, Norm lo l → ∀ {n : Int}, Mem9 l n → lo ≤ n
  | [], _, _, n, h => (mem9_nil h).elim
  | y :: l, lo, ⟨h1, h2, h3, h4⟩, n, h => by
    rcases mem9_cons.1 h with h | h
    · omega
    · have := Norm.from h4 h
      unfold Sp.e at this
      omega
theorem Norm.below : ∀ {l : List Sp} {lo : Int}, Norm lo l → ∀ {n : Int}, Mem9 l n → n < nxt lo l - 1
  | [], _, _, n, h => (mem9_nil h).elim
  | y :: l, lo, ⟨h1, h2, h3, h4⟩, n, h => by
    show n < nxt (y.e + 1) l - 1
    have hge : ∀ (l : List Sp) (k : Int), Norm k l → k ≤ nxt k l := by
      intro l
      induction l with
      | nil => intro k _; exact Int.le_refl _
      | cons z l ih =>
        intro k hk
        have := ih _ hk.2.2.2
        obtain ⟨q1, q2, _, _⟩ := hk
        show k ≤ nxt (z.e + 1) l
        unfold Sp.e at this ⊢
        omega
    rcases mem9_cons.1 h with h | h
    · have := hge l _ h4; omega
    · exact Norm.below h4 h
/-- Two such lists that say the same are the same. -/
theorem norm_same : ∀ {l k : List Sp} {lo lo' : Int}, Norm lo l → Norm lo' k → (∀ n, Mem9 l n ↔ Mem9 k n) → l = k
  | [], [], _, _, _, _, _ => rfl
  | [], z :: k, _, _, _, ⟨h1, h2, _, _⟩, h => ((mem9_nil ((h z.a).2 (mem9_cons.2 (Or.inl (by unfold Sp.e; omega))))).elim)
  | y :: l, [], _, _, ⟨h1, h2, _, _⟩, _, h => ((mem9_nil ((h y.a).1 (mem9_cons.2 (Or.inl (by unfold Sp.e; omega))))).elim)
  | y :: l, z :: k, lo, lo', ⟨h1, h2, h3, h4⟩, ⟨k1, k2, k3, k4⟩, h => by
    have e1 : y.a = z.a := by
      have ha := (h y.a).1 (mem9_cons.2 (Or.inl (by unfold Sp.e; omega)))
      have hb := (h z.a).2 (mem9_cons.2 (Or.inl (by unfold Sp.e; omega)))
      have c1 : z.a ≤ y.a := by
        rcases mem9_cons.1 ha with h5 | h5
        · exact h5.1
        · have := Norm.from k4 h5; unfold Sp.e at this; omega
      have c2 : y.a ≤ z.a := by
        rcases mem9_cons.1 hb with h5 | h5
        · exact h5.1
        · have := Norm.from h4 h5; unfold Sp.e at this; omega
      omega
    have e2 : y.e = z.e := by
      have c1 : ¬ y.e < z.e := fun hlt => by
        rcases mem9_cons.1 ((h y.e).2 (mem9_cons.2 (Or.inl (by unfold Sp.e at hlt ⊢; omega)))) with h5 | h5
        · omega
        · have := Norm.from h4 h5; omega
      have c2 : ¬ z.e < y.e := fun hlt => by
        rcases mem9_cons.1 ((h z.e).1 (mem9_cons.2 (Or.inl (by unfold Sp.e at hlt ⊢; omega)))) with h5 | h5
        · omega
        · have := Norm.from k4 h5; omega
      omega
    have e3 : y = z := by
      obtain ⟨a, m⟩ := y
      obtain ⟨b, k⟩ := z
      unfold Sp.e at e2
      simp only at e1 e2
      rw [Sp.mk.injEq]
      exact ⟨e1, by omega⟩
    subst e3
    have e4 : l = k := by
      refine norm_same h4 k4 (fun n => ?_)
      constructor
      · intro hn
        have h5 := Norm.from h4 hn
        rcases mem9_cons.1 ((h n).1 (mem9_cons.2 (Or.inr hn))) with h6 | h6
        · omega
        · exact h6
      · intro hn
        have h5 := Norm.from k4 hn
        rcases mem9_cons.1 ((h n).2 (mem9_cons.2 (Or.inr hn))) with h6 | h6
        · omega
        · exact h6
    rw [e4]
/-- A span that may be. -/
def May9 (x : Sp) : Prop := 0 ≤ x.a ∧ 1 ≤ x.m ∧ x.m ≤ 1099511627776 ∧ x.a ≤ 1099511627776 - x.m
instance (x : Sp) : Decidable (May9 x) := by unfold May9; infer_instance
/-- What the program answers, once the place is found. -/
def meets9 (l : List Sp) (x : Sp) (k : Nat) : Prop := ∃ y, l[k]? = some y ∧ y.a < x.e
def has9 (l : List Sp) (x : Sp) (k : Nat) : Prop := ∃ y, l[k]? = some y ∧ y.a ≤ x.a ∧ x.e ≤ y.e
/-- With one span more: what goes away on the left, what on the right, and the new one. -/
def leftN (l : List Sp) (x : Sp) (k : Nat) : Nat := match k with
  | 0 => 0
  | j + 1 => match l[j]? with
    | some y => if y.e = x.a then 1 else 0
    | none => 0
def leftX (l : List Sp) (x : Sp) (k : Nat) : Sp := match k with
  | 0 => x
  | j + 1 => match l[j]? with
    | some y => if y.e = x.a then ⟨y.a, y.m + x.m⟩ else x
    | none => x
def rightN (l : List Sp) (x : Sp) (k : Nat) : Nat := match l[k]? with
  | some y => if y.a = x.e then 1 else 0
  | none => 0
def rightX (l : List Sp) (x z : Sp) (k : Nat) : Sp := match l[k]? with
  | some y => if y.a = x.e then ⟨z.a, z.m + y.m⟩ else z
  | none => z
def addL (l : List Sp) (x : Sp) (k : Nat) : List Sp := l.take (k - leftN l x k) ++ [rightX l x (leftX l x k) k] ++ l.drop (k + rightN l x k)
def remL (l : List Sp) (x : Sp) (k : Nat) : List Sp := match l[k]? with
  | some y => l.take k ++ ((if y.a < x.a then [⟨y.a, x.a - y.a⟩] else []) ++ (if x.e < y.e then [⟨x.e, y.e - x.e⟩] else [])) ++ l.drop (k + 1)
  | none => l
end Go.Proofs.Ytkbppkimpefilaa
