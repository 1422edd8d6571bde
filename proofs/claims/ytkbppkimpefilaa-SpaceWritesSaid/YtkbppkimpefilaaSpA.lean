/- Entries of a space map: as cells, as bytes, and what they leave when they are replayed. -/
import Derived.Test.YtkbppkimpefilaaRgO
import Derived.Test.YtkbppkimpefilaaLawC
namespace Go.Proofs.Ytkbppkimpefilaa
open Go.RowKit Go.Lib
set_option maxRecDepth 100000

/-- An entry. -/
structure Sq where
  f : Bool
  s : Sp
def rowE : List Sq → List Value
  | [] => []
  | y :: l => .bool y.f :: .int .i64 y.s.a :: .int .i64 y.s.m :: rowE l
theorem rowE_len : ∀ l : List Sq, (rowE l).length = l.length * 3
  | [] => rfl
  | y :: l => by simp only [rowE, List.length_cons, rowE_len l]; omega
theorem rowE_app : ∀ a b : List Sq, rowE (a ++ b) = rowE a ++ rowE b
  | [], _ => rfl
  | y :: a, b => by simp only [List.cons_append, rowE, rowE_app a b]
theorem rowE_take : ∀ (k : Nat) (l : List Sq), (rowE l).take (k * 3) = rowE (l.take k)
  | 0, l => by simp [rowE]
  | k + 1, [] => by simp [rowE]
  | k + 1, y :: l => by rw [show (k + 1) * 3 = k * 3 + 1 + 1 + 1 by omega]; simp only [rowE, List.take_succ_cons, rowE_take k l]
theorem rowE_drop : ∀ (k : Nat) (l : List Sq), (rowE l).drop (k * 3) = rowE (l.drop k)
  | 0, l => by simp
  | k + 1, [] => by simp [rowE]
  | k + 1, y :: l => by rw [show (k + 1) * 3 = k * 3 + 1 + 1 + 1 by omega]; simp only [rowE, List.drop_succ_cons, rowE_drop k l]
theorem rowE_one : ∀ (l : List Sq), ∀ v ∈ rowE l, v.oneCell' = true
  | [], v, h => by simp [rowE] at h
  | y :: l, v, h => by
    simp only [rowE, List.mem_cons] at h
    rcases h with rfl | rfl | rfl | h
    · rfl
    · rfl
    · rfl
    · exact rowE_one l v h
theorem rowE_get : ∀ (l : List Sq) (i : Nat) (y : Sq), l[i]? = some y → (rowE l)[i * 3]? = some (.bool y.f) ∧ (rowE l)[i * 3 + 1]? = some (.int .i64 y.s.a) ∧ (rowE l)[i * 3 + 2]? = some (.int .i64 y.s.m)
  | [], i, y, h => by simp at h
  | x :: l, 0, y, h => by simp at h; subst h; simp [rowE]
  | x :: l, i + 1, y, h => by
    simp only [List.getElem?_cons_succ] at h
    have h1 := rowE_get l i y h
    rw [show (i + 1) * 3 = i * 3 + 1 + 1 + 1 by omega]
    simpa [rowE] using h1
theorem infoSq : (Try.prog.info? 41).map (fun i => (i.zero, i.size, i.bytes)) = some (some (.agg #[.bool false, .int .i64 0, .int .i64 0]), 3, 24) := by kernel_rfl
theorem rvE_at {w : World} {p : Option Addr} {l : List Sq} (h : Rv w p (rowE l)) {i : Nat} {y : Sq} (hi : l[i]? = some y) : ∃ g o, p = some ⟨g, o, none⟩ ∧ w.cell? ⟨g, o + i * 3, none⟩ = some (.bool y.f) ∧ w.cell? ⟨g, o + i * 3 + 1, none⟩ = some (.int .i64 y.s.a) ∧ w.cell? ⟨g, o + i * 3 + 2, none⟩ = some (.int .i64 y.s.m) := by
  obtain ⟨h1, h2, h3⟩ := rowE_get l i y hi
  rcases h with h | ⟨g, o, rfl, hc⟩
  · rw [h] at h1; simp at h1
  · exact ⟨g, o, rfl, hc _ _ h1, hc _ _ h2, hc _ _ h3⟩
/-- A list of entries of one's own. -/
def OwnE (w : World) (p : Option Addr) (n c : Nat) (l : List Sq) : Prop := w.ownsRow 0 41 3 (.slice p n c) n (rowE l) ∧ l.length = n
theorem OwnE.kept {w w' : World} {p : Option Addr} {n c : Nat} {l : List Sq} {T : List Nat} (h : OwnE w p n c l) (hf : Frm T w w') (hp : ∀ k ∈ blk p, k ∉ T) : OwnE w' p n c l := ⟨ownsRow_kept h.1 hf hp, h.2⟩
theorem OwnE.block {w : World} {p : Option Addr} {n c : Nat} {l : List Sq} (h : OwnE w p n c l) (hn : 0 < n) : ∃ g C, p = some ⟨g, 0, none⟩ ∧ w.heap[g]? = some (.cells (List.toArray C) 41 (0, 0)) ∧ n ≤ c ∧ c ≤ maxLen ∧ C.length = c * 3 ∧ C.take (n * 3) = rowE l := by
  rcases h.1.2 with ⟨_, h0⟩ | ⟨g, c', cur, he, _, hg, hc, hm, hs, ht⟩
  · omega
  · simp only [Value.slice.injEq] at he
    obtain ⟨rfl, _, rfl⟩ := he
    exact ⟨g, cur.toList, rfl, by simpa using hg, hc, hm, by simpa using hs, ht⟩
theorem OwnE.cap {w : World} {p : Option Addr} {n c : Nat} {l : List Sq} (h : OwnE w p n c l) : n ≤ c ∧ c ≤ maxLen := by
  rcases h.1.2 with ⟨he, h0⟩ | ⟨g, c', cur, he, _, hg, hc, hm, hs, ht⟩
  · simp only [Value.slice.injEq] at he
    obtain ⟨_, _, rfl⟩ := he
    exact ⟨by omega, by unfold maxLen; omega⟩
  · simp only [Value.slice.injEq] at he
    obtain ⟨_, _, rfl⟩ := he
    exact ⟨hc, hm⟩
theorem OwnE.nil {w : World} {p : Option Addr} {n c : Nat} {l : List Sq} (h : OwnE w p n c l) (hn : p = none) : n = 0 ∧ c = 0 := by
  rcases h.1.2 with ⟨he, h0⟩ | ⟨g, c', cur, he, _, hg, hc, hm, hs, ht⟩
  · simp only [Value.slice.injEq] at he
    exact ⟨h0, he.2.2⟩
  · simp only [Value.slice.injEq] at he
    rw [hn] at he; simp at he
theorem OwnE.of {w : World} {g n c : Nat} {l : List Sq} {C : List Value} (hg : w.heap[g]? = some (.cells C.toArray 41 (0, 0))) (hn : n ≤ c) (hm : c ≤ maxLen) (hl : C.length = c * 3) (ht : C.take (n * 3) = rowE l) (hln : l.length = n) : OwnE w (some ⟨g, 0, none⟩) n c l :=
  ⟨⟨by rw [rowE_len, hln], Or.inr ⟨g, c, C.toArray, rfl, Nat.zero_le _, hg, hn, hm, by simpa using hl, by simpa using ht⟩⟩, hln⟩
theorem OwnE.rv {w : World} {p : Option Addr} {n c : Nat} {l : List Sq} (h : OwnE w p n c l) : Rv w p (rowE l) := by
  by_cases hn : 0 < n
  · obtain ⟨g, C, rfl, hg, hc, hm, hl, ht⟩ := h.block hn
    refine Or.inr ⟨g, 0, rfl, fun i u hu => ?_⟩
    rw [cell_of_row _ _ _ _ _ _ hg, Nat.zero_add]
    rw [← ht, List.getElem?_take] at hu
    split at hu
    · simpa using hu
    · cases hu
  · have h0 : l = [] := List.eq_nil_of_length_eq_zero (by have := h.2; omega)
    subst h0
    exact Or.inl rfl
/-- The numbers of its spans are numbers. -/
def InE (l : List Sq) : Prop := ∀ y ∈ l, y.s.In
/-- Why entries may not be. -/
def chkE (l : List Sq) : Int := if 4096 < l.length then 2 else if ∀ y ∈ l, May9 y.s then 0 else 100
theorem chkE_ok {l : List Sq} : chkE l = 0 ↔ l.length ≤ 4096 ∧ ∀ y ∈ l, May9 y.s := by
  unfold chkE
  split
  · exact ⟨fun h => by omega, fun h => by omega⟩
  · split
    · rename_i h1 h2; exact ⟨fun _ => ⟨by omega, h2⟩, fun _ => rfl⟩
    · rename_i h1 h2; exact ⟨fun h => by omega, fun h => absurd h.2 h2⟩
/-- An entry as bytes. -/
def entB (y : Sq) : List Int := le (if y.f then 1 else 0) 1 ++ le y.s.a 6 ++ le y.s.m 6
def entsB : List Sq → List Int
  | [] => []
  | y :: l => entB y ++ entsB l
def spB (l : List Sq) : List Int := le (l.length : Int) 2 ++ entsB l
theorem entB_len (y : Sq) : (entB y).length = 13 := by simp [entB, le_length]
theorem entsB_len : ∀ l : List Sq, (entsB l).length = 13 * l.length
  | [] => rfl
  | y :: l => by simp only [entsB, List.length_append, entB_len, entsB_len l, List.length_cons]; omega
theorem spB_len (l : List Sq) : (spB l).length = 2 + 13 * l.length := by simp [spB, le_length, entsB_len]
theorem entsB_app : ∀ a b : List Sq, entsB (a ++ b) = entsB a ++ entsB b
  | [], _ => rfl
  | y :: a, b => by simp only [List.cons_append, entsB, entsB_app a b, List.append_assoc]
theorem entsB_take {l : List Sq} {t : Nat} {y : Sq} (h : l[t]? = some y) : entsB (l.take (t + 1)) = entsB (l.take t) ++ entB y := by
  rw [List.take_add_one, h, Option.toList_some, entsB_app]; simp [entsB]

/-- One entry, replayed. -/
def StepE (l : List Sp) (y : Sq) (E : Int) (l' : List Sp) : Prop := (y.f = true ∧ RemP l y.s E l') ∨ (y.f = false ∧ AddP l y.s E l')
theorem AddP.det {l l' k' : List Sp} {x : Sp} {E E' : Int} (h : AddP l x E l') (h' : AddP l x E' k') : E' = E ∧ k' = l' := by
  rcases h with ⟨a1, rfl, rfl⟩ | ⟨a1, a2, l1, _, a3, a4, a5⟩ <;> rcases h' with ⟨b1, rfl, rfl⟩ | ⟨b1, b2, l2, _, b3, b4, b5⟩
  · exact ⟨rfl, rfl⟩
  · exact (a1.elim (fun h => h b1) b2).elim
  · exact (b1.elim (fun h => h a1) a2).elim
  · have e : l2 = l1 := norm_same b3 a3 (fun n => (b4 n).trans (a4 n).symm)
    subst e
    rcases a5 with ⟨_, rfl, rfl⟩ | ⟨_, rfl, rfl⟩ <;> rcases b5 with ⟨_, rfl, rfl⟩ | ⟨_, rfl, rfl⟩
    · exact ⟨rfl, rfl⟩
    · omega
    · omega
    · exact ⟨rfl, rfl⟩
theorem RemP.det {l l' k' : List Sp} {x : Sp} {E E' : Int} (h : RemP l x E l') (h' : RemP l x E' k') : E' = E ∧ k' = l' := by
  rcases h with ⟨a1, rfl, rfl⟩ | ⟨a1, l1, _, a3, a4, a5⟩ <;> rcases h' with ⟨b1, rfl, rfl⟩ | ⟨b1, l2, _, b3, b4, b5⟩
  · exact ⟨rfl, rfl⟩
  · exact (a1 b1).elim
  · exact (b1 a1).elim
  · have e : l2 = l1 := norm_same b3 a3 (fun n => (b4 n).trans (a4 n).symm)
    subst e
    rcases a5 with ⟨_, rfl, rfl⟩ | ⟨_, rfl, rfl⟩ <;> rcases b5 with ⟨_, rfl, rfl⟩ | ⟨_, rfl, rfl⟩
    · exact ⟨rfl, rfl⟩
    · omega
    · omega
    · exact ⟨rfl, rfl⟩
theorem StepE.det {l l' k' : List Sp} {y : Sq} {E E' : Int} (h : StepE l y E l') (h' : StepE l y E' k') : E' = E ∧ k' = l' := by
  rcases h with ⟨a, h⟩ | ⟨a, h⟩ <;> rcases h' with ⟨b, h'⟩ | ⟨b, h'⟩
  · exact h.det h'
  · rw [a] at b; cases b
  · rw [a] at b; cases b
  · exact h.det h'
/-- Entries, replayed from a set on: how it ends, and with which set. -/
def RepR : List Sq → List Sp → Int → List Sp → Prop
  | [], l, E, r => E = 0 ∧ r = l
  | y :: es, l, E, r => ∃ F l', StepE l y F l' ∧ ((F = 0 ∧ RepR es l' E r) ∨ (F ≠ 0 ∧ E = 101 ∧ r = []))
theorem RepR.det : ∀ {es : List Sq} {l r r' : List Sp} {E E' : Int}, RepR es l E r → RepR es l E' r' → E' = E ∧ r' = r
  | [], _, _, _, _, _, ⟨rfl, rfl⟩, ⟨rfl, rfl⟩ => ⟨rfl, rfl⟩
  | y :: es, l, r, r', E, E', ⟨F, l1, h1, h2⟩, ⟨F', l1', h1', h2'⟩ => by
    obtain ⟨e1, e2⟩ := h1.det h1'
    subst e1 e2
    rcases h2 with ⟨a, h2⟩ | ⟨a, rfl, rfl⟩ <;> rcases h2' with ⟨b, h2'⟩ | ⟨b, rfl, rfl⟩
    · exact RepR.det h2 h2'
    · exact absurd a b
    · exact absurd b a
    · exact ⟨rfl, rfl⟩
theorem RepR.cut : ∀ {A B : List Sq} {l r : List Sp}, RepR (A ++ B) l 0 r → ∃ m, RepR A l 0 m ∧ RepR B m 0 r
  | [], B, l, r, h => ⟨l, ⟨rfl, rfl⟩, h⟩
  | y :: A, B, l, r, ⟨F, l', h1, h2⟩ => by
    rcases h2 with ⟨a, h2⟩ | ⟨_, h2, _⟩
    · obtain ⟨m, h3, h4⟩ := RepR.cut h2
      exact ⟨m, ⟨F, l', h1, Or.inl ⟨a, h3⟩⟩, h4⟩
    · omega
theorem RepR.fails : ∀ {es : List Sq} {l r : List Sp} {E : Int}, RepR es l E r → E ≠ 0 → RepR es l E []
  | [], _, _, _, ⟨h, _⟩, hE => absurd h hE
  | y :: es, l, r, E, ⟨F, l', h1, h2⟩, hE => by
    rcases h2 with ⟨a, h2⟩ | ⟨a, h2, _⟩
    · exact ⟨F, l', h1, Or.inl ⟨a, h2.fails hE⟩⟩
    · exact ⟨F, l', h1, Or.inr ⟨a, h2, rfl⟩⟩
/-- Ranges as entries. -/
def toE (l : List Sp) : List Sq := l.map (fun s => ⟨false, s⟩)
theorem norm_may {l : List Sp} (h : Norm 0 l) : ∀ y ∈ l, May9 y := fun y hy => by
  obtain ⟨i, hi⟩ := List.mem_iff_getElem?.1 hy
  obtain ⟨h1, h2, h3⟩ := h.at hi
  unfold Sp.e at h3
  unfold May9
  omega
/-- Ranges that lie behind one another are added one by one. -/
theorem RepR.lay : ∀ {B A : List Sp} {C : List Sq} {r : List Sp} {E : Int}, RepR (toE B ++ C) A E r → Norm 0 (A ++ B) → (A ++ B).length ≤ 4096 → RepR C (A ++ B) E r
  | [], A, C, r, E, h, _, _ => by simpa [toE] using h
  | y :: B, A, C, r, E, ⟨F, l', h1, h2⟩, hn, hl => by
    have hm : May9 y := norm_may hn y (by simp)
    have e2 : A ++ y :: B = (A ++ [y]) ++ B := by simp
    have hn2 : Norm 0 (A ++ [y]) := by rw [e2, norm_app] at hn; exact hn.1
    have hna := (norm_app A [y] 0).1 hn2
    obtain ⟨rfl, rfl⟩ : F = 0 ∧ l' = A ++ [y] := by
      rcases h1 with ⟨a, _⟩ | ⟨_, h1⟩
      · cases a
      · refine h1.same hm (fun n q1 q2 h => ?_) hn2 (fun n => by rw [mem9_app, mem9_one]) (by simp at hl ⊢; omega)
        have h8 := hna.1.below h
        have h9 := hna.2.1
        have h10 : y.a ≤ n := q1
        omega
    rcases h2 with ⟨_, h2⟩ | ⟨h2, _⟩
    · rw [e2] at hn hl ⊢
      exact RepR.lay h2 hn hl
    · exact absurd rfl h2
theorem remL_len (l : List Sp) (x : Sp) (k : Nat) : (remL l x k).length ≤ l.length + 1 := by
  unfold remL
  split
  · rename_i y hy
    have := (List.getElem?_eq_some_iff.1 hy).1
    simp only [List.length_append, List.length_take, List.length_drop]
    have h1 : (if y.a < x.a then [(⟨y.a, x.a - y.a⟩ : Sp)] else []).length ≤ 1 := by split <;> simp
    have h2 : (if x.e < y.e then [(⟨x.e, y.e - x.e⟩ : Sp)] else []).length ≤ 1 := by split <;> simp
    omega
  · omega
theorem StepE.len {l l' : List Sp} {y : Sq} {E : Int} (h : StepE l y E l') : l'.length ≤ l.length + 1 := by
  rcases h with ⟨_, h⟩ | ⟨_, h⟩
  · rcases h with ⟨_, _, rfl⟩ | ⟨_, l1, ⟨K, _, rfl⟩, _, _, ⟨_, _, rfl⟩ | ⟨_, _, rfl⟩⟩
    · omega
    · exact remL_len _ _ _
    · omega
  · rcases h.zero with ⟨_, _, _, _, h⟩ | ⟨_, rfl⟩
    · exact h
    · omega
theorem RepR.len : ∀ {es : List Sq} {l r : List Sp} {E : Int}, RepR es l E r → r.length ≤ l.length + es.length
  | [], _, _, _, ⟨_, rfl⟩ => by simp
  | y :: es, l, r, E, ⟨F, l', h1, h2⟩ => by
    have := h1.len
    rcases h2 with ⟨_, h2⟩ | ⟨_, _, rfl⟩
    · have := RepR.len h2; simp only [List.length_cons]; omega
    · simp
/-- How Replay ends. -/
def RepC (es : List Sq) (E : Int) (r : List Sp) : Prop := (chkE es ≠ 0 ∧ E = chkE es ∧ r = []) ∨ (chkE es = 0 ∧ RepR es [] E r)
theorem RepC.det {es : List Sq} {r r' : List Sp} {E E' : Int} (h : RepC es E r) (h' : RepC es E' r') : E' = E ∧ r' = r := by
  rcases h with ⟨a, rfl, rfl⟩ | ⟨a, h⟩ <;> rcases h' with ⟨b, rfl, rfl⟩ | ⟨b, h'⟩
  · exact ⟨rfl, rfl⟩
  · exact absurd b a
  · exact absurd a b
  · exact h.det h'
theorem RepC.zero {es : List Sq} {r : List Sp} (h : RepC es 0 r) : chkE es = 0 ∧ RepR es [] 0 r := by
  rcases h with ⟨a, b, _⟩ | h
  · exact absurd b.symm a
  · exact h
theorem chkE_toE {l : List Sp} {B : List Sq} (hn : Norm 0 l) (hb : ∀ y ∈ B, May9 y.s) (hl : l.length + B.length ≤ 4096) : chkE (toE l ++ B) = 0 := by
  refine chkE_ok.2 ⟨by simp [toE]; exact hl, fun y hy => ?_⟩
  rcases List.mem_append.1 hy with h | h
  · obtain ⟨s, hs, rfl⟩ := List.mem_map.1 h
    exact norm_may hn s hs
  · exact hb y h
/-- A condensed beginning, and what comes behind it. -/
theorem RepC.join {es : List Sq} {r : List Sp} (h : RepC es 0 r) (at_ : Nat) : ∃ m, RepC (es.take at_) 0 m ∧ m.length ≤ at_ ∧ (Norm 0 m → m.length ≤ 4096 → ∀ {E : Int} {r' : List Sp}, m.length + (es.drop at_).length ≤ 4096 → RepC (toE m ++ es.drop at_) E r' → E = 0 ∧ r' = r) := by
  obtain ⟨h1, h2⟩ := h.zero
  obtain ⟨h3, h4⟩ := chkE_ok.1 h1
  rw [← List.take_append_drop at_ es] at h2
  obtain ⟨m, h5, h6⟩ := h2.cut
  refine ⟨m, Or.inr ⟨chkE_ok.2 ⟨by simp; omega, fun y hy => h4 y (List.mem_of_mem_take hy)⟩, h5⟩, by have := h5.len; simp at this; omega, fun hn hl E r' hlen h7 => ?_⟩
  have hc := chkE_toE hn (fun y hy => h4 y (List.mem_of_mem_drop hy)) hlen
  rcases h7 with ⟨a, _⟩ | ⟨_, h7⟩
  · exact absurd hc a
  · exact RepR.det h6 (RepR.lay (A := []) h7 hn (by simpa using hl))
end Go.Proofs.Ytkbppkimpefilaa
