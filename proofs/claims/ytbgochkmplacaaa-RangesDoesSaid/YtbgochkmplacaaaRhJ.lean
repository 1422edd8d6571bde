/- The law's two sets: what both say. -/
import Derived.Test.YtbgochkmplacaaaRhI
namespace Go.Proofs.Ytbgochkmplacaaa
open Go.RowKit Go.Lib
set_option maxRecDepth 100000

/-- The blocks that two sets hold. -/
def foot2 (sb : Nat) (p : Option Addr) (rb : Nat) (q : Option Addr) : List Nat := sb :: rb :: (blk p ++ blk q)
/-- The program's set and the document's, of one list. -/
structure TwoS (w : World) (sb : Nat) (p : Option Addr) (c : Nat) (rb : Nat) (q : Option Addr) (d : Nat) (l : List Sp) : Prop where
  s : RSet w sb p c l
  r : RRef w rb q d l
  nm : Norm 0 l
  ln : l.length ≤ 4096
  ne : sb ≠ rb
  sq : sb ∉ blk q
  rp : rb ∉ blk p
  pq : ∀ k ∈ blk p, k ∉ blk q
section
variable {w w' w1 w2 : World} {sb : Nat} {p p' : Option Addr} {c c' : Nat} {rb : Nat} {q q' : Option Addr} {d d' : Nat} {l l' k' : List Sp} {x : Sp} {E E2 : Int}
theorem TwoS.kept {T : List Nat} (h : TwoS w sb p c rb q d l) (hf : Frm T w w') (hT : ∀ k ∈ foot2 sb p rb q, k ∉ T) : TwoS w' sb p c rb q d l :=
  ⟨h.s.kept hf (hT _ (by simp [foot2])) (fun k hk => hT k (by simp [foot2, hk])), h.r.kept hf (hT _ (by simp [foot2])) (fun k hk => hT k (by simp [foot2, hk])), h.nm, h.ln, h.ne, h.sq, h.rp, h.pq⟩
theorem TwoS.low (h : TwoS w sb p c rb q d l) : ∀ k ∈ foot2 sb p rb q, k < w.heap.size := fun k hk => by
  simp only [foot2, List.mem_cons, List.mem_append] at hk
  rcases hk with rfl | rfl | hk | hk
  · exact lt_of_heap h.s.row
  · exact lt_of_heap h.r.row
  · exact ownsRow_low h.s.own.1 k hk
  · exact ownsRow_low h.r.own.1 k hk
/-- Behind a call on both that leaves the same list. -/
theorem TwoS.turn (h : TwoS w sb p c rb q d l) (a1 : RSet w1 sb p' c' l') (a2 : Norm 0 l') (a3 : l'.length ≤ 4096) (a4 : Frm (sb :: blk p) w w1) (a5 : ∀ k ∈ blk p', k ∈ blk p ∨ w.heap.size ≤ k)
    (b1 : RRef w2 rb q' d' l') (b2 : Frm [rb] w1 w2) (b3 : ∀ k ∈ blk q', k ∈ blk q ∨ w1.heap.size ≤ k) :
    TwoS w2 sb p' c' rb q' d' l' ∧ Frm (sb :: rb :: blk p) w w2 ∧ ∀ k ∈ foot2 sb p' rb q', k ∈ foot2 sb p rb q ∨ w.heap.size ≤ k := by
  have hlow := h.low
  have hrb : rb < w.heap.size := lt_of_heap h.r.row
  have hsb : sb < w.heap.size := lt_of_heap h.s.row
  have hrp : rb ∉ blk p' := fun hm => (a5 rb hm).elim h.rp (fun h1 => by omega)
  have hq : ∀ k ∈ blk q, k < w.heap.size := fun k hk => ownsRow_low h.r.own.1 k hk
  have hp1 : ∀ k ∈ blk p', k < w1.heap.size := fun k hk => ownsRow_low a1.own.1 k hk
  have hs1 := a4.size
  refine ⟨⟨a1.kept b2 (by simp; exact h.ne) (fun k hk hm => by simp at hm; subst hm; exact hrp hk), b1, a2, a3, h.ne, fun hm => (b3 sb hm).elim h.sq (fun h1 => by omega), hrp, fun k hk hm => ?_⟩, ?_, fun k hk => ?_⟩
  · rcases b3 k hm with h1 | h1
    · rcases a5 k hk with h2 | h2
      · exact h.pq k h2 h1
      · have := hq k h1; omega
    · have := hp1 k hk; omega
  · exact (a4.mono (fun k hk _ => by simp at hk ⊢; rcases hk with h1 | h1 <;> simp [h1])).trans b2 (fun k hk _ => by simp at hk; simp [hk])
  · simp only [foot2, List.mem_cons, List.mem_append] at hk ⊢
    rcases hk with h1 | h1 | h1 | h1
    · exact Or.inl (Or.inl h1)
    · exact Or.inl (Or.inr (Or.inl h1))
    · rcases a5 k h1 with h2 | h2
      · exact Or.inl (Or.inr (Or.inr (Or.inl h2)))
      · exact Or.inr h2
    · rcases b3 k h1 with h2 | h2
      · exact Or.inl (Or.inr (Or.inr (Or.inr h2)))
      · exact Or.inr (by omega)
/-- Behind a copy of both. -/
theorem TwoS.copy (h : TwoS w sb p c rb q d l) {s' r' : Nat} (a1 : RSet w1 s' p' c' l) (a2 : Frm [] w w1) (a3 : w.heap.size ≤ s') (a4 : ∀ k ∈ blk p', w.heap.size ≤ k)
    (b1 : RRef w2 r' q' d' l) (b2 : Frm [] w1 w2) (b3 : w1.heap.size ≤ r') (b4 : ∀ k ∈ blk q', w1.heap.size ≤ k) :
    TwoS w2 s' p' c' r' q' d' l ∧ TwoS w2 sb p c rb q d l ∧ Frm [] w w2 ∧ ∀ k ∈ foot2 s' p' r' q', w.heap.size ≤ k := by
  have hf := a2.trans b2 (by simp)
  have h1 : s' < w1.heap.size := lt_of_heap a1.row
  have h2 : ∀ k ∈ blk p', k < w1.heap.size := fun k hk => ownsRow_low a1.own.1 k hk
  have h3 := a2.size
  refine ⟨⟨a1.k0 b2, b1, h.nm, h.ln, by omega, fun hm => by have := b4 _ hm; omega, fun hm => by have := h2 _ hm; omega, fun k hk hm => by have := h2 k hk; have := b4 k hm; omega⟩, h.kept hf (by simp), hf, fun k hk => ?_⟩
  simp only [foot2, List.mem_cons, List.mem_append] at hk
  rcases hk with rfl | rfl | hk | hk
  · exact a3
  · omega
  · exact a4 k hk
  · have := b4 k hk; omega
end
end Go.Proofs.Ytbgochkmplacaaa
