/- The program's disks beside the document's in one world: a call on both. -/
import Derived.Test.YtfclamndjnoopaaDskAb
namespace Go.Proofs.Ytfclamndjnoopaa
open Go.RowKit Go.Lib
set_option maxRecDepth 100000

def Rl.mutB : Rl → Bool
  | .sec => false
  | .oth _ => false
  | _ => true
theorem Rl.mutB_iff (r : Rl) : r.mutB = true ↔ r.mut := by cases r <;> simp [Rl.mutB, Rl.mut]
/-- The blocks that the document's power writes. -/
def mutL (φ : Nat → Rl) (n : Nat) : List Nat := (List.range n).filter (fun k => (φ k).mutB)
theorem mem_mutL {φ : Nat → Rl} {n k : Nat} : k ∈ mutL φ n ↔ k < n ∧ (φ k).mut := by
  unfold mutL
  rw [List.mem_filter, List.mem_range, Rl.mutB_iff]
theorem FrR.frm {φ : Nat → Rl} {w w' : World} (h : FrR φ w w') : Frm (mutL φ w.heap.size) w w' :=
  ⟨h.os, h.tape, h.output, h.size, fun k hk hn => h.block k hk (fun hm => hn (mem_mutL.2 ⟨hk, hm⟩))⟩
theorem oth_mut {φ : Nat → Rl} {k n m : Nat} (h : φ k = .oth m) : k ∉ mutL φ n := fun hk => by
  have := (mem_mutL.1 hk).2
  rw [h] at this
  exact this
structure Pair (idx : Nat → Nat) (w : World) (pb : Nat) (S : PSt) (Ds : List DSt) (F : List Nat) (φ : Nat → Rl) (H : RHp) : Prop where
  rk : Rack w pb S Ds F
  rf : IsRf w φ H
  rel : Rel idx S Ds H
  ap : ∀ k ∈ F, ∃ n, φ k = .oth n
  nw : ∀ k, w.heap.size ≤ k → φ k = .oth 9
/-- All that the two hold. -/
def both (F : List Nat) (φ : Nat → Rl) (w : World) : List Nat := F ++ mutL φ w.heap.size
/-- Behind the program's call. -/
theorem Pair.prog {idx : Nat → Nat} {w w1 : World} {pb : Nat} {S S' : PSt} {Ds Ds' : List DSt} {F : List Nat} {φ : Nat → Rl} {H : RHp} (p : Pair idx w pb S Ds F φ H) (l : Left w pb F S' Ds' w1) : ∃ F', Rack w1 pb S' Ds' F' ∧ IsRf w1 φ H ∧ (∀ k ∈ F', ∃ n, φ k = .oth n) ∧ Stp F F' w w1 := by
  obtain ⟨F', h1, h2⟩ := l
  exact ⟨F', h1, p.rf.far h2.fr p.ap, fun k hk => (h2.nb k hk).elim (p.ap k) (fun h => ⟨9, p.nw k h⟩), h2⟩
/-- Behind the document's, too. -/
theorem Pair.doc {idx : Nat → Nat} {w w1 w2 : World} {pb : Nat} {S' : PSt} {Ds' : List DSt} {F F' : List Nat} {φ φ' : Nat → Rl} {H H' : RHp} (h1 : Rack w1 pb S' Ds' F') (h3 : ∀ k ∈ F', ∃ n, φ k = .oth n) (h4 : Stp F F' w w1) (d : RStp w1 φ H H' φ' w2) (r : Rel idx S' Ds' H') :
    Pair idx w2 pb S' Ds' F' (cutφ φ' w2.heap.size) H' ∧ Stp (both F φ w) (both F' (cutφ φ' w2.heap.size) w2) w w2 := by
  have hs1 := h4.fr.size
  have hs2 := d.f.size
  refine ⟨⟨h1.kept d.f.frm (fun k hk => by obtain ⟨n, e⟩ := h3 k hk; exact oth_mut e), d.r.cut, r, fun k hk => ?_, fun k hk => cutφ_new hk⟩, ⟨⟨d.f.os.trans h4.fr.os, d.f.tape.trans h4.fr.tape, d.f.output.trans h4.fr.output, Nat.le_trans hs1 hs2, fun k hk hn => ?_⟩, fun k hk => ?_⟩⟩
  · obtain ⟨n, e⟩ := h3 k hk
    have hl := h1.low k hk
    exact ⟨n, by rw [cutφ_old (by omega), d.x k hl, e]⟩
  · unfold both at hn
    rw [List.mem_append] at hn
    exact (d.f.block k (by omega) (fun hm => hn (Or.inr (mem_mutL.2 ⟨hk, hm⟩)))).trans (h4.fr.block k hk (fun h => hn (Or.inl h)))
  · unfold both at hk ⊢
    rw [List.mem_append] at hk ⊢
    rcases hk with hk | hk
    · exact (h4.nb k hk).imp Or.inl id
    · obtain ⟨h5, h6⟩ := mem_mutL.1 hk
      by_cases h7 : k < w.heap.size
      · rw [cutφ_old h5, d.x k (by omega)] at h6
        exact Or.inl (Or.inr (mem_mutL.2 ⟨h7, h6⟩))
      · exact Or.inr (by omega)
/-- Something else was written. -/
theorem Pair.kept {idx : Nat → Nat} {w w' : World} {pb : Nat} {S : PSt} {Ds : List DSt} {F T : List Nat} {φ : Nat → Rl} {H : RHp} (p : Pair idx w pb S Ds F φ H) (hf : Frm T w w') (hF : ∀ k ∈ T, k ∉ F) (hT : ∀ k ∈ T, ∃ n, φ k = .oth n) : Pair idx w' pb S Ds F φ H ∧ mutL φ w'.heap.size = mutL φ w.heap.size := by
  refine ⟨⟨p.rk.kept hf (fun k hk ht => hF k ht hk), p.rf.far hf hT, p.rel, p.ap, fun k hk => p.nw k (Nat.le_trans hf.size hk)⟩, ?_⟩
  unfold mutL
  rw [show w'.heap.size = w.heap.size + (w'.heap.size - w.heap.size) by have := hf.size; omega, List.range_add, List.filter_append]
  have h0 : ((List.range (w'.heap.size - w.heap.size)).map (fun x => w.heap.size + x)).filter (fun k => (φ k).mutB) = [] := by
    rw [List.filter_eq_nil_iff]
    intro k hk
    obtain ⟨t, _, rfl⟩ := List.mem_map.1 hk
    rw [p.nw _ (by omega)]
    simp [Rl.mutB]
  rw [h0, List.append_nil]
end Go.Proofs.Ytfclamndjnoopaa
