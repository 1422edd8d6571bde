/- Bytes that may be read and written. -/
import Derived.Test.YtkbppkimpefilaaLawC
namespace Go.Proofs.Ytkbppkimpefilaa
open Go.RowKit
set_option maxRecDepth 100000

/-- n bytes that may be read and written at p. -/
def Mem (w : World) (p : Option Addr) (n : Nat) : Prop := n = 0 ∨ ∃ g cur, p = some ⟨g, 0, none⟩ ∧ w.heap[g]? = some (.cells cur 5 (0, 0)) ∧ ∀ i, i < n → ∃ z, cur[i]? = some (.int .u8 z)
theorem Own.mem {w : World} {p : Option Addr} {n c : Nat} {zs : List Int} (h : Own w 5 (.slice p n c) zs) : Mem w p zs.length := by
  rcases h.2 with ⟨_, h0⟩ | ⟨g, c', cur, he, _, hg, hc, _, hs, ht⟩
  · exact Or.inl h0
  · simp at he
    obtain ⟨rfl, _, _⟩ := he
    refine Or.inr ⟨g, cur, rfl, hg, fun i hi => ⟨zs.getD i 0, ?_⟩⟩
    have := congrArg (fun l => l[i]?) ht
    simp only [List.getElem?_take, bv_get hi] at this
    rw [if_pos (by omega)] at this
    simpa using this
theorem Mem.kept {S : List Nat} {w w' : World} {p : Option Addr} {n : Nat} (h : Mem w p n) (hf : Frm S w w') (hn : ∀ k ∈ blk p, k ∉ S) : Mem w' p n := by
  rcases h with h | ⟨g, cur, rfl, hg, hc⟩
  · exact Or.inl h
  · exact Or.inr ⟨g, cur, rfl, hf.heap hg (hn g (by simp [blk])), hc⟩
theorem Mem.keeps {A : List Nat} {w w' : World} {p : Option Addr} {n : Nat} (h : Mem w p n) (hf : Keeps A w w') (hn : ∀ k ∈ blk p, k ∈ A) : Mem w' p n := by
  rcases h with h | ⟨g, cur, rfl, hg, hc⟩
  · exact Or.inl h
  · exact Or.inr ⟨g, cur, rfl, (hf g (hn g (by simp [blk]))).trans hg, hc⟩
theorem Mem.at {w : World} {p : Option Addr} {n i : Nat} (h : Mem w p n) (hi : i < n) : ∃ g z, p = some ⟨g, 0, none⟩ ∧ g < w.heap.size ∧ w.cell? ⟨g, i, none⟩ = some (.int .u8 z) ∧ w.frozen? ⟨g, i, none⟩ = false ∧ ∀ z', Mem (w.setCell ⟨g, i, none⟩ (.int .u8 z')) p n := by
  rcases h with h | ⟨g, cur, rfl, hg, hc⟩
  · omega
  · obtain ⟨z, hz⟩ := hc i hi
    refine ⟨g, z, rfl, lt_of_heap hg, (cell_of_row w g i cur _ (0, 0) hg).trans hz, frozen_of_row w g i _ _ hg, fun z' => Or.inr ⟨g, _, rfl, heap_setCell_same w g i _ _ _ hg, fun j hj => ?_⟩⟩
    obtain ⟨y, hy⟩ := hc j hj
    by_cases hij : i = j
    · subst hij
      have := (Array.getElem?_eq_some_iff.1 hy).1
      exact ⟨z', by simp [this]⟩
    · exact ⟨y, by rw [Array.getElem?_setIfInBounds_ne hij]; exact hy⟩
theorem Rd.low {w : World} {p : Option Addr} {zs : List Int} (h : Rd w p zs) (hne : zs ≠ []) : ∀ k ∈ blk p, k < w.heap.size := by
  rcases h with h | ⟨g, o, rfl, hc⟩
  · exact absurd h hne
  · intro k hk
    simp [blk] at hk
    subst hk
    exact World.block_lt_of_cell? w _ (hc 0 (by cases zs with | nil => exact absurd rfl hne | cons _ _ => simp))
theorem Own.low {w : World} {E : TypeId} {p : Option Addr} {n c : Nat} {zs : List Int} (h : Own w E (.slice p n c) zs) : ∀ k ∈ blk p, k < w.heap.size := by
  obtain ⟨p', c', he, _, _, hh, _⟩ := h.shape
  simp only [Value.slice.injEq] at he
  obtain ⟨rfl, _, rfl⟩ := he
  intro k hk
  cases p with
  | none => simp [blk] at hk
  | some a => simp [blk] at hk; subst hk; exact (hh a rfl).2.2
theorem Keeps.cell {A : List Nat} {w w' : World} (h : Keeps A w w') {p : Addr} (hp : p.block ∈ A) : w'.cell? p = w.cell? p := World.cell?_of_block (h _ hp)
end Go.Proofs.Ytkbppkimpefilaa
