/- Cells that a volume told, as cells that can be read; what Alike's answer says of them. -/
import Derived.Test.YthifchkeapbfdaaVolBk
namespace Go.Proofs.Ythifchkeapbfdaa
open Go.RowKit
set_option maxRecDepth 100000

def toG (x : CellV) : GCell := ⟨1, x.k, 0, x.p, x.c, x.zs⟩
theorem cellRows_toG (xs : List CellV) : cellRows xs = gRows (xs.map toG) := by
  unfold cellRows gRows
  rw [List.flatMap_map]
  rfl
theorem IsCells.grd {w : World} {lo : Nat} {pp : Option Addr} {pc : Nat} {xs : List CellV} (h : IsCells w lo pp pc xs) : GRd w pp (xs.map toG) := fun t ht => by
  obtain ⟨h1, _, h3⟩ := h
  have ht' : t < xs.length := by simpa using ht
  rw [cellRows_toG] at h1
  obtain ⟨hb, rfl⟩ : ∃ hb, pp = some ⟨hb, 0, none⟩ := by
    rcases h1.2 with ⟨_, h0⟩ | ⟨g, c, cur, he, _⟩
    · omega
    · simp only [Value.slice.injEq] at he
      exact ⟨g, he.1⟩
  have hc : ∀ j, j < 4 → w.cell? ⟨hb, 0 + t * 4 + j, none⟩ = (gRow (xs.map toG)[t])[j]? := by
    intro j hj
    rw [Nat.zero_add, World.ownsRow.cellAt h1 (t * 4 + j) (by omega), gRows_at _ t ht j hj]
  refine ⟨hb, 0, rfl, World.block_lt_of_cell? w _ (hc 0 (by omega)), ⟨hc 0 (by omega), hc 1 (by omega), hc 2 (by omega), hc 3 (by omega)⟩, ?_⟩
  simp only [List.getElem_map, toG]
  exact (h3 _ (List.getElem_mem ht')).1
theorem gkey_toG (xs : List GCell) (ys : List CellV) : xs.map gkey = (ys.map toG).map gkey ↔ (∀ x ∈ xs, x.a = 1) ∧ xs.map kz = saidV ys := by
  induction xs generalizing ys with
  | nil => cases ys <;> simp [saidV]
  | cons x xs ih => cases ys with
    | nil => simp [saidV]
    | cons y ys =>
      have := ih ys
      simp only [saidV] at this
      simp only [List.map_cons, List.cons.injEq, List.mem_cons, forall_eq_or_imp, saidV, gkey, toG, kz, Prod.mk.injEq] at this ⊢
      constructor
      · rintro ⟨⟨e1, e2, e3⟩, e4⟩
        have := this.1 e4
        exact ⟨⟨e1, this.1⟩, ⟨e2, e3⟩, this.2⟩
      · rintro ⟨⟨e1, e2⟩, ⟨e3, e4⟩, e5⟩
        exact ⟨⟨e1, e3, e4⟩, this.2 ⟨e2, e5⟩⟩
/-- Alike's answer, when the second cells are those of a volume with these bytes. -/
theorem opens_gkey {xs : List GCell} {ys : List CellV} {bs : List Int} (h1 : 256 ≤ bs.length) (h2 : bs.length ≤ 16384) (h3 : bs.length % 256 = 0) (hs : saidV ys = cellsL bs) :
    xs.map gkey = (ys.map toG).map gkey ↔ Opens xs bs := by
  rw [gkey_toG, hs]
  exact ⟨fun h => ⟨h1, h2, h3, h.1, h.2⟩, fun h => ⟨h.2.2.2.1, h.2.2.2.2⟩⟩
end Go.Proofs.Ythifchkeapbfdaa
