/- Contracts of package volume: Open, of any cells of one's own; the document's helper Content. -/
import Derived.Test.YthifchkeapbfdaaVolBh
namespace Go.Proofs.Ythifchkeapbfdaa
open Go.RowKit
set_option maxRecDepth 100000

theorem openG_any (lo pc n : Nat) (pp : Option Addr) (xs : List GCell) (w : World) (hn : xs.length = n) (hnb : n ≤ 2932031007317) (hg : GOwn lo w pp pc xs) (hzb : ∀ x ∈ xs, x.zs.length ≤ 140737488351232) (hby : ∀ x ∈ xs, ∀ z ∈ x.zs, 0 ≤ z ∧ z < 256) :
    Calls Try.prog 10 #[.slice pp n pc] w (PostOp IsVol xs w) := by
  cases xs with
  | nil =>
    simp at hn
    subst hn
    exact openG_nil pp pc w
  | cons x0 xr =>
    obtain ⟨m, rfl⟩ : ∃ m, n = m + 1 := ⟨xr.length, by rw [← hn]; rfl⟩
    have hm : xr.length = m := by simpa using hn
    obtain ⟨g, o, rfl, _, hat, hrd⟩ := hg.rd 0 (by simp)
    obtain ⟨hb, hpe⟩ : ∃ hb, (some ⟨g, o, none⟩ : Option Addr) = some ⟨hb, 0, none⟩ := by
      rcases hg.row.2 with ⟨h0, _⟩ | ⟨g', c, cur, he, _⟩
      · simp at h0
      · simp only [Value.slice.injEq] at he
        exact ⟨g', he.1⟩
    simp only [Option.some.injEq, Addr.mk.injEq, and_true] at hpe
    obtain ⟨rfl, rfl⟩ := hpe
    simp only [List.getElem_cons_zero, Nat.zero_mul, Nat.add_zero] at hat hrd
    by_cases hbad : x0.a ≠ 1 ∨ x0.k ≠ -1 ∨ x0.zs.length ≠ 4
    · exact openG_head g pc m x0 xr w hm hat hbad (by omega)
    · have h1 : x0.a = 1 := by by_cases h : x0.a = 1; exact h; exact absurd (Or.inl h) hbad
      have h2 : x0.k = -1 := by by_cases h : x0.k = -1; exact h; exact absurd (Or.inr (Or.inl h)) hbad
      have h3 : x0.zs.length = 4 := by by_cases h : x0.zs.length = 4; exact h; exact absurd (Or.inr (Or.inr h)) hbad
      obtain ⟨S, hS2, hS⟩ := leV_four h3 (hby x0 (by simp))
      by_cases hsz : S < 256 ∨ 16384 < S ∨ S % 256 ≠ 0
      · exact openG_size g pc m x0 xr w hm hat hrd h1 h2 S hS hS2 hsz (by omega)
      · exact openG_ok g pc m lo x0 xr w hm (by omega) hg (fun x hx => hzb x (List.mem_cons_of_mem _ hx)) h1 h2 (S / 256) (by omega) (by omega) (by rw [show 256 * (S / 256) = S by omega]; exact hS.symm)
/-- What cells of a volume are: few, small, rising. -/
theorem opens_content {xs : List GCell} {bs : List Int} (h : Opens xs bs) : xs.length ≤ 240 ∧ (∀ x ∈ xs, x.a = 1 ∧ -1 ≤ x.k ∧ x.k ≤ 255 ∧ 1 ≤ x.zs.length ∧ x.zs.length ≤ 256) ∧ xs.Pairwise (fun x y => x.k < y.k) := by
  cases xs with
  | nil => exact ⟨by simp, by simp, by simp⟩
  | cons x0 xr =>
    obtain ⟨h1, h2, h3, h4, h5, h6⟩ := opens_parts h
    have hb := h.2.1
    have hl : xr.length ≤ 64 := by
      have e1 := congrArg List.length h4
      have e2 : (chunksL bs (bs.length / 256)).length ≤ bs.length / 256 := by unfold chunksL; exact Nat.le_trans (List.length_filterMap_le _ _) (by simp)
      rw [List.length_map] at e1
      omega
    refine ⟨by simp; omega, ?_, ?_⟩
    · intro x hx
      rcases List.mem_cons.1 hx with rfl | hx
      · exact ⟨h1, by omega, by omega, by rw [h3, le_length]; omega, by rw [h3, le_length]; omega⟩
      · have := h6.each (kz x) (List.mem_map.2 ⟨x, hx, rfl⟩)
        simp only [kz] at this
        exact ⟨h5 x hx, by omega, by omega, by omega, by omega⟩
    · rw [List.pairwise_cons]
      refine ⟨fun y hy => ?_, ?_⟩
      · have := h6.each (kz y) (List.mem_map.2 ⟨y, hy, rfl⟩)
        simp only [kz] at this
        omega
      · have := h6.rise
        rw [List.pairwise_map] at this
        exact this
/-- What Content answers. -/
def PostCt (xs : List GCell) (w : World) (e : Ending) (w' : World) : Prop :=
  Frm [] w w' ∧ ((e = .returned (.bool true) ∧ xs.length ≤ 240 ∧ ∀ x ∈ xs, -1 ≤ x.k ∧ x.k ≤ 255 ∧ x.zs.length ≤ 256) ∨ (e = .returned (.bool false) ∧ ∀ bs, ¬ Opens xs bs))
end Go.Proofs.Ythifchkeapbfdaa
