/- Plain facts on cells that are laid into bytes: they are told again. -/
import Derived.Test.YthifchkeapbfdaaVolU
import Derived.Test.YthifchkeapbfdaaVolF
namespace Go.Proofs.Ythifchkeapbfdaa
open Go.RowKit
set_option maxRecDepth 100000

theorem splice_chunk {cur zs : List Int} {k j : Nat} (hz : zs.length = 256) (hk : 256 * k + 256 ≤ cur.length) : chunk (splice cur (256 * k) zs) j = if j = k then zs else chunk cur j := by
  have hl : 256 * k + zs.length ≤ cur.length := by omega
  unfold chunk
  apply List.ext_getElem?
  intro i
  by_cases hj : j = k
  · subst hj
    rw [if_pos rfl, List.getElem?_take]
    by_cases hi : i < 256
    · rw [if_pos hi, List.getElem?_drop, splice_getElem hl, if_pos (by omega), Nat.add_sub_cancel_left]
    · rw [if_neg hi, List.getElem?_eq_none (by omega)]
  · rw [if_neg hj, List.getElem?_take, List.getElem?_take]
    by_cases hi : i < 256
    · rw [if_pos hi, if_pos hi, List.getElem?_drop, List.getElem?_drop, splice_getElem hl, if_neg (by omega)]
    · rw [if_neg hi, if_neg hi]
theorem chunksL_congr {a b : List Int} {m : Nat} (h : ∀ j, j < m → chunk a j = chunk b j) : chunksL a m = chunksL b m := by
  induction m with
  | zero => rfl
  | succ m ih => rw [chunksL_succ, chunksL_succ, ih (fun j hj => h j (by omega)), h m (by omega)]
theorem chunksL_stop {a : List Int} {m n : Nat} (hmn : m ≤ n) (h : ∀ j, m ≤ j → j < n → (chunk a j).all (· == 0) = true) : chunksL a n = chunksL a m := by
  induction n with
  | zero => obtain rfl : m = 0 := by omega
            rfl
  | succ n ih =>
    by_cases hm : m = n + 1
    · rw [hm]
    · rw [chunksL_succ, if_pos (h n (by omega) (by omega)), List.append_nil]
      exact ih (by omega) (fun j h1 h2 => h j h1 (by omega))
theorem chunksL_in {a : List Int} {n j : Nat} (hj : j < n) (h : (chunk a j).all (· == 0) = false) : ((j : Int), chunk a j) ∈ chunksL a n := by
  unfold chunksL
  rw [List.mem_filterMap]
  exact ⟨j, by simpa using hj, by rw [if_neg (by rw [h]; simp)]⟩
/-- Chunks that may stand behind the head, of so many at most. -/
structure RowsOk (N : Nat) (l : List (Int × List Int)) : Prop where
  rise : l.Pairwise (fun x y => x.1 < y.1)
  each : ∀ x ∈ l, 0 ≤ x.1 ∧ x.1 < N ∧ x.2.length = 256 ∧ x.2.all (· == 0) = false
theorem applyL_length {N : Nat} {l : List (Int × List Int)} (h : ∀ x ∈ l, 0 ≤ x.1 ∧ x.1 < N ∧ x.2.length = 256) (cur : List Int) (hc : cur.length = 256 * N) : (applyL cur l).length = 256 * N := by
  induction l generalizing cur with
  | nil => exact hc
  | cons x l ih =>
    obtain ⟨h1, h2, h3⟩ := h x (by simp)
    have hs : (splice cur (256 * x.1.toNat) x.2).length = 256 * N := by rw [splice_length (by omega), hc]
    exact ih (fun y hy => h y (List.mem_cons_of_mem _ hy)) _ hs
theorem chunks_apply_rev {N : Nat} (r : List (Int × List Int)) (h : RowsOk N r.reverse) : chunksL (applyL (List.replicate (256 * N) 0) r.reverse) N = r.reverse := by
  induction r with
  | nil =>
    have hz : ∀ j, 0 ≤ j → j < N → (chunk (List.replicate (256 * N) (0 : Int)) j).all (· == 0) = true := by
      intro j _ _
      unfold chunk
      rw [List.drop_replicate, List.take_replicate]
      simp
    have := chunksL_stop (a := List.replicate (256 * N) (0 : Int)) (Nat.zero_le N) hz
    simpa [applyL, chunksL] using this
  | cons x r ih =>
    rw [List.reverse_cons] at h ⊢
    have hr := (List.pairwise_append.1 h.rise)
    have hok : RowsOk N r.reverse := ⟨hr.1, fun y hy => h.each y (List.mem_append_left _ hy)⟩
    have ih := ih hok
    obtain ⟨h1, h2, h3, h4⟩ := h.each x (by simp)
    obtain ⟨k, hk⟩ : ∃ k : Nat, x.1 = k := ⟨x.1.toNat, by omega⟩
    have hkN : k < N := by omega
    obtain ⟨cur, hcur⟩ : ∃ cur, applyL (List.replicate (256 * N) 0) r.reverse = cur := ⟨_, rfl⟩
    rw [hcur] at ih
    have hcl : cur.length = 256 * N := by
      rw [← hcur]
      exact applyL_length (fun y hy => ⟨(hok.each y hy).1, (hok.each y hy).2.1, (hok.each y hy).2.2.1⟩) _ (by simp)
    have hab : ∀ j, k ≤ j → j < N → (chunk cur j).all (· == 0) = true := by
      intro j hj hjN
      by_cases hz : (chunk cur j).all (· == 0) = true
      · exact hz
      · have hm := chunksL_in hjN (by simpa using hz : (chunk cur j).all (· == 0) = false)
        rw [ih] at hm
        have h5 := hr.2.2 _ hm x (by simp)
        simp only at h5
        omega
    have hch : ∀ j, chunk (splice cur (256 * k) x.2) j = if j = k then x.2 else chunk cur j := fun j => splice_chunk h3 (by omega)
    rw [applyL_snoc, hcur, hk, Int.toNat_natCast]
    have e1 : chunksL (splice cur (256 * k) x.2) N = chunksL (splice cur (256 * k) x.2) (k + 1) := chunksL_stop (by omega) (fun j h6 h7 => by rw [hch, if_neg (by omega)]; exact hab j (by omega) h7)
    have e2 : chunksL (splice cur (256 * k) x.2) k = chunksL cur k := chunksL_congr (fun j hj => by rw [hch, if_neg (by omega)])
    have e3 : chunksL cur N = chunksL cur k := chunksL_stop (by omega) hab
    rw [e1, chunksL_succ, e2, ← e3, ih, hch, if_pos rfl, if_neg (by rw [h4]; simp), ← hk]
/-- Whole chunks that are not blank, laid down by rising places, are told again. -/
theorem chunks_apply {N : Nat} {l : List (Int × List Int)} (h : RowsOk N l) : chunksL (applyL (List.replicate (256 * N) 0) l) N = l := by
  have := chunks_apply_rev (N := N) l.reverse (by rw [List.reverse_reverse]; exact h)
  rwa [List.reverse_reverse] at this
theorem rowsOk_chunks {bs : List Int} {N : Nat} (hN : bs.length = 256 * N) : RowsOk N (chunksL bs N) := by
  refine ⟨chunksL_sorted bs N, fun x hx => ?_⟩
  obtain ⟨k, hk, rfl, hz⟩ := chunksL_mem hx
  exact ⟨by simp only; omega, by simp only; omega, chunk_length hN hk, hz⟩
end Go.Proofs.Ythifchkeapbfdaa
