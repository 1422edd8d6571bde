/- Plain facts on a volume's cells: they lead back to its bytes. -/
import Derived.Test.YthifchkeapbfdaaVolE
import Derived.Laws.BitsAllLaws
namespace Go.Proofs.Ythifchkeapbfdaa
open Go.RowKit
set_option maxRecDepth 100000

/-- Cells laid into bytes. -/
def applyL (bs : List Int) (l : List (Int × List Int)) : List Int := l.foldl (fun cur x => splice cur (256 * x.1.toNat) x.2) bs
theorem applyL_snoc (bs : List Int) (l : List (Int × List Int)) (x : Int × List Int) : applyL bs (l ++ [x]) = splice (applyL bs l) (256 * x.1.toNat) x.2 := by simp [applyL]
theorem chunk_length {bs : List Int} {k N : Nat} (hN : bs.length = 256 * N) (hk : k < N) : (chunk bs k).length = 256 := by
  simp only [chunk, List.length_take, List.length_drop]; omega
theorem all_zero {l : List Int} (h : l.all (· == 0) = true) : l = List.replicate l.length 0 := by
  apply List.ext_getElem
  · simp
  · intro i h1 h2
    rw [List.all_eq_true] at h
    simpa using h _ (List.getElem_mem h1)
theorem apply_chunks {bs : List Int} {N : Nat} (hN : bs.length = 256 * N) (m : Nat) (hm : m ≤ N) : applyL (List.replicate bs.length 0) (chunksL bs m) = bs.take (256 * m) ++ List.replicate (bs.length - 256 * m) 0 := by
  induction m with
  | zero => simp [chunksL, applyL]
  | succ m ih =>
    have ih := ih (by omega)
    have e1 : bs.take (256 * (m + 1)) = bs.take (256 * m) ++ chunk bs m := by rw [Nat.mul_add, List.take_add]; rfl
    have hc := chunk_length hN (show m < N by omega)
    have e2 : List.replicate (bs.length - 256 * m) (0 : Int) = List.replicate 256 0 ++ List.replicate (bs.length - 256 * (m + 1)) 0 := by
      rw [List.replicate_append_replicate]; congr 1; omega
    rw [chunksL_succ]
    by_cases hz : (chunk bs m).all (· == 0) = true
    · rw [if_pos hz, List.append_nil, ih, e1, e2]
      have h := all_zero hz
      rw [hc] at h
      rw [h, List.append_assoc]
    · rw [if_neg hz, applyL_snoc, ih]
      simp only [Int.toNat_natCast]
      have hl : (bs.take (256 * m)).length = 256 * m := by simp; omega
      unfold splice
      rw [hc]
      generalize bs.take (256 * m) = A at *
      rw [← hl, List.take_left, ← List.drop_drop, List.drop_left, List.drop_replicate, e1]
      congr 2
      omega
theorem apply_all {bs : List Int} {N : Nat} (hN : bs.length = 256 * N) : applyL (List.replicate bs.length 0) (chunksL bs N) = bs := by
  rw [apply_chunks hN N (Nat.le_refl _), ← hN]; simp
theorem chunksL_mem {bs : List Int} {N : Nat} {x : Int × List Int} (h : x ∈ chunksL bs N) : ∃ k : Nat, k < N ∧ x = ((k : Int), chunk bs k) ∧ (chunk bs k).all (· == 0) = false := by
  unfold chunksL at h
  rw [List.mem_filterMap] at h
  obtain ⟨k, hk, he⟩ := h
  by_cases hz : (chunk bs k).all (· == 0) = true
  · rw [if_pos hz] at he; cases he
  · rw [if_neg hz] at he
    simp only [Option.some.injEq] at he
    exact ⟨k, by simpa using hk, he.symm, by simpa using hz⟩
theorem chunksL_sorted (bs : List Int) (N : Nat) : (chunksL bs N).Pairwise (fun x y => x.1 < y.1) := by
  induction N with
  | zero => simp [chunksL]
  | succ N ih =>
    rw [chunksL_succ, List.pairwise_append]
    refine ⟨ih, ?_, fun x hx y hy => ?_⟩
    · split <;> simp
    · obtain ⟨k, hk, rfl, _⟩ := chunksL_mem hx
      split at hy
      · cases hy
      · simp at hy; subst hy; simp only; omega
theorem i64_or_nat (a b : Nat) (ha : a < 9223372036854775808) (hb : b < 9223372036854775808) : bits .or .i64 (a : Int) (b : Int) = ((a ||| b : Nat) : Int) := by
  have hx : a ||| b < 2 ^ 63 := Nat.or_lt_two_pow (by omega) (by omega)
  show IntKind.i64.wrap ((BitVec.ofInt 64 (a : Int) ||| BitVec.ofInt 64 (b : Int)).toNat : Int) = _
  rw [BitVec.toNat_or, ofInt_u64 a (by omega), ofInt_u64 b (by omega)]
  exact IntWalk.i64_in _ (by omega)
/-- A number's bytes put together again, the lowest first. -/
theorem or_le (n j : Nat) (hj : j < 4) : bits .or .i64 ((n % 2 ^ (8 * j) : Nat) : Int) (IntKind.i64.wrap ((n : Int) / 2 ^ (8 * j) % 256 * 2 ^ (8 * j))) = ((n % 2 ^ (8 * (j + 1)) : Nat) : Int) := by
  have ec : (2 : Int) ^ (8 * j) = ((2 ^ (8 * j) : Nat) : Int) := by simp
  have e1 : (n : Int) / 2 ^ (8 * j) % 256 * 2 ^ (8 * j) = ((n / 2 ^ (8 * j) % 256 * 2 ^ (8 * j) : Nat) : Int) := by rw [ec]; simp
  have hq : (2 : Nat) ^ (8 * j) ≤ 2 ^ 24 := Nat.pow_le_pow_right (by decide) (by omega)
  have hq0 : 0 < (2 : Nat) ^ (8 * j) := Nat.pow_pos (by decide)
  have hm : n / 2 ^ (8 * j) % 256 * 2 ^ (8 * j) ≤ 255 * 2 ^ 24 := Nat.mul_le_mul (by omega) hq
  have hl : n % 2 ^ (8 * j) < 2 ^ (8 * j) := Nat.mod_lt _ hq0
  have e2 : (2 : Nat) ^ (8 * (j + 1)) = 2 ^ (8 * j) * 256 := by rw [Nat.mul_add, Nat.pow_add]
  rw [e1, IntWalk.i64_in _ (by omega), i64_or_nat _ _ (by omega) (by omega), e2, Nat.mod_mul]
  congr 1
  have h := Nat.two_pow_add_eq_or_of_lt hl (n / 2 ^ (8 * j) % 256)
  rw [Nat.mul_comm (n / 2 ^ (8 * j) % 256), Nat.or_comm, ← h]
  omega
end Go.Proofs.Ythifchkeapbfdaa
