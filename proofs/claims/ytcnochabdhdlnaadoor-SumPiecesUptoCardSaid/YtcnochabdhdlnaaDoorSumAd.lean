/- One SHA-256: the program's tail and the document's padded bytes. -/
import Derived.Test.YtcnochabdhdlnaaDoorSumAa
namespace Go.Proofs.YtcnochabdhdlnaaDoor
open Go.RowKit
set_option maxRecDepth 100000

theorem at_take (zs : List Int) (m i : Nat) (h : i < m) : zA (zs.take m) i = zA zs i := by
  simp [zA, List.getD_eq_getElem?_getD, h]
theorem at_drop (zs : List Int) (m i : Nat) : zA (zs.drop m) i = zA zs (m + i) := by
  simp [zA, List.getD_eq_getElem?_getD, List.getElem?_drop]
theorem at_set (T : List Int) (j i : Nat) (z : Int) (h : j < T.length) : zA (T.set j z) i = if i = j then z else zA T i := by
  unfold zA
  rw [List.getD_eq_getElem?_getD, List.getD_eq_getElem?_getD, List.getElem?_set]
  by_cases e : j = i
  · subst e; simp [h]
  · rw [if_neg e, if_neg (fun h => e h.symm)]
theorem at_app (a b : List Int) (i : Nat) : zA (a ++ b) i = if i < a.length then zA a i else zA b (i - a.length) := by
  unfold zA
  rw [List.getD_eq_getElem?_getD, List.getElem?_append]
  split <;> rw [List.getD_eq_getElem?_getD]
theorem at_rep (n i : Nat) : zA (List.replicate n 0) i = 0 := by
  simp only [zA, List.getD_eq_getElem?_getD, List.getElem?_replicate]
  split <;> rfl
theorem at_one (z : Int) : zA [z] 0 = z := rfl
theorem ext_at {a b : List Int} (hl : a.length = b.length) (h : ∀ i, i < a.length → zA a i = zA b i) : a = b := by
  refine List.ext_getElem hl fun i h1 h2 => ?_
  have := h i h1
  simpa [zA, List.getD_eq_getElem?_getD, h1, h2] using this
theorem wA_take (zs : List Int) (t : Nat) (h : t ≤ 16) : wA (zs.take 64) t = wA zs t := by
  induction t with
  | zero => rfl
  | succ t ih => simp only [wA]; rw [ih (by omega), at_take _ _ _ (by omega), at_take _ _ _ (by omega), at_take _ _ _ (by omega), at_take _ _ _ (by omega)]
theorem blockV_take (v : V8) (zs : List Int) : blockV v (zs.take 64) = blockV v zs := by
  unfold blockV
  rw [wA_take _ _ (Nat.le_refl _)]
theorem tlE_length (n E : Nat) (T : List Int) (i : Nat) : (tlE n E T i).length = T.length := by
  induction i with
  | zero => rfl
  | succ i ih => simp [tlE, ih]
theorem at_tlE (n E : Nat) (T : List Int) (i j : Nat) (hE : E < T.length) (hi : i ≤ 8) (h8 : 8 ≤ E) : zA (tlE n E T i) j = if E < j + i ∧ j ≤ E then lenC n (E - j) else zA T j := by
  induction i with
  | zero => rw [if_neg (by omega)]; rfl
  | succ i ih =>
    show zA ((tlE n E T i).set (E - i) (lenC n i)) j = _
    rw [at_set _ _ _ _ (by rw [tlE_length]; omega), ih (by omega)]
    by_cases h : j = E - i
    · rw [if_pos h, if_pos (by omega), show E - j = i by omega]
    · rw [if_neg h]
      by_cases h2 : E < j + i ∧ j ≤ E
      · rw [if_pos h2, if_pos (by omega)]
      · rw [if_neg h2, if_neg (by omega)]
theorem at_lenL (n t s : Nat) (h : s < t) : zA (lenL n t) s = lenC n (7 - s) := by
  induction t with
  | zero => omega
  | succ t ih =>
    show zA (lenL n t ++ [lenC n (7 - t)]) s = _
    rw [at_app, lenL_length]
    by_cases h2 : s < t
    · rw [if_pos h2, ih h2]
    · rw [if_neg h2, show s = t by omega, Nat.sub_self]; rfl
theorem padD_length (zs : List Int) : (padD zs).length = zs.length + 1 + gapN (zs.length + 1) + 8 := by
  simp [padD, lenL_length]; omega
theorem at_pad (zs : List Int) (i : Nat) : zA (padD zs) i = if i < zs.length then zA zs i else if i = zs.length then 128 else if i < zs.length + 1 + gapN (zs.length + 1) then 0 else zA (lenL zs.length 8) (i - (zs.length + 1 + gapN (zs.length + 1))) := by
  unfold padD
  rw [at_app]
  simp only [List.length_append, List.length_replicate, List.length_cons, List.length_nil, Nat.zero_add]
  by_cases h1 : i < zs.length + 1 + gapN (zs.length + 1)
  · rw [if_pos h1, at_app]
    simp only [List.length_append, List.length_cons, List.length_nil, Nat.zero_add]
    by_cases h2 : i < zs.length + 1
    · rw [if_pos h2, at_app]
      by_cases h3 : i < zs.length
      · rw [if_pos h3, if_pos h3]
      · rw [if_neg h3, if_neg h3, if_pos (by omega), show i - zs.length = 0 by omega]; rfl
    · rw [if_neg h2, at_rep, if_neg (by omega), if_neg (by omega), if_pos h1]
  · rw [if_neg h1, if_neg (by omega), if_neg (by omega), if_neg h1]
/-- The eight words behind k blocks of padded bytes. -/
def blksD (v : V8) (ps : List Int) : Nat → V8
  | 0 => v
  | k + 1 => blockV (blksD v ps k) ((ps.drop (64 * k)).take 64)
def shaD (zs : List Int) : S4 := sumV (blksD H0 (padD zs) ((padD zs).length / 64))
theorem blks_same (v : V8) (zs : List Int) (k : Nat) (h : 64 * k ≤ zs.length) : blksD v (padD zs) k = blksV v zs k := by
  induction k with
  | zero => rfl
  | succ k ih =>
    show blockV (blksD v (padD zs) k) _ = blockV (blksV v zs k) _
    rw [ih (by omega), ← blockV_take _ (zs.drop (64 * k))]
    congr 1
    refine ext_at (by simp [padD_length]; omega) fun i hi => ?_
    have hi' : i < 64 := by rw [List.length_take] at hi; omega
    rw [at_take _ _ _ hi', at_take _ _ _ hi', at_drop, at_drop, at_pad, if_pos (by omega)]
theorem at_tail (n E : Nat) (ms : List Int) (j : Nat) (hE : E < 128) (h8 : 8 ≤ E) (hm : ms.length < 128) : zA (tailE n E ms) j = if E < j + 8 ∧ j ≤ E then lenC n (E - j) else if j = ms.length then 128 else if j < ms.length then zA ms j else 0 := by
  unfold tailE
  have hl : (ms ++ List.replicate (128 - ms.length) 0).length = 128 := by simp; omega
  rw [at_tlE _ _ _ _ _ (by rw [List.length_set, hl]; exact hE) (Nat.le_refl _) h8, at_set _ _ _ _ (by rw [hl]; exact hm), at_app, at_rep]
theorem tail_length (n E : Nat) (ms : List Int) (hm : ms.length < 128) : (tailE n E ms).length = 128 := by
  unfold tailE
  rw [tlE_length]
  simp; omega
theorem sha_same (zs : List Int) : shaA zs = shaD zs := by
  unfold shaA shaD
  generalize hn : zs.length = n
  have hk : 64 * (n / 64) ≤ zs.length := by omega
  have hms : (zs.drop (64 * (n / 64))).length = n % 64 := by rw [List.length_drop]; omega
  rw [padD_length, hn]
  by_cases h : n % 64 < 56
  · have hg : gapN (n + 1) = 55 - n % 64 := by unfold gapN; omega
    rw [if_pos h, show (n + 1 + gapN (n + 1) + 8) / 64 = n / 64 + 1 by omega]
    unfold shaLo
    congr 1
    show _ = blockV (blksD H0 (padD zs) (n / 64)) _
    rw [blks_same _ _ _ hk]
    congr 1
    refine ext_at (by rw [List.length_take, List.length_take, tail_length _ _ _ (by omega), List.length_drop, padD_length, hn]; omega) fun j hj => ?_
    have hj' : j < 64 := by rw [List.length_take] at hj; omega
    rw [at_take _ _ _ hj', at_take _ _ _ hj', at_drop, at_tail _ _ _ _ (by omega) (by omega) (by omega), at_pad, hn, hms, at_drop]
    by_cases a1 : 63 < j + 8 ∧ j ≤ 63
    · rw [if_pos a1, if_neg (by omega), if_neg (by omega), if_neg (by omega), at_lenL _ _ _ (by omega)]
      congr 1; omega
    · rw [if_neg a1]
      by_cases a2 : j = n % 64
      · rw [if_pos a2, if_neg (by omega), if_pos (by omega)]
      · rw [if_neg a2]
        by_cases a3 : j < n % 64
        · rw [if_pos a3, if_pos (by omega)]
        · rw [if_neg a3, if_neg (by omega), if_neg (by omega), if_pos (by omega)]
  · have hg : gapN (n + 1) = 119 - n % 64 := by unfold gapN; omega
    rw [if_neg h, show (n + 1 + gapN (n + 1) + 8) / 64 = n / 64 + 1 + 1 by omega]
    unfold shaHi
    congr 1
    show _ = blockV (blockV (blksD H0 (padD zs) (n / 64)) _) _
    rw [blks_same _ _ _ hk]
    have key : ∀ j, j < 128 → zA (tailE n 127 (zs.drop (64 * (n / 64)))) j = zA (padD zs) (64 * (n / 64) + j) := fun j hj => by
      rw [at_tail _ _ _ _ (by omega) (by omega) (by omega), at_pad, hn, hms, at_drop]
      by_cases a1 : 127 < j + 8 ∧ j ≤ 127
      · rw [if_pos a1, if_neg (by omega), if_neg (by omega), if_neg (by omega), at_lenL _ _ _ (by omega)]
        congr 1; omega
      · rw [if_neg a1]
        by_cases a2 : j = n % 64
        · rw [if_pos a2, if_neg (by omega), if_pos (by omega)]
        · rw [if_neg a2]
          by_cases a3 : j < n % 64
          · rw [if_pos a3, if_pos (by omega)]
          · rw [if_neg a3, if_neg (by omega), if_neg (by omega), if_pos (by omega)]
    have hTL := tail_length n 127 (zs.drop (64 * (n / 64))) (by omega)
    have e1 : (tailE n 127 (zs.drop (64 * (n / 64)))).take 64 = ((padD zs).drop (64 * (n / 64))).take 64 := by
      refine ext_at (by rw [List.length_take, List.length_take, hTL, List.length_drop, padD_length, hn]; omega) fun j hj => ?_
      have hj' : j < 64 := by rw [List.length_take] at hj; omega
      rw [at_take _ _ _ hj', at_take _ _ _ hj', at_drop, key _ (by omega)]
    have e2 : (tailE n 127 (zs.drop (64 * (n / 64)))).drop 64 = ((padD zs).drop (64 * (n / 64 + 1))).take 64 := by
      refine ext_at (by rw [List.length_take, List.length_drop, hTL, List.length_drop, padD_length, hn]; omega) fun j hj => ?_
      have hj' : j < 64 := by rw [List.length_drop, hTL] at hj; omega
      rw [at_take _ _ _ hj', at_drop, at_drop, key _ (by omega)]
      congr 1; omega
    rw [e1, e2]
end Go.Proofs.YtcnochabdhdlnaaDoor
