/- Plain facts on texts of sums, put together. -/
import Derived.Test.YtcnochabdhdlnaaDoorSumT
namespace Go.Proofs.YtcnochabdhdlnaaDoor
open Go.RowKit
set_option maxRecDepth 100000

theorem tx_str {l : List Int} (h : ∀ z ∈ l, 0 ≤ z ∧ z < 256) : tx (strOfNums l) = l := by
  unfold tx
  rw [strOfNums_data, List.map_map]
  conv => rhs; rw [← List.map_id l]
  apply List.map_congr_left
  intro z hm
  have := h z hm
  simp
  omega
theorem okC_bd {c : Int} (h : okC c) : 0 ≤ c ∧ c < 256 := by unfold okC at h; omega
theorem hexL_length (s : S4) : (hexL s).length = 64 := by rw [hexL_parts]; simp [hexD_length]
theorem hexL_at (s : S4) (k i : Nat) (hk : k < 4) (hi : i < 16) : zA (hexL s) (16 * k + i) = zA (hexD (s.vals.getD k 0) 16) i := by
  rw [hexL_parts]
  have la := hexD_length s.a 16
  have lb := hexD_length s.b 16
  have lc := hexD_length s.c 16
  have h4 : k = 0 ∨ k = 1 ∨ k = 2 ∨ k = 3 := by omega
  rcases h4 with rfl | rfl | rfl | rfl
  · rw [zA_left (by simp only [List.length_append]; omega), zA_left (by simp only [List.length_append]; omega), zA_left (by omega), show 16 * 0 + i = i by omega]; rfl
  · rw [zA_left (by simp only [List.length_append]; omega), zA_left (by simp only [List.length_append]; omega)]
    have := zA_right (hexD s.a 16) (hexD s.b 16) i
    rw [la] at this
    exact this
  · rw [zA_left (by simp only [List.length_append]; omega)]
    have := zA_right (hexD s.a 16 ++ hexD s.b 16) (hexD s.c 16) i
    rw [List.length_append, la, lb] at this
    exact this
  · have := zA_right (hexD s.a 16 ++ hexD s.b 16 ++ hexD s.c 16) (hexD s.d 16) i
    rw [List.length_append, List.length_append, la, lb, lc] at this
    exact this
theorem hexL_ok (s : S4) (j : Nat) (hj : j < 64) : okC (zA (hexL s) j) := by
  have e := hexL_at s (j / 16) (j % 16) (by omega) (by omega)
  rw [show 16 * (j / 16) + j % 16 = j by omega] at e
  rw [e]
  exact (hexD_ok _ _ (by omega)).1
theorem hexL_bytes (s : S4) : ∀ z ∈ hexL s, 0 ≤ z ∧ z < 256 := by
  intro z hz
  obtain ⟨j, hj, rfl⟩ := List.getElem_of_mem hz
  have h := hexL_ok s j (by rw [hexL_length] at hj; exact hj)
  have e : zA (hexL s) j = (hexL s)[j] := by simp [zA, List.getD_eq_getElem?_getD, hj]
  rw [← e]
  exact okC_bd h
theorem numNS {B : ByteArray} (a : Nat) (h : ∀ i, i < 16 → okC (zA (tx B) (a + i))) : numF (tx (B.extract a (a + 16))) 16 = valF (tx B) a 16 :=
  numF_val (fun i hi => ⟨tx_extract B a i hi, h i hi⟩) 16 (by omega)
theorem NS_good {B : ByteArray} (h : good B) : NS B = ⟨valF (tx B) 0 16, valF (tx B) 16 16, valF (tx B) 32 16, valF (tx B) 48 16⟩ := by
  have h0 := numNS (B := B) 0 (fun i hi => h.2 _ (by omega))
  have h1 := numNS (B := B) 16 (fun i hi => h.2 _ (by omega))
  have h2 := numNS (B := B) 32 (fun i hi => h.2 _ (by omega))
  have h3 := numNS (B := B) 48 (fun i hi => h.2 _ (by omega))
  unfold NS
  rw [← h0, ← h1, ← h2, ← h3]
theorem good_same {B : ByteArray} (h : good B) : strOfNums (hexL (NS B)) = B ∧ listS (pS (tx B) 64) = NS B := by
  have hn := NS_good h
  refine ⟨?_, ?_⟩
  · rw [hn, hexL_parts]
    simp only
    rw [hexD_val (fun i hi => h.2 _ (by omega)), hexD_val (fun i hi => h.2 _ (by omega)), hexD_val (fun i hi => h.2 _ (by omega)), hexD_val (fun i hi => h.2 _ (by omega)), ← parts64]
    have hl := list_range (tx B)
    rw [tx_length, h.1] at hl
    rw [← hl, str_tx]
  · have hp := pS_val (tx B) 64 (by omega)
    unfold listS
    rw [hn, hp 0 (by omega), hp 1 (by omega), hp 2 (by omega), hp 3 (by omega)]
    rfl
theorem taken_good {B : ByteArray} (h64 : B.size = 64) (h : strOfNums (hexL (NS B)) = B) : good B := by
  refine ⟨h64, fun i hi => ?_⟩
  rw [← h, tx_str (hexL_bytes _)]
  exact hexL_ok _ i hi
theorem valF_hexL (s : S4) (k : Nat) (hk : k < 4) (hX : 0 ≤ s.vals.getD k 0 ∧ s.vals.getD k 0 < 18446744073709551616) (t : Nat) (ht : t ≤ 16) : valF (hexL s) (16 * k) t = s.vals.getD k 0 / 16 ^ (16 - t) := by
  induction t with
  | zero =>
    have hp : (16 : Int) ^ 16 = 18446744073709551616 := by decide
    have h : s.vals.getD k 0 / 16 ^ 16 = 0 := Int.ediv_eq_zero_of_lt hX.1 (by rw [hp]; exact hX.2)
    exact h.symm
  | succ t ih =>
    have e := hexL_at s k t hk (by omega)
    have hd := (hexD_ok (s.vals.getD k 0) t (by omega)).2
    rw [valF, ih (by omega), e, hd, show 16 - (t + 1) = 15 - t by omega, show 16 - t = (15 - t) + 1 by omega, Int.pow_succ]
    rw [← Int.ediv_ediv_of_nonneg (Int.pow_nonneg (by decide))]
    generalize s.vals.getD k 0 / 16 ^ (15 - t) = y
    omega
theorem print_back {s : S4} (hs : s.ok) : good (strOfNums (hexL s)) ∧ NS (strOfNums (hexL s)) = s := by
  have ht := tx_str (hexL_bytes s)
  have hg : good (strOfNums (hexL s)) := ⟨by rw [strOfNums_size, hexL_length], fun i hi => by rw [ht]; exact hexL_ok s i hi⟩
  refine ⟨hg, ?_⟩
  rw [NS_good hg, ht]
  obtain ⟨h0, h1, h2, h3⟩ := hs
  have v0 := valF_hexL s 0 (by omega) h0 16 (by omega)
  have v1 := valF_hexL s 1 (by omega) h1 16 (by omega)
  have v2 := valF_hexL s 2 (by omega) h2 16 (by omega)
  have v3 := valF_hexL s 3 (by omega) h3 16 (by omega)
  simp only [Nat.sub_self, Int.pow_zero, Int.ediv_one] at v0 v1 v2 v3
  rw [v0, v1, v2, v3]
  rfl
end Go.Proofs.YtcnochabdhdlnaaDoor
