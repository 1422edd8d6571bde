/- Plain facts on texts of sums: what is taken for a text, by the program and by the document. -/
import Derived.Test.YtcnochabdhdlnaaDoorSumS
import Derived.Test.YtcnochabdhdlnaaDoorSumL
namespace Go.Proofs.YtcnochabdhdlnaaDoor
open Go.RowKit
set_option maxRecDepth 100000

theorem vD_bd (c : Int) : 0 ≤ vD c ∧ vD c < 16 := by unfold vD; split <;> (try split) <;> omega
theorem dV_ok {c : Int} (h : okC c) : dV c = vD c := by
  unfold okC at h
  unfold dV vD
  by_cases h1 : 97 ≤ c
  · rw [if_pos h1, if_neg (by omega), if_pos (by omega)]; omega
  · rw [if_neg h1, if_pos (by omega)]
    exact IntWalk.u64_in _ (by omega)
theorem dgt_vD {c : Int} (h : okC c) : dgt (vD c) = c := by
  unfold okC at h
  by_cases h1 : 48 ≤ c ∧ c ≤ 57
  · have e : vD c = c - 48 := by unfold vD; rw [if_pos h1]
    unfold dgt
    rw [e, if_pos (by omega)]; omega
  · have h2 : 97 ≤ c ∧ c ≤ 102 := by omega
    have e : vD c = c - 87 := by unfold vD; rw [if_neg h1, if_pos h2]
    unfold dgt
    rw [e, if_neg (by omega)]; omega
theorem dgt_ok {v : Int} (h : 0 ≤ v ∧ v < 16) : okC (dgt v) ∧ vD (dgt v) = v := by
  unfold okC dgt
  by_cases h1 : v < 10
  · rw [if_pos h1]; unfold vD; rw [if_pos (by omega)]; omega
  · rw [if_neg h1]; unfold vD; rw [if_neg (by omega), if_pos (by omega)]; omega
/-- The number of t signs from the place a on. -/
def valF (cs : List Int) (a : Nat) : Nat → Int
  | 0 => 0
  | t + 1 => 16 * valF cs a t + vD (zA cs (a + t))
theorem valF_bd (cs : List Int) (a t : Nat) : 0 ≤ valF cs a t ∧ valF cs a t < 16 ^ t := by
  induction t with
  | zero => simp [valF]
  | succ t ih =>
    have := vD_bd (zA cs (a + t))
    simp only [valF, Int.pow_succ]
    omega
theorem pow16 (t : Nat) (h : t ≤ 16) : (16 : Int) ^ t ≤ 18446744073709551616 := by
  have h1 : (16 : Nat) ^ t ≤ 16 ^ 16 := Nat.pow_le_pow_right (by decide) h
  have h2 : ((16 ^ t : Nat) : Int) ≤ ((16 ^ 16 : Nat) : Int) := by exact_mod_cast h1
  have h3 : ((16 ^ t : Nat) : Int) = (16 : Int) ^ t := by simp
  have h4 : ((16 ^ 16 : Nat) : Int) = 18446744073709551616 := by decide
  omega
theorem numF_val {ds cs : List Int} {a : Nat} (h : ∀ i, i < 16 → zA ds i = zA cs (a + i) ∧ okC (zA cs (a + i))) (t : Nat) (ht : t ≤ 16) : numF ds t = valF cs a t := by
  induction t with
  | zero => rfl
  | succ t ih =>
    have hb := valF_bd cs a (t + 1)
    have hp := pow16 (t + 1) ht
    have hb0 := valF_bd cs a t
    have hv := vD_bd (zA cs (a + t))
    simp only [valF] at hb
    unfold numF valF
    rw [ih (by omega), (h t (by omega)).1, dV_ok (h t (by omega)).2, u64w, u64w]
    omega
theorem or16 {n d : Int} (hn : 0 ≤ n) (hd : 0 ≤ d ∧ d < 16) (hs : 16 * n + d < 18446744073709551616) : bits .or .u64 (IntKind.u64.wrap (n * 16)) d = 16 * n + d := by
  obtain ⟨n, rfl⟩ : ∃ k : Nat, n = k := ⟨n.toNat, by omega⟩
  obtain ⟨d, rfl⟩ : ∃ k : Nat, d = k := ⟨d.toNat, by omega⟩
  have e1 : IntKind.u64.wrap ((n : Int) * 16) = ((2 ^ 4 * n : Nat) : Int) := by rw [u64w]; omega
  rw [e1, u64_or_nat _ _ (by omega) (by omega), ← Nat.two_pow_add_eq_or_of_lt (by omega)]
  omega
theorem pS_val (cs : List Int) (t : Nat) (ht : t ≤ 64) : ∀ i, i < 4 → zA (pS cs t) i = valF cs (16 * i) (min 16 (t - 16 * i)) := by
  induction t with
  | zero =>
    intro i hi
    have h4 : i = 0 ∨ i = 1 ∨ i = 2 ∨ i = 3 := by omega
    rcases h4 with rfl | rfl | rfl | rfl <;> rfl
  | succ t ih =>
    intro i hi
    have ih := ih (by omega)
    unfold pS
    rw [zA_set _ _ _ _ (by rw [pS_length]; omega)]
    by_cases h : i = t / 16
    · rw [if_pos h, ih (t / 16) (by omega), ← h]
      have e1 : min 16 (t - 16 * i) = t - 16 * i := by omega
      have e2 : min 16 (t + 1 - 16 * i) = (t - 16 * i) + 1 := by omega
      have e3 : 16 * i + (t - 16 * i) = t := by omega
      have hb := valF_bd cs (16 * i) ((t - 16 * i) + 1)
      have hp := pow16 ((t - 16 * i) + 1) (by omega)
      rw [e1, e2]
      simp only [valF, e3] at hb ⊢
      exact or16 (valF_bd _ _ _).1 (vD_bd _) (by omega)
    · rw [if_neg h, ih i hi]
      congr 1
      omega
theorem tx_extract (B : ByteArray) (a : Nat) (i : Nat) (hi : i < 16) : zA (tx (B.extract a (a + 16))) i = zA (tx B) (a + i) := by
  have h1 : tx (B.extract a (a + 16)) = ((tx B).drop a).take 16 := by
    unfold tx
    simp [ByteArray.data_extract, Array.toList_extract, List.map_take, List.map_drop]
  rw [h1]
  unfold zA
  rw [List.getD_eq_getElem?_getD, List.getD_eq_getElem?_getD, List.getElem?_take, if_pos hi, List.getElem?_drop]
theorem list_range (l : List Int) : l = (List.range l.length).map (zA l) := by
  apply List.ext_getElem
  · simp
  · intro i h1 h2
    simp [zA, List.getD_eq_getElem?_getD, h1]
theorem parts64 (f : Nat → Int) : (List.range 64).map f = (List.range 16).map (fun i => f (0 + i)) ++ (List.range 16).map (fun i => f (16 + i)) ++ (List.range 16).map (fun i => f (32 + i)) ++ (List.range 16).map (fun i => f (48 + i)) := by
  simp [List.range_succ]
theorem valF_div (cs : List Int) (a i k : Nat) : valF cs a (i + k) / 16 ^ k = valF cs a i := by
  induction k with
  | zero => simp
  | succ k ih =>
    have hv := vD_bd (zA cs (a + (i + k)))
    have e : valF cs a (i + (k + 1)) = 16 * valF cs a (i + k) + vD (zA cs (a + (i + k))) := rfl
    rw [e, Int.pow_succ, Int.mul_comm (16 ^ k) 16, Int.ediv_ediv_of_nonneg (by decide) |>.symm]
    rw [show (16 * valF cs a (i + k) + vD (zA cs (a + (i + k)))) / 16 = valF cs a (i + k) by omega]
    exact ih
theorem hexD_val {cs : List Int} {a : Nat} (h : ∀ i, i < 16 → okC (zA cs (a + i))) : hexD (valF cs a 16) 16 = (List.range 16).map (fun i => zA cs (a + i)) := by
  unfold hexD
  apply List.map_congr_left
  intro i hi
  have hi' : i < 16 := by simpa using hi
  have e0 : (2 : Int) ^ (60 - 4 * i) = 16 ^ (15 - i) := by
    rw [show 60 - 4 * i = 4 * (15 - i) by omega, Int.pow_mul]
    rfl
  have e1 := valF_div cs a (i + 1) (15 - i)
  rw [show i + 1 + (15 - i) = 16 by omega] at e1
  rw [e0, e1]
  have hv := vD_bd (zA cs (a + i))
  rw [show valF cs a (i + 1) = 16 * valF cs a i + vD (zA cs (a + i)) from rfl, show (16 * valF cs a i + vD (zA cs (a + i))) % 16 = vD (zA cs (a + i)) by omega]
  exact dgt_vD (h i hi')
theorem hexD_ok (n : Int) (i : Nat) (hi : i < 16) : okC (zA (hexD n 16) i) ∧ vD (zA (hexD n 16) i) = n / 16 ^ (15 - i) % 16 := by
  have e0 : (2 : Int) ^ (60 - 4 * i) = 16 ^ (15 - i) := by
    rw [show 60 - 4 * i = 4 * (15 - i) by omega, Int.pow_mul]
    rfl
  have e : zA (hexD n 16) i = dgt (n / 16 ^ (15 - i) % 16) := by
    unfold zA hexD
    rw [List.getD_eq_getElem?_getD, List.getElem?_map, List.getElem?_range hi, ← e0]
    rfl
  rw [e]
  exact dgt_ok (by omega)
end Go.Proofs.YtcnochabdhdlnaaDoor
