/- Small laws: The statement CodeCut: plain facts and the walk. -/
import Derived.Test.YtkbppkimpefilaaLawC
namespace Go.Proofs.Ytkbppkimpefilaa
open Go.RowKit
set_option maxRecDepth 100000

theorem bool_eq {a c : Bool} (h : a = c) : Ending.returned (.bool a) = Ending.returned (.bool c) := by rw [h]
theorem tx_bd (s : ByteArray) : ∀ z ∈ tx s, 0 ≤ z ∧ z < 256 := by
  intro z hz; simp [tx] at hz; obtain ⟨u, _, rfl⟩ := hz; have := u.toNat_lt; omega
/-- The three readings, one behind the other, and the last error. -/
def cutEnd (l : List Int) (j m t : Nat) : Int :=
  let a := readS (0 : Int) 0 0 (numT (l.drop 0) j)
  let b := readS ([] : List Int) a.2.1 a.2.2 (bytesT (l.drop a.2.1) m)
  let c := readS ([] : List Int) b.2.1 b.2.2 (textT (l.drop b.2.1) t)
  doneS l.length c.2.1 c.2.2
theorem readS_err {α : Type} (z : α) (pos : Nat) (err : Int) (r : α × Nat × Int) (h : err ≠ 0) : readS z pos err r = (z, pos, err) := by
  unfold readS; rw [if_pos h]
theorem cut_pure (n : Int) (j t cut : Nat) (bs ts : List Int) (hj1 : 1 ≤ j) (hj8 : j ≤ 8) (ht : ts.length = t) (ht2 : t < 65536) (hc : cut < j + bs.length + 2 + t) :
    cutEnd ((le n j ++ bs ++ (le t 2 ++ ts)).take cut) j bs.length t = 10 := by
  obtain ⟨l, hl⟩ : ∃ l, (le n j ++ bs ++ (le t 2 ++ ts)).take cut = l := ⟨_, rfl⟩
  have hlen : l.length = cut := by rw [← hl]; simp [le_length]; omega
  have hk : ¬ ((j : Int) < 1 ∨ 8 < (j : Int)) := by omega
  have h10 : ((10 : Int) = 0) = False := by decide
  have h10' : (10 : Int) ≠ 0 := by decide
  rw [hl]
  unfold cutEnd
  simp only [List.drop_zero]
  by_cases h1 : cut < j
  · have e1 : numT l j = (0, 0, 10) := by unfold numT; rw [if_neg hk, if_pos (by omega)]
    rw [e1, readS_ok]
    simp only [h10, if_false]
    rw [readS_err [] _ 10 _ h10', readS_err [] _ 10 _ h10']
    simp [doneS]
  · have e1 : numT l j = (leV (l.take j), j, 0) := by unfold numT; rw [if_neg hk, if_neg (by omega)]; simp
    rw [e1, readS_ok]
    simp only [if_true, Nat.zero_add]
    by_cases h2 : cut < j + bs.length
    · have e2 : bytesT (l.drop j) bs.length = ([], 0, 10) := by unfold bytesT; rw [if_neg (by omega), if_pos (by simp; omega)]
      rw [e2, readS_ok]
      simp only [h10, if_false]
      rw [readS_err [] _ 10 _ h10']
      simp [doneS]
    · have e2 : bytesT (l.drop j) bs.length = ((l.drop j).take bs.length, bs.length, 0) := by unfold bytesT; rw [if_neg (by omega), if_neg (by simp; omega)]; simp
      rw [e2, readS_ok]
      simp only [if_true]
      have e3 : (textT (l.drop (j + bs.length)) t).2.2 = 10 := by
        unfold textT
        by_cases h3 : (l.drop (j + bs.length)).length < 2
        · rw [if_pos h3]
        · rw [if_neg h3]
          have hcut : j + bs.length + 2 ≤ cut := by simp at h3; omega
          have hp : (l.drop (j + bs.length)).take 2 = le t 2 := by
            rw [← hl]
            have hx : (le n j ++ bs).length = j + bs.length := by simp [le_length]
            rw [List.drop_take, List.take_take, ← hx, List.drop_left, Nat.min_eq_left (by omega), List.take_append_of_le_length (by simp [le_length]), List.take_of_length_le (by simp [le_length])]
          rw [hp, leV_fit t 2 (by omega) (by omega), if_neg (by omega), if_pos (by simp; omega)]
      rw [readS_ok]
      simp [doneS, e3]
end Go.Proofs.Ytkbppkimpefilaa
