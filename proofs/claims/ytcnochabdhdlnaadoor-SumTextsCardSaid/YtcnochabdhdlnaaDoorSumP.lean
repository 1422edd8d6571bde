/- Contracts of layer 2's texts: digit, number, hex. -/
import Derived.Test.YtcnochabdhdlnaaDoorSumK
namespace Go.Proofs.YtcnochabdhdlnaaDoor
open Go.RowKit
set_option maxRecDepth 100000

set_option maxHeartbeats 800000 in
theorem digit_any (c : Int) (w : World) (hc : 0 ≤ c ∧ c < 256) :
    Calls Tryd.prog 26 #[.int .u8 c] w fun e w' => e = .returned (.tuple #[.int .u64 (if 48 ≤ c ∧ c ≤ 57 then c - 48 else if 97 ≤ c ∧ c ≤ 102 then c - 87 else 0), .bool (decide ((48 ≤ c ∧ c ≤ 57) ∨ (97 ≤ c ∧ c ≤ 102)))]) ∧ w' = w := by
  obtain ⟨h0, h1⟩ := hc
  by_cases c1 : 48 ≤ c
  · by_cases c2 : c ≤ 57
    · rw [if_pos ⟨c1, c2⟩, decide_eq_true (Or.inl ⟨c1, c2⟩)]
      go_enter Tryd.func26, Tryd.ntmps26
      go_wp2_with fail
      go_returns
      exact ⟨rfl, rfl⟩
    · rw [if_neg (by omega)]
      by_cases c3 : 97 ≤ c
      · by_cases c4 : c ≤ 102
        · rw [if_pos ⟨c3, c4⟩, decide_eq_true (Or.inr ⟨c3, c4⟩), show c - 87 = c - 97 + 10 by omega]
          have k1 : IntKind.u8.wrap (c - 97) = c - 97 := by show (c - 97) % 256 = _; omega
          have k2 : IntKind.u64.wrap (c - 97 + 10) = c - 97 + 10 := IntWalk.u64_in _ (by omega)
          have k3 : IntKind.u64.wrap (c - 97) = c - 97 := IntWalk.u64_in _ (by omega)
          go_enter Tryd.func26, Tryd.ntmps26
          go_wp2_with fail
          go_returns
          exact ⟨by simp, rfl⟩
        · rw [if_neg (by omega), decide_eq_false (by omega)]
          go_enter Tryd.func26, Tryd.ntmps26
          go_wp2_with fail
          go_returns
          exact ⟨rfl, rfl⟩
      · rw [if_neg (by omega), decide_eq_false (by omega)]
        go_enter Tryd.func26, Tryd.ntmps26
        go_wp2_with fail
        go_returns
        exact ⟨rfl, rfl⟩
  · rw [if_neg (by omega), if_neg (by omega), decide_eq_false (by omega)]
    go_enter Tryd.func26, Tryd.ntmps26
    go_wp2_with fail
    go_returns
    exact ⟨rfl, rfl⟩
theorem tx_get (B : ByteArray) (t : Nat) (h : t < B.size) : zA (tx B) t = (B[t].toNat : Int) := by
  have h2 : t < B.data.toList.length := by simpa using h
  unfold zA tx
  rw [List.getD_eq_getElem?_getD, List.getElem?_map, List.getElem?_eq_getElem h2]
  rfl
theorem tx_bd (B : ByteArray) : ∀ z ∈ tx B, 0 ≤ z ∧ z < 256 := by
  intro z hz
  obtain ⟨u, _, rfl⟩ := List.mem_map.1 hz
  have := u.toNat_lt
  omega
/-- What a sign counts in number, whatever it is. -/
def dV (c : Int) : Int := if 97 ≤ c then c - 97 + 10 else IntKind.u64.wrap (c - 48)
def numF (cs : List Int) : Nat → Int
  | 0 => 0
  | t + 1 => IntKind.u64.wrap (IntKind.u64.wrap (16 * numF cs t) + dV (zA cs t))
set_option maxHeartbeats 1600000 in
theorem number_any (B : ByteArray) (hB : B.size ≤ 9223372036854775807) (w : World) :
    Calls Tryd.prog 27 #[.string B] w fun e w' => e = .returned (.int .u64 (numF (tx B) B.size)) ∧ w' = w := by
  go_enter Tryd.func27, Tryd.ntmps27
  go_wp2_with fail
  go_loop [3, 4] (fun n i => ∃ (t : Nat), t ≤ B.size ∧ i = .int .i64 t ∧ n = .int .u64 (numF (tx B) t)) (fun _ i => B.size - (intOf i).toNat)
  case atStart => exact ⟨0, Nat.zero_le _, rfl, rfl⟩
  case round =>
    obtain ⟨t, ht, rfl, rfl⟩ := hrel
    by_cases hlt : t < B.size
    · have t0 : (0 : Int) ≤ (t : Int) := by omega
      have t1 : (t : Int) < (B.size : Int) := by omega
      have hb := B[t].toNat_lt
      have hnx : numF (tx B) (t + 1) = IntKind.u64.wrap (IntKind.u64.wrap (16 * numF (tx B) t) + dV (B[t].toNat : Int)) := by rw [numF, tx_get B t hlt]
      have k0 : IntKind.u64.wrap (B[t].toNat : Int) = (B[t].toNat : Int) := IntWalk.u64_in _ (by omega)
      obtain ⟨v, hv⟩ : ∃ v, numF (tx B) t = v := ⟨_, rfl⟩
      rw [hv] at hnx ⊢
      have HNX := hid hnx
      clear hnx hv
      by_cases h97 : 97 ≤ B[t].toNat
      · have h97i : (97 : Int) ≤ (B[t].toNat : Int) := by omega
        go_wp2_with fail
        go_round
        case rel => exact ⟨t + 1, by omega, by go_num, congrArg (Value.int .u64) (by rw [HNX.out, dV, if_pos h97i])⟩
        case measure => simp [intOf]; omega
      · have h97i : ¬ (97 : Int) ≤ (B[t].toNat : Int) := by omega
        go_wp2_with fail
        go_round
        case rel => exact ⟨t + 1, by omega, by go_num, congrArg (Value.int .u64) (by rw [HNX.out, dV, if_neg h97i])⟩
        case measure => simp [intOf]; omega
    · obtain rfl : t = B.size := by omega
      go_wp2_with fail
      go_returns
      exact ⟨rfl, rfl⟩
theorem str_app (xs ys : List Int) : strOfNums xs ++ strOfNums ys = strOfNums (xs ++ ys) := by
  apply ByteArray.ext
  simp [strOfNums]
/-- The last t digits to the base sixteen. -/
def revD (n : Int) : Nat → List Int
  | 0 => []
  | t + 1 => dgt (n / 16 ^ t % 16) :: revD n t
theorem revD_length (n : Int) (t : Nat) : (revD n t).length = t := by
  induction t with
  | zero => rfl
  | succ t ih => simp [revD, ih]
theorem revD_hexD (n : Int) : revD n 16 = hexD n 16 := by
  simp only [revD, hexD, List.range_succ, List.range_zero, List.nil_append, List.cons_append, List.map_cons, List.map_nil]
  rfl
set_option maxHeartbeats 1600000 in
theorem hex_any (n : Int) (hn : 0 ≤ n ∧ n < 18446744073709551616) (w : World) :
    Calls Tryd.prog 28 #[.int .u64 n] w fun e w' => e = .returned (.string (strOfNums (hexD n 16))) ∧ Frm [] w w' := by
  have HN := hid hn
  clear hn
  go_enter Tryd.func28, Tryd.ntmps28
  go_wp2_with fail
  go_loopw [0, 3, 4] (fun v s i wr => ∃ (t : Nat), t ≤ 16 ∧ i = .int .i64 t ∧ v = .int .u64 (n / 16 ^ t) ∧ s = .string (strOfNums (revD n t)) ∧ Hid (Frm [] w wr)) (fun _ _ i _ => 16 - (intOf i).toNat)
  case atStart => exact ⟨0, by omega, rfl, by simp, rfl, hid (Frm.refl _ _)⟩
  case round =>
    obtain ⟨t, ht, rfl, rfl, rfl, hf⟩ := hrel
    by_cases hlt : t < 16
    · have hx0 : 0 ≤ n / 16 ^ t ∧ n / 16 ^ t < 18446744073709551616 := by
        have hp : (1 : Int) ≤ 16 ^ t := Int.le_of_lt_add_one (by have : (0 : Int) < 16 ^ t := Int.pow_pos (by decide); omega)
        exact ⟨Int.ediv_nonneg HN.out.1 (by omega), Int.lt_of_le_of_lt (Int.ediv_le_self _ HN.out.1) HN.out.2⟩
      have hdv : n / 16 ^ (t + 1) = n / 16 ^ t / 16 := by rw [Int.pow_succ, Int.ediv_ediv_of_nonneg (by exact Int.pow_nonneg (by decide))]
      have hrv : revD n (t + 1) = dgt (n / 16 ^ t % 16) :: revD n t := rfl
      obtain ⟨x, hx⟩ : ∃ x, n / 16 ^ t = x := ⟨_, rfl⟩
      rw [hx] at hx0 hdv hrv ⊢
      obtain ⟨x0, x1⟩ := hx0
      have HDV := hid hdv
      have HRV := hid hrv
      clear hdv hrv hx
      have k1 : IntKind.u64.wrap (48 + x % 16) = 48 + x % 16 := IntWalk.u64_in _ (by omega)
      have k2 : IntKind.u8.wrap (48 + x % 16) = 48 + x % 16 := by show (48 + x % 16) % 256 = _; omega
      have k3 : IntKind.u64.wrap (97 + x % 16) = 97 + x % 16 := IntWalk.u64_in _ (by omega)
      have k4 : IntKind.u64.wrap (97 + x % 16 - 10) = 97 + x % 16 - 10 := IntWalk.u64_in _ (by omega)
      have k5 : IntKind.u8.wrap (97 + x % 16 - 10) = 97 + x % 16 - 10 := by show (97 + x % 16 - 10) % 256 = _; omega
      have s2 : (strOfNums (revD n t)).size = t := by rw [strOfNums_size, revD_length]
      by_cases h9 : 9 < x % 16
      · have s1 : (strOfNums [97 + x % 16 - 10]).size = 1 := rfl
        have hdd : 97 + x % 16 - 10 = dgt (x % 16) := by unfold dgt; split <;> omega
        have hrz : Rd (wr.alloc (.cells #[.int .u8 (97 + x % 16 - 10)] 5)) (some ⟨wr.heap.size, 0, none⟩) [97 + x % 16 - 10] :=
          (own_of_block (E := 5) (zs := [97 + x % 16 - 10]) (heap_alloc_new wr _) (by simp [maxLen])).rd
        have hcv1 := cv_any (P := Tryd.prog) 22 5 9 Tryd.underlying22 Tryd.underlying5 Tryd.underlying9 hrz 1 (show ([97 + x % 16 - 10] : List Int).length = 1 from rfl)
        have HF1 : Hid (Frm [] w (wr.alloc (.cells #[.int .u8 (97 + x % 16 - 10)] 5))) := hid (hf.out.alloc _)
        have HDD := hid hdd
        clear hrz hdd hf
        go_wp2_with fail
        go_roundw
        case rel => exact ⟨t + 1, by omega, by go_num, congrArg (Value.int .u64) HDV.out.symm, congrArg Value.string (by rw [HRV.out, ← HDD.out, str_app]; rfl), HF1⟩
        case measure => simp [intOf]; omega
      · have s1 : (strOfNums [48 + x % 16]).size = 1 := rfl
        have hdd : 48 + x % 16 = dgt (x % 16) := by unfold dgt; split <;> omega
        have hrz : Rd (wr.alloc (.cells #[.int .u8 (48 + x % 16)] 5)) (some ⟨wr.heap.size, 0, none⟩) [48 + x % 16] :=
          (own_of_block (E := 5) (zs := [48 + x % 16]) (heap_alloc_new wr _) (by simp [maxLen])).rd
        have hcv1 := cv_any (P := Tryd.prog) 22 5 9 Tryd.underlying22 Tryd.underlying5 Tryd.underlying9 hrz 1 (show ([48 + x % 16] : List Int).length = 1 from rfl)
        have HF1 : Hid (Frm [] w (wr.alloc (.cells #[.int .u8 (48 + x % 16)] 5))) := hid (hf.out.alloc _)
        have HDD := hid hdd
        clear hrz hdd hf
        go_wp2_with fail
        go_roundw
        case rel => exact ⟨t + 1, by omega, by go_num, congrArg (Value.int .u64) HDV.out.symm, congrArg Value.string (by rw [HRV.out, ← HDD.out, str_app]; rfl), HF1⟩
        case measure => simp [intOf]; omega
    · obtain rfl : t = 16 := by omega
      rw [show ((16 : Nat) : Int) = 16 from rfl]
      obtain ⟨xx, hxx⟩ : ∃ xx, n / 16 ^ 16 = xx := ⟨_, rfl⟩
      rw [hxx, revD_hexD]
      obtain ⟨R, hR⟩ : ∃ R, hexD n 16 = R := ⟨_, rfl⟩
      have HRR := hid hR
      rw [hR]
      clear hxx hR
      go_wp2_with fail
      go_returns
      exact ⟨by rw [HRR.out]; rfl, hf.out⟩
end Go.Proofs.YtcnochabdhdlnaaDoor
