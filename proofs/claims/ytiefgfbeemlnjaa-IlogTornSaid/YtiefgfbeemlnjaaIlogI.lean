/- Contracts of package ilog: value. -/
import Derived.Test.YtiefgfbeemlnjaaIlogG
import Derived.Laws.BitsAllLaws
namespace Go.Proofs.Ytiefgfbeemlnjaa
open Go.RowKit
set_option maxRecDepth 100000

theorem i64_or_nat2 (a b : Nat) (ha : a < 9223372036854775808) (hb : b < 9223372036854775808) : bits .or .i64 (a : Int) (b : Int) = ((a ||| b : Nat) : Int) := by
  have hx : a ||| b < 2 ^ 63 := Nat.or_lt_two_pow (by omega) (by omega)
  show IntKind.i64.wrap ((BitVec.ofInt 64 (a : Int) ||| BitVec.ofInt 64 (b : Int)).toNat : Int) = _
  rw [BitVec.toNat_or, ofInt_u64 a (by omega), ofInt_u64 b (by omega)]
  exact IntWalk.i64_in _ (by omega)
theorem or_mod (N j : Nat) (hj : j < 4) : bits .or .i64 ((N % 2 ^ (8 * j) : Nat) : Int) (IntKind.i64.wrap ((N : Int) / 2 ^ (8 * j) % 256 * 2 ^ (8 * j))) = ((N % 2 ^ (8 * (j + 1)) : Nat) : Int) := by
  have ec : (2 : Int) ^ (8 * j) = ((2 ^ (8 * j) : Nat) : Int) := by simp
  have e1 : (N : Int) / 2 ^ (8 * j) % 256 * 2 ^ (8 * j) = ((N / 2 ^ (8 * j) % 256 * 2 ^ (8 * j) : Nat) : Int) := by rw [ec]; simp
  have hq : (2 : Nat) ^ (8 * j) ≤ 2 ^ 24 := Nat.pow_le_pow_right (by decide) (by omega)
  have hq0 : 0 < (2 : Nat) ^ (8 * j) := Nat.pow_pos (by decide)
  have hm : N / 2 ^ (8 * j) % 256 * 2 ^ (8 * j) ≤ 255 * 2 ^ 24 := Nat.mul_le_mul (by omega) hq
  have hl : N % 2 ^ (8 * j) < 2 ^ (8 * j) := Nat.mod_lt _ hq0
  have e2 : (2 : Nat) ^ (8 * (j + 1)) = 2 ^ (8 * j) * 256 := by rw [Nat.mul_add, Nat.pow_add]
  rw [e1, IntWalk.i64_in _ (by omega), i64_or_nat2 _ _ (by omega) (by omega), e2, Nat.mod_mul]
  congr 1
  rw [Nat.or_comm, ← Nat.shiftLeft_eq, ← Nat.shiftLeft_add_eq_or_of_lt hl, Nat.shiftLeft_eq, Nat.mul_comm, Nat.add_comm]
/-- Any four bytes are a number's. -/
theorem le_four {zs : List Int} (hl : zs.length = 4) (hb : ∀ z ∈ zs, 0 ≤ z ∧ z < 256) : ∃ N : Nat, N < 4294967296 ∧ le N 4 = zs := by
  match zs, hl with
  | [a, b, c, d], _ =>
    have ha := hb a (by simp)
    have hb' := hb b (by simp)
    have hc := hb c (by simp)
    have hd := hb d (by simp)
    refine ⟨(a + 256 * b + 65536 * c + 16777216 * d).toNat, by omega, ?_⟩
    rw [Int.toNat_of_nonneg (by omega)]
    simp only [le, List.range_succ, List.range_zero, List.nil_append, List.cons_append, List.map_cons, List.map_nil, Nat.mul_zero, Nat.mul_one]
    have p1 : (2 : Int) ^ (0 : Nat) = 1 := by decide
    have p2 : (2 : Int) ^ (8 : Nat) = 256 := by decide
    have p3 : (2 : Int) ^ (8 * 2 : Nat) = 65536 := by decide
    have p4 : (2 : Int) ^ (8 * 3 : Nat) = 16777216 := by decide
    rw [p1, p2, p3, p4]
    simp only [List.cons.injEq, and_true]
    omega
set_option maxHeartbeats 800000 in
theorem value16_any (N k : Nat) (hk : k ≤ 4) (p : Option Addr) (c : Nat) (w : World) (hrd : Rd w p (le N k)) :
    Calls Try.prog 117 #[.slice p k c] w fun e w' => e = .returned (.int .i64 ((N % 2 ^ (8 * k) : Nat) : Int)) ∧ w = w' := by
  have HR0 : Hid (∀ j, j < k → ∃ g o, p = some ⟨g, o, none⟩ ∧ w.cell? ⟨g, o + j, none⟩ = some (.int .u8 ((N : Int) / 2 ^ (8 * j) % 256))) := by
    intro j hj
    rcases hrd with h | ⟨g, o, e1, e2⟩
    · have := congrArg List.length h; simp [le_length] at this; omega
    · refine ⟨g, o, e1, ?_⟩
      rw [e2 j (by rw [le_length]; omega)]
      simp [le, List.getD, hj]
  clear hrd
  go_enter Try.func117, Try.ntmps117
  go_wp2_with fail
  go_loopw [3, 8] (fun v i wr => ∃ j : Nat, j ≤ k ∧ i = .int .i64 j ∧ v = .int .i64 ((N % 2 ^ (8 * j) : Nat) : Int) ∧ wr = w) (fun _ i _ => k - (intOf i).toNat)
  case atStart => exact ⟨0, Nat.zero_le _, rfl, by simp [Nat.mod_one], rfl⟩
  case round =>
    obtain ⟨j, hj, rfl, rfl, rfl⟩ := hrel
    by_cases hlt : j < k
    · obtain ⟨g, o, rfl, hc⟩ := HR0.out j hlt
      have hol := or_mod N j (by omega)
      obtain ⟨A, hA⟩ : ∃ A, N % 2 ^ (8 * j) = A := ⟨_, rfl⟩
      obtain ⟨x, hx⟩ : ∃ x, (N : Int) / 2 ^ (8 * j) % 256 = x := ⟨_, rfl⟩
      have hxb : 0 ≤ x ∧ x < 256 := by rw [← hx]; omega
      rw [hA, hx, IntWalk.i64_left] at hol
      rw [hx] at hc
      rw [hA]
      have HOL := hid hol
      clear hol hA hx
      obtain ⟨x0', x1'⟩ := hxb
      go_wp2_with fail
      go_roundw
      case rel => exact ⟨j + 1, by omega, by go_num, congrArg (Value.int .i64) HOL.out, trivial⟩
      case measure => simp [intOf]; omega
    · obtain rfl : j = k := by omega
      clear hlt
      go_wp2_with fail
      go_returns
      exact ⟨rfl, rfl⟩
end Go.Proofs.Ytiefgfbeemlnjaa
