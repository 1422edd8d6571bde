/- Contracts of package code's reader's methods. -/
import Derived.Test.YtkbppkimpefilaaCodeR
namespace Go.Proofs.Ytkbppkimpefilaa
open Go.RowKit
set_option maxRecDepth 100000

/-- The number that bytes say, the lowest first. -/
def leV : List Int → Int
  | [] => 0
  | z :: zs => z + 256 * leV zs
theorem leV_snoc (l : List Int) (z : Int) : leV (l ++ [z]) = leV l + z * 2 ^ (8 * l.length) := by
  induction l with
  | nil => simp [leV]
  | cons a l ih =>
    have e : (2 : Int) ^ (8 * (l.length + 1)) = 2 ^ (8 * l.length) * 256 := by rw [Nat.mul_add, Int.pow_add]; rfl
    simp only [List.cons_append, leV, ih, List.length_cons, e]
    generalize (2 : Int) ^ (8 * l.length) = q
    rw [Int.mul_add, ← Int.mul_assoc z q 256, Int.mul_comm (z * q) 256]
    omega
theorem leV_bd (l : List Int) (h : ∀ z ∈ l, 0 ≤ z ∧ z < 256) : 0 ≤ leV l ∧ leV l < 2 ^ (8 * l.length) := by
  induction l with
  | nil => simp [leV]
  | cons a l ih =>
    have e : (2 : Int) ^ (8 * (l.length + 1)) = 2 ^ (8 * l.length) * 256 := by rw [Nat.mul_add, Int.pow_add]; rfl
    have h1 := ih (fun z hz => h z (by simp [hz]))
    have h2 := h a (by simp)
    simp only [leV, List.length_cons, e]
    generalize (2 : Int) ^ (8 * l.length) = q at *
    omega
theorem or_shift (a x : Int) (j : Nat) (hj : j < 8) (h0 : 0 ≤ a) (ha : a < 2 ^ (8 * j)) (hx0 : 0 ≤ x) (hx : x < 256) :
    bits .or .u64 a (IntKind.u64.wrap (x * 2 ^ (8 * j))) = a + x * 2 ^ (8 * j) := by
  obtain ⟨n, rfl⟩ := Int.eq_ofNat_of_zero_le h0
  obtain ⟨y, rfl⟩ := Int.eq_ofNat_of_zero_le hx0
  have hq : (2 : Nat) ^ (8 * j) ≤ 2 ^ 56 := Nat.pow_le_pow_right (by decide) (by omega)
  have ec : ((2 : Int) ^ (8 * j)) = ((2 ^ (8 * j) : Nat) : Int) := by simp
  rw [ec] at ha ⊢
  have hn : n < 2 ^ (8 * j) := by omega
  have hm : y * 2 ^ (8 * j) ≤ 255 * 2 ^ 56 := Nat.mul_le_mul (by omega) hq
  have hp : ((y : Int) * ((2 ^ (8 * j) : Nat) : Int)) = ((y * 2 ^ (8 * j) : Nat) : Int) := by simp
  rw [hp, IntWalk.u64_in _ (by omega), u64_or_nat n _ (by omega) (by omega)]
  have := Nat.two_pow_add_eq_or_of_lt hn y
  rw [Nat.mul_comm y, Nat.or_comm, ← this]
  omega
set_option maxHeartbeats 400000 in
theorem value_any (p : Option Addr) (c : Nat) (zs : List Int) (hz : ∀ z ∈ zs, 0 ≤ z ∧ z < 256) (hl : zs.length ≤ 8) (w : World) (hrd : Rd w p zs) :
    Calls Try.prog 97 #[.slice p zs.length c] w fun e w' => e = .returned (.int .u64 (leV zs)) ∧ Frm [] w w' := by
  go_enter Try.func97, Try.ntmps97
  go_wp2_with fail
  have HR : Hid (∀ i, i < zs.length → ∃ g o, p = some ⟨g, o, none⟩ ∧ w.cell? ⟨g, o + i, none⟩ = some (.int .u8 (zs.getD i 0))) := by
    intro i hi
    rcases hrd with h | ⟨g, o, h1, h2⟩
    · subst h; simp at hi
    · exact ⟨g, o, h1, h2 i hi⟩
  have HZ := hid hz
  clear hrd hz
  go_loopw [3, 8] (fun v i wr => ∃ j : Nat, j ≤ zs.length ∧ i = .int .i64 j ∧ v = .int .u64 (leV (zs.take j)) ∧ Hid (Frm [] w wr)) (fun _ i _ => zs.length - (intOf i).toNat)
  case atStart => exact ⟨0, Nat.zero_le _, rfl, rfl, Frm.refl _ _⟩
  case round =>
    obtain ⟨j, hj, rfl, rfl, hfr⟩ := hrel
    by_cases hlt : j < zs.length
    · obtain ⟨g, o, rfl, hc⟩ := HR.out j hlt
      have hx := HZ.out (zs.getD j 0) (by simp [List.getD, hlt])
      generalize hzj : zs.getD j 0 = x at hc hx
      have HZJ := hid hzj
      clear hzj
      obtain ⟨hx0, hx1⟩ := hx
      have hc' := (hfr.out.cell (p := ⟨g, o + j, none⟩) (World.block_lt_of_cell? w _ hc) (by simp)).trans hc
      have HB := hid (leV_bd (zs.take j) (fun z hz => HZ.out z (List.mem_of_mem_take hz)))
      go_wp2_with fail
      go_roundw
      case rel =>
        refine ⟨j + 1, by omega, by go_num, ?_, hfr⟩
        have e1 : (zs.take j).length = j := by simp; omega
        have e2 := HB.out
        rw [e1] at e2
        rw [or_shift _ x j (by omega) e2.1 e2.2 hx0 hx1]
        have e3 : zs.take (j + 1) = zs.take j ++ [x] := by
          rw [List.take_succ_eq_append_getElem hlt, ← HZJ.out]; simp [List.getD, hlt]
        rw [e3, leV_snoc, e1]
      case measure => simp [intOf]; omega
    · obtain rfl : j = zs.length := by omega
      go_wp2_with fail
      go_ret
      exact ⟨congrArg (fun l => Ending.returned (Value.int .u64 (leV l))) List.take_length, hfr.out⟩
end Go.Proofs.Ytkbppkimpefilaa
