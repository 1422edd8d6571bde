/- SHA-256 of any bytes, the program's one; the document's turns. -/
import Derived.Test.YtcnochabdhdlnaaDoorSumY
namespace Go.Proofs.YtcnochabdhdlnaaDoor
open Go.RowKit
set_option maxRecDepth 100000

/-- SHA-256 of any bytes. -/
def shaA (zs : List Int) : S4 := if zs.length % 64 < 56 then shaLo zs.length zs else shaHi zs.length zs
theorem sha_any (p : Option Addr) (n c : Nat) (zs : List Int) (w : World) (hn : zs.length = n) (hnc : n ≤ c) (hnb : n ≤ 9223372036854775807) (hrd : Rd w p zs) (hb : ∀ z ∈ zs, 0 ≤ z ∧ z < 256) (hpr : Primes w) :
    Calls Tryd.prog 24 #[.slice p n c] w fun e w' => e = .returned (.agg (shaA zs).arr) ∧ Frm [] w w' := by
  unfold shaA
  by_cases h : n % 64 < 56
  · rw [hn, if_pos h]
    exact sha_lo p n c zs w hn hnc hnb h hrd hb hpr
  · rw [hn, if_neg h]
    exact sha_hi p n c zs w hn hnc hnb (by omega) hrd hb hpr
theorem or_flip (a b : Int) : bits .or .u32 a b = bits .or .u32 b a := by
  unfold bits
  simp only [BitVec.or_comm]
theorem turn_2 (x : Int) (w : World) :
    Calls Tryd.prog 36 #[.int .u32 x, .int .u64 2] w fun e w' => e = .returned (.int .u32 (rorI x 2)) ∧ w' = w := by
  go_enter Tryd.func36, Tryd.ntmps36
  go_wp2_with fail
  go_returns
  refine ⟨?_, rfl⟩
  rw [or_flip]
  rfl
theorem turn_6 (x : Int) (w : World) :
    Calls Tryd.prog 36 #[.int .u32 x, .int .u64 6] w fun e w' => e = .returned (.int .u32 (rorI x 6)) ∧ w' = w := by
  go_enter Tryd.func36, Tryd.ntmps36
  go_wp2_with fail
  go_returns
  refine ⟨?_, rfl⟩
  rw [or_flip]
  rfl
theorem turn_7 (x : Int) (w : World) :
    Calls Tryd.prog 36 #[.int .u32 x, .int .u64 7] w fun e w' => e = .returned (.int .u32 (rorI x 7)) ∧ w' = w := by
  go_enter Tryd.func36, Tryd.ntmps36
  go_wp2_with fail
  go_returns
  refine ⟨?_, rfl⟩
  rw [or_flip]
  rfl
theorem turn_11 (x : Int) (w : World) :
    Calls Tryd.prog 36 #[.int .u32 x, .int .u64 11] w fun e w' => e = .returned (.int .u32 (rorI x 11)) ∧ w' = w := by
  go_enter Tryd.func36, Tryd.ntmps36
  go_wp2_with fail
  go_returns
  refine ⟨?_, rfl⟩
  rw [or_flip]
  rfl
theorem turn_13 (x : Int) (w : World) :
    Calls Tryd.prog 36 #[.int .u32 x, .int .u64 13] w fun e w' => e = .returned (.int .u32 (rorI x 13)) ∧ w' = w := by
  go_enter Tryd.func36, Tryd.ntmps36
  go_wp2_with fail
  go_returns
  refine ⟨?_, rfl⟩
  rw [or_flip]
  rfl
theorem turn_17 (x : Int) (w : World) :
    Calls Tryd.prog 36 #[.int .u32 x, .int .u64 17] w fun e w' => e = .returned (.int .u32 (rorI x 17)) ∧ w' = w := by
  go_enter Tryd.func36, Tryd.ntmps36
  go_wp2_with fail
  go_returns
  refine ⟨?_, rfl⟩
  rw [or_flip]
  rfl
theorem turn_18 (x : Int) (w : World) :
    Calls Tryd.prog 36 #[.int .u32 x, .int .u64 18] w fun e w' => e = .returned (.int .u32 (rorI x 18)) ∧ w' = w := by
  go_enter Tryd.func36, Tryd.ntmps36
  go_wp2_with fail
  go_returns
  refine ⟨?_, rfl⟩
  rw [or_flip]
  rfl
theorem turn_19 (x : Int) (w : World) :
    Calls Tryd.prog 36 #[.int .u32 x, .int .u64 19] w fun e w' => e = .returned (.int .u32 (rorI x 19)) ∧ w' = w := by
  go_enter Tryd.func36, Tryd.ntmps36
  go_wp2_with fail
  go_returns
  refine ⟨?_, rfl⟩
  rw [or_flip]
  rfl
theorem turn_22 (x : Int) (w : World) :
    Calls Tryd.prog 36 #[.int .u32 x, .int .u64 22] w fun e w' => e = .returned (.int .u32 (rorI x 22)) ∧ w' = w := by
  go_enter Tryd.func36, Tryd.ntmps36
  go_wp2_with fail
  go_returns
  refine ⟨?_, rfl⟩
  rw [or_flip]
  rfl
theorem turn_25 (x : Int) (w : World) :
    Calls Tryd.prog 36 #[.int .u32 x, .int .u64 25] w fun e w' => e = .returned (.int .u32 (rorI x 25)) ∧ w' = w := by
  go_enter Tryd.func36, Tryd.ntmps36
  go_wp2_with fail
  go_returns
  refine ⟨?_, rfl⟩
  rw [or_flip]
  rfl
theorem turned_all (x K : Int) (hK : turnK K = true) (w : World) :
    Calls Tryd.prog 36 #[.int .u32 x, .int .u64 K] w fun e w' => e = .returned (.int .u32 (rorI x K)) ∧ w' = w := by
  simp only [turnK, Bool.or_eq_true, beq_iff_eq] at hK
  rcases hK with ((((((((rfl | rfl) | rfl) | rfl) | rfl) | rfl) | rfl) | rfl) | rfl) | rfl
  · exact turn_2 x w
  · exact turn_6 x w
  · exact turn_7 x w
  · exact turn_11 x w
  · exact turn_13 x w
  · exact turn_17 x w
  · exact turn_18 x w
  · exact turn_19 x w
  · exact turn_22 x w
  · exact turn_25 x w
end Go.Proofs.YtcnochabdhdlnaaDoor
