/- Contracts of package sum: turns to the right, words. -/
import Derived.Test.YtdnnbinmippkdaaDoorGen
import Derived.Laws.BitsAllLaws
import Derived.BigQuiet
namespace Go.Proofs.YtdnnbinmippkdaaDoor
open Go.RowKit
set_option maxRecDepth 100000

theorem rd_byte {w : World} {p : Option Addr} {zs : List Int} {i : Nat} (h : Rd w p zs) (hi : i < zs.length) : ∃ g o, p = some ⟨g, o, none⟩ ∧ w.cell? ⟨g, o + i, none⟩ = some (.int .u8 (zs.getD i 0)) := by
  rcases h with h | ⟨g, o, rfl, hc⟩
  · subst h; simp at hi
  · exact ⟨g, o, rfl, hc i hi⟩
/-- x turned to the right by k bits (k from 1 to 31). -/
def ror (x : Int) (k : Nat) : Int := bits .or .u32 (IntKind.u32.wrap (x * 2 ^ (32 - k))) (x / 2 ^ k)
theorem rotl_2 (x : Int) (w : World) :
    Calls Tryd.prog 89 #[.int .u32 x, .int .i64 (-2)] w fun e w' => e = .returned (.int .u32 (ror x 2)) ∧ w' = w := by
  have h1 : bits .and .u64 (IntKind.u64.wrap (-2)) 31 = 30 := by decide +kernel
  go_enter Tryd.func89, Tryd.ntmps89
  go_wp2_with fail
  go_returns
  exact ⟨rfl, rfl⟩
theorem right_2 (x : Int) (w : World) :
    Calls Tryd.prog 88 #[.int .u32 x, .int .i64 2] w fun e w' => e = .returned (.int .u32 (ror x 2)) ∧ w' = w := by
  go_enter Tryd.func88, Tryd.ntmps88
  go_wp2_with fail
  refine (rotl_2 x w).mono ?_
  rintro e w1 ⟨rfl, rfl⟩
  go_wp2_with fail
  go_returns
  exact ⟨rfl, rfl⟩
theorem rotl_6 (x : Int) (w : World) :
    Calls Tryd.prog 89 #[.int .u32 x, .int .i64 (-6)] w fun e w' => e = .returned (.int .u32 (ror x 6)) ∧ w' = w := by
  have h1 : bits .and .u64 (IntKind.u64.wrap (-6)) 31 = 26 := by decide +kernel
  go_enter Tryd.func89, Tryd.ntmps89
  go_wp2_with fail
  go_returns
  exact ⟨rfl, rfl⟩
theorem right_6 (x : Int) (w : World) :
    Calls Tryd.prog 88 #[.int .u32 x, .int .i64 6] w fun e w' => e = .returned (.int .u32 (ror x 6)) ∧ w' = w := by
  go_enter Tryd.func88, Tryd.ntmps88
  go_wp2_with fail
  refine (rotl_6 x w).mono ?_
  rintro e w1 ⟨rfl, rfl⟩
  go_wp2_with fail
  go_returns
  exact ⟨rfl, rfl⟩
theorem rotl_7 (x : Int) (w : World) :
    Calls Tryd.prog 89 #[.int .u32 x, .int .i64 (-7)] w fun e w' => e = .returned (.int .u32 (ror x 7)) ∧ w' = w := by
  have h1 : bits .and .u64 (IntKind.u64.wrap (-7)) 31 = 25 := by decide +kernel
  go_enter Tryd.func89, Tryd.ntmps89
  go_wp2_with fail
  go_returns
  exact ⟨rfl, rfl⟩
theorem right_7 (x : Int) (w : World) :
    Calls Tryd.prog 88 #[.int .u32 x, .int .i64 7] w fun e w' => e = .returned (.int .u32 (ror x 7)) ∧ w' = w := by
  go_enter Tryd.func88, Tryd.ntmps88
  go_wp2_with fail
  refine (rotl_7 x w).mono ?_
  rintro e w1 ⟨rfl, rfl⟩
  go_wp2_with fail
  go_returns
  exact ⟨rfl, rfl⟩
theorem rotl_11 (x : Int) (w : World) :
    Calls Tryd.prog 89 #[.int .u32 x, .int .i64 (-11)] w fun e w' => e = .returned (.int .u32 (ror x 11)) ∧ w' = w := by
  have h1 : bits .and .u64 (IntKind.u64.wrap (-11)) 31 = 21 := by decide +kernel
  go_enter Tryd.func89, Tryd.ntmps89
  go_wp2_with fail
  go_returns
  exact ⟨rfl, rfl⟩
theorem right_11 (x : Int) (w : World) :
    Calls Tryd.prog 88 #[.int .u32 x, .int .i64 11] w fun e w' => e = .returned (.int .u32 (ror x 11)) ∧ w' = w := by
  go_enter Tryd.func88, Tryd.ntmps88
  go_wp2_with fail
  refine (rotl_11 x w).mono ?_
  rintro e w1 ⟨rfl, rfl⟩
  go_wp2_with fail
  go_returns
  exact ⟨rfl, rfl⟩
theorem rotl_13 (x : Int) (w : World) :
    Calls Tryd.prog 89 #[.int .u32 x, .int .i64 (-13)] w fun e w' => e = .returned (.int .u32 (ror x 13)) ∧ w' = w := by
  have h1 : bits .and .u64 (IntKind.u64.wrap (-13)) 31 = 19 := by decide +kernel
  go_enter Tryd.func89, Tryd.ntmps89
  go_wp2_with fail
  go_returns
  exact ⟨rfl, rfl⟩
theorem right_13 (x : Int) (w : World) :
    Calls Tryd.prog 88 #[.int .u32 x, .int .i64 13] w fun e w' => e = .returned (.int .u32 (ror x 13)) ∧ w' = w := by
  go_enter Tryd.func88, Tryd.ntmps88
  go_wp2_with fail
  refine (rotl_13 x w).mono ?_
  rintro e w1 ⟨rfl, rfl⟩
  go_wp2_with fail
  go_returns
  exact ⟨rfl, rfl⟩
theorem rotl_17 (x : Int) (w : World) :
    Calls Tryd.prog 89 #[.int .u32 x, .int .i64 (-17)] w fun e w' => e = .returned (.int .u32 (ror x 17)) ∧ w' = w := by
  have h1 : bits .and .u64 (IntKind.u64.wrap (-17)) 31 = 15 := by decide +kernel
  go_enter Tryd.func89, Tryd.ntmps89
  go_wp2_with fail
  go_returns
  exact ⟨rfl, rfl⟩
theorem right_17 (x : Int) (w : World) :
    Calls Tryd.prog 88 #[.int .u32 x, .int .i64 17] w fun e w' => e = .returned (.int .u32 (ror x 17)) ∧ w' = w := by
  go_enter Tryd.func88, Tryd.ntmps88
  go_wp2_with fail
  refine (rotl_17 x w).mono ?_
  rintro e w1 ⟨rfl, rfl⟩
  go_wp2_with fail
  go_returns
  exact ⟨rfl, rfl⟩
theorem rotl_18 (x : Int) (w : World) :
    Calls Tryd.prog 89 #[.int .u32 x, .int .i64 (-18)] w fun e w' => e = .returned (.int .u32 (ror x 18)) ∧ w' = w := by
  have h1 : bits .and .u64 (IntKind.u64.wrap (-18)) 31 = 14 := by decide +kernel
  go_enter Tryd.func89, Tryd.ntmps89
  go_wp2_with fail
  go_returns
  exact ⟨rfl, rfl⟩
theorem right_18 (x : Int) (w : World) :
    Calls Tryd.prog 88 #[.int .u32 x, .int .i64 18] w fun e w' => e = .returned (.int .u32 (ror x 18)) ∧ w' = w := by
  go_enter Tryd.func88, Tryd.ntmps88
  go_wp2_with fail
  refine (rotl_18 x w).mono ?_
  rintro e w1 ⟨rfl, rfl⟩
  go_wp2_with fail
  go_returns
  exact ⟨rfl, rfl⟩
theorem rotl_19 (x : Int) (w : World) :
    Calls Tryd.prog 89 #[.int .u32 x, .int .i64 (-19)] w fun e w' => e = .returned (.int .u32 (ror x 19)) ∧ w' = w := by
  have h1 : bits .and .u64 (IntKind.u64.wrap (-19)) 31 = 13 := by decide +kernel
  go_enter Tryd.func89, Tryd.ntmps89
  go_wp2_with fail
  go_returns
  exact ⟨rfl, rfl⟩
theorem right_19 (x : Int) (w : World) :
    Calls Tryd.prog 88 #[.int .u32 x, .int .i64 19] w fun e w' => e = .returned (.int .u32 (ror x 19)) ∧ w' = w := by
  go_enter Tryd.func88, Tryd.ntmps88
  go_wp2_with fail
  refine (rotl_19 x w).mono ?_
  rintro e w1 ⟨rfl, rfl⟩
  go_wp2_with fail
  go_returns
  exact ⟨rfl, rfl⟩
theorem rotl_22 (x : Int) (w : World) :
    Calls Tryd.prog 89 #[.int .u32 x, .int .i64 (-22)] w fun e w' => e = .returned (.int .u32 (ror x 22)) ∧ w' = w := by
  have h1 : bits .and .u64 (IntKind.u64.wrap (-22)) 31 = 10 := by decide +kernel
  go_enter Tryd.func89, Tryd.ntmps89
  go_wp2_with fail
  go_returns
  exact ⟨rfl, rfl⟩
theorem right_22 (x : Int) (w : World) :
    Calls Tryd.prog 88 #[.int .u32 x, .int .i64 22] w fun e w' => e = .returned (.int .u32 (ror x 22)) ∧ w' = w := by
  go_enter Tryd.func88, Tryd.ntmps88
  go_wp2_with fail
  refine (rotl_22 x w).mono ?_
  rintro e w1 ⟨rfl, rfl⟩
  go_wp2_with fail
  go_returns
  exact ⟨rfl, rfl⟩
theorem rotl_25 (x : Int) (w : World) :
    Calls Tryd.prog 89 #[.int .u32 x, .int .i64 (-25)] w fun e w' => e = .returned (.int .u32 (ror x 25)) ∧ w' = w := by
  have h1 : bits .and .u64 (IntKind.u64.wrap (-25)) 31 = 7 := by decide +kernel
  go_enter Tryd.func89, Tryd.ntmps89
  go_wp2_with fail
  go_returns
  exact ⟨rfl, rfl⟩
theorem right_25 (x : Int) (w : World) :
    Calls Tryd.prog 88 #[.int .u32 x, .int .i64 25] w fun e w' => e = .returned (.int .u32 (ror x 25)) ∧ w' = w := by
  go_enter Tryd.func88, Tryd.ntmps88
  go_wp2_with fail
  refine (rotl_25 x w).mono ?_
  rintro e w1 ⟨rfl, rfl⟩
  go_wp2_with fail
  go_returns
  exact ⟨rfl, rfl⟩
/-- The turns of SHA-256. -/
def turnK (K : Int) : Bool := K == 2 || K == 6 || K == 7 || K == 11 || K == 13 || K == 17 || K == 18 || K == 19 || K == 22 || K == 25
def rorI (x K : Int) : Int := ror x K.toNat
theorem right_all (x K : Int) (hK : turnK K = true) (w : World) :
    Calls Tryd.prog 88 #[.int .u32 x, .int .i64 K] w fun e w' => e = .returned (.int .u32 (rorI x K)) ∧ w' = w := by
  simp only [turnK, Bool.or_eq_true, beq_iff_eq] at hK
  rcases hK with ((((((((rfl | rfl) | rfl) | rfl) | rfl) | rfl) | rfl) | rfl) | rfl) | rfl
  · exact right_2 x w
  · exact right_6 x w
  · exact right_7 x w
  · exact right_11 x w
  · exact right_13 x w
  · exact right_17 x w
  · exact right_18 x w
  · exact right_19 x w
  · exact right_22 x w
  · exact right_25 x w
/-- The word of four bytes, the lowest first. -/
def lowW (a b c d : Int) : Int := bits .or .u32 (bits .or .u32 (bits .or .u32 a (b * 256)) (c * 65536)) (d * 16777216)
theorem low_any (a b c d : Int) (w : World) (ha : 0 ≤ a ∧ a < 256) (hb : 0 ≤ b ∧ b < 256) (hc : 0 ≤ c ∧ c < 256) (hd : 0 ≤ d ∧ d < 256) :
    Calls Tryd.prog 85 #[.int .u8 a, .int .u8 b, .int .u8 c, .int .u8 d] w fun e w' => e = .returned (.int .u32 (lowW a b c d)) ∧ w' = w := by
  obtain ⟨a0, a1⟩ := ha
  obtain ⟨b0, b1⟩ := hb
  obtain ⟨c0, c1⟩ := hc
  obtain ⟨d0, d1⟩ := hd
  go_enter Tryd.func85, Tryd.ntmps85
  go_wp2_with fail
  go_returns
  exact ⟨rfl, rfl⟩
def pairW (h l : Int) : Int := bits .or .u64 (h * 4294967296) l
theorem pair_any (h l : Int) (w : World) (hh : 0 ≤ h ∧ h < 4294967296) (hl : 0 ≤ l ∧ l < 4294967296) :
    Calls Tryd.prog 87 #[.int .u32 h, .int .u32 l] w fun e w' => e = .returned (.int .u64 (pairW h l)) ∧ w' = w := by
  obtain ⟨a0, a1⟩ := hh
  obtain ⟨b0, b1⟩ := hl
  go_enter Tryd.func87, Tryd.ntmps87
  go_wp2_with fail
  go_returns
  exact ⟨rfl, rfl⟩
end Go.Proofs.YtdnnbinmippkdaaDoor
