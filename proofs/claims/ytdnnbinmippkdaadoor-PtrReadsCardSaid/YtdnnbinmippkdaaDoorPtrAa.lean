/- A pointer, a label and an uberblock, there and back (by the kernel). Contracts of the law: awake. -/
import Derived.Test.YtdnnbinmippkdaaDoorPtrW
import Derived.Test.YtdnnbinmippkdaaDoorPtrK
import Derived.Test.YtdnnbinmippkdaaDoorPtrX
import Derived.Test.YtdnnbinmippkdaaDoorPtrY
namespace Go.Proofs.YtdnnbinmippkdaaDoor
section
open Go.RowKit
def pA : P9 := ⟨1, 258, 5, 7, 1, 9, 0, 0, 0⟩
theorem pA_dec : decP (ptrB pA) = (pA, 0) := by kernel_rfl
def uA : U12 := ⟨5, 8, 3, pA⟩
def lA (p : Option Addr) : LabV := ⟨5, p, 1, 1, 0, 1, [⟨2, 2, 324⟩]⟩
theorem pA_chk : checkP pA = 0 := by kernel_rfl
theorem uA_chk : checkU uA = 0 := by kernel_rfl
theorem lA_chk (p : Option Addr) : checkL (lA p) = 0 := by kernel_rfl
theorem uA_dec : decU (sealB (uberB uA)) = (uA, 0) := by kernel_rfl
theorem lA_dec (p : Option Addr) : decL (sealB (labB (lA p))) = (⟨5, none, 1, 0, 0, 1, [⟨2, 2, 324⟩]⟩, 0) := by kernel_rfl
end
section
open Go.RowKit
set_option maxRecDepth 100000

theorem pA_ok : pA.ok := ⟨by decide, by decide, by decide, by decide, by decide⟩
theorem uA_ok : uA.ok := ⟨by decide, by decide, by decide, pA_ok⟩
theorem rd_of_row {W : World} {g : Nat} {zs : List Int} (h : W.heap[g]? = some (.cells (bv zs).toArray 5 (0, 0))) (hl : zs.length ≤ 1000) : Rd W (some ⟨g, 0, none⟩) zs := (own_of_block h (by unfold maxLen; omega)).rd
theorem ptrB_byte (p : P9) : ∀ z ∈ ptrB p, 0 ≤ z ∧ z < 256 := app_byte (bodyP_byte p) (rep_byte 16)
theorem encP_A (w : World) : Calls Tryd.prog 10 #[.agg #[.int .i64 1, .int .i64 258, .int .i64 5, .int .u64 7, .int .i64 1, .int .u64 9, .int .u64 0, .int .u64 0, .int .u64 0]] w fun e w' => ∃ g, e = .returned (.tuple #[.slice (some ⟨g, 0, none⟩) 64 64, .int .i64 0]) ∧ Rd w' (some ⟨g, 0, none⟩) (ptrB pA) ∧ Frm [] w w' := by
  refine (encode_any pA pA_ok w).mono ?_
  rintro e w' (⟨h, _⟩ | ⟨_, g, rfl, hg, hf, _⟩)
  · exact absurd pA_chk h
  · exact ⟨g, by rw [ptrB_length], rd_of_row hg (by rw [ptrB_length]; omega), hf⟩
theorem decP_A (g : Nat) (w : World) (h : Rd w (some ⟨g, 0, none⟩) (ptrB pA)) : Calls Tryd.prog 24 #[.slice (some ⟨g, 0, none⟩) 64 64] w fun e w' => e = .returned (.tuple #[.agg #[.int .i64 1, .int .i64 258, .int .i64 5, .int .u64 7, .int .i64 1, .int .u64 9, .int .u64 0, .int .u64 0, .int .u64 0], .int .i64 0]) ∧ Frm [] w w' := by
  have h1 := decode_any (some ⟨g, 0, none⟩) 64 64 (ptrB pA) w (ptrB_length pA) (by omega) h (ptrB_byte pA)
  rw [pA_dec] at h1
  exact h1
theorem encU_A (w : World) : Calls Tryd.prog 20 #[.agg #[.int .u64 5, .int .u64 8, .int .u64 3, .int .i64 1, .int .i64 258, .int .i64 5, .int .u64 7, .int .i64 1, .int .u64 9, .int .u64 0, .int .u64 0, .int .u64 0]] w fun e w' => ∃ g, e = .returned (.tuple #[.slice (some ⟨g, 0, none⟩) 128 128, .int .i64 0]) ∧ Rd w' (some ⟨g, 0, none⟩) (sealB (uberB uA)) ∧ Frm [] w w' := by
  refine (encodeU_any uA uA_ok w).mono ?_
  rintro e w' (⟨h, _⟩ | ⟨_, g, rfl, hg, hf, _⟩)
  · exact absurd uA_chk h
  · exact ⟨g, by rw [sealB_length, uberB_length], rd_of_row hg (by rw [sealB_length, uberB_length]; omega), hf⟩
theorem decU_A (g : Nat) (w : World) (h : Rd w (some ⟨g, 0, none⟩) (sealB (uberB uA))) : Calls Tryd.prog 28 #[.slice (some ⟨g, 0, none⟩) 128 128] w fun e w' => e = .returned (.tuple #[.agg #[.int .u64 5, .int .u64 8, .int .u64 3, .int .i64 1, .int .i64 258, .int .i64 5, .int .u64 7, .int .i64 1, .int .u64 9, .int .u64 0, .int .u64 0, .int .u64 0], .int .i64 0]) ∧ Frm [] w w' := by
  have h1 := decodeU_any (some ⟨g, 0, none⟩) 128 128 (sealB (uberB uA)) w (by rw [sealB_length, uberB_length]) (by omega) h (app_byte (uberB_byte _) (sumL_byte _ _ _ _))
  rw [uA_dec] at h1
  exact h1
theorem lA_ok {w : World} {tk : Nat} (h : w.heap[tk]? = some (.cells #[.int .i64 2, .int .i64 2, .int .i64 324] 39 (0, 0))) : (lA (some ⟨tk, 0, none⟩)).ok w := by
  refine ⟨rfl, Or.inr ⟨tk, 0, rfl, fun i hi => ?_⟩, Nat.le_refl _, by show (1 : Nat) ≤ 9223372036854775807; omega, by show (0 : Int) ≤ 5 ∧ (5 : Int) < 18446744073709551616; omega, by show (-9223372036854775808 : Int) ≤ 0 ∧ (0 : Int) ≤ 9223372036854775807; omega⟩
  have hi0 : i = 0 := by
    have : i < 1 := hi
    omega
  subst hi0
  refine ⟨?_, ?_, ?_⟩ <;> (rw [cell_of_row w _ _ _ _ _ h]; rfl)
theorem encL_A (tk : Nat) (w : World) (h : w.heap[tk]? = some (.cells #[.int .i64 2, .int .i64 2, .int .i64 324] 39 (0, 0))) : Calls Tryd.prog 15 #[.agg #[.int .u64 5, .slice (some ⟨tk, 0, none⟩) 1 1, .int .i64 0, .int .i64 1]] w fun e w' => ∃ g, e = .returned (.tuple #[.slice (some ⟨g, 0, none⟩) 128 128, .int .i64 0]) ∧ Rd w' (some ⟨g, 0, none⟩) (sealB (labB (lA (some ⟨tk, 0, none⟩)))) ∧ Frm [] w w' := by
  have hl : (sealB (labB (lA (some ⟨tk, 0, none⟩)))).length = 128 := by rw [sealB_length, labB_length (by show (1 : Nat) ≤ 4; omega)]
  refine (encodeL_any (lA (some ⟨tk, 0, none⟩)) w (lA_ok h)).mono ?_
  rintro e w' (⟨h, _⟩ | ⟨_, g, rfl, hg, hf, _⟩)
  · exact absurd (lA_chk _) h
  · exact ⟨g, by rw [hl], rd_of_row hg (by rw [hl]; omega), hf⟩
theorem decL_A (g tk : Nat) (w : World) (h : Rd w (some ⟨g, 0, none⟩) (sealB (labB (lA (some ⟨tk, 0, none⟩))))) : Calls Tryd.prog 26 #[.slice (some ⟨g, 0, none⟩) 128 128] w fun e w' => ∃ l : LabV, e = .returned (.tuple #[.agg l.arr, .int .i64 0]) ∧ l.ok w' ∧ (lA (some ⟨tk, 0, none⟩)).same l ∧ Frm [] w w' := by
  have hl : (sealB (labB (lA (some ⟨tk, 0, none⟩)))).length = 128 := by rw [sealB_length, labB_length (by show (1 : Nat) ≤ 4; omega)]
  have h1 := decodeL_any (some ⟨g, 0, none⟩) 128 128 (sealB (labB (lA (some ⟨tk, 0, none⟩)))) w hl (by omega) h (app_byte (labB_byte _) (sumL_byte _ _ _ _))
  rw [lA_dec] at h1
  refine h1.mono ?_
  rintro e w' ⟨l, rfl, ho, ⟨s1, s2, s3, s4, s5⟩, _, hf⟩
  exact ⟨l, rfl, ho, ⟨s1.symm, s2.symm, s3.symm, s4.symm, s5.symm⟩, hf⟩
end
end Go.Proofs.YtdnnbinmippkdaaDoor
