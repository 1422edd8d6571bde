/- Plain facts: a form with one byte turned. -/
import Derived.Test.YtdnnbinmippkdaaDoorPtrBg
import Derived.Test.YtdnnbinmippkdaaDoorSumL
import Derived.Test.YtdnnbinmippkdaaDoorPtrAa
namespace Go.Proofs.YtdnnbinmippkdaaDoor
open Go.RowKit
set_option maxRecDepth 100000

theorem set_byte {zs : List Int} (hb : ∀ z ∈ zs, 0 ≤ z ∧ z < 256) {z : Int} (hz : 0 ≤ z ∧ z < 256) (i : Nat) : ∀ x ∈ zs.set i z, 0 ≤ x ∧ x < 256 := fun x hx => by
  rcases List.mem_or_eq_of_mem_set hx with h | h
  · exact hb x h
  · rw [h]; exact hz
theorem set_ne {zs : List Int} {i : Nat} (hi : i < zs.length) {z : Int} (hne : z ≠ zA zs i) : zs.set i z ≠ zs := fun h => by
  have h1 := zA_set zs i z i hi
  rw [h, if_pos rfl] at h1
  exact hne h1.symm
theorem flip_sum {zs : List Int} (hb : ∀ z ∈ zs, 0 ≤ z ∧ z < 256) (hl : zs.length = 96) {i : Nat} (hi : i < 128) {z : Int} (hz : 0 ≤ z ∧ z < 256) (hne : z ≠ zA (sealB zs) i) : sumOk ((sealB zs).set i z) = false := by
  have hsl : (sealB zs).length = 128 := by rw [sealB_length, hl]
  have hsb : ∀ x ∈ sealB zs, 0 ≤ x ∧ x < 256 := app_byte hb (sumL_byte _ _ _ _)
  have h0 := (sumOk_iff (sealB zs)).1 (seal_sum hl)
  rw [seal_take hl] at h0
  cases hk : sumOk ((sealB zs).set i z) with
  | false => rfl
  | true =>
    exfalso
    have h1 := (sumOk_iff _).1 hk
    by_cases h96 : i < 96
    · have e1 : ((sealB zs).set i z).take 96 = zs.set i z := by rw [List.take_set, seal_take hl]
      have e2 : sumAt ((sealB zs).set i z) 96 = sumAt (sealB zs) 96 := by
        have hd : ∀ q, 96 ≤ q → ((sealB zs).set i z).drop q = (sealB zs).drop q := fun q hq => List.drop_set_of_lt (by omega)
        unfold sumAt valAt
        rw [hd 96 (by omega), hd (96 + 8) (by omega), hd (96 + 16) (by omega), hd (96 + 24) (by omega)]
      rw [e1, e2, ← h0] at h1
      have e3 : zA (sealB zs) i = zA zs i := by unfold sealB; exact zA_left (by omega)
      exact turned_a hb (by omega) hz (by rw [← e3]; exact hne) (congrArg S4.a h1)
    · have e1 : ((sealB zs).set i z).take 96 = zs := by rw [List.take_set_of_le (by omega), seal_take hl]
      rw [e1, h0] at h1
      have hsb2 := set_byte hsb hz i
      have r1 := sumL_rd hsb 96 (by omega)
      have r2 := sumL_rd hsb2 96 (by rw [List.length_set]; omega)
      have e2 : (sealB zs).drop 96 = ((sealB zs).set i z).drop 96 := by
        rw [List.take_of_length_le (by rw [List.length_drop]; omega)] at r1
        rw [List.take_of_length_le (by rw [List.length_drop, List.length_set]; omega)] at r2
        rw [← r1, ← r2]
        have ha := congrArg S4.a h1
        have hb' := congrArg S4.b h1
        have hc := congrArg S4.c h1
        have hd := congrArg S4.d h1
        simp only [sumAt] at ha hb' hc hd
        rw [ha, hb', hc, hd]
      have e3 : zs ++ (sealB zs).drop 96 = sealB zs := by
        conv => lhs; arg 1; rw [← seal_take hl]
        exact List.take_append_drop _ _
      have e4 : (sealB zs).set i z = sealB zs := by
        conv => lhs; rw [← List.take_append_drop 96 ((sealB zs).set i z), e1, ← e2, e3]
      exact set_ne (by omega) hne e4
theorem flipL {l : LabV} {w : World} (hl : l.ok w) (h : checkL l = 0) {i : Nat} (hi : i < 128) {z : Int} (hz : 0 ≤ z ∧ z < 256) (hne : z ≠ zA (sealB (labB l)) i) : decL ((sealB (labB l)).set i z) = (zeroL, 43) := by
  have hlen := labB_length (checkL_ok hl h).n
  unfold decL
  rw [if_neg (by rw [List.length_set, sealB_length, hlen]; simp), if_pos (flip_sum (labB_byte l) hlen hi hz hne)]
theorem flipU {u : U12} {i : Nat} (hi : i < 128) {z : Int} (hz : 0 ≤ z ∧ z < 256) (hne : z ≠ zA (sealB (uberB u)) i) : decU ((sealB (uberB u)).set i z) = (zero12, 45) := by
  have hlen := uberB_length u
  unfold decU
  rw [if_neg (by rw [List.length_set, sealB_length, hlen]; simp), if_pos (flip_sum (uberB_byte u) hlen hi hz hne)]
theorem flipP {p : P9} {i : Nat} (hi : i < 64) {z : Int} (hz : 0 ≤ z ∧ z < 256) (hne : z ≠ zA (ptrB p) i) (h : (decP ((ptrB p).set i z)).2 = 0) : (decP ((ptrB p).set i z)).1 ≠ p := fun he => by
  have h1 := (ptrB_decP (set_byte (ptrB_byte p) hz i) h).2.2
  rw [he] at h1
  exact set_ne (by rw [ptrB_length]; omega) hne h1.symm
end Go.Proofs.YtdnnbinmippkdaaDoor
