/- Both arms of the writing calls of a volume as one; facts on bytes in the midst of others. -/
import Derived.Test.YthifchkeapbfdaaVolS
namespace Go.Proofs.Ythifchkeapbfdaa
open Go.RowKit
set_option maxRecDepth 100000

/-- What a writing call makes of the bytes, and what it answers. -/
def wrB (bs : List Int) (i : Int) (zs : List Int) : List Int := if hasB bs.length i zs.length then splice bs i.toNat zs else bs
def errB (n : Nat) (i : Int) (k : Int) : Int := if hasB n i k then 0 else 186
theorem wrB_length (bs : List Int) (i : Int) (zs : List Int) : (wrB bs i zs).length = bs.length := by
  unfold wrB
  split
  · rename_i h
    obtain ⟨a, k, rfl, hk, hle⟩ := hasB_yes h
    exact splice_length (by simp; omega)
  · rfl
theorem volWrite_any (b g : Nat) (bs : List Int) (i : Int) (p : Option Addr) (zs : List Int) (l c : Nat) (hl : zs.length = l) (w : World) (hv : IsVol w b g bs) (hrd : Rd w p zs) (hg : zs ≠ [] → g ∉ blk p) (hl2 : l ≤ 9223372036854775807) :
    Calls Try.prog 14 #[.pointer (some ⟨b, 0, none⟩), .int .i64 i, .slice p l c] w fun e w' => e = .returned (.int .i64 (errB bs.length i l)) ∧ IsVol w' b g (wrB bs i zs) ∧ Frm [g] w w' := by
  subst hl
  by_cases h : hasB bs.length i zs.length = true
  · obtain ⟨a, k, rfl, hk, hle⟩ := hasB_yes h
    have h1 : errB bs.length (a : Int) zs.length = 0 := by unfold errB; rw [if_pos h]
    have h2 : wrB bs (a : Int) zs = splice bs a zs := by unfold wrB; rw [if_pos h]; simp
    rw [h1, h2]
    exact volWrite_ok b g bs a p zs c w hv hrd hg (by omega)
  · have h1 : errB bs.length i zs.length = 186 := by unfold errB; rw [if_neg h]
    have h2 : wrB bs i zs = bs := by unfold wrB; rw [if_neg h]
    rw [h1, h2]
    refine (volWrite_no b g bs i p zs.length c w hv hl2 (by simpa using h)).mono ?_
    rintro e w' ⟨he, rfl⟩
    exact ⟨he, hv, Frm.refl _ _⟩
theorem volDiscard_any (b g : Nat) (bs : List Int) (i many : Int) (w : World) (hv : IsVol w b g bs) :
    Calls Try.prog 16 #[.pointer (some ⟨b, 0, none⟩), .int .i64 i, .int .i64 many] w fun e w' => e = .returned (.int .i64 (errB bs.length i many)) ∧ (∃ cs, cs = (if hasB bs.length i many then splice bs i.toNat (List.replicate many.toNat 0) else bs) ∧ cs.length = bs.length ∧ IsVol w' b g cs) ∧ Frm [g] w w' := by
  by_cases h : hasB bs.length i many = true
  · obtain ⟨a, k, rfl, rfl, hle⟩ := hasB_yes h
    have h1 : errB bs.length (a : Int) (k : Int) = 0 := by unfold errB; rw [if_pos h]
    rw [h1, if_pos h]
    refine (volDiscard_ok b g bs a k w hv hle).mono ?_
    rintro e w' ⟨he, h2, h3⟩
    simp only [Int.toNat_natCast]
    exact ⟨he, ⟨_, rfl, splice_length (by simpa using hle), h2⟩, h3⟩
  · have h1 : errB bs.length i many = 186 := by unfold errB; rw [if_neg h]
    rw [h1, if_neg h]
    refine (volDiscard_no b g bs i many w hv (by simpa using h)).mono ?_
    rintro e w' ⟨he, rfl⟩
    exact ⟨he, ⟨_, rfl, rfl, hv⟩, Frm.refl _ _⟩
theorem splice_getElem {bs zs : List Int} {i j : Nat} (h : i + zs.length ≤ bs.length) : (splice bs i zs)[j]? = if i ≤ j ∧ j < i + zs.length then zs[j - i]? else bs[j]? := by
  unfold splice
  have hl : (bs.take i).length = i := by simp; omega
  by_cases h1 : j < i
  · rw [if_neg (by omega), List.append_assoc, List.getElem?_append_left (by omega), List.getElem?_take, if_pos h1]
  · by_cases h2 : j < i + zs.length
    · rw [if_pos ⟨by omega, h2⟩, List.append_assoc, List.getElem?_append_right (by omega), hl, List.getElem?_append_left (by omega)]
    · rw [if_neg (by omega), List.getElem?_append_right (by rw [List.length_append, hl]; omega), List.length_append, hl, List.getElem?_drop]
      congr 1
      omega
theorem splice_comm {bs za zb : List Int} {x y : Nat} (h1 : x + za.length ≤ bs.length) (h2 : y + zb.length ≤ bs.length) (h3 : y + zb.length ≤ x ∨ x + za.length ≤ y) : splice (splice bs x za) y zb = splice (splice bs y zb) x za := by
  apply List.ext_getElem?
  intro j
  rw [splice_getElem (by rw [splice_length h1]; exact h2), splice_getElem h1, splice_getElem (by rw [splice_length h2]; exact h1), splice_getElem h2]
  by_cases a1 : x ≤ j ∧ j < x + za.length
  · by_cases a2 : y ≤ j ∧ j < y + zb.length
    · omega
    · rw [if_neg a2, if_pos a1, if_pos a1]
  · rw [if_neg a1, if_neg a1]
theorem wrB_comm {bs za zb : List Int} {x y : Int} (h3 : y + zb.length ≤ x ∨ x + za.length ≤ y) : wrB (wrB bs x za) y zb = wrB (wrB bs y zb) x za := by
  have e1 : ∀ z i c, (wrB c i z).length = c.length := fun z i c => wrB_length c i z
  by_cases ha : hasB bs.length x za.length = true
  · by_cases hb : hasB bs.length y zb.length = true
    · obtain ⟨a, k, rfl, hk, hle⟩ := hasB_yes ha
      obtain ⟨b, k2, rfl, hk2, hle2⟩ := hasB_yes hb
      have f1 : wrB bs (a : Int) za = splice bs a za := by unfold wrB; rw [if_pos ha]; simp
      have f2 : wrB bs (b : Int) zb = splice bs b zb := by unfold wrB; rw [if_pos hb]; simp
      have g1 : (splice bs a za).length = bs.length := splice_length (by omega)
      have g2 : (splice bs b zb).length = bs.length := splice_length (by omega)
      rw [f1, f2]
      unfold wrB
      rw [g1, g2, if_pos ha, if_pos hb]
      simp only [Int.toNat_natCast]
      exact splice_comm (by omega) (by omega) (by omega)
    · have f2 : ∀ c : List Int, c.length = bs.length → wrB c y zb = c := by intro c hc; unfold wrB; rw [hc, if_neg hb]
      rw [f2 _ (e1 _ _ _), f2 bs rfl]
  · have f1 : ∀ c : List Int, c.length = bs.length → wrB c x za = c := by intro c hc; unfold wrB; rw [hc, if_neg ha]
    rw [f1 bs rfl, f1 _ (e1 _ _ _)]
theorem es_fit {w : World} {E : TypeId} {sz n : Nat} {p : Option Addr} {c : Nat} {xs : List Value} (h : w.ownsRow 0 E sz (.slice p n c) n xs) : n ≤ 9223372036854775807 := by
  rcases h.2 with ⟨_, h0⟩ | ⟨g, c, cur, he, _, _, hc, hm, _⟩
  · omega
  · unfold maxLen at hm; omega
end Go.Proofs.Ythifchkeapbfdaa
