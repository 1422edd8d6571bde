/- Plain facts on torn regions: pieces of the last record are as they were before. -/
import Derived.Test.YtiefgfbeemlnjaaIlogY
namespace Go.Proofs.Ytiefgfbeemlnjaa
open Go.RowKit
set_option maxRecDepth 100000

theorem splice_get (zs ys : List Int) (P : Nat) (h : P + ys.length ≤ zs.length) (i : Nat) : (splice zs P ys)[i]? = if P ≤ i ∧ i < P + ys.length then ys[i - P]? else zs[i]? := by
  have hl : (zs.take P).length = P := by rw [List.length_take]; omega
  unfold splice
  by_cases h1 : i < P
  · rw [if_neg (by omega), List.append_assoc, List.getElem?_append_left (by omega), List.getElem?_take, if_pos h1]
  · by_cases h2 : i < P + ys.length
    · rw [if_pos ⟨by omega, h2⟩, List.append_assoc, List.getElem?_append_right (by omega), hl, List.getElem?_append_left (by omega)]
    · rw [if_neg (by omega), List.getElem?_append_right (by rw [List.length_append, hl]; omega), List.length_append, hl, List.getElem?_drop]
      congr 1
      omega
theorem splice_other (zs ys : List Int) (P Q m : Nat) (h : P + ys.length ≤ zs.length) (hd : Q + m ≤ P ∨ P + ys.length ≤ Q) : ((splice zs P ys).drop Q).take m = (zs.drop Q).take m := by
  apply List.ext_getElem?
  intro i
  rw [List.getElem?_take, List.getElem?_take]
  by_cases hi : i < m
  · rw [if_pos hi, if_pos hi, List.getElem?_drop, List.getElem?_drop, splice_get _ _ _ h, if_neg (by omega)]
  · rw [if_neg hi, if_neg hi]
theorem splice_same (zs ys : List Int) (P : Nat) (h : P + ys.length ≤ zs.length) : ((splice zs P ys).drop P).take ys.length = ys := by
  apply List.ext_getElem?
  intro i
  rw [List.getElem?_take]
  by_cases hi : i < ys.length
  · rw [if_pos hi, List.getElem?_drop, splice_get _ _ _ h, if_pos (by omega), Nat.add_sub_cancel_left]
  · rw [if_neg hi, List.getElem?_eq_none (by omega)]
/-- A region of which some pieces, from a place on, are another one's. -/
structure TornR (FR PC : Nat) (A B zs : List Int) : Prop where
  len : zs.length = 22528
  byte : ∀ z ∈ zs, 0 ≤ z ∧ z < 256
  head : zs.take FR = B.take FR
  each : ∀ k, k < PC → (zs.drop (FR + k * 88)).take 88 = (B.drop (FR + k * 88)).take 88 ∨ (zs.drop (FR + k * 88)).take 88 = (A.drop (FR + k * 88)).take 88
theorem TornR.step {FR PC : Nat} {A B zs : List Int} (h : TornR FR PC A B zs) (hA : A.length = 22528) (hAb : ∀ z ∈ A, 0 ≤ z ∧ z < 256) (pk : Nat) (hpk : pk < PC) (hfit : FR + PC * 88 ≤ 22528) :
    TornR FR PC A B (splice zs (FR + pk * 88) ((A.drop (FR + pk * 88)).take 88)) ∧ ((splice zs (FR + pk * 88) ((A.drop (FR + pk * 88)).take 88)).drop (FR + pk * 88)).take 88 = (A.drop (FR + pk * 88)).take 88 := by
  have hp : pk * 88 + 88 ≤ PC * 88 := by omega
  have hl : ((A.drop (FR + pk * 88)).take 88).length = 88 := by rw [List.length_take, List.length_drop]; omega
  have hf : FR + pk * 88 + ((A.drop (FR + pk * 88)).take 88).length ≤ zs.length := by rw [hl, h.len]; omega
  have hs := splice_same zs _ (FR + pk * 88) hf
  rw [hl] at hs
  refine ⟨⟨by rw [splice_length hf, h.len], fun z hz => ?_, ?_, fun k hk => ?_⟩, hs⟩
  · unfold splice at hz
    rcases List.mem_append.1 hz with h1 | h1
    · rcases List.mem_append.1 h1 with h2 | h2
      · exact h.byte z (List.mem_of_mem_take h2)
      · exact hAb z (List.mem_of_mem_drop (List.mem_of_mem_take h2))
    · exact h.byte z (List.mem_of_mem_drop h1)
  · have h1 := splice_other zs _ (FR + pk * 88) 0 FR hf (Or.inl (by omega))
    rw [List.drop_zero, List.drop_zero] at h1
    rw [h1, h.head]
  · by_cases hk2 : k = pk
    · subst hk2
      exact Or.inr hs
    · have h1 := splice_other zs _ (FR + pk * 88) (FR + k * 88) 88 hf (by rw [hl]; omega)
      rw [h1]
      exact h.each k hk
theorem regB_piece (an : Nat) (l1 init : List (List Int)) (r : List Int) (k : Nat) (hk : k < pcs r.length) : ((regB an l1 (init ++ [r])).drop ((recsB (an + 1) 1 init).length + k * 88)).take 88 = pieceB (an + 1) (1 + init.length) k (pcs r.length) r := by
  unfold regB
  rw [recsB_snoc, List.append_assoc, ← List.drop_drop, List.drop_left]
  exact pre_piece (List.prefix_append _ _) k hk
theorem torn_none (an : Nat) (han : an < 2000) (l1 init : List (List Int)) (r zs : List Int) (hr : r.length ≤ 4096) (hl1 : (recsB an 1 l1).length ≤ 22528) (hfit : (recsB (an + 1) 1 init).length + pcs r.length * 88 ≤ 22528) (hs : ∀ x ∈ init, x.length ≤ 4096)
    (h : TornR (recsB (an + 1) 1 init).length (pcs r.length) (regA an l1) (regB an l1 (init ++ [r])) zs)
    (hk : ∃ k, k < pcs r.length ∧ (zs.drop ((recsB (an + 1) 1 init).length + k * 88)).take 88 = ((regA an l1).drop ((recsB (an + 1) 1 init).length + k * 88)).take 88) : Told (an + 1) 1 zs init := by
  have hal := regA_length an l1 hl1
  have key : ∀ k, k < pcs r.length → (zs.drop ((recsB (an + 1) 1 init).length + k * 88)).take 88 = ((regA an l1).drop ((recsB (an + 1) 1 init).length + k * 88)).take 88 → ∃ v, (v = an ∨ v = 0) ∧ ((zs.drop (recsB (an + 1) 1 init).length).drop (k * 88)).take 8 = le (v : Nat) 8 := by
    intro k hk he
    obtain ⟨m, hm⟩ := recsB_mod (an + 1) 1 init
    obtain ⟨v, hv, h2⟩ := regA_heads an l1 (m + k) (by rw [hal]; omega)
    refine ⟨v, hv, ?_⟩
    rw [List.drop_drop]
    have e := congrArg (List.take 8) he
    rw [List.take_take, List.take_take] at e
    rw [show min 8 88 = 8 from rfl] at e
    rw [e, ← h2, hm]
    congr 2
    omega
  refine ⟨?_, hs, ?_⟩
  · have e1 : (regB an l1 (init ++ [r])).take (recsB (an + 1) 1 init).length = recsB (an + 1) 1 init := by
      unfold regB
      rw [recsB_snoc, List.append_assoc, List.take_left]
    rw [← e1, ← h.head]
    exact List.take_prefix _ _
  · refine noRec_torn (S := fun v => v = an ∨ v = 0) (fun v hv => by rcases hv with hv | hv <;> omega) (by omega) hr (fun k hk2 => ?_) ?_
    · rcases h.each k hk2 with he | he
      · rw [List.drop_drop, he, regB_piece an l1 init r k hk2]
        exact Or.inl rfl
      · exact Or.inr (key k hk2 he)
    · obtain ⟨k, hk2, he⟩ := hk
      exact ⟨k, hk2, key k hk2 he⟩
end Go.Proofs.Ytiefgfbeemlnjaa
