/- RangesOrder: plain facts, the comparison of two lists, where the law stands. -/
import Derived.Test.YtkbppkimpefilaaRgM
namespace Go.Proofs.Ytkbppkimpefilaa
open Go.RowKit Go.Lib
set_option maxRecDepth 100000

theorem AddP.zero {l l' : List Sp} {x : Sp} {E : Int} (h : AddP l x E l') : (E = 0 ∧ May9 x ∧ (∀ n, x.a ≤ n → n < x.e → ¬ Mem9 l n) ∧ (∀ n, Mem9 l' n ↔ Mem9 l n ∨ (x.a ≤ n ∧ n < x.e)) ∧ l'.length ≤ l.length + 1) ∨ (E ≠ 0 ∧ l' = l) := by
  rcases h with ⟨_, rfl, rfl⟩ | ⟨hx, hm, l1, ⟨K, hK, rfl⟩, _, h2, ⟨_, rfl, rfl⟩ | ⟨_, rfl, rfl⟩⟩
  · exact Or.inr ⟨by omega, rfl⟩
  · have := (addL_len (l := l) (x := x) (k := K) hK.1).1
    exact Or.inl ⟨rfl, hx, fun n a b h => hm ⟨hx, n, a, b, h⟩, h2, by omega⟩
  · exact Or.inr ⟨by omega, rfl⟩
theorem AddP.ok {l l' : List Sp} {x : Sp} {E : Int} (h : AddP l x E l') (hx : May9 x) (hd : ∀ n, x.a ≤ n → n < x.e → ¬ Mem9 l n) (hl : l.length + 1 ≤ 4096) : E = 0 ∧ (∀ n, Mem9 l' n ↔ Mem9 l n ∨ (x.a ≤ n ∧ n < x.e)) ∧ l'.length ≤ l.length + 1 := by
  rcases h with ⟨h | h, _, _⟩ | ⟨_, _, l1, ⟨K, hK, rfl⟩, _, h2, h3⟩
  · exact absurd hx h
  · obtain ⟨_, n, h1, h2, h3⟩ := h
    exact absurd h3 (hd n h1 h2)
  · have := (addL_len (l := l) (x := x) (k := K) hK.1).1
    rcases h3 with ⟨_, rfl, rfl⟩ | ⟨h3, _, _⟩
    · exact ⟨rfl, h2, by omega⟩
    · omega
/-- Spans none of which meets another one. -/
def Dj (ks : List Sp) : Prop := (∀ y ∈ ks, May9 y) ∧ ∀ (i j : Nat) (y z : Sp), i < j → ks[i]? = some y → ks[j]? = some z → ∀ n, ¬ ((y.a ≤ n ∧ n < y.e) ∧ z.a ≤ n ∧ n < z.e)
theorem Dj.more {ks : List Sp} {x : Sp} (h : Dj ks) (hx : May9 x) (hd : ∀ n, x.a ≤ n → n < x.e → ¬ Mem9 ks n) : Dj (ks ++ [x]) := by
  refine ⟨fun y hy => (List.mem_append.1 hy).elim (h.1 y) (fun h1 => by simp at h1; subst h1; exact hx), fun i j y z hij hi hj n hn => ?_⟩
  by_cases hjl : j < ks.length
  · rw [List.getElem?_append_left hjl] at hj
    rw [List.getElem?_append_left (by omega)] at hi
    exact h.2 i j y z hij hi hj n hn
  · have hj2 : j = ks.length := by have := (List.getElem?_eq_some_iff.1 hj).1; simp at this; omega
    subst hj2
    rw [List.getElem?_append_right (Nat.le_refl _), Nat.sub_self] at hj
    simp at hj
    subst hj
    rw [List.getElem?_append_left hij] at hi
    exact hd n hn.2.1 hn.2.2 ⟨y, List.mem_of_getElem? hi, hn.1⟩
theorem Dj.drop {ks : List Sp} {m : Nat} {y : Sp} (h : Dj ks) (hy : ks[m]? = some y) : (∀ n, y.a ≤ n → n < y.e → ¬ Mem9 (ks.drop (m + 1)) n) ∧ ∀ n, Mem9 (ks.drop m) n ↔ Mem9 (ks.drop (m + 1)) n ∨ (y.a ≤ n ∧ n < y.e) := by
  have e : ks.drop m = y :: ks.drop (m + 1) := by
    obtain ⟨hlt, rfl⟩ := List.getElem?_eq_some_iff.1 hy
    exact List.drop_eq_getElem_cons hlt
  refine ⟨fun n h1 h2 ⟨z, hz, h3⟩ => ?_, fun n => by rw [e, mem9_cons]; exact or_comm⟩
  obtain ⟨j, hj⟩ := List.mem_iff_getElem?.1 hz
  rw [List.getElem?_drop] at hj
  exact h.2 m (m + 1 + j) y z (by omega) hy hj n ⟨⟨h1, h2⟩, h3⟩
theorem mx9_ge (a b : Int) : a ≤ mx9 a b ∧ b ≤ mx9 a b ∧ (mx9 a b = a ∨ mx9 a b = b) := by unfold mx9; split <;> omega
theorem findL_some {many from_ : Int} : ∀ {l : List Sp} {a : Int}, findL many from_ l = some a → ∃ (i : Nat) (y : Sp), l[i]? = some y ∧ a = mx9 y.a from_ ∧ a ≤ y.e ∧ many ≤ y.e - a ∧ ∀ (j : Nat) (z : Sp), l[j]? = some z → mx9 z.a from_ ≤ z.e → many ≤ z.e - mx9 z.a from_ → i ≤ j
  | [], a, h => by simp [findL] at h
  | y :: l, a, h => by
    simp only [findL] at h
    split at h
    · rename_i hc
      cases h
      exact ⟨0, y, rfl, rfl, hc.1, hc.2, fun _ _ _ _ _ => Nat.zero_le _⟩
    · rename_i hc
      obtain ⟨i, z, h1, h2, h3, h4, h5⟩ := findL_some h
      refine ⟨i + 1, z, by simpa using h1, h2, h3, h4, fun j z' hj q1 q2 => ?_⟩
      cases j with
      | zero => simp at hj; subst hj; exact absurd ⟨q1, q2⟩ hc
      | succ j => have := h5 j z' (by simpa using hj) q1 q2; omega
theorem findL_none {many from_ : Int} : ∀ {l : List Sp}, findL many from_ l = none → ∀ z ∈ l, ¬ (mx9 z.a from_ ≤ z.e ∧ many ≤ z.e - mx9 z.a from_)
  | [], _, z, hz, _ => by simp at hz
  | y :: l, h, z, hz, hc => by
    simp only [findL] at h
    split at h
    · cases h
    · rename_i hn
      rcases List.mem_cons.1 hz with rfl | h1
      · exact hn hc
      · exact findL_none h z h1 hc
/-- What Find answers is there, and nothing lesser. -/
theorem findR_facts {l : List Sp} {many from_ a : Int} {b : Bool} (hN : Norm 0 l) (h : findR l many from_ = (a, b)) :
    (b = true → from_ ≤ a ∧ 0 ≤ a ∧ a ≤ 1099511627776 ∧ HasP l ⟨a, many⟩ ∧ (a = from_ ∨ ¬ HasP l ⟨a - 1, many⟩)) ∧
    ∀ y ∈ l, 1 ≤ many → 0 ≤ from_ → mx9 y.a from_ ≤ y.e → many ≤ y.e - mx9 y.a from_ → b = true ∧ a ≤ mx9 y.a from_ := by
  unfold findR at h
  by_cases hc : many < 1 ∨ from_ < 0
  · rw [if_pos hc] at h
    cases h
    exact ⟨fun h => (by cases h), fun y _ h1 h2 => by omega⟩
  · rw [if_neg hc] at h
    cases hf : findL many from_ l with
    | none =>
      rw [hf] at h
      simp only at h
      cases h
      exact ⟨fun h => (by cases h), fun y hy _ _ h3 h4 => absurd ⟨h3, h4⟩ (findL_none hf y hy)⟩
    | some a' =>
      rw [hf] at h
      simp only [Prod.mk.injEq] at h
      obtain ⟨rfl, rfl⟩ := h
      obtain ⟨i, y, h1, h2, h3, h4, h5⟩ := findL_some hf
      have hy := hN.at h1
      have hm := mx9_ge y.a from_
      have hye : y.e = y.a + y.m := rfl
      refine ⟨fun _ => ⟨by omega, by omega, by omega, ⟨by unfold May9; simp only; omega, fun n q1 q2 => ⟨y, List.mem_of_getElem? h1, by simp only at q1; omega, by simp only [Sp.e] at q2; omega⟩⟩, ?_⟩, fun z hz _ _ h6 h7 => ⟨rfl, ?_⟩⟩
      · rcases hm.2.2 with h6 | h6
        · refine Or.inr (fun hp => ?_)
          obtain ⟨z, hz, q1, q2⟩ := hp.2 (a' - 1) (by simp) (by simp only [Sp.e]; omega)
          obtain ⟨j, hj⟩ := List.mem_iff_getElem?.1 hz
          rcases Nat.lt_trichotomy j i with h7 | h7 | h7
          · have := hN.lt h7 hj h1; omega
          · subst h7; rw [h1] at hj; cases hj; omega
          · have := hN.lt h7 h1 hj; omega
        · exact Or.inl (by omega)
      · obtain ⟨j, hj⟩ := List.mem_iff_getElem?.1 hz
        have hij := h5 j z hj h6 h7
        have hmz := mx9_ge z.a from_
        rcases Nat.lt_or_ge i j with h8 | h8
        · have := hN.lt h8 h1 hj; omega
        · obtain rfl : i = j := by omega
          rw [h1] at hj; cases hj; omega
set_option maxHeartbeats 3200000 in
theorem same9_any (p q : Option Addr) (c c' : Nat) (l : List Sp) (n : Nat) (w : World) (h : OwnS w p n c l) (h2 : OwnS w q n c' l) (hl : n ≤ 1000000) :
    Calls Try.prog 21 #[.slice p n c, .slice q n c'] w fun e w' => e = .returned (.bool true) ∧ Frm [] w w' := by
  have H1 := hid h
  have H2 := hid h2
  clear h h2
  go_enter Try.func21, Try.ntmps21
  go_wp2_with fail
  go_loopw [5, 4] (fun i s4 wr => ∃ t : Nat, t ≤ n ∧ i = .int .i64 (t : Int) ∧ Hid (Frm [] w wr)) (fun i _ _ => n - (intOf i).toNat)
  case atStart => exact ⟨0, Nat.zero_le _, rfl, hid (Frm.refl _ _)⟩
  case round =>
    obtain ⟨t, ht, rfl, hin⟩ := hrel
    by_cases hlt : t < n
    · have t1 : (t : Int) < (n : Int) := by omega
      obtain ⟨y, hy⟩ : ∃ y, l[t]? = some y := ⟨_, List.getElem?_eq_getElem (by have := H1.out.2; omega)⟩
      obtain ⟨g, hg, y0, y1⟩ := (H1.out.kept hin.out (by simp)).at hy
      obtain ⟨g', hg', z0, z1⟩ := (H2.out.kept hin.out (by simp)).at hy
      subst hg hg'
      clear hy
      go_upto_region 6 with fail
      go_quiet (fail)
      go_wp2_with fail
      go_roundw
      case rel => exact ⟨t + 1, by omega, by go_num, hid (hin.out.drewN _)⟩
      case measure => simp [intOf]; omega
    · obtain rfl : n = t := by omega
      go_wp2_with fail
      first | go_returns | skip
      exact ⟨rfl, hin.out⟩
end Go.Proofs.Ytkbppkimpefilaa
