/- Sets of numbers as ranges: what is told of a list that grew or lost, and awake. -/
import Derived.Test.YtkbppkimpefilaaRgH
import Derived.Test.YtkbppkimpefilaaRgI
import Derived.Test.YtkbppkimpefilaaRgJ
import Derived.Test.YtkbppkimpefilaaRgK
namespace Go.Proofs.Ytkbppkimpefilaa
open Go.RowKit Go.Lib
set_option maxRecDepth 100000

theorem leftN_of {l : List Sp} {x : Sp} {k : Nat} (hb : Behind l x.a k) (hN : Norm 0 l) (h1 : Mem9 l (x.a - 1)) (h2 : ¬ Mem9 l x.a) : leftN l x k = 1 := by
  obtain ⟨y, hy, h3, h4⟩ := h1
  have hye : y.e = x.a := by
    refine Int.le_antisymm (Int.not_lt.1 (fun hlt => h2 ⟨y, hy, by omega, hlt⟩)) (by omega)
  obtain ⟨j, hj⟩ := List.mem_iff_getElem?.1 hy
  have hjk : j < k := Nat.lt_of_not_le (fun h => by have := hb.2.2 j y h hj; omega)
  refine leftN_one.2 ⟨j, y, ?_, hj, hye⟩
  rcases Nat.lt_or_ge (j + 1) k with h | h
  · obtain ⟨z, hz⟩ : ∃ z, l[j + 1]? = some z := ⟨_, List.getElem?_eq_getElem (by have := hb.1; omega)⟩
    have a := hN.lt (Nat.lt_succ_self j) hj hz
    have b := hb.2.1 (j + 1) z h hz
    have c := (hN.at hz).2.1
    have hze : z.e = z.a + z.m := rfl
    omega
  · omega
theorem leftN_not {l : List Sp} {x : Sp} {k : Nat} (hN : Norm 0 l) (h1 : ¬ Mem9 l (x.a - 1)) : leftN l x k = 0 := by
  refine (leftN_zero (fun h => ?_)).1
  obtain ⟨j, y, _, hy, he⟩ := leftN_one.1 h
  have := (hN.at hy).2.1
  exact h1 ⟨y, List.mem_of_getElem? hy, by unfold Sp.e at he; omega, by omega⟩
theorem rightN_of {l : List Sp} {x : Sp} {k : Nat} (hb : Behind l x.a k) (hN : Norm 0 l) (hx : May9 x) (h1 : Mem9 l x.e) (h2 : ∀ n, x.a ≤ n → n < x.e → ¬ Mem9 l n) : rightN l x k = 1 := by
  obtain ⟨y, hy, h3, h4⟩ := h1
  unfold May9 at hx
  have hxe : x.e = x.a + x.m := rfl
  have hye : y.a = x.e := by
    refine Int.le_antisymm h3 (Int.not_lt.1 (fun hlt => ?_))
    exact h2 (max x.a y.a) (by omega) (by omega) ⟨y, hy, by omega, by omega⟩
  obtain ⟨j, hj⟩ := List.mem_iff_getElem?.1 hy
  have hjk : k ≤ j := Nat.le_of_not_lt (fun h => by have := hb.2.1 j y h hj; omega)
  refine rightN_one.2 ⟨y, ?_, hye⟩
  rcases Nat.lt_or_ge k j with h | h
  · obtain ⟨z, hz⟩ : ∃ z, l[k]? = some z := ⟨_, List.getElem?_eq_getElem (by have := (List.getElem?_eq_some_iff.1 hj).1; omega)⟩
    have a := hN.lt h hz hj
    have b := hb.2.2 k z (Nat.le_refl _) hz
    have c := (hN.at hz).2.1
    exact absurd ⟨z, List.mem_of_getElem? hz, by unfold Sp.e at a b ⊢; omega, by omega⟩ (h2 (max x.a (z.e - 1)) (by omega) (by omega))
  · obtain rfl : k = j := by omega
    exact hj
theorem rightN_not {l : List Sp} {x : Sp} {k : Nat} (hN : Norm 0 l) (h1 : ¬ Mem9 l x.e) : rightN l x k = 0 := by
  refine (rightN_zero (z := x) (fun h => ?_)).1
  obtain ⟨y, hy, he⟩ := rightN_one.1 h
  have := (hN.at hy).2.1
  exact h1 ⟨y, List.mem_of_getElem? hy, by omega, by unfold Sp.e at he ⊢; omega⟩
theorem sumM_cons (y : Sp) (l : List Sp) : sumM (y :: l) = y.m + sumM l := rfl
theorem addL_sum {l : List Sp} {x : Sp} {k : Nat} (hb : Behind l x.a k) : sumM (addL l x k) = sumM l + x.m := by
  obtain ⟨A, B, rfl, hk, _, _⟩ := split9 hb
  obtain ⟨A', x', x'', B', he, h1, h2⟩ := addL_split (B := B) (x := x) hk
  have k1 : sumM A' + x'.m = sumM A + x.m := by
    rcases h1 with ⟨rfl, rfl, _⟩ | ⟨y, rfl, _, rfl⟩
    · rfl
    · rw [sumM_app]; simp only [sumM]; omega
  have k2 : x''.m + sumM B' = x'.m + sumM B := by
    rcases h2 with ⟨rfl, rfl, _⟩ | ⟨z, rfl, _, rfl⟩
    · rfl
    · simp only [sumM]; omega
  rw [he, sumM_app, sumM_app, sumM_app]
  simp only [sumM]
  omega
/-- What Add tells, where it is known what is beside the span. -/
theorem AddP.tell {l l' : List Sp} {x : Sp} {E : Int} (h : AddP l x E l') (hN : Norm 0 l) (hx : May9 x) (hd : ∀ n, x.a ≤ n → n < x.e → ¬ Mem9 l n) (a b : Nat) (ha : (a = 1 ∧ Mem9 l (x.a - 1)) ∨ (a = 0 ∧ ¬ Mem9 l (x.a - 1))) (hb : (b = 1 ∧ Mem9 l x.e) ∨ (b = 0 ∧ ¬ Mem9 l x.e)) :
    (l.length + 1 ≤ 4096 + (a + b) ∧ E = 0 ∧ (∀ n, Mem9 l' n ↔ Mem9 l n ∨ (x.a ≤ n ∧ n < x.e)) ∧ l'.length + (a + b) = l.length + 1 ∧ sumM l' = sumM l + x.m) ∨ (4096 + (a + b) < l.length + 1 ∧ E = 2 ∧ l' = l) := by
  rcases h with ⟨h | h, _, _⟩ | ⟨_, _, l1, ⟨K, hK, rfl⟩, _, hm, h⟩
  · exact absurd hx h
  · obtain ⟨_, n, h1, h2, h3⟩ := h
    exact absurd h3 (hd n h1 h2)
  · have hxe : x.a < x.e := by unfold May9 at hx; unfold Sp.e; omega
    have e1 : leftN l x K = a := by
      rcases ha with ⟨rfl, h⟩ | ⟨rfl, h⟩
      · exact leftN_of hK hN h (hd x.a (Int.le_refl _) hxe)
      · exact leftN_not hN h
    have e2 : rightN l x K = b := by
      rcases hb with ⟨rfl, h⟩ | ⟨rfl, h⟩
      · exact rightN_of hK hN hx h hd
      · exact rightN_not hN h
    have hl := (addL_len (l := l) (x := x) (k := K) hK.1).1
    rw [e1, e2] at hl
    rcases h with ⟨h1, rfl, rfl⟩ | ⟨h1, rfl, rfl⟩
    · exact Or.inl ⟨by omega, rfl, hm, hl, addL_sum hK⟩
    · exact Or.inr ⟨by omega, rfl, rfl⟩
/-- The list itself, where it is known. -/
theorem AddP.same {l l' k : List Sp} {x : Sp} {E : Int} (h : AddP l x E l') (hx : May9 x) (hd : ∀ n, x.a ≤ n → n < x.e → ¬ Mem9 l n) (hk : Norm 0 k) (he : ∀ n, Mem9 k n ↔ Mem9 l n ∨ (x.a ≤ n ∧ n < x.e)) (hl : k.length ≤ 4096) : E = 0 ∧ l' = k := by
  rcases h with ⟨h | h, _, _⟩ | ⟨_, _, l1, _, hn, hm, h⟩
  · exact absurd hx h
  · obtain ⟨_, n, h1, h2, h3⟩ := h
    exact absurd h3 (hd n h1 h2)
  · have e : l1 = k := norm_same hn hk (fun n => (hm n).trans (he n).symm)
    subst e
    rcases h with ⟨_, rfl, rfl⟩ | ⟨h1, _, _⟩
    · exact ⟨rfl, rfl⟩
    · omega
theorem RemP.same {l l' k : List Sp} {x : Sp} {E : Int} (h : RemP l x E l') (hx : HasP l x) (hk : Norm 0 k) (he : ∀ n, Mem9 k n ↔ Mem9 l n ∧ ¬ (x.a ≤ n ∧ n < x.e)) (hl : k.length ≤ 4096) : E = 0 ∧ l' = k := by
  rcases h with ⟨h, _, _⟩ | ⟨_, l1, _, hn, hm, h⟩
  · exact absurd hx h
  · have e : l1 = k := norm_same hn hk (fun n => (hm n).trans (he n).symm)
    subst e
    rcases h with ⟨_, rfl, rfl⟩ | ⟨h1, _, _⟩
    · exact ⟨rfl, rfl⟩
    · omega
theorem RemP.long {l l' : List Sp} {x : Sp} {E : Int} (h : RemP l x E l') (hN : Norm 0 l) (hx : HasP l x) (h1 : Mem9 l (x.a - 1)) (h2 : Mem9 l x.e) (hl : l.length = 4096) : E = 2 ∧ l' = l := by
  rcases h with ⟨h, _, _⟩ | ⟨_, l1, ⟨K, hK, rfl⟩, hn, hm, h⟩
  · exact absurd hx h
  · obtain ⟨y, hy, h3, h4⟩ := (has9_iff hN hx.1 hK).2 hx.2
    have hKl : K < l.length := (List.getElem?_eq_some_iff.1 hy).1
    have hxm := hx.1
    unfold May9 at hxm
    have hxe : x.e = x.a + x.m := rfl
    have uniq : ∀ z n, z ∈ l → z.a ≤ n → n < z.e → (y.a ≤ n + 1 ∧ n < y.e + 1) → z = y := fun z n hz a1 a2 a3 => by
      obtain ⟨j, hj⟩ := List.mem_iff_getElem?.1 hz
      rcases Nat.lt_trichotomy j K with h | h | h
      · have := hN.lt h hj hy; omega
      · subst h; rw [hj] at hy; exact Option.some.inj hy
      · have := hN.lt h hy hj; omega
    have c1 : y.a < x.a := by
      obtain ⟨z, hz, a1, a2⟩ := h1
      have := uniq z (x.a - 1) hz a1 a2 ⟨by omega, by omega⟩
      subst this; omega
    have c2 : x.e < y.e := by
      obtain ⟨z, hz, a1, a2⟩ := h2
      have := uniq z x.e hz a1 a2 ⟨by omega, by omega⟩
      subst this; omega
    have hlen : (remL l x K).length = l.length + 1 := by
      unfold remL
      rw [hy]
      simp only
      rw [if_pos c1, if_pos c2, List.length_append, List.length_append, List.length_take, List.length_drop]
      simp
      omega
    rcases h with ⟨h5, _, _⟩ | ⟨h5, rfl, rfl⟩
    · omega
    · exact ⟨rfl, rfl⟩
theorem mem9_one {y : Sp} {n : Int} : Mem9 [y] n ↔ y.a ≤ n ∧ n < y.e := by
  rw [mem9_cons]
  exact ⟨fun h => h.elim id (fun h => (mem9_nil h).elim), Or.inl⟩
theorem mem9_two {y z : Sp} {n : Int} : Mem9 [y, z] n ↔ (y.a ≤ n ∧ n < y.e) ∨ (z.a ≤ n ∧ n < z.e) := by
  rw [mem9_cons, mem9_one]
/-- A set that was made since a world. -/
def Mine (w0 w : World) (sb : Nat) (p : Option Addr) : Prop := Frm [] w0 w ∧ w0.heap.size ≤ sb ∧ ∀ k ∈ blk p, w0.heap.size ≤ k
theorem Mine.step {w0 w w' : World} {sb : Nat} {p p' : Option Addr} (h : Mine w0 w sb p) (hf : Frm (sb :: blk p) w w') (hb : ∀ k ∈ blk p', k ∈ blk p ∨ w.heap.size ≤ k) : Mine w0 w' sb p' :=
  ⟨h.1.trans hf (fun k hk hkl => by
    rcases List.mem_cons.1 hk with rfl | h1
    · have := h.2.1; omega
    · have := h.2.2 k h1; omega), h.2.1, fun k hk => (hb k hk).elim (h.2.2 k) (fun h1 => by have := h.1.size; omega)⟩
theorem Mine.k0 {w0 w w' : World} {sb : Nat} {p : Option Addr} (h : Mine w0 w sb p) (hf : Frm [] w w') : Mine w0 w' sb p := ⟨h.1.trans hf (by simp), h.2⟩
end Go.Proofs.Ytkbppkimpefilaa
