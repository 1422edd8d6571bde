/- Plain facts: which base the pieces of a region tell; torn records. -/
import Derived.Test.YtiefgfbeemlnjaaIlogM
namespace Go.Proofs.Ytiefgfbeemlnjaa
open Go.RowKit
set_option maxRecDepth 100000

theorem headB_base (base next i all bytes : Nat) : (headB base next i all bytes).take 8 = le base 8 := by
  unfold headB
  rw [List.append_assoc, List.append_assoc, List.append_assoc, List.take_left' (le_length _ _)]
theorem pieceB_base (base next i all : Nat) (zs : List Int) : (pieceB base next i all zs).take 8 = le base 8 := by
  rw [pieceB_flat, List.take_append_of_le_length (by rw [headB_length]; omega), headB_base]
theorem le_inj8 {a b : Nat} (h : le a 8 = le b 8) (ha : a < 18446744073709551616) (hb : b < 18446744073709551616) : a = b := by
  simp only [le, List.range_succ, List.range_zero, List.nil_append, List.cons_append, List.map_cons, List.map_nil, Nat.mul_zero, Nat.mul_one] at h
  have p1 : (2 : Int) ^ (0 : Nat) = 1 := by decide
  have p2 : (2 : Int) ^ (8 : Nat) = 256 := by decide
  have p3 : (2 : Int) ^ (8 * 2 : Nat) = 65536 := by decide
  have p4 : (2 : Int) ^ (8 * 3 : Nat) = 16777216 := by decide
  have p5 : (2 : Int) ^ (8 * 4 : Nat) = 4294967296 := by decide
  have p6 : (2 : Int) ^ (8 * 5 : Nat) = 1099511627776 := by decide
  have p7 : (2 : Int) ^ (8 * 6 : Nat) = 281474976710656 := by decide
  have p8 : (2 : Int) ^ (8 * 7 : Nat) = 72057594037927936 := by decide
  rw [p1, p2, p3, p4, p5, p6, p7, p8] at h
  simp only [List.cons.injEq, and_true] at h
  omega
/-- A region's beginning tells another base: no record. -/
theorem noRec_head {base next v : Nat} {zs : List Int} (h : zs.take 8 = le v 8) (hv : v ≠ base) (h1 : v < 18446744073709551616) (h2 : base < 18446744073709551616) : NoRec base next zs := by
  intro body _ hp
  have h0 := pre_piece hp 0 (pcs_pos _)
  rw [Nat.zero_mul, List.drop_zero] at h0
  have h3 : zs.take 8 = le base 8 := by
    rw [← pieceB_base base next 0 (pcs body.length) body, ← h0, List.take_take]
    rfl
  exact hv (le_inj8 (h.symm.trans h3) h1 h2)
/-- All whole pieces of a region tell such bases. -/
def HeadsOf (S : Nat → Prop) (zs : List Int) : Prop := ∀ i, i * 88 + 88 ≤ zs.length → ∃ v, S v ∧ (zs.drop (i * 88)).take 8 = le v 8
theorem HeadsOf.mono {S T : Nat → Prop} {zs : List Int} (h : HeadsOf S zs) (hS : ∀ v, S v → T v) : HeadsOf T zs := fun i hi => by
  obtain ⟨v, h1, h2⟩ := h i hi
  exact ⟨v, hS v h1, h2⟩
theorem HeadsOf.drop {S : Nat → Prop} {zs : List Int} (h : HeadsOf S zs) (m : Nat) : HeadsOf S (zs.drop (m * 88)) := fun i hi => by
  rw [List.length_drop] at hi
  obtain ⟨v, h1, h2⟩ := h (m + i) (by omega)
  refine ⟨v, h1, ?_⟩
  rw [List.drop_drop, ← h2]
  congr 2
  omega
theorem HeadsOf.append {S : Nat → Prop} {xs ys : List Int} {m : Nat} (hl : xs.length = m * 88) (hx : HeadsOf S xs) (hy : HeadsOf S ys) : HeadsOf S (xs ++ ys) := fun i hi => by
  by_cases h : i < m
  · obtain ⟨v, h1, h2⟩ := hx i (by omega)
    refine ⟨v, h1, ?_⟩
    rw [List.drop_append_of_le_length (by omega), List.take_append_of_le_length (by rw [List.length_drop]; omega)]
    exact h2
  · rw [List.length_append] at hi
    obtain ⟨v, h1, h2⟩ := hy (i - m) (by omega)
    refine ⟨v, h1, ?_⟩
    rw [← h2, show i * 88 = xs.length + (i - m) * 88 by omega, ← List.drop_drop, List.drop_left]
theorem heads_recB (base next : Nat) (b : List Int) : HeadsOf (fun v => v = base) (recB base next b) := fun i hi => by
  rw [recB_length] at hi
  refine ⟨base, rfl, ?_⟩
  have h := recT_piece base next (pcs b.length) b i (pcs b.length) (by omega)
  rw [← pieceB_base base next i (pcs b.length) b, ← h, List.take_take]
  rfl
theorem recsB_mod (base next : Nat) (bs : List (List Int)) : ∃ m, (recsB base next bs).length = m * 88 := by
  induction bs generalizing next with
  | nil => exact ⟨0, rfl⟩
  | cons b bs ih =>
    obtain ⟨m, hm⟩ := ih (next + 1)
    exact ⟨pcs b.length + m, by simp only [recsB, List.length_append, recB_length, hm]; omega⟩
theorem heads_recsB (base next : Nat) (bs : List (List Int)) : HeadsOf (fun v => v = base) (recsB base next bs) := by
  induction bs generalizing next with
  | nil => intro i hi; simp [recsB] at hi
  | cons b bs ih => exact HeadsOf.append (recB_length _ _ _) (heads_recB base next b) (ih (next + 1))
theorem heads_zero (n : Nat) : HeadsOf (fun v => v = 0) (List.replicate n 0) := fun i hi => by
  refine ⟨0, rfl, ?_⟩
  rw [List.length_replicate] at hi
  rw [List.drop_replicate, List.take_replicate, Nat.min_eq_left (by omega)]
  decide
theorem noRec_heads {base next : Nat} {S : Nat → Prop} {zs : List Int} (h : HeadsOf S zs) (hS : ∀ v, S v → v ≠ base ∧ v < 18446744073709551616) (hb : base < 18446744073709551616) : NoRec base next zs := by
  by_cases hl : zs.length < 88
  · exact noRec_short hl
  · obtain ⟨v, h1, h2⟩ := h 0 (by omega)
    rw [Nat.zero_mul, List.drop_zero] at h2
    exact noRec_head h2 (hS v h1).1 (hS v h1).2 hb
/-- A record of which a piece tells another base is none. -/
theorem noRec_torn {base next : Nat} {zs r : List Int} {S : Nat → Prop} (hS : ∀ v, S v → v ≠ base ∧ v < 18446744073709551616) (hb : base < 18446744073709551616) (hr : r.length ≤ 4096)
    (hp : ∀ k, k < pcs r.length → (zs.drop (k * 88)).take 88 = pieceB base next k (pcs r.length) r ∨ ∃ v, S v ∧ (zs.drop (k * 88)).take 8 = le v 8)
    (hk : ∃ k, k < pcs r.length ∧ ∃ v, S v ∧ (zs.drop (k * 88)).take 8 = le v 8) : NoRec base next zs := by
  intro body hbl h
  have head : ∀ k, k < pcs body.length → ∀ v, S v → (zs.drop (k * 88)).take 8 = le v 8 → False := by
    intro k hkl v hv he
    have h0 := pre_piece h k hkl
    have h3 : (zs.drop (k * 88)).take 8 = le base 8 := by
      rw [← pieceB_base base next k (pcs body.length) body, ← h0, List.take_take]
      rfl
    exact (hS v hv).1 (le_inj8 (he.symm.trans h3) (hS v hv).2 hb)
  rcases hp 0 (pcs_pos _) with h0 | ⟨v, hv, he⟩
  · have h1 : (zs.drop 16).take 4 = le r.length 4 := by
      have e : (zs.drop 16).take 4 = ((zs.take 88).drop 16).take 4 := by
        rw [List.drop_take, List.take_take]
        rfl
      rw [Nat.zero_mul, List.drop_zero] at h0
      rw [e, h0, pieceB_flat, List.drop_append_of_le_length (by rw [headB_length]; omega), headB_many, List.take_left' (le_length _ _)]
    have h2 := rec_many h1 (by omega) hbl h
    obtain ⟨k, hkl, v, hv, he⟩ := hk
    exact head k (by rw [h2]; exact hkl) v hv he
  · exact head 0 (pcs_pos _) v hv he
end Go.Proofs.Ytiefgfbeemlnjaa
