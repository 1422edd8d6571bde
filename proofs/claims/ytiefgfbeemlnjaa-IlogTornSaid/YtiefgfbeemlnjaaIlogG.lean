/- One Append of both logs: the same answer, whatever the record. -/
import Derived.Test.YtiefgfbeemlnjaaIlogF
namespace Go.Proofs.Ytiefgfbeemlnjaa
open Go.RowKit
set_option maxRecDepth 100000

/-- What an Append leaves. -/
def PostA (I : World → Nat → Int → Int → Int → Prop) (bn b : Nat) (r e : Int) (B : List Int) (a' n' : Nat) (w : World) (x : Ending) (w' : World) : Prop :=
  ∃ p' n2 c', x = .returned (.tuple #[.int .i64 r, .slice p' n2 c', .int .i64 e]) ∧ n2 = B.length ∧ Own w' 5 (.slice p' n2 c') B ∧ I w' b bn a' n' ∧ Frm [b] w w' ∧ ∀ k ∈ blk p', w.heap.size ≤ k
theorem both_any (bn at_ next : Nat) (zs : List Int) (n : Nat) (hnz : zs.length = n) (hat : at_ ≤ 22528) (hnx : next ≤ at_ + 1) (hb1 : bn < 9223372036854775808) :
    ∃ (r e : Int) (B : List Int) (a' n' : Nat), a' ≤ 22528 ∧ n' ≤ a' + 1 ∧ B.length ≤ 5368 ∧
      (∀ (b : Nat) (p : Option Addr) (c : Nat) (w : World), n ≤ c → IsLog w b bn at_ next → Rd w p zs → Calls Try.prog 22 #[.pointer (some ⟨b, 0, none⟩), .slice p n c] w (PostA IsLog bn b r e B a' n' w)) ∧
      (∀ (b : Nat) (p : Option Addr) (c : Nat) (w : World), IsRef w b bn at_ next → Rd w p zs → Calls Try.prog 23 #[.pointer (some ⟨b, 0, none⟩), .slice p n c] w (PostA IsRef bn b r e B a' n' w)) := by
  by_cases h1 : 4096 < n
  · refine ⟨0, 2, [], at_, next, hat, hnx, by simp, fun b p c w hc hL hr => ?_, fun b p c w hL hr => ?_⟩
    · refine (append_long b p n c h1 w).mono ?_
      rintro e w' ⟨rfl, hf⟩
      exact ⟨none, 0, 0, rfl, rfl, Own.nil _ _, hL.kept hf (by simp), hf.mono (by simp), by simp [blk]⟩
    · refine (refAppend_long b p n c h1 w).mono ?_
      rintro e w' ⟨rfl, hf⟩
      exact ⟨none, 0, 0, rfl, rfl, Own.nil _ _, hL.kept hf (by simp), hf.mono (by simp), by simp [blk]⟩
  by_cases h2 : roomB at_ n = true
  · have hp := pcs_pos n
    have hp2 := pcs_le n (by omega)
    have hroom : at_ + pcs n * 88 ≤ 22528 := by
      simp only [roomB, Bool.and_eq_true, decide_eq_true_eq, Int.toNat_natCast] at h2
      exact h2.2
    have hlen : (recB bn next zs).length = pcs n * 88 := by rw [recB_length, hnz]
    refine ⟨at_, 0, recB bn next zs, at_ + pcs n * 88, next + 1, hroom, by omega, by rw [hlen]; omega, fun b p c w hc hL hr => ?_, fun b p c w hL hr => ?_⟩
    · refine (append_ok b bn at_ next p zs n c hnz hat hb1 (by omega) (by omega) h2 w hL hr hc).mono ?_
      rintro e w' ⟨p', n2, c', rfl, hn2, ho, hl, hf, hk⟩
      exact ⟨p', n2, c', rfl, by rw [hlen]; exact hn2, ho, hl, hf, hk⟩
    · refine (refAppend_ok b bn at_ next p zs n c hnz hat hb1 (by omega) (by omega) h2 w hL hr).mono ?_
      rintro e w' ⟨p', n2, c', rfl, hn2, ho, hl, hf, hk⟩
      exact ⟨p', n2, c', rfl, by rw [hlen]; exact hn2, ho, hl, hf, hk⟩
  · have h3 : roomB at_ n = false := by simpa using h2
    refine ⟨0, 161, [], at_, next, hat, hnx, by simp, fun b p c w hc hL hr => ?_, fun b p c w hL hr => ?_⟩
    · refine (append_full b bn at_ next p n c hat (by omega) h3 w hL).mono ?_
      rintro e w' ⟨rfl, hf⟩
      exact ⟨none, 0, 0, rfl, rfl, Own.nil _ _, hL.kept hf (by simp), hf.mono (by simp), by simp [blk]⟩
    · refine (refAppend_full b bn at_ next p n c hat (by omega) h3 w hL).mono ?_
      rintro e w' ⟨rfl, hf⟩
      exact ⟨none, 0, 0, rfl, rfl, Own.nil _ _, hL.kept hf (by simp), hf.mono (by simp), by simp [blk]⟩
/-- The head of a block that has one byte more. -/
theorem own_head {w : World} {E : TypeId} {g n : Nat} {zs : List Int} {y : Int} (hg : w.heap[g]? = some (.cells (bv (zs ++ [y])).toArray E (0, 0))) (hn : zs.length = n) (hm : n + 1 ≤ maxLen) : Own w E (.slice (some ⟨g, 0, none⟩) n (n + 1)) zs := by
  subst hn
  exact ⟨by simp [bv], Or.inr ⟨g, zs.length + 1, _, rfl, Nat.zero_le _, hg, by omega, hm, by simp [bv], by simp [bv]⟩⟩
end Go.Proofs.Ytiefgfbeemlnjaa
