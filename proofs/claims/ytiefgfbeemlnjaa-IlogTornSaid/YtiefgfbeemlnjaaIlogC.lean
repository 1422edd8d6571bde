/- Contracts of the document's log: New, Pieces, number, Room. -/
import Derived.Test.YtiefgfbeemlnjaaIlogB
namespace Go.Proofs.Ytiefgfbeemlnjaa
open Go.RowKit
set_option maxRecDepth 100000

/-- The document's log at block b. -/
def IsRef (w : World) (b : Nat) (base at_ next : Int) : Prop := w.heap[b]? = some (.cells #[.int .i64 base, .int .i64 at_, .int .i64 next] 124 (0, 0))
theorem IsRef.kept {w w' : World} {b : Nat} {base at_ next : Int} {S : List Nat} (h : IsRef w b base at_ next) (hf : Frm S w w') (hb : b ∉ S) : IsRef w' b base at_ next := hf.heap h hb
theorem IsRef.cells {w : World} {b : Nat} {base at_ next : Int} (h : IsRef w b base at_ next) : b < w.heap.size ∧ w.cell? ⟨b, 0, none⟩ = some (.int .i64 base) ∧ w.cell? ⟨b, 1, none⟩ = some (.int .i64 at_) ∧ w.cell? ⟨b, 2, none⟩ = some (.int .i64 next) ∧ w.frozen? ⟨b, 1, none⟩ = false ∧ w.frozen? ⟨b, 2, none⟩ = false :=
  ⟨lt_of_heap h, by rw [cell_of_row w _ _ _ _ _ h]; rfl, by rw [cell_of_row w _ _ _ _ _ h]; rfl, by rw [cell_of_row w _ _ _ _ _ h]; rfl, frozen_of_row w b 1 _ _ h, frozen_of_row w b 2 _ _ h⟩
set_option maxHeartbeats 400000 in
theorem refNew_bad (n : Int) (h : n < 0 ∨ 281474976710656 < n) (w : World) :
    Calls Try.prog 76 #[.int .i64 n] w fun e w' => e = .returned (.tuple #[.pointer none, .int .i64 1]) ∧ w = w' := by
  by_cases h1 : n < 0
  · clear h
    go_enter Try.func76, Try.ntmps76
    go_wp2_with fail
    go_returns
    exact ⟨rfl, rfl⟩
  · have h2 : 281474976710656 < n := by omega
    clear h
    go_enter Try.func76, Try.ntmps76
    go_wp2_with fail
    go_returns
    exact ⟨rfl, rfl⟩
set_option maxHeartbeats 400000 in
theorem refNew_ok (n : Int) (h1 : 0 ≤ n) (h2 : n ≤ 281474976710656) (w : World) :
    Calls Try.prog 76 #[.int .i64 n] w fun e w' => ∃ b, e = .returned (.tuple #[.pointer (some ⟨b, 0, none⟩), .int .i64 0]) ∧ IsRef w' b n 0 1 ∧ Frm [] w w' ∧ w.heap.size ≤ b := by
  go_enter Try.func76, Try.ntmps76
  go_wp2_with fail
  go_returns
  exact ⟨w.heap.size, rfl, heap_alloc_new _ _, (Frm.refl _ _).alloc _, Nat.le_refl _⟩
set_option maxHeartbeats 800000 in
theorem refPieces_any (n : Nat) (hn : n ≤ 4096) (w : World) :
    Calls Try.prog 118 #[.int .i64 n] w fun e w' => e = .returned (.int .i64 (pcs n)) ∧ w = w' := by
  have hp := pcs_le n hn
  have hp1 := pcs_pos n
  go_enter Try.func118, Try.ntmps118
  go_wp2_with fail
  go_loopw [3] (fun i wr => ∃ t : Nat, 1 ≤ t ∧ t ≤ pcs n ∧ i = .int .i64 t ∧ wr = w) (fun i _ => pcs n - (intOf i).toNat)
  case atStart => exact ⟨1, Nat.le_refl _, hp1, rfl, rfl⟩
  case round =>
    obtain ⟨t, ht1, ht, rfl, rfl⟩ := hrel
    by_cases hlt : t < pcs n
    · have h1 : (68 : Int) * t < n := by unfold pcs at hlt; omega
      go_wp2_with fail
      go_roundw
      case rel => exact ⟨t + 1, by omega, by omega, by go_num, trivial⟩
      case measure => simp [intOf]; omega
    · have h1 : ¬ (68 : Int) * t < n := by unfold pcs at hlt; omega
      have h2 : t = pcs n := by omega
      clear hlt ht
      go_wp2_with fail
      go_returns
      exact ⟨intE (by omega), rfl⟩
set_option maxHeartbeats 800000 in
theorem refRoom_any (b : Nat) (base : Int) (at_ : Nat) (next many : Int) (w : World) (hat : at_ ≤ 22528) (hL : IsRef w b base at_ next) :
    Calls Try.prog 81 #[.pointer (some ⟨b, 0, none⟩), .int .i64 many] w fun e w' => e = .returned (.bool (roomB at_ many)) ∧ Frm [] w w' := by
  obtain ⟨lb, c0, c1, c2, _⟩ := hL.cells
  clear hL
  by_cases h0 : many < 0
  · have hr : roomB at_ many = false := by simp [roomB]; omega
    rw [hr]
    clear hr
    go_enter Try.func81, Try.ntmps81
    go_wp2_with fail
    go_returns
    exact ⟨rfl, Frm.refl _ _⟩
  by_cases h1 : 4096 < many
  · have hr : roomB at_ many = false := by simp [roomB]; omega
    rw [hr]
    clear hr
    go_enter Try.func81, Try.ntmps81
    go_wp2_with fail
    go_returns
    exact ⟨rfl, Frm.refl _ _⟩
  obtain ⟨n, rfl⟩ : ∃ n : Nat, many = n := ⟨many.toNat, by omega⟩
  have hn : n ≤ 4096 := by omega
  obtain ⟨m, hm⟩ : ∃ m, pcs n = m := ⟨_, rfl⟩
  have hm1 := pcs_le n hn
  have hpq : ∀ W : World, Calls Try.prog 118 #[.int .i64 n] W fun e w' => e = .returned (.int .i64 (m : Int)) ∧ w' = W := by
    intro W
    rw [← hm]
    exact (refPieces_any n hn W).mono fun e w' h => ⟨h.1, h.2.symm⟩
  have HPQ := hid hpq
  have hr : roomB at_ n = decide ((at_ : Int) + 88 * (m : Int) ≤ 22528) := by
    rw [← hm]
    simp only [roomB, Int.toNat_natCast]
    rw [decide_eq_true (by omega : (0 : Int) ≤ n), decide_eq_true (by omega : (n : Int) ≤ 4096)]
    simp only [Bool.true_and]
    rw [decide_eq_decide]
    omega
  rw [hr]
  rw [hm] at hm1
  clear hpq hm hr h0
  go_enter Try.func81, Try.ntmps81
  go_wp2_with fail
  go_quiet ((go_at_call 118; exact Calls.quiet_of_same (HPQ.out _)))
  go_wp2_with fail
  go_returns
  exact ⟨boolE (by rw [decide_eq_decide]), (Frm.refl _ _).drewN _⟩
set_option maxHeartbeats 400000 in
theorem refNum_any (n : Nat) (k : Nat) (hn2 : n < 9223372036854775808) (hk : k ≤ 8) (w : World) :
    Calls Try.prog 119 #[.int .i64 n, .int .i64 k] w fun e w' => ∃ p c, e = .returned (.slice p k c) ∧ Own w' 5 (.slice p k c) (le n k) ∧ Frm [] w w' ∧ ∀ i ∈ blk p, w.heap.size ≤ i := by
  have hn : (0 : Int) ≤ (n : Int) := by omega
  have hn3 : (n : Int) < 9223372036854775808 := by omega
  obtain ⟨N, hN⟩ : ∃ N : Int, (n : Int) = N := ⟨_, rfl⟩
  rw [hN] at hn hn3 ⊢
  clear hN hn2
  go_enter Try.func119, Try.ntmps119
  go_wp2_with fail
  go_loopw [0, 5, 6] (fun v b i wr => ∃ (j : Nat) (p : Option Addr) (c : Nat), j ≤ k ∧ i = .int .i64 j ∧ v = .int .i64 (N / 2 ^ (8 * j)) ∧ b = .slice p j c ∧ Hid (Own wr 5 (.slice p j c) (le N j)) ∧ Hid (Frm [] w wr) ∧ Hid (∀ i ∈ blk p, w.heap.size ≤ i)) (fun _ _ i _ => k - (intOf i).toNat)
  case atStart => exact ⟨0, none, 0, Nat.zero_le _, rfl, by simp, rfl, Own.nil _ _, Frm.refl _ _, by simp [Hid, blk]⟩
  case round =>
    obtain ⟨j, p, c, hj, rfl, rfl, rfl, ho, hf, hfr⟩ := hrel
    have hq : 0 ≤ N / 2 ^ (8 * j) ∧ N / 2 ^ (8 * j) < 9223372036854775808 := by
      refine ⟨Int.ediv_nonneg hn (Int.pow_nonneg (by decide)), ?_⟩
      exact Int.lt_of_le_of_lt (Int.ediv_le_self _ hn) hn3
    have hsucc : N / 2 ^ (8 * (j + 1)) = N / 2 ^ (8 * j) / 256 := by
      rw [Int.ediv_ediv_of_nonneg (Int.pow_nonneg (by decide)), Nat.mul_add, Int.pow_add]; rfl
    have HS := hid hsucc
    have hle := le_succ N j
    have HLE := hid hle
    have HL := hid (le_length N j)
    clear hsucc hle
    obtain ⟨q, hqq⟩ : ∃ q, N / 2 ^ (8 * j) = q := ⟨_, rfl⟩
    rw [hqq] at hq HS HLE ⊢
    have HQ := hid hqq
    clear hqq
    obtain ⟨hq0, hq1⟩ := hq
    by_cases hlt : j < k
    · have hrd : Rd (wr.alloc (.cells #[.int .u8 (q % 256)] 5)) (some ⟨wr.heap.size, 0, none⟩) [q % 256] :=
        (own_of_block (E := 5) (zs := [q % 256]) (heap_alloc_new wr _) (by simp [maxLen])).rd
      have HRD := hid hrd
      have HO := hid (ho.out.kept ((Frm.refl [] wr).alloc (.cells #[.int .u8 (q % 256)] 5)) (by simp))
      have hmo : q.tmod 256 = q % 256 := Int.tmod_eq_emod_of_nonneg hq0
      have hdi : q.tdiv 256 = q / 256 := Int.tdiv_eq_ediv_of_nonneg hq0
      clear hrd
      go_wp2_with (at_builtin; refine wpList_appB rfl _ _ 22 rfl 5 Try.underlying22 infoB p _ c (le N j) rfl HL.out.symm (by rw [HL.out]; exact HO.out) (some ⟨wr.heap.size, 0, none⟩) 1 1 [q % 256] rfl rfl (by simp) HRD.out (by rw [HL.out]; simp; omega) ?_)
      intro xs p2 c2 w2 hxs ho2 hf2 hfr2
      have hxl : xs.length = j + 1 := by rw [hxs.out, ← HLE.out, le_length]
      rw [hxl]
      have HXL := hid hxl
      clear hxl
      go_wp2_with fail
      go_roundw
      case rel =>
        refine ⟨j + 1, p2, c2, by omega, by go_num, by rw [HS.out], rfl, ?_, ?_, ?_⟩
        · have := ho2.out
          rw [HXL.out] at this
          rw [HLE.out, ← hxs.out]
          exact this
        · exact (hf.out.alloc _).trans hf2.out (by intro i hi hlt; have := hfr.out i hi; omega)
        · intro i hi
          rcases hfr2.out i hi with h | h
          · exact hfr.out i h
          · have := hf.out.size; omega
      case measure => simp [intOf]; omega
    · obtain rfl : j = k := by omega
      go_wp2_with fail
      go_returns
      exact ⟨p, c, rfl, ho.out, hf.out, hfr.out⟩
end Go.Proofs.Ytiefgfbeemlnjaa
