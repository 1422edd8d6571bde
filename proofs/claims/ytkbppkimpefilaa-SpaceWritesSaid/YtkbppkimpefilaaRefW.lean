/- Contracts of the document's writer (layer 1). -/
import Derived.Test.YtkbppkimpefilaaCodeM
namespace Go.Proofs.Ytkbppkimpefilaa
open Go.RowKit
set_option maxRecDepth 100000

set_option maxHeartbeats 400000 in
theorem form_any (n : Int) (k : Nat) (hn : 0 ≤ n) (hn2 : n < 18446744073709551616) (hk : k ≤ 8) (w : World) :
    Calls Try.prog 50 #[.int .u64 n, .int .i64 k] w fun e w' => ∃ p c ok, e = .returned (.tuple #[.slice p k c, .bool ok]) ∧ Own w' 5 (.slice p k c) (le n k) ∧ (ok = true ↔ n / 2 ^ (8 * k) = 0) ∧ Frm [] w w' ∧ ∀ i ∈ blk p, w.heap.size ≤ i := by
  go_enter Try.func50, Try.ntmps50
  go_wp2_with fail
  go_loopw [0, 6, 7] (fun v b i wr => ∃ (j : Nat) (p : Option Addr) (c : Nat), j ≤ k ∧ i = .int .i64 j ∧ v = .int .u64 (n / 2 ^ (8 * j)) ∧ b = .slice p j c ∧ Hid (Own wr 5 (.slice p j c) (le n j)) ∧ Hid (Frm [] w wr) ∧ Hid (∀ i ∈ blk p, w.heap.size ≤ i)) (fun _ _ i _ => k - (intOf i).toNat)
  case atStart => exact ⟨0, none, 0, Nat.zero_le _, rfl, by simp, rfl, Own.nil _ _, Frm.refl _ _, by simp [Hid, blk]⟩
  case round =>
    obtain ⟨j, p, c, hj, rfl, rfl, rfl, ho, hf, hfr⟩ := hrel
    have hq : 0 ≤ n / 2 ^ (8 * j) ∧ n / 2 ^ (8 * j) < 18446744073709551616 := by
      refine ⟨Int.ediv_nonneg hn (Int.pow_nonneg (by decide)), ?_⟩
      exact Int.lt_of_le_of_lt (Int.ediv_le_self _ hn) hn2
    have hsucc : n / 2 ^ (8 * (j + 1)) = n / 2 ^ (8 * j) / 256 := by
      rw [Int.ediv_ediv_of_nonneg (Int.pow_nonneg (by decide)), Nat.mul_add, Int.pow_add]; rfl
    have HS := hid hsucc
    have hle := le_succ n j
    have HLE := hid hle
    have HL := hid (le_length n j)
    clear hsucc hle
    obtain ⟨q, hqq⟩ : ∃ q, n / 2 ^ (8 * j) = q := ⟨_, rfl⟩
    rw [hqq] at hq HS HLE ⊢
    have HQ := hid hqq
    clear hqq
    obtain ⟨hq0, hq1⟩ := hq
    by_cases hlt : j < k
    · have hrd : Rd (wr.alloc (.cells #[.int .u8 (q % 256)] 5)) (some ⟨wr.heap.size, 0, none⟩) [q % 256] :=
        (own_of_block (E := 5) (zs := [q % 256]) (heap_alloc_new wr _) (by simp [maxLen])).rd
      have HRD := hid hrd
      have HO := hid (ho.out.kept ((Frm.refl [] wr).alloc (.cells #[.int .u8 (q % 256)] 5)) (by simp))
      clear hrd
      go_wp2_with (at_builtin; refine wpList_appB rfl _ _ 25 rfl 5 Try.underlying25 infoE p _ c (le n j) rfl HL.out.symm (by rw [HL.out]; exact HO.out) (some ⟨wr.heap.size, 0, none⟩) 1 1 [q % 256] rfl rfl (by simp) HRD.out (by rw [HL.out]; simp; omega) ?_)
      intro xs p2 c2 w2 hxs ho2 hf2 hfr2
      have hxl : xs.length = j + 1 := by rw [hxs.out, ← HLE.out, le_length]
      rw [hxl]
      have HXL := hid hxl
      clear hxl
      go_wp2_with fail
      go_roundw
      case rel =>
        refine ⟨j + 1, p2, c2, by omega, by go_num, by rw [HS.out], rfl, ?_, ?_, ?_⟩
        · have := ho2.out
          rw [HXL.out] at this
          rw [HLE.out, ← hxs.out]
          exact this
        · exact (hf.out.alloc _).trans hf2.out (by intro i hi hlt; have := hfr.out i hi; omega)
        · intro i hi
          rcases hfr2.out i hi with h | h
          · exact hfr.out i h
          · have := hf.out.size; omega
      case measure => simp [intOf]; omega
    · obtain rfl : j = k := by omega
      go_wp2_with fail
      go_returns
      exact ⟨p, c, _, rfl, ho.out, by rw [HQ.out]; simp, hf.out, hfr.out⟩

theorem World.cell_of_heap {w : World} {b : Nat} {cs : Array Value} {T : TypeId} (h : w.heap[b]? = some (.cells cs T (0, 0))) (i : Nat) : w.cell? ⟨b, i, none⟩ = cs[i]? := cell_of_row w b i cs T (0, 0) h
end Go.Proofs.Ytkbppkimpefilaa
