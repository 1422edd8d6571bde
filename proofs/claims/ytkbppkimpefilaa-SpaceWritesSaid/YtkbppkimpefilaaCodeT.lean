/- Contracts of package code's reader's methods: Bytes, Text, Pad, Left, Done. -/
import Derived.Test.YtkbppkimpefilaaCodeN
namespace Go.Proofs.Ytkbppkimpefilaa
open Go.RowKit
set_option maxRecDepth 100000

/-- In a captured variable stands a row of bytes of its own, new since w. -/
def HoldsB (y : Nat) (zs : List Int) (m : Nat) (w1 : World) : Prop := ∃ p c, Holds y (.slice p zs.length c) w1 ∧ Own w1 5 (.slice p zs.length c) zs ∧ ∀ k ∈ blk p, m ≤ k
/-- Bytes' reading. -/
def bytesT (ls : List Int) (k : Int) : List Int × Nat × Int := if k < 0 then ([], 0, 1) else if ls.length < k then ([], 0, 10) else (ls.take k.toNat, k.toNat, 0)
theorem heap_alloc_at (w : World) (o : Obj) {k : Nat} (h : w.heap.size = k) : (w.alloc o).heap[k]? = some o := by subst h; exact heap_alloc_new _ _
theorem bytesT_len (ls : List Int) (k : Int) : (bytesT ls k).2.1 ≤ ls.length := by
  unfold bytesT
  split
  · simp
  · split
    · simp
    · simp; omega
theorem holdsB_nil {y m : Nat} {w : World} (h : Holds y (.slice none 0 0) w) : HoldsB y [] m w := ⟨none, 0, h, Own.nil _ _, by simp [blk]⟩
end Go.Proofs.Ytkbppkimpefilaa
