/- Disks and their power: New, Read; a sector of one byte. -/
import Derived.Test.YtfclamndjnoopaaDskB
import Derived.Laws.MakeOwn
namespace Go.Proofs.Ytfclamndjnoopaa
open Go.RowKit Go.Lib
set_option maxRecDepth 100000

theorem make_bytes (k : Nat) (hk : k ≤ 140737488355328) (W : World) : (Instr.makeSlice 22 (.int .i64 (k : Int)) (.int .i64 (k : Int))).run Try.prog W = .ok (.slice (some ⟨W.heap.size, 0, none⟩) k k) (W.alloc (.cells (bv (List.replicate k 0)).toArray 5)) := by
  obtain ⟨i, hi, hz, h1, h2⟩ := info_parts (infoB)
  have h := run_make (P := Try.prog) W 22 5 i (.int .u8 0) Try.underlying22 hi hz .i64 .i64 (k : Int) (k : Int) (by omega) (Int.le_refl _) (by rw [h2]; omega) (by omega)
  rw [h, h1]
  have e : madeCells (Value.int .u8 0).cells ((k : Int).toNat * 1) = (bv (List.replicate k 0)).toArray := by
    apply Array.ext'
    rw [show (Value.int .u8 0).cells = #[Value.int .u8 0] from rfl, toList_madeCells_one]
    simp [bv]
  rw [e]
  simp
theorem rep_bd (k : Nat) : ∀ z ∈ List.replicate k (0 : Int), 0 ≤ z ∧ z < 256 := fun z hz => by
  obtain rfl := (List.mem_replicate.1 hz).2
  omega
theorem three_blocks (w : World) (o1 o2 o3 : Obj) : (((w.alloc o1).alloc o2).alloc o3).drew.heap[w.heap.size]? = some o1 ∧ (((w.alloc o1).alloc o2).alloc o3).drew.heap[w.heap.size + 1]? = some o2 ∧ (((w.alloc o1).alloc o2).alloc o3).drew.heap[w.heap.size + 1 + 1]? = some o3 ∧ Frm [] w (((w.alloc o1).alloc o2).alloc o3).drew := by
  have f1 : Frm [] w (w.alloc o1) := (Frm.refl _ _).alloc _
  have f2 : Frm [] (w.alloc o1) ((w.alloc o1).alloc o2) := (Frm.refl _ _).alloc _
  have f3 : Frm [] ((w.alloc o1).alloc o2) (((w.alloc o1).alloc o2).alloc o3) := (Frm.refl _ _).alloc _
  have h2 : ((w.alloc o1).alloc o2).heap[w.heap.size + 1]? = some o2 := heap_alloc_to _ _ (by simp)
  have h3 : (((w.alloc o1).alloc o2).alloc o3).heap[w.heap.size + 1 + 1]? = some o3 := heap_alloc_to _ _ (by simp)
  exact ⟨f3.heap (f2.heap (heap_alloc_new _ _) (by simp)) (by simp), f3.heap h2 (by simp), h3, ((f1.trans f2 (by simp)).trans f3 (by simp)).drew⟩
set_option maxHeartbeats 1600000 in
theorem new_any (pb n : Nat) (h1 : 1 ≤ n) (h2 : n ≤ 8192) (w : World) :
    Calls Try.prog 9 #[.pointer (some ⟨pb, 0, none⟩), .int .i64 (n : Int)] w fun e w' => ∃ D : DSt, e = .returned (.tuple #[.pointer (some ⟨D.db, 0, none⟩), .int .i64 0]) ∧ IsDisk w' pb D ∧ D.n = n ∧ D.failed = false ∧ D.plat = List.replicate (n * 128) 0 ∧ D.seen = List.replicate (n * 128) 0 ∧ w.heap.size ≤ D.db ∧ w.heap.size ≤ D.gp ∧ w.heap.size ≤ D.gs ∧ Frm [] w w' := by
  have hmk := make_bytes (n * 128) (by omega)
  rw [show ((n * 128 : Nat) : Int) = (n : Int) * 128 by omega] at hmk
  go_enter Try.func9, Try.ntmps9
  go_wp2_with fail
  go_region
  · go_wp2_with fail
    go_returns
    obtain ⟨b1, b2, b3, bf⟩ := three_blocks w (.cells (bv (List.replicate (n * 128) 0)).toArray 5) (.cells (bv (List.replicate (n * 128) 0)).toArray 5) (.cells #[.pointer (some ⟨pb, 0, none⟩), .int .i64 (n : Int), .bool false, .slice (some ⟨w.heap.size, 0, none⟩) (n * 128) (n * 128), .slice (some ⟨w.heap.size + 1, 0, none⟩) (n * 128) (n * 128)] 61)
    exact ⟨⟨w.heap.size + 1 + 1, w.heap.size, w.heap.size + 1, n, false, List.replicate (n * 128) 0, List.replicate (n * 128) 0⟩, rfl, ⟨b3, b1, b2, by simp, by simp, rep_bd _, rep_bd _, h1, h2, by simp, by simp; omega, by simp⟩, rfl, rfl, rfl, rfl, by simp; omega, by simp, by simp, bf⟩
  · go_wp2_with fail
    go_returns
    obtain ⟨b1, b2, b3, bf⟩ := three_blocks w (.cells (bv (List.replicate (n * 128) 0)).toArray 5) (.cells (bv (List.replicate (n * 128) 0)).toArray 5) (.cells #[.pointer (some ⟨pb, 0, none⟩), .int .i64 (n : Int), .bool false, .slice (some ⟨w.heap.size + 1, 0, none⟩) (n * 128) (n * 128), .slice (some ⟨w.heap.size, 0, none⟩) (n * 128) (n * 128)] 61)
    exact ⟨⟨w.heap.size + 1 + 1, w.heap.size + 1, w.heap.size, n, false, List.replicate (n * 128) 0, List.replicate (n * 128) 0⟩, rfl, ⟨b3, b2, b1, by simp, by simp, rep_bd _, rep_bd _, h1, h2, by simp, by simp, by simp; omega⟩, rfl, rfl, rfl, rfl, by simp; omega, by simp, by simp, bf⟩
end Go.Proofs.Ytfclamndjnoopaa
