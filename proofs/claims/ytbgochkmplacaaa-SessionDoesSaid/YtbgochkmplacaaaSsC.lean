/- sync.Once: doSlow and Do; the table's places. -/
import Derived.Test.YtbgochkmplacaaaSsB
namespace Go.Proofs.Ytbgochkmplacaaa
open Go.RowKit Go.Lib
set_option maxRecDepth 100000

def rowT (d : Int) (st : Int) (sm pv f a r : Value) : Array Value := #[.int .u32 d, .int .i32 st, sm, pv, f, a, r]
theorem loadB (a : Addr) (x : Int) (bb : Bool) (hx : (x != 0) = bb) (w : World) (h : w.cell? a = some (.int .u32 x)) :
    Calls Try.prog 77 #[.pointer (some a)] w fun e w' => e = .returned (.bool bb) ∧ w' = w := by
  have hl := run_call_load (P := Try.prog) Try.func80 (by kernel_rfl) (by kernel_rfl) (by kernel_rfl) .u32 (by kernel_rfl) h
  go_enter Try.func77, Try.ntmps77
  go_wp2_with fail
  first | go_returns | skip
  exact ⟨by first | rfl | simp, rfl⟩
set_option maxHeartbeats 3200000 in
theorem slow24 (b : Nat) (pl : Addr) (sm pv f a r : Value) (w : World) (hp : w.cell? pl = some (.pointer (some ⟨b, 0, none⟩))) (hpb : b ≠ pl.block) (hb : w.heap[b]? = some (.cells (rowT 0 0 sm pv f a r) 101 (0, 0))) :
    Calls Try.prog 78 #[.pointer (some ⟨b, 0, none⟩), .func (.func 70) #[] #[.pointer (some pl)]] w fun e w' => e = .returned (.tuple #[]) ∧ Frm [b] w w' ∧ w'.heap[w.heap.size]? = some (.cells (rowsR zeros9).toArray 61 (0, 0)) ∧ w'.heap[b]? = some (.cells (rowT 1 0 sm (.slice (some ⟨w.heap.size, 0, none⟩) 9 9) f a r) 101 (0, 0)) := by
  have h1 := heap_setCell_same w b 1 _ _ (.int .i32 1) hb
  obtain ⟨w1, hw1⟩ : ∃ q, w.setCell ⟨b, 1, none⟩ (.int .i32 1) = q := ⟨_, rfl⟩
  have hsz1 : w1.heap.size = w.heap.size := by rw [← hw1]; simp [World.setCell]
  rw [hw1] at h1
  have hF1 : Frm [b] w w1 := by rw [← hw1]; exact (Frm.refl _ _).setCell _ _ (by simp)
  have hp1 : w1.cell? pl = some (.pointer (some ⟨b, 0, none⟩)) := (hF1.cell (World.block_lt_of_cell? w _ hp) (by simp; exact fun e => hpb e.symm)).trans hp
  have HLD := hid (loadB ⟨b, 0, none⟩ 0 false rfl w1 (by rw [cell_of_row _ _ _ _ _ _ h1]; rfl))
  have hnot : ∀ (x : Bool) (w : World), (Op.unary .not (.bool x)).run Try.prog w = .ok (.bool (!x)) w := fun _ _ => rfl
  have HLK := hid (lockS ⟨b, 1, none⟩ w (by rw [cell_of_row _ _ _ _ _ _ hb]; rfl) (frozen_of_row _ _ _ _ _ hb))
  have HCL := hid (clos24 b pl _ w1 hp1 h1 (by simp [rowT]))
  have HW1 := hid hw1
  have HF1 := hid hF1
  have HSZ := hid hsz1
  clear hp h1 hw1 hF1 hb hp1 hsz1
  go_enter_defers Try.func78, Try.ntmps78
  go_wp2_with fail
  refine HLK.out.mono ?_
  rintro e w' ⟨rfl, rfl⟩
  rw [HW1.out]
  go_wp2_with fail
  refine HLD.out.mono ?_
  rintro e w' ⟨rfl, rfl⟩
  go_wp2_with fail
  refine HCL.out.mono ?_
  rintro e w2 ⟨rfl, hf2, hz2, hb2⟩
  rw [HSZ.out] at hz2 hb2
  have HF2 := hid (HF1.out.trans hf2 (by simp))
  have HZ2 := hid hz2
  have HB2 := hid hb2
  have HLT := hid (lt_of_heap hb2)
  have HLT0 : Hid (b ≠ w.heap.size) := hid (by
    intro e
    subst e
    rw [hz2] at hb2
    simp at hb2)
  clear hf2 hz2 hb2
  have hr2 : w2.heap[b]? = some (.cells (rowT 0 1 sm (.slice (some ⟨w.heap.size, 0, none⟩) 9 9) f a r) 101 (0, 0)) := HB2.out
  have hr2d : w2.drew.heap[b]? = some (.cells (rowT 0 1 sm (.slice (some ⟨w.heap.size, 0, none⟩) 9 9) f a r) 101 (0, 0)) := hr2
  have hr3 := heap_setCell_same w2.drew b 0 _ _ (.int .u32 1) hr2d
  have hr4 := heap_setCell_same _ b 1 _ _ (.int .i32 0) hr3
  have HR2 := hid hr2
  have HR3 := hid hr3
  have HR4 := hid hr4
  have HF4 : Hid (Frm [b] w ((w2.drew.setCell ⟨b, 0, none⟩ (.int .u32 1)).setCell ⟨b, 1, none⟩ (.int .i32 0))) := hid ((HF2.out.drew.setCell _ _ (by simp)).setCell _ _ (by simp))
  have HZ4 : Hid (((w2.drew.setCell ⟨b, 0, none⟩ (.int .u32 1)).setCell ⟨b, 1, none⟩ (.int .i32 0)).heap[w.heap.size]? = some (.cells (rowsR zeros9).toArray 61 (0, 0))) := hid (by
    rw [heap_setCell_other _ _ _ _ (by simpa using HLT0.out.symm), heap_setCell_other _ _ _ _ (by simpa using HLT0.out.symm)]
    exact HZ2.out)
  clear hr2 hr2d hr3 hr4
  go_wp2
  refine leaves_cons (f := 83) (args := #[.pointer (some ⟨b, 0, none⟩), .bool true]) (by simp) (by simp [go_sem]) ?_
  refine (store_deferred ⟨b, 0, none⟩ (.int .u32 0) .returning w2 (by rw [cell_of_row _ _ _ _ _ _ HR2.out]; rfl) (frozen_of_row _ _ _ _ _ HR2.out)).mono ?_
  rintro e u' w3 ⟨rfl, rfl, rfl⟩
  refine leaves_cons (f := 82) (args := #[.pointer (some ⟨b, 1, none⟩)]) (by simp [settle]) (by simp [go_sem]) ?_
  refine (unlock_deferred ⟨b, 1, none⟩ _ _ (by rw [cell_of_row _ _ _ _ _ _ HR3.out]; rfl) (frozen_of_row _ _ _ _ _ HR3.out)).mono ?_
  rintro e u' w4 ⟨rfl, rfl, rfl⟩
  have hfin := And.intro HF4.out (And.intro HZ4.out HR4.out)
  simp [Leaves, settle, results, Try.results78]
  exact hfin
/-- Do, the first time. -/
theorem do_first24 (b : Nat) (pl : Addr) (sm pv f a r : Value) (w : World) (hp : w.cell? pl = some (.pointer (some ⟨b, 0, none⟩))) (hpb : b ≠ pl.block) (hb : w.heap[b]? = some (.cells (rowT 0 0 sm pv f a r) 101 (0, 0))) :
    Calls Try.prog 69 #[.pointer (some ⟨b, 0, none⟩), .func (.func 70) #[] #[.pointer (some pl)]] w fun e w' => e = .returned (.tuple #[]) ∧ Frm [b] w w' ∧ w'.heap[w.heap.size]? = some (.cells (rowsR zeros9).toArray 61 (0, 0)) ∧ w'.heap[b]? = some (.cells (rowT 1 0 sm (.slice (some ⟨w.heap.size, 0, none⟩) 9 9) f a r) 101 (0, 0)) := by
  have HLD := hid (loadB ⟨b, 0, none⟩ 0 false rfl w (by rw [cell_of_row _ _ _ _ _ _ hb]; rfl))
  have HSL := hid (slow24 b pl sm pv f a r w hp hpb hb)
  clear hp hb
  go_enter Try.func69, Try.ntmps69
  go_wp2_with fail
  refine HLD.out.mono ?_
  rintro e w' ⟨rfl, rfl⟩
  go_wp2_with fail
  refine HSL.out.mono ?_
  rintro e w2 ⟨rfl, h⟩
  go_wp2
  go_end0
  exact ⟨rfl, h⟩
/-- Do, when it was done. -/
theorem do_done24 (b : Nat) (fv : Value) (sm pv f a r : Value) (w : World) (hb : w.heap[b]? = some (.cells (rowT 1 0 sm pv f a r) 101 (0, 0))) :
    Calls Try.prog 69 #[.pointer (some ⟨b, 0, none⟩), fv] w fun e w' => e = .returned (.tuple #[]) ∧ w' = w := by
  have HLD := hid (loadB ⟨b, 0, none⟩ 1 true rfl w (by rw [cell_of_row _ _ _ _ _ _ hb]; rfl))
  clear hb
  go_enter Try.func69, Try.ntmps69
  go_wp2_with fail
  refine HLD.out.mono ?_
  rintro e w' ⟨rfl, rfl⟩
  go_wp2
  go_end0
  exact ⟨rfl, rfl⟩
end Go.Proofs.Ytbgochkmplacaaa
