/- Contracts of layer 2's texts: the document's Print. -/
import Derived.Test.YtcnochabdhdlnaaDoorSumP
import Derived.Deep.RegionHeld3
namespace Go.Proofs.YtcnochabdhdlnaaDoor
open Go.RowKit
set_option maxRecDepth 100000

def OkN (n : Int) : Prop := 0 ≤ n ∧ n < 18446744073709551616
theorem hexL_parts (s : S4) : hexL s = hexD s.a 16 ++ hexD s.b 16 ++ hexD s.c 16 ++ hexD s.d 16 := by
  simp [hexL, outL, S4.vals]
set_option maxHeartbeats 3200000 in
theorem refPrint_any (s : S4) (w : World) (hs : s.ok) :
    Calls Tryd.prog 18 #[.agg s.arr] w fun e w' => e = .returned (.string (strOfNums (hexL s))) ∧ Frm [] w w' := by
  obtain ⟨oa, ob, oc, od⟩ := hs
  have oa' : OkN s.a := oa
  have ob' : OkN s.b := ob
  have oc' : OkN s.c := oc
  have od' : OkN s.d := od
  have HHX : Hid (∀ n, OkN n → ∀ W, Calls Tryd.prog 28 #[.int .u64 n] W fun e w' => e = .returned (.string (strOfNums (hexD n 16))) ∧ Frm [] W w') := hid (fun n h W => hex_any n h W)
  have hsz : ∀ n : Int, (strOfNums (hexD n 16)).size = 16 := fun n => by rw [strOfNums_size, hexD_length]
  have hrow := heap_alloc_new w (.cells s.arr 25)
  have HF0 : Hid (Frm [] w (w.alloc (.cells s.arr 25))) := hid ((Frm.refl _ _).alloc _)
  unfold S4.arr at hrow HF0 ⊢
  have HROW := hid hrow
  clear oa ob oc od hrow
  go_enter Tryd.func18, Tryd.ntmps18
  go_wp2_with fail
  obtain ⟨w1, hw1⟩ : ∃ w1, w.alloc (.cells #[.int .u64 s.a, .int .u64 s.b, .int .u64 s.c, .int .u64 s.d] 25) = w1 := ⟨_, rfl⟩
  obtain ⟨b, hb⟩ : ∃ b, w.heap.size = b := ⟨_, rfl⟩
  rw [hw1] at HROW HF0
  rw [hb] at HROW
  rw [hw1, hb]
  clear hw1 hb
  have q0 : w1.cell? ⟨b, 0, none⟩ = some (.int .u64 s.a) := by rw [cell_of_row w1 _ _ _ _ _ HROW.out]; rfl
  have q1 : w1.cell? ⟨b, 1, none⟩ = some (.int .u64 s.b) := by rw [cell_of_row w1 _ _ _ _ _ HROW.out]; rfl
  have q2 : w1.cell? ⟨b, 2, none⟩ = some (.int .u64 s.c) := by rw [cell_of_row w1 _ _ _ _ _ HROW.out]; rfl
  have q3 : w1.cell? ⟨b, 3, none⟩ = some (.int .u64 s.d) := by rw [cell_of_row w1 _ _ _ _ _ HROW.out]; rfl
  have HKS : Hid (∀ (u u' : World), Frm [] u u' → (u.cell? ⟨b, 0, none⟩ = some (.int .u64 s.a) ∧ u.cell? ⟨b, 1, none⟩ = some (.int .u64 s.b) ∧ u.cell? ⟨b, 2, none⟩ = some (.int .u64 s.c) ∧ u.cell? ⟨b, 3, none⟩ = some (.int .u64 s.d) ∧ Frm [] w u) → (u'.cell? ⟨b, 0, none⟩ = some (.int .u64 s.a) ∧ u'.cell? ⟨b, 1, none⟩ = some (.int .u64 s.b) ∧ u'.cell? ⟨b, 2, none⟩ = some (.int .u64 s.c) ∧ u'.cell? ⟨b, 3, none⟩ = some (.int .u64 s.d) ∧ Frm [] w u')) := hid (fun u u' hf h => by
    have hl := World.block_lt_of_cell? u _ h.1
    have k : ∀ i v, u.cell? ⟨b, i, none⟩ = some v → u'.cell? ⟨b, i, none⟩ = some v := fun i v h => (hf.cell (p := ⟨b, i, none⟩) hl (by simp)).trans h
    exact ⟨k _ _ h.1, k _ _ h.2.1, k _ _ h.2.2.1, k _ _ h.2.2.2.1, h.2.2.2.2.trans hf (by simp)⟩)
  clear HROW
  go_region_held3 (fun w' => w'.cell? ⟨b, 0, none⟩ = some (.int .u64 s.a) ∧ w'.cell? ⟨b, 1, none⟩ = some (.int .u64 s.b) ∧ w'.cell? ⟨b, 2, none⟩ = some (.int .u64 s.c) ∧ w'.cell? ⟨b, 3, none⟩ = some (.int .u64 s.d) ∧ Frm [] w w') (first | (exact ⟨q0, q1, q2, q3, HF0.out.drew⟩) | (exact HKS.out _ _ (by assumption) (by assumption))) (((with_reducible refine (HHX.out _ (by assumption) _).mono ?_); rintro e w5 ⟨rfl, hf5⟩))
  have hh : w5.cell? ⟨b, 0, none⟩ = some (.int .u64 s.a) ∧ w5.cell? ⟨b, 1, none⟩ = some (.int .u64 s.b) ∧ w5.cell? ⟨b, 2, none⟩ = some (.int .u64 s.c) ∧ w5.cell? ⟨b, 3, none⟩ = some (.int .u64 s.d) ∧ Frm [] w w5 := by assumption
  have HFR := hid hh.2.2.2.2
  clear hh q0 q1 q2 q3
  go_wp2_with fail
  go_returns
  exact ⟨by rw [hexL_parts, ← str_app, ← str_app, ← str_app]; rfl, HFR.out⟩
end Go.Proofs.YtcnochabdhdlnaaDoor
