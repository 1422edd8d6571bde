/- Contracts of package sum: Fletcher's sum, piece by piece. -/
import Derived.Test.YtdnnbinmippkdaaDoorSumC
import Derived.Deep.RegionHeld3
namespace Go.Proofs.YtdnnbinmippkdaaDoor
open Go.RowKit
set_option maxRecDepth 100000

def wordS (s : S4) (x : Int) : S4 := ⟨IntKind.u64.wrap (s.a + x), IntKind.u64.wrap (s.b + IntKind.u64.wrap (s.a + x)), IntKind.u64.wrap (s.c + IntKind.u64.wrap (s.b + IntKind.u64.wrap (s.a + x))), IntKind.u64.wrap (s.d + IntKind.u64.wrap (s.c + IntKind.u64.wrap (s.b + IntKind.u64.wrap (s.a + x))))⟩
set_option maxHeartbeats 800000 in
theorem word_any (s : S4) (x : Int) (w : World) (hx : 0 ≤ x ∧ x < 4294967296) :
    Calls Tryd.prog 84 #[.agg s.arr, .int .u32 x] w fun e w' => e = .returned (.agg (wordS s x).arr) ∧ Frm [] w w' := by
  obtain ⟨x0, x1⟩ := hx
  have k0 : IntKind.u64.wrap x = x := IntWalk.u64_in _ (by omega)
  unfold S4.arr
  go_enter Tryd.func84, Tryd.ntmps84
  go_wp2_with fail
  go_returns
  exact ⟨rfl, ((Frm.refl _ _).alloc _).alloc _⟩
theorem lowW_bd (a b c d : Int) : 0 ≤ lowW a b c d ∧ lowW a b c d < 4294967296 := by
  have h : ∀ n : Int, 0 ≤ IntKind.u32.wrap n ∧ IntKind.u32.wrap n < 4294967296 := fun n => by
    show 0 ≤ n % 4294967296 ∧ n % 4294967296 < 4294967296
    omega
  exact h _
/-- A running sum at block r: the sum so far, the bytes that wait, how many. -/
def RowR (w : World) (r : Nat) (s : S4) (x0 x1 x2 x3 m : Int) : Prop :=
  w.heap[r]? = some (.cells #[.int .u64 s.a, .int .u64 s.b, .int .u64 s.c, .int .u64 s.d, .int .u8 x0, .int .u8 x1, .int .u8 x2, .int .u8 x3, .int .i64 m] 109 (0, 0))
theorem elem_of {P : Program} {t e : TypeId} (ht : P.underlying t = some (.slice e)) : P.underlying t = some (.slice (P.elem t)) := by simp [Program.elem, ht]
theorem slice_low {P : Program} {t e : TypeId} (ht : P.underlying t = some (.slice e)) (hI : (P.info? e).map (fun i => (i.zero, i.size, i.bytes)) = some (some (.int .u8 0), 1, 1)) (p : Option Addr) (zs : List Int) (n c lo : Nat) (hn : zs.length = n) (hlo : lo ≤ n) (hc : n ≤ c) (w : World) (hr : Rd w p zs) :
    ∃ pp, (∀ W : World, (Instr.slice t (.slice p n c) (some (.int .i64 (lo : Int))) none none).run P W = .ok (.slice pp (n - lo) (c - lo)) W) ∧ Rd w pp (zs.drop lo) := by
  obtain ⟨i, hi, hz, h1, h2⟩ := info_parts hI
  have he : P.elem t = e := by simp [Program.elem, ht]
  refine ⟨if c = lo then p else p.map (·.add lo), fun W => ?_, ?_⟩
  · rw [run_slice_l W t _ _ _ (elem_of ht) .i64 _ (by omega) (by omega), he]
    have hs : (sizeOf e).run P W = .ok 1 W := by simp [sizeOf, typeInfo, hi, h1, Result.andThen]
    rw [hs]
    simp [Result.andThen, sliced]
  · by_cases h : c = lo
    · rw [if_pos h, List.drop_eq_nil_of_le (by omega)]
      exact Rd.nil _ _
    · rw [if_neg h]
      rcases hr with hr | ⟨g, o, rfl, hr⟩
      · subst hr
        rw [List.drop_nil]
        exact Rd.nil _ _
      · have h2 := Rd.drop (Or.inr ⟨g, o, rfl, hr⟩ : Rd w (some ⟨g, o, none⟩) zs) lo
        by_cases h0 : lo = 0
        · simpa [Addr.add, h0] using h2
        · simpa [Addr.add, h0] using h2
set_option maxHeartbeats 1600000 in
theorem one_0 (r : Nat) (s : S4) (x0 x1 x2 x3 : Int) (g o n c : Nat) (z : Int) (w : World) (hr : RowR w r s x0 x1 x2 x3 0) (hn : 0 < n) (hnb : n ≤ 9223372036854775807) (hz : w.cell? ⟨g, o, none⟩ = some (.int .u8 z)) (pp : Option Addr) (hsl : ∀ W : World, (Instr.sliceAt 28 (.slice (some ⟨g, o, none⟩) n c) (some (.int .i64 1)) none none).run Tryd.prog W = .ok (.slice pp (n - 1) (c - 1)) W) :
    Calls Tryd.prog 83 #[.pointer (some ⟨r, 0, none⟩), .slice (some ⟨g, o, none⟩) n c] w fun e w' => e = .returned (.slice pp (n - 1) (c - 1)) ∧ RowR w' r s z x1 x2 x3 1 ∧ Frm [r] w w' := by
  have HR := hid hr
  have c8 : w.cell? ⟨r, 8, none⟩ = some (.int .i64 0) := by rw [cell_of_row w _ _ _ _ _ hr]; rfl
  have cm : w.cell? ⟨r, 4, none⟩ = some (.int .u8 x0) := by rw [cell_of_row w _ _ _ _ _ hr]; rfl
  have fm : w.frozen? ⟨r, 4, none⟩ = false := frozen_of_row w _ 4 _ _ hr
  have f8 : w.frozen? ⟨r, 8, none⟩ = false := frozen_of_row w _ 8 _ _ hr
  have b0 : (0 : Int) < (n : Int) := by omega
  clear hr
  go_enter Tryd.func83, Tryd.ntmps83
  go_wp2_with fail
  go_still_tail 11, (by kernel_rfl)
  change wpList _ _ _ _ _ w.drew
  clear c8 cm fm f8
  obtain ⟨w4, hw4⟩ : ∃ w4, w.drew = w4 := ⟨_, rfl⟩
  have HR4 : Hid (RowR w4 r s x0 x1 x2 x3 0) := hid (by rw [← hw4]; exact HR.out)
  have HF4 : Hid (Frm [r] w w4) := hid (by rw [← hw4]; exact (Frm.refl _ _).drew)
  rw [hw4]
  have c8 : w4.cell? ⟨r, 8, none⟩ = some (.int .i64 0) := by rw [cell_of_row w4 _ _ _ _ _ HR4.out]; rfl
  have cm : w4.cell? ⟨r, 4, none⟩ = some (.int .u8 x0) := by rw [cell_of_row w4 _ _ _ _ _ HR4.out]; rfl
  have fm : w4.frozen? ⟨r, 4, none⟩ = false := frozen_of_row w4 _ 4 _ _ HR4.out
  have f8 : w4.frozen? ⟨r, 8, none⟩ = false := frozen_of_row w4 _ 8 _ _ HR4.out
  go_wp2_with fail
  go_returns
  refine ⟨rfl, ?_, (HF4.out.setCell _ _ (by simp)).setCell _ _ (by simp)⟩
  unfold RowR
  have h1 : (w4.setCell ⟨r, 4, none⟩ (.int .u8 z)).heap[r]? = some (.cells #[.int .u64 s.a, .int .u64 s.b, .int .u64 s.c, .int .u64 s.d, .int .u8 z, .int .u8 x1, .int .u8 x2, .int .u8 x3, .int .i64 0] 109 (0, 0)) := by rw [heap_setCell_same _ _ 4 _ _ _ HR4.out]; rfl
  rw [heap_setCell_same _ _ 8 _ _ _ h1]
  rfl
set_option maxHeartbeats 1600000 in
theorem one_1 (r : Nat) (s : S4) (x0 x1 x2 x3 : Int) (g o n c : Nat) (z : Int) (w : World) (hr : RowR w r s x0 x1 x2 x3 1) (hn : 0 < n) (hnb : n ≤ 9223372036854775807) (hz : w.cell? ⟨g, o, none⟩ = some (.int .u8 z)) (pp : Option Addr) (hsl : ∀ W : World, (Instr.sliceAt 28 (.slice (some ⟨g, o, none⟩) n c) (some (.int .i64 1)) none none).run Tryd.prog W = .ok (.slice pp (n - 1) (c - 1)) W) :
    Calls Tryd.prog 83 #[.pointer (some ⟨r, 0, none⟩), .slice (some ⟨g, o, none⟩) n c] w fun e w' => e = .returned (.slice pp (n - 1) (c - 1)) ∧ RowR w' r s x0 z x2 x3 2 ∧ Frm [r] w w' := by
  have HR := hid hr
  have c8 : w.cell? ⟨r, 8, none⟩ = some (.int .i64 1) := by rw [cell_of_row w _ _ _ _ _ hr]; rfl
  have cm : w.cell? ⟨r, 5, none⟩ = some (.int .u8 x1) := by rw [cell_of_row w _ _ _ _ _ hr]; rfl
  have fm : w.frozen? ⟨r, 5, none⟩ = false := frozen_of_row w _ 5 _ _ hr
  have f8 : w.frozen? ⟨r, 8, none⟩ = false := frozen_of_row w _ 8 _ _ hr
  have b0 : (0 : Int) < (n : Int) := by omega
  clear hr
  go_enter Tryd.func83, Tryd.ntmps83
  go_wp2_with fail
  go_still_tail 11, (by kernel_rfl)
  change wpList _ _ _ _ _ w.drew
  clear c8 cm fm f8
  obtain ⟨w4, hw4⟩ : ∃ w4, w.drew = w4 := ⟨_, rfl⟩
  have HR4 : Hid (RowR w4 r s x0 x1 x2 x3 1) := hid (by rw [← hw4]; exact HR.out)
  have HF4 : Hid (Frm [r] w w4) := hid (by rw [← hw4]; exact (Frm.refl _ _).drew)
  rw [hw4]
  have c8 : w4.cell? ⟨r, 8, none⟩ = some (.int .i64 1) := by rw [cell_of_row w4 _ _ _ _ _ HR4.out]; rfl
  have cm : w4.cell? ⟨r, 5, none⟩ = some (.int .u8 x1) := by rw [cell_of_row w4 _ _ _ _ _ HR4.out]; rfl
  have fm : w4.frozen? ⟨r, 5, none⟩ = false := frozen_of_row w4 _ 5 _ _ HR4.out
  have f8 : w4.frozen? ⟨r, 8, none⟩ = false := frozen_of_row w4 _ 8 _ _ HR4.out
  go_wp2_with fail
  go_returns
  refine ⟨rfl, ?_, (HF4.out.setCell _ _ (by simp)).setCell _ _ (by simp)⟩
  unfold RowR
  have h1 : (w4.setCell ⟨r, 5, none⟩ (.int .u8 z)).heap[r]? = some (.cells #[.int .u64 s.a, .int .u64 s.b, .int .u64 s.c, .int .u64 s.d, .int .u8 x0, .int .u8 z, .int .u8 x2, .int .u8 x3, .int .i64 1] 109 (0, 0)) := by rw [heap_setCell_same _ _ 5 _ _ _ HR4.out]; rfl
  rw [heap_setCell_same _ _ 8 _ _ _ h1]
  rfl
set_option maxHeartbeats 1600000 in
theorem one_2 (r : Nat) (s : S4) (x0 x1 x2 x3 : Int) (g o n c : Nat) (z : Int) (w : World) (hr : RowR w r s x0 x1 x2 x3 2) (hn : 0 < n) (hnb : n ≤ 9223372036854775807) (hz : w.cell? ⟨g, o, none⟩ = some (.int .u8 z)) (pp : Option Addr) (hsl : ∀ W : World, (Instr.sliceAt 28 (.slice (some ⟨g, o, none⟩) n c) (some (.int .i64 1)) none none).run Tryd.prog W = .ok (.slice pp (n - 1) (c - 1)) W) :
    Calls Tryd.prog 83 #[.pointer (some ⟨r, 0, none⟩), .slice (some ⟨g, o, none⟩) n c] w fun e w' => e = .returned (.slice pp (n - 1) (c - 1)) ∧ RowR w' r s x0 x1 z x3 3 ∧ Frm [r] w w' := by
  have HR := hid hr
  have c8 : w.cell? ⟨r, 8, none⟩ = some (.int .i64 2) := by rw [cell_of_row w _ _ _ _ _ hr]; rfl
  have cm : w.cell? ⟨r, 6, none⟩ = some (.int .u8 x2) := by rw [cell_of_row w _ _ _ _ _ hr]; rfl
  have fm : w.frozen? ⟨r, 6, none⟩ = false := frozen_of_row w _ 6 _ _ hr
  have f8 : w.frozen? ⟨r, 8, none⟩ = false := frozen_of_row w _ 8 _ _ hr
  have b0 : (0 : Int) < (n : Int) := by omega
  clear hr
  go_enter Tryd.func83, Tryd.ntmps83
  go_wp2_with fail
  go_still_tail 11, (by kernel_rfl)
  change wpList _ _ _ _ _ w.drew
  clear c8 cm fm f8
  obtain ⟨w4, hw4⟩ : ∃ w4, w.drew = w4 := ⟨_, rfl⟩
  have HR4 : Hid (RowR w4 r s x0 x1 x2 x3 2) := hid (by rw [← hw4]; exact HR.out)
  have HF4 : Hid (Frm [r] w w4) := hid (by rw [← hw4]; exact (Frm.refl _ _).drew)
  rw [hw4]
  have c8 : w4.cell? ⟨r, 8, none⟩ = some (.int .i64 2) := by rw [cell_of_row w4 _ _ _ _ _ HR4.out]; rfl
  have cm : w4.cell? ⟨r, 6, none⟩ = some (.int .u8 x2) := by rw [cell_of_row w4 _ _ _ _ _ HR4.out]; rfl
  have fm : w4.frozen? ⟨r, 6, none⟩ = false := frozen_of_row w4 _ 6 _ _ HR4.out
  have f8 : w4.frozen? ⟨r, 8, none⟩ = false := frozen_of_row w4 _ 8 _ _ HR4.out
  go_wp2_with fail
  go_returns
  refine ⟨rfl, ?_, (HF4.out.setCell _ _ (by simp)).setCell _ _ (by simp)⟩
  unfold RowR
  have h1 : (w4.setCell ⟨r, 6, none⟩ (.int .u8 z)).heap[r]? = some (.cells #[.int .u64 s.a, .int .u64 s.b, .int .u64 s.c, .int .u64 s.d, .int .u8 x0, .int .u8 x1, .int .u8 z, .int .u8 x3, .int .i64 2] 109 (0, 0)) := by rw [heap_setCell_same _ _ 6 _ _ _ HR4.out]; rfl
  rw [heap_setCell_same _ _ 8 _ _ _ h1]
  rfl
end Go.Proofs.YtdnnbinmippkdaaDoor
