/- Plain facts on Fletcher's sum; New and Clone of a running sum; a byte of a slice as a slice. -/
import Derived.Test.YtcnochabdhdlnaaDoorSumAm
namespace Go.Proofs.YtcnochabdhdlnaaDoor
open Go.RowKit
set_option maxRecDepth 100000

theorem u64w_bd (n : Int) : 0 ≤ IntKind.u64.wrap n ∧ IntKind.u64.wrap n < 18446744073709551616 := by
  show 0 ≤ n % 18446744073709551616 ∧ n % 18446744073709551616 < 18446744073709551616
  omega
theorem flW_bd (zs : List Int) (k : Nat) : (0 ≤ (flW Z4 zs k).a ∧ (flW Z4 zs k).a < 18446744073709551616) ∧ (0 ≤ (flW Z4 zs k).b ∧ (flW Z4 zs k).b < 18446744073709551616) ∧ (0 ≤ (flW Z4 zs k).c ∧ (flW Z4 zs k).c < 18446744073709551616) ∧ (0 ≤ (flW Z4 zs k).d ∧ (flW Z4 zs k).d < 18446744073709551616) := by
  cases k with
  | zero => simp [flW, Z4]
  | succ k => exact ⟨u64w_bd _, u64w_bd _, u64w_bd _, u64w_bd _⟩
theorem flW_ext {x y : List Int} (h : ∀ i, zA x i = zA y i) (s : S4) (m : Nat) : flW s x m = flW s y m := by
  induction m with
  | zero => rfl
  | succ m ih => rw [flW, flW, ih, h, h, h, h]
theorem zA_pad (b : List Int) (k i : Nat) : zA (b ++ List.replicate k 0) i = zA b i := by
  by_cases hi : i < b.length
  · exact zA_left hi
  · obtain ⟨j, rfl⟩ : ∃ j, i = b.length + j := ⟨i - b.length, by omega⟩
    rw [zA_right, zA_far (zs := b) (by omega)]
    unfold zA
    rw [List.getD_eq_getElem?_getD]
    by_cases hj : j < k
    · simp [hj]
    · rw [List.getElem?_eq_none (by simp; omega)]; rfl
theorem fletch_pad (b : List Int) (k : Nat) (h4 : (b.length + k) % 4 = 0) (hk : k < 4) : fletch (b ++ List.replicate k 0) = fletch b := by
  rw [fletch_all, fletch_all, flW_ext (zA_pad b k), List.length_append, List.length_replicate, show (b.length + k + 3) / 4 = (b.length + 3) / 4 by omega]
theorem fletch_next (L : List Int) (h4 : L.length % 4 = 0) : fletch (L ++ [0, 0, 0, 0]) = ⟨(fletch L).a, IntKind.u64.wrap ((fletch L).b + (fletch L).a), IntKind.u64.wrap ((fletch L).c + IntKind.u64.wrap ((fletch L).b + (fletch L).a)), IntKind.u64.wrap ((fletch L).d + IntKind.u64.wrap ((fletch L).c + IntKind.u64.wrap ((fletch L).b + (fletch L).a)))⟩ := by
  have hz : ∀ i, zA (L ++ [0, 0, 0, 0]) i = zA L i := zA_pad L 4
  have hb := (flW_bd L (L.length / 4)).1
  rw [fletch_all, fletch_all, flW_ext hz, List.length_append, show ([0, 0, 0, 0] : List Int).length = 4 from rfl, show (L.length + 4 + 3) / 4 = L.length / 4 + 1 by omega, show (L.length + 3) / 4 = L.length / 4 by omega, flW]
  rw [zA_far (i := 4 * (L.length / 4)) (by omega), zA_far (i := 4 * (L.length / 4) + 1) (by omega), zA_far (i := 4 * (L.length / 4) + 2) (by omega), zA_far (i := 4 * (L.length / 4) + 3) (by omega)]
  have hl : lowW 0 0 0 0 = 0 := by decide +kernel
  rw [hl]
  unfold wordS
  have e : IntKind.u64.wrap ((flW Z4 L (L.length / 4)).a + 0) = (flW Z4 L (L.length / 4)).a := by rw [Int.add_zero]; exact IntWalk.u64_in _ (by omega)
  rw [e]
theorem new_any (w : World) : Calls Tryd.prog 19 #[] w fun e w' => e = .returned (.pointer (some ⟨w.heap.size, 0, none⟩)) ∧ RunAt w' w.heap.size [] ∧ Frm [] w w' := by
  have h1 : RunAt (w.alloc (.cells #[.int .u64 0, .int .u64 0, .int .u64 0, .int .u64 0, .int .u8 0, .int .u8 0, .int .u8 0, .int .u8 0, .int .i64 0] 51)) w.heap.size [] := runAt_new (heap_alloc_new _ _)
  have H1 := hid h1
  clear h1
  go_enter Tryd.func19, Tryd.ntmps19
  go_wp2_with fail
  go_returns
  exact ⟨rfl, H1.out, (Frm.refl _ _).alloc _⟩
theorem clone_any (r : Nat) (all : List Int) (w : World) (hr : RunAt w r all) : Calls Tryd.prog 20 #[.pointer (some ⟨r, 0, none⟩)] w fun e w' => e = .returned (.pointer (some ⟨w.heap.size, 0, none⟩)) ∧ RunAt w' w.heap.size all ∧ Frm [] w w' := by
  obtain ⟨q0, q1, q2, q3, q4, q5, q6, q7, q8⟩ := RowR.cells hr
  have HN : Hid (∀ cs, w.heap[r]? = some (.cells cs 51 (0, 0)) → RunAt (w.alloc (.cells cs 51)) w.heap.size all) := hid (fun cs h => by
    unfold RunAt RowR at hr ⊢
    rw [heap_alloc_new, ← h]
    exact hr)
  have HR := hid hr
  clear hr
  go_enter Tryd.func20, Tryd.ntmps20
  go_wp2_with fail
  go_returns
  exact ⟨rfl, HN.out _ HR.out, (Frm.refl _ _).alloc _⟩
/-- A slice from a bound on up to another. -/
theorem slice_mid (p : Option Addr) (zs : List Int) (n c lo hi : Nat) (hn : zs.length = n) (hlo : lo ≤ hi) (hhi : hi ≤ n) (hc : n ≤ c) (w : World) (hr : Rd w p zs) :
    ∃ pp, (∀ W : World, (Instr.slice 22 (.slice p n c) (some (.int .i64 (lo : Int))) (some (.int .i64 (hi : Int))) none).run Tryd.prog W = .ok (.slice pp (hi - lo) (c - lo)) W) ∧ (∀ W : World, (Instr.sliceAt 22 (.slice p n c) (some (.int .i64 (lo : Int))) (some (.int .i64 (hi : Int))) none).run Tryd.prog W = .ok (.slice pp (hi - lo) (c - lo)) W) ∧ Rd w pp ((zs.drop lo).take (hi - lo)) ∧ (∀ k ∈ blk pp, k ∈ blk p) ∧ (c ≠ lo → pp = p.map (·.add lo)) := by
  obtain ⟨i, hi', hz, h1, h2⟩ := info_parts (infoB)
  have hrun : ∀ W : World, (Instr.slice 22 (.slice p n c) (some (.int .i64 (lo : Int))) (some (.int .i64 (hi : Int))) none).run Tryd.prog W = .ok (.slice (if c = lo then p else p.map (·.add lo)) (hi - lo) (c - lo)) W := fun W => by
    rw [run_slice_lh W 22 _ _ _ (elem_of Tryd.underlying22) .i64 .i64 _ _ (by omega) (by omega) (by omega), show Tryd.prog.elem 22 = 5 by simp [Program.elem, Tryd.underlying22]]
    have hs : (sizeOf 5).run Tryd.prog W = .ok 1 W := by simp [sizeOf, typeInfo, hi', h1, Result.andThen]
    rw [hs]
    simp [Result.andThen, sliced]
  refine ⟨_, hrun, fun W => by rw [run_sliceAt_slice (h := elem_of Tryd.underlying22)]; exact hrun W, ?_, ?_, fun h => if_neg h⟩
  · by_cases h : c = lo
    · rw [if_pos h, List.drop_eq_nil_of_le (by omega)]
      simpa using Rd.nil _ _
    · rw [if_neg h]
      rcases hr with hr | ⟨g, o, rfl, hr⟩
      · subst hr
        simpa using Rd.nil _ _
      · have h2 := (Rd.drop (Or.inr ⟨g, o, rfl, hr⟩ : Rd w (some ⟨g, o, none⟩) zs) lo).take (hi - lo)
        by_cases h0 : lo = 0
        · simpa [Addr.add, h0] using h2
        · simpa [Addr.add, h0] using h2
  · intro k hk
    split at hk
    · exact hk
    · cases p with
      | none => simp [blk] at hk
      | some a => by_cases h0 : lo = 0 <;> simpa [blk, Addr.add, h0] using hk
end Go.Proofs.YtcnochabdhdlnaaDoor
