/- The document's helper Same: two rows of cells that say the same are the same. -/
import Derived.Test.YthifchkeapbfdaaVolO
import Derived.Test.YthifchkeapbfdaaVolH
namespace Go.Proofs.Ythifchkeapbfdaa
open Go.RowKit
set_option maxRecDepth 100000

set_option maxHeartbeats 400000 in
theorem one_any (k : Int) (u v : Value) (w : World) :
    Calls Try.prog 21 #[.agg #[.int .i64 1, .int .i64 k, .int .i64 0, u], .agg #[.int .i64 1, .int .i64 k, .int .i64 0, v]] w fun e w' => e = .returned (.bool true) ∧ Frm [] w w' := by
  have hf : Frm [] w ((w.alloc (.cells #[.int .i64 1, .int .i64 k, .int .i64 0, u] 57)).alloc (.cells #[.int .i64 1, .int .i64 k, .int .i64 0, v] 57)) := ((Frm.refl _ _).alloc _).alloc _
  have HF := hid hf
  clear hf
  go_enter Try.func21, Try.ntmps21
  go_wp2_with fail
  go_returns
  exact ⟨rfl, HF.out⟩
theorem cells_at {w : World} {lo : Nat} {pp : Option Addr} {pc : Nat} {xs : List CellV} (h : IsCells w lo pp pc xs) {t : Nat} (ht : t < xs.length) : ∃ hb, pp = some ⟨hb, 0, none⟩ ∧ hb < w.heap.size ∧ w.cell? ⟨hb, t * 4, none⟩ = some (.int .i64 1) ∧ w.cell? ⟨hb, t * 4 + 1, none⟩ = some (.int .i64 xs[t].k) ∧ w.cell? ⟨hb, t * 4 + 2, none⟩ = some (.int .i64 0) ∧ w.cell? ⟨hb, t * 4 + 3, none⟩ = some (.slice xs[t].p xs[t].zs.length xs[t].c) ∧ Rd w xs[t].p xs[t].zs := by
  obtain ⟨hb, rfl⟩ : ∃ hb, pp = some ⟨hb, 0, none⟩ := by
    rcases h.1.2 with ⟨_, h0⟩ | ⟨g, c, cur, he, _⟩
    · omega
    · simp only [Value.slice.injEq] at he
      exact ⟨g, he.1⟩
  have hc : ∀ j, j < 4 → w.cell? ⟨hb, t * 4 + j, none⟩ = (cellRow xs[t])[j]? := by
    intro j hj
    rw [World.ownsRow.cellAt h.1 (t * 4 + j) (by omega), cellRows_at _ t ht j hj]
  refine ⟨hb, rfl, ?_, hc 0 (by omega), hc 1 (by omega), hc 2 (by omega), hc 3 (by omega), (h.2.2 _ (List.getElem_mem ht)).1⟩
  exact World.block_lt_of_cell? w _ (hc 0 (by omega))
set_option maxHeartbeats 1600000 in
theorem same_any (lo lo2 : Nat) (pp pp2 : Option Addr) (pc pc2 : Nat) (xs ys : List CellV) (w : World) (h1 : IsCells w lo pp pc xs) (h2 : IsCells w lo2 pp2 pc2 ys) (he : saidV xs = saidV ys) (hl : xs.length ≤ 9223372036854775807) :
    Calls Try.prog 11 #[.slice pp xs.length pc, .slice pp2 ys.length pc2] w fun e w' => e = .returned (.bool true) ∧ Frm [] w w' := by
  have hlen : xs.length = ys.length := by have := congrArg List.length he; simpa [saidV] using this
  have HA : Hid (∀ t, (ht : t < xs.length) → ∃ hb hb2 k zs p c p2 c2, pp = some ⟨hb, 0, none⟩ ∧ pp2 = some ⟨hb2, 0, none⟩ ∧ hb < w.heap.size ∧ hb2 < w.heap.size ∧ w.cell? ⟨hb, t * 4, none⟩ = some (.int .i64 1) ∧ w.cell? ⟨hb, t * 4 + 1, none⟩ = some (.int .i64 k) ∧ w.cell? ⟨hb, t * 4 + 2, none⟩ = some (.int .i64 0) ∧ w.cell? ⟨hb, t * 4 + 3, none⟩ = some (.slice p zs.length c) ∧
      w.cell? ⟨hb2, t * 4, none⟩ = some (.int .i64 1) ∧ w.cell? ⟨hb2, t * 4 + 1, none⟩ = some (.int .i64 k) ∧ w.cell? ⟨hb2, t * 4 + 2, none⟩ = some (.int .i64 0) ∧ w.cell? ⟨hb2, t * 4 + 3, none⟩ = some (.slice p2 zs.length c2) ∧ Rd w p zs ∧ Rd w p2 zs) := by
    intro t ht
    obtain ⟨hb, e1, b1, a0, a1, a2, a3, a4⟩ := cells_at h1 ht
    obtain ⟨hb2, e2, b2, c0, c1, c2, c3, c4⟩ := cells_at h2 (show t < ys.length by omega)
    have hk : (xs[t].k, xs[t].zs) = (ys[t].k, ys[t].zs) := by
      have h3 : (saidV xs)[t]? = (saidV ys)[t]? := by rw [he]
      simpa [saidV, ht, show t < ys.length by omega] using h3
    simp only [Prod.mk.injEq] at hk
    rw [← hk.1] at c1
    rw [← hk.2] at c3 c4
    exact ⟨hb, hb2, _, _, _, _, _, _, e1, e2, b1, b2, a0, a1, a2, a3, c0, c1, c2, c3, a4, c4⟩
  rw [← hlen]
  clear h1 h2 he hlen
  go_enter Try.func11, Try.ntmps11
  go_wp2_with fail
  go_loopw [5] (fun i wr => ∃ t : Nat, t ≤ xs.length ∧ i = .int .i64 t ∧ Hid (Frm [] w wr)) (fun i _ => xs.length - (intOf i).toNat)
  case atStart => exact ⟨0, Nat.zero_le _, rfl, Frm.refl _ _⟩
  case round =>
    obtain ⟨t, ht, rfl, hf⟩ := hrel
    by_cases hlt : t < xs.length
    · obtain ⟨hb, hb2, k, zs, p, c, p2, c2, rfl, rfl, l1, l2, a0, a1, a2, a3, c0, c1, c2', c3, r1, r2⟩ := HA.out t hlt
      have hb0 : (0 : Int) ≤ (t : Int) := by omega
      have hb1 : (t : Int) < (xs.length : Int) := by omega
      have hl1 : hb < wr.heap.size := Nat.lt_of_lt_of_le l1 hf.out.size
      have hl2 : hb2 < wr.heap.size := Nat.lt_of_lt_of_le l2 hf.out.size
      have R1 := hid r1
      have R2 := hid r2
      have n0 : ∀ x : Nat, x ∉ ([] : List Nat) := fun _ => List.not_mem_nil
      have A0 := (hf.out.cell (p := ⟨hb, t * 4, none⟩) l1 (n0 _)).trans a0
      have A1 := (hf.out.cell (p := ⟨hb, t * 4 + 1, none⟩) l1 (n0 _)).trans a1
      have A2 := (hf.out.cell (p := ⟨hb, t * 4 + 2, none⟩) l1 (n0 _)).trans a2
      have A3 := (hf.out.cell (p := ⟨hb, t * 4 + 3, none⟩) l1 (n0 _)).trans a3
      have C0 := (hf.out.cell (p := ⟨hb2, t * 4, none⟩) l2 (n0 _)).trans c0
      have C1 := (hf.out.cell (p := ⟨hb2, t * 4 + 1, none⟩) l2 (n0 _)).trans c1
      have C2 := (hf.out.cell (p := ⟨hb2, t * 4 + 2, none⟩) l2 (n0 _)).trans c2'
      have C3 := (hf.out.cell (p := ⟨hb2, t * 4 + 3, none⟩) l2 (n0 _)).trans c3
      clear a0 a1 a2 a3 c0 c1 c2' c3 r1 r2
      have HO := hid (one_any k (.slice p zs.length c) (.slice p2 zs.length c2) wr.drew)
      go_wp2_with fail
      go_region_held3 (fun w' => w'.cell? ⟨hb, t * 4, none⟩ = some (.int .i64 1) ∧ w'.cell? ⟨hb, t * 4 + 1, none⟩ = some (.int .i64 k) ∧ w'.cell? ⟨hb, t * 4 + 2, none⟩ = some (.int .i64 0) ∧ w'.cell? ⟨hb, t * 4 + 3, none⟩ = some (.slice p zs.length c) ∧ w'.cell? ⟨hb2, t * 4, none⟩ = some (.int .i64 1) ∧ w'.cell? ⟨hb2, t * 4 + 1, none⟩ = some (.int .i64 k) ∧ w'.cell? ⟨hb2, t * 4 + 2, none⟩ = some (.int .i64 0) ∧ w'.cell? ⟨hb2, t * 4 + 3, none⟩ = some (.slice p2 zs.length c2)) (first | go_keep | (exact ⟨A0, A1, A2, A3, C0, C1, C2, C3⟩) | (exact ⟨(hf5.cell (p := ⟨hb, t * 4, none⟩) hl1 (n0 _)).trans A0, (hf5.cell (p := ⟨hb, t * 4 + 1, none⟩) hl1 (n0 _)).trans A1, (hf5.cell (p := ⟨hb, t * 4 + 2, none⟩) hl1 (n0 _)).trans A2, (hf5.cell (p := ⟨hb, t * 4 + 3, none⟩) hl1 (n0 _)).trans A3, (hf5.cell (p := ⟨hb2, t * 4, none⟩) hl2 (n0 _)).trans C0, (hf5.cell (p := ⟨hb2, t * 4 + 1, none⟩) hl2 (n0 _)).trans C1, (hf5.cell (p := ⟨hb2, t * 4 + 2, none⟩) hl2 (n0 _)).trans C2, (hf5.cell (p := ⟨hb2, t * 4 + 3, none⟩) hl2 (n0 _)).trans C3⟩)) (((with_reducible refine HO.out.mono ?_); rintro e w5 ⟨rfl, hf5⟩))
      have HF5 : Hid (Frm [] w w5) := (hf.out.drew).trans hf5 (by simp)
      have B3 := (hf5.cell (p := ⟨hb, t * 4 + 3, none⟩) hl1 (n0 _)).trans A3
      have D3 := (hf5.cell (p := ⟨hb2, t * 4 + 3, none⟩) hl2 (n0 _)).trans C3
      have hcv1 := fun n => cv_any (P := Try.prog) (w := w5.drewN n) 44 5 9 Try.underlying44 Try.underlying5 Try.underlying9 ((R1.out.kept HF5.out (by simp)).drewN n) c rfl
      have hcv2 := fun n => cv_any (P := Try.prog) (w := w5.drewN n) 44 5 9 Try.underlying44 Try.underlying5 Try.underlying9 ((R2.out.kept HF5.out (by simp)).drewN n) c2 rfl
      generalize strOfNums zs = S at hcv1 hcv2
      clear A0 A1 A2 A3 C0 C1 C2 C3 hf5
      go_wp2_with fail
      go_quiet (fail)
      clear hcv1 hcv2
      go_wp2_with fail
      go_roundw
      case rel => exact ⟨t + 1, by omega, by go_num, HF5.out.drewN nq⟩
      case measure => simp [intOf]; omega
    · obtain rfl : t = xs.length := by omega
      go_wp2_with fail
      go_returns
      exact ⟨rfl, hf.out⟩
end Go.Proofs.Ythifchkeapbfdaa
