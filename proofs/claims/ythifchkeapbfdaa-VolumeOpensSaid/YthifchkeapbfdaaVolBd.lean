/- The document's helper Same, of any cells. -/
import Derived.Test.YthifchkeapbfdaaVolBc
namespace Go.Proofs.Ythifchkeapbfdaa
open Go.RowKit
set_option maxRecDepth 100000

/-- Cells that can be read. -/
def GRd (w : World) (pp : Option Addr) (xs : List GCell) : Prop := ∀ t (h : t < xs.length), ∃ g o, pp = some ⟨g, o, none⟩ ∧ g < w.heap.size ∧ GAt w g (o + t * 4) xs[t] ∧ Rd w xs[t].p xs[t].zs
theorem CameG.rd {w w' : World} {pp : Option Addr} {n c : Nat} {xs : List GCell} (h : CameG w pp n c xs) (hf : Frm [] w w') : GRd w' pp xs := fun t ht => by
  rcases h.2.2.2.2.1 with h0 | ⟨g, o, rfl, h1⟩
  · have := h.1; omega
  · have h2 := (h1 t ht).kept hf
    exact ⟨g, o, rfl, World.block_lt_of_cell? w' _ h2.1, h2, ((h.2.2.2.2.2 _ (List.getElem_mem ht)).kept hf).2.2.2.1⟩
theorem GOwn.rd {lo : Nat} {w : World} {pp : Option Addr} {pc : Nat} {ys : List GCell} (h : GOwn lo w pp pc ys) : GRd w pp ys := fun t ht => by
  obtain ⟨hb, rfl⟩ : ∃ hb, pp = some ⟨hb, 0, none⟩ := by
    rcases h.row.2 with ⟨_, h0⟩ | ⟨g, c, cur, he, _⟩
    · omega
    · simp only [Value.slice.injEq] at he
      exact ⟨g, he.1⟩
  have hc : ∀ j, j < 4 → w.cell? ⟨hb, 0 + t * 4 + j, none⟩ = (gRow ys[t])[j]? := by
    intro j hj
    rw [Nat.zero_add, World.ownsRow.cellAt h.row (t * 4 + j) (by omega), gRows_at _ t ht j hj]
  exact ⟨hb, 0, rfl, World.block_lt_of_cell? w _ (hc 0 (by omega)), ⟨hc 0 (by omega), hc 1 (by omega), hc 2 (by omega), hc 3 (by omega)⟩, (h.dat _ (List.getElem_mem ht)).rd⟩
set_option maxHeartbeats 400000 in
theorem oneG_any (a k b : Int) (u v : Value) (w : World) :
    Calls Try.prog 21 #[.agg #[.int .i64 a, .int .i64 k, .int .i64 b, u], .agg #[.int .i64 a, .int .i64 k, .int .i64 b, v]] w fun e w' => e = .returned (.bool true) ∧ Frm [] w w' := by
  have hf : Frm [] w ((w.alloc (.cells #[.int .i64 a, .int .i64 k, .int .i64 b, u] 57)).alloc (.cells #[.int .i64 a, .int .i64 k, .int .i64 b, v] 57)) := ((Frm.refl _ _).alloc _).alloc _
  have HF := hid hf
  clear hf
  go_enter Try.func21, Try.ntmps21
  go_wp2_with fail
  go_returns
  exact ⟨by simp, HF.out⟩
set_option maxHeartbeats 1600000 in
theorem sameG_any (pp pp2 : Option Addr) (pc pc2 n : Nat) (xs ys : List GCell) (w : World) (hn : xs.length = n) (h1 : GRd w pp xs) (h2 : GRd w pp2 ys) (he : xs.map gsay = ys.map gsay) (hl : n ≤ 9223372036854775807) :
    Calls Try.prog 11 #[.slice pp n pc, .slice pp2 n pc2] w fun e w' => e = .returned (.bool true) ∧ Frm [] w w' := by
  have hlen : xs.length = ys.length := by have := congrArg List.length he; simpa using this
  have HA : Hid (∀ t, (ht : t < n) → ∃ hb o1 hb2 o2 ka k kb zs p c p2 c2, pp = some ⟨hb, o1, none⟩ ∧ pp2 = some ⟨hb2, o2, none⟩ ∧ hb < w.heap.size ∧ hb2 < w.heap.size ∧ w.cell? ⟨hb, o1 + t * 4, none⟩ = some (.int .i64 ka) ∧ w.cell? ⟨hb, o1 + t * 4 + 1, none⟩ = some (.int .i64 k) ∧ w.cell? ⟨hb, o1 + t * 4 + 2, none⟩ = some (.int .i64 kb) ∧ w.cell? ⟨hb, o1 + t * 4 + 3, none⟩ = some (.slice p zs.length c) ∧
      w.cell? ⟨hb2, o2 + t * 4, none⟩ = some (.int .i64 ka) ∧ w.cell? ⟨hb2, o2 + t * 4 + 1, none⟩ = some (.int .i64 k) ∧ w.cell? ⟨hb2, o2 + t * 4 + 2, none⟩ = some (.int .i64 kb) ∧ w.cell? ⟨hb2, o2 + t * 4 + 3, none⟩ = some (.slice p2 zs.length c2) ∧ Rd w p zs ∧ Rd w p2 zs) := by
    intro t ht
    obtain ⟨hb, o1, e1, b1, ⟨a0, a1, a2, a3⟩, a4⟩ := h1 t (by omega)
    obtain ⟨hb2, o2, e2, b2, ⟨c0, c1, c2, c3⟩, c4⟩ := h2 t (by omega)
    have hk : gsay xs[t] = gsay ys[t] := by
      have h3 : (xs.map gsay)[t]? = (ys.map gsay)[t]? := by rw [he]
      simpa [show t < xs.length by omega, show t < ys.length by omega] using h3
    simp only [gsay, Prod.mk.injEq] at hk
    obtain ⟨q1, q2, q3, q4⟩ := hk
    rw [← q1] at c0
    rw [← q2] at c1
    rw [← q3] at c2
    rw [← q4] at c3 c4
    exact ⟨hb, o1, hb2, o2, _, _, _, _, _, _, _, _, e1, e2, b1, b2, a0, a1, a2, a3, c0, c1, c2, c3, a4, c4⟩
  clear hn hlen
  clear h1 h2 he
  go_enter Try.func11, Try.ntmps11
  go_wp2_with fail
  go_loopw [5] (fun i wr => ∃ t : Nat, t ≤ n ∧ i = .int .i64 t ∧ Hid (Frm [] w wr)) (fun i _ => n - (intOf i).toNat)
  case atStart => exact ⟨0, Nat.zero_le _, rfl, Frm.refl _ _⟩
  case round =>
    obtain ⟨t, ht, rfl, hf⟩ := hrel
    by_cases hlt : t < n
    · obtain ⟨hb, o1, hb2, o2, ka, k, kb, zs, p, c, p2, c2, rfl, rfl, l1, l2, a0, a1, a2, a3, c0, c1, c2', c3, r1, r2⟩ := HA.out t hlt
      have hb0 : (0 : Int) ≤ (t : Int) := by omega
      have hb1 : (t : Int) < (n : Int) := by omega
      have hl1 : hb < wr.heap.size := Nat.lt_of_lt_of_le l1 hf.out.size
      have hl2 : hb2 < wr.heap.size := Nat.lt_of_lt_of_le l2 hf.out.size
      have R1 := hid r1
      have R2 := hid r2
      have n0 : ∀ x : Nat, x ∉ ([] : List Nat) := fun _ => List.not_mem_nil
      have A0 := (hf.out.cell (p := ⟨hb, o1 + t * 4, none⟩) l1 (n0 _)).trans a0
      have A1 := (hf.out.cell (p := ⟨hb, o1 + t * 4 + 1, none⟩) l1 (n0 _)).trans a1
      have A2 := (hf.out.cell (p := ⟨hb, o1 + t * 4 + 2, none⟩) l1 (n0 _)).trans a2
      have A3 := (hf.out.cell (p := ⟨hb, o1 + t * 4 + 3, none⟩) l1 (n0 _)).trans a3
      have C0 := (hf.out.cell (p := ⟨hb2, o2 + t * 4, none⟩) l2 (n0 _)).trans c0
      have C1 := (hf.out.cell (p := ⟨hb2, o2 + t * 4 + 1, none⟩) l2 (n0 _)).trans c1
      have C2 := (hf.out.cell (p := ⟨hb2, o2 + t * 4 + 2, none⟩) l2 (n0 _)).trans c2'
      have C3 := (hf.out.cell (p := ⟨hb2, o2 + t * 4 + 3, none⟩) l2 (n0 _)).trans c3
      clear a0 a1 a2 a3 c0 c1 c2' c3 r1 r2
      have HO := hid (oneG_any ka k kb (.slice p zs.length c) (.slice p2 zs.length c2) wr.drew)
      go_wp2_with fail
      go_region_held3 (fun w' => w'.cell? ⟨hb, o1 + t * 4, none⟩ = some (.int .i64 ka) ∧ w'.cell? ⟨hb, o1 + t * 4 + 1, none⟩ = some (.int .i64 k) ∧ w'.cell? ⟨hb, o1 + t * 4 + 2, none⟩ = some (.int .i64 kb) ∧ w'.cell? ⟨hb, o1 + t * 4 + 3, none⟩ = some (.slice p zs.length c) ∧ w'.cell? ⟨hb2, o2 + t * 4, none⟩ = some (.int .i64 ka) ∧ w'.cell? ⟨hb2, o2 + t * 4 + 1, none⟩ = some (.int .i64 k) ∧ w'.cell? ⟨hb2, o2 + t * 4 + 2, none⟩ = some (.int .i64 kb) ∧ w'.cell? ⟨hb2, o2 + t * 4 + 3, none⟩ = some (.slice p2 zs.length c2)) (first | go_keep | (exact ⟨A0, A1, A2, A3, C0, C1, C2, C3⟩) | (exact ⟨(hf5.cell (p := ⟨hb, o1 + t * 4, none⟩) hl1 (n0 _)).trans A0, (hf5.cell (p := ⟨hb, o1 + t * 4 + 1, none⟩) hl1 (n0 _)).trans A1, (hf5.cell (p := ⟨hb, o1 + t * 4 + 2, none⟩) hl1 (n0 _)).trans A2, (hf5.cell (p := ⟨hb, o1 + t * 4 + 3, none⟩) hl1 (n0 _)).trans A3, (hf5.cell (p := ⟨hb2, o2 + t * 4, none⟩) hl2 (n0 _)).trans C0, (hf5.cell (p := ⟨hb2, o2 + t * 4 + 1, none⟩) hl2 (n0 _)).trans C1, (hf5.cell (p := ⟨hb2, o2 + t * 4 + 2, none⟩) hl2 (n0 _)).trans C2, (hf5.cell (p := ⟨hb2, o2 + t * 4 + 3, none⟩) hl2 (n0 _)).trans C3⟩)) (((with_reducible refine HO.out.mono ?_); rintro e w5 ⟨rfl, hf5⟩))
      have HF5 : Hid (Frm [] w w5) := (hf.out.drew).trans hf5 (by simp)
      have B3 := (hf5.cell (p := ⟨hb, o1 + t * 4 + 3, none⟩) hl1 (n0 _)).trans A3
      have D3 := (hf5.cell (p := ⟨hb2, o2 + t * 4 + 3, none⟩) hl2 (n0 _)).trans C3
      have hcv1 := fun n => cv_any (P := Try.prog) (w := w5.drewN n) 44 5 9 Try.underlying44 Try.underlying5 Try.underlying9 ((R1.out.kept HF5.out (by simp)).drewN n) c rfl
      have hcv2 := fun n => cv_any (P := Try.prog) (w := w5.drewN n) 44 5 9 Try.underlying44 Try.underlying5 Try.underlying9 ((R2.out.kept HF5.out (by simp)).drewN n) c2 rfl
      generalize strOfNums zs = S at hcv1 hcv2
      clear A0 A1 A2 A3 C0 C1 C2 C3 hf5
      go_wp2_with fail
      go_quiet (fail)
      clear hcv1 hcv2
      go_wp2_with fail
      go_roundw
      case rel => exact ⟨t + 1, by omega, by go_num, HF5.out.drewN nq⟩
      case measure => simp [intOf]; omega
    · obtain rfl : t = n := by omega
      go_wp2_with fail
      go_returns
      exact ⟨rfl, hf.out⟩
end Go.Proofs.Ythifchkeapbfdaa
