/- The document's Open, of cells whose head tells no volume's size. -/
import Derived.Test.YthifchkeapbfdaaVolBm
namespace Go.Proofs.Ythifchkeapbfdaa
open Go.RowKit
set_option maxRecDepth 100000

theorem four_sum {zs : List Int} {S : Nat} (hS2 : S < 4294967296) (hS : le S 4 = zs) : ∃ z0 z1 z2 z3 : Int, zs = [z0, z1, z2, z3] ∧ (0 ≤ z0 ∧ z0 < 256) ∧ (0 ≤ z1 ∧ z1 < 256) ∧ (0 ≤ z2 ∧ z2 < 256) ∧ (0 ≤ z3 ∧ z3 < 256) ∧ z0 + 256 * (z1 + 256 * (z2 + 256 * z3)) = (S : Int) := by
  subst hS
  simp only [le, List.range_succ, List.range_zero, List.nil_append, List.cons_append, List.map_cons, List.map_nil, Nat.mul_zero, Nat.mul_one]
  have p1 : (2 : Int) ^ (0 : Nat) = 1 := by decide
  have p2 : (2 : Int) ^ (8 : Nat) = 256 := by decide
  have p3 : (2 : Int) ^ (8 * 2 : Nat) = 65536 := by decide
  have p4 : (2 : Int) ^ (8 * 3 : Nat) = 16777216 := by decide
  rw [p1, p2, p3, p4]
  exact ⟨_, _, _, _, rfl, by omega, by omega, by omega, by omega, by omega⟩
set_option maxHeartbeats 3200000 in
theorem refOpen_size (W0 w : World) (pp : Option Addr) (n pc : Nat) (xs : List GCell) (hc : CameG W0 pp n pc xs) (hW : Frm [] W0 w) (h0 : 0 < xs.length) (S : Nat) (hS2 : S < 4294967296) (hS : le S 4 = (xs[0]).zs) (hbad : S < 256 ∨ 16384 < S ∨ S % 256 ≠ 0) :
    Calls Try.prog 13 #[.slice pp n pc] w (PostRO xs w) := by
  have HNO : Hid (∀ bs, ¬ Opens xs bs) := hid (fun bs h => by
    cases xs with
    | nil => simp at h0
    | cons x0 xr =>
      have h3 := (opens_parts h).2.2.1
      simp only [List.getElem_cons_zero] at hS
      have hl : S = bs.length := leV_inj4 (by rw [hS, h3]) hS2 (by have := h.2.1; omega)
      have := h.1
      have := h.2.1
      have := h.2.2.1
      omega)
  have HC := hid hc
  have HW := hid hW
  obtain ⟨z0, z1, z2, z3, hz, l0, l1, l2, l3, hsum⟩ := four_sum hS2 hS
  have hn1 : 0 < n := by rw [← hc.1]; exact h0
  obtain ⟨g, o, rfl, hat⟩ : ∃ g o, pp = some ⟨g, o, none⟩ ∧ ∀ i (h : i < xs.length), GAt W0 g (o + i * 4) xs[i] := by
    rcases hc.2.2.2.2.1 with h | h
    · omega
    · exact h
  have hat0 := hat 0 h0
  rw [Nat.zero_mul, Nat.add_zero] at hat0
  have hrd : Rd W0 (xs[0]).p (xs[0]).zs := (hc.2.2.2.2.2 _ (List.getElem_mem h0)).2.2.2.1
  obtain ⟨g2, o2, hp2, hcl⟩ : ∃ g2 o2, (xs[0]).p = some ⟨g2, o2, none⟩ ∧ ∀ w', Frm [] w w' → w'.cell? ⟨g, o + 3, none⟩ = some (.slice (some ⟨g2, o2, none⟩) 4 (xs[0]).c) ∧ w'.cell? ⟨g2, o2, none⟩ = some (.int .u8 z0) ∧ w'.cell? ⟨g2, o2 + 1, none⟩ = some (.int .u8 z1) ∧ w'.cell? ⟨g2, o2 + 2, none⟩ = some (.int .u8 z2) ∧ w'.cell? ⟨g2, o2 + 3, none⟩ = some (.int .u8 z3) := by
    rw [hz] at hrd
    rcases hrd with h | ⟨g2, o2, e1, e2⟩
    · simp at h
    · refine ⟨g2, o2, e1, fun w' hf => ?_⟩
      have q := (hat0.kept (hW.trans hf (by simp))).2.2.2
      rw [hz, e1] at q
      have hfr := hW.trans hf (by simp)
      have r : ∀ j (hj : j < 4), w'.cell? ⟨g2, o2 + j, none⟩ = W0.cell? ⟨g2, o2 + j, none⟩ := fun j hj =>
        hfr.cell (p := ⟨g2, o2 + j, none⟩) (World.block_lt_of_cell? W0 _ (e2 j hj)) (by simp)
      exact ⟨q, (r 0 (by omega)).trans (e2 0 (by simp)), (r 1 (by omega)).trans (e2 1 (by simp)), (r 2 (by omega)).trans (e2 2 (by simp)), (r 3 (by omega)).trans (e2 3 (by simp))⟩
  have HCL := hid hcl
  have hbadI : ((S : Int) < 256 ∨ 16384 < (S : Int) ∨ (S : Int) % 256 ≠ 0) := by omega
  have HBI := hid hbadI
  obtain ⟨s, hs⟩ : ∃ s : Int, (S : Int) = s := ⟨_, rfl⟩
  rw [hs] at hsum HBI
  have hs2 : 0 ≤ s ∧ s < 4294967296 := by omega
  clear hbadI hcl hat hat0 hrd hc hW hS hbad hz hp2 hs hS2
  generalize (xs[0]).c = cz at HCL
  have hy1 : IntKind.i64.wrap (256 * z3) = 256 * z3 := IntWalk.i64_in _ (by omega)
  have hy2 : IntKind.i64.wrap (z2 + 256 * z3) = z2 + 256 * z3 := IntWalk.i64_in _ (by omega)
  have hy3 : IntKind.i64.wrap (256 * (z2 + 256 * z3)) = 256 * (z2 + 256 * z3) := IntWalk.i64_in _ (by omega)
  have hy4 : IntKind.i64.wrap (z1 + 256 * (z2 + 256 * z3)) = z1 + 256 * (z2 + 256 * z3) := IntWalk.i64_in _ (by omega)
  have hy5 : IntKind.i64.wrap (256 * (z1 + 256 * (z2 + 256 * z3))) = 256 * (z1 + 256 * (z2 + 256 * z3)) := IntWalk.i64_in _ (by omega)
  have hy6 : IntKind.i64.wrap (z0 + 256 * (z1 + 256 * (z2 + 256 * z3))) = s := by rw [hsum]; exact IntWalk.i64_in _ (by omega)
  have b0 : (0 : Int) < (n : Int) := by omega
  have b1 : ¬ (n : Int) < 1 := by omega
  have hX : IntKind.i64.wrap (IntKind.i64.wrap z0 + IntKind.i64.wrap (256 * IntKind.i64.wrap (IntKind.i64.wrap z1 + IntKind.i64.wrap (256 * IntKind.i64.wrap (IntKind.i64.wrap z2 + IntKind.i64.wrap (256 * IntKind.i64.wrap z3)))))) = s := by
    rw [IntWalk.i64_in z0 (by omega), IntWalk.i64_in z1 (by omega), IntWalk.i64_in z2 (by omega), IntWalk.i64_in z3 (by omega), hy1, hy2, hy3, hy4, hy5, hy6]
  have HX := hid hX
  clear hsum hX hy1 hy2 hy3 hy4 hy5 hy6
  go_enter Try.func13, Try.ntmps13
  go_wp2_with fail
  refine (content_any W0 w (some ⟨g, o, none⟩) n pc xs HC.out HW.out).mono ?_
  rintro e w1 ⟨hf1, h⟩
  have HF1 := hid hf1
  have HP : Hid (∀ w', Frm [] w w' → PostRO xs w (.returned (.tuple #[.pointer none, .int .i64 190])) w') := hid (fun w' q => ⟨q, Or.inr ⟨rfl, HNO.out⟩⟩)
  obtain ⟨k3, c0, c1, c2, c3⟩ := HCL.out w1 hf1
  clear hf1
  rcases h with ⟨rfl, _⟩ | ⟨rfl, _⟩
  · have HRB := hid (refVNew_bad (IntKind.i64.wrap (IntKind.i64.wrap z0 + IntKind.i64.wrap (256 * IntKind.i64.wrap (IntKind.i64.wrap z1 + IntKind.i64.wrap (256 * IntKind.i64.wrap (IntKind.i64.wrap z2 + IntKind.i64.wrap (256 * IntKind.i64.wrap z3))))))) (by rw [HX.out]; exact HBI.out) w1.drew)
    clear HNO HC HW HCL HBI h0
    go_wp2_with fail
    go_region_held3 (fun w' => w'.cell? ⟨g2, o2, none⟩ = some (.int .u8 z0) ∧ w'.cell? ⟨g2, o2 + 1, none⟩ = some (.int .u8 z1) ∧ w'.cell? ⟨g2, o2 + 2, none⟩ = some (.int .u8 z2) ∧ w'.cell? ⟨g2, o2 + 3, none⟩ = some (.int .u8 z3)) (first | go_keep | (exact ⟨c0, c1, c2, c3⟩)) (((with_reducible refine HRB.out.mono ?_); rintro e w5 ⟨rfl, rfl⟩))
    go_wp2_with fail
    go_returns
    exact HP.out _ (by first | exact HF1.out.drew | exact HF1.out.drewN _)
  · clear HNO HC HW HCL HBI h0
    go_wp2_with fail
    go_returns
    exact HP.out _ HF1.out
end Go.Proofs.Ythifchkeapbfdaa
