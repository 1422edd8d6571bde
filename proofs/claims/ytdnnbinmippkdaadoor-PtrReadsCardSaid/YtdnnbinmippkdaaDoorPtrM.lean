/- Contracts of package ptr: what is taken up of a pointer. -/
import Derived.Test.YtdnnbinmippkdaaDoorPtrL
namespace Go.Proofs.YtdnnbinmippkdaaDoor
open Go.RowKit
set_option maxRecDepth 100000

/-- The pointer that stands at a place. -/
def rdP (bs : List Int) (pos : Nat) : P9 := ⟨valAt bs pos 1, valAt bs (pos + 4) 4, valAt bs (pos + 2) 2, valAt bs (pos + 8) 8, valAt bs (pos + 1) 1, valAt bs (pos + 16) 8, valAt bs (pos + 24) 8, valAt bs (pos + 32) 8, valAt bs (pos + 40) 8⟩
def zeroP : Array Value := #[.int .i64 0, .int .i64 0, .int .i64 0, .int .u64 0, .int .i64 0, .int .u64 0, .int .u64 0, .int .u64 0, .int .u64 0]
set_option maxHeartbeats 3200000 in
theorem getPtr_any (b g pos : Nat) (bs : List Int) (hb : ∀ z ∈ bs, 0 ≤ z ∧ z < 256) (w : World) (hw : IsR w b g bs pos 0) (hp : pos + 48 ≤ bs.length) :
    Calls Tryd.prog 44 #[.pointer (some ⟨b, 0, none⟩)] w fun e w' => e = .returned (.tuple #[.agg (rdP bs pos).arr, .bool true]) ∧ IsR w' b g bs (pos + 48) 0 ∧ Frm [b] w w' := by
  have HN := hid (fun q k W (h : IsR W b g bs q 0) (h1 : 1 ≤ k) (h8 : k ≤ 8) (hq : q + k ≤ bs.length) => num_take b g q bs hb k W h h1 h8 hq)
  have HS := hid (fun q W (h : IsR W b g bs q 0) (hq : q + 32 ≤ bs.length) => getSum_any b g q bs hb W h hq)
  have HG := hid (GP.born (T := 26) zeroP hw)
  clear hw
  have hsum : ∀ (q : Nat), ∃ v, valAt bs q 8 = v := fun q => ⟨_, rfl⟩
  unfold rdP P9.arr
  obtain ⟨v0, e0⟩ : ∃ v, valAt bs pos 1 = v := ⟨_, rfl⟩
  have E0 := hid e0
  obtain ⟨l0, u0⟩ := valAt_bd hb pos 1 (by omega)
  rw [e0] at l0 u0 ⊢
  simp only [Nat.reduceMul, Int.reducePow] at u0
  clear e0
  obtain ⟨v1, e1⟩ : ∃ v, valAt bs (pos + 1) 1 = v := ⟨_, rfl⟩
  have E1 := hid e1
  obtain ⟨l1, u1⟩ := valAt_bd hb (pos + 1) 1 (by omega)
  rw [e1] at l1 u1 ⊢
  simp only [Nat.reduceMul, Int.reducePow] at u1
  clear e1
  obtain ⟨v2, e2⟩ : ∃ v, valAt bs (pos + 2) 2 = v := ⟨_, rfl⟩
  have E2 := hid e2
  obtain ⟨l2, u2⟩ := valAt_bd hb (pos + 2) 2 (by omega)
  rw [e2] at l2 u2 ⊢
  simp only [Nat.reduceMul, Int.reducePow] at u2
  clear e2
  obtain ⟨v3, e3⟩ : ∃ v, valAt bs (pos + 4) 4 = v := ⟨_, rfl⟩
  have E3 := hid e3
  obtain ⟨l3, u3⟩ := valAt_bd hb (pos + 4) 4 (by omega)
  rw [e3] at l3 u3 ⊢
  simp only [Nat.reduceMul, Int.reducePow] at u3
  clear e3
  obtain ⟨v4, e4⟩ : ∃ v, valAt bs (pos + 8) 8 = v := ⟨_, rfl⟩
  have E4 := hid e4
  obtain ⟨l4, u4⟩ := valAt_bd hb (pos + 8) 8 (by omega)
  rw [e4] at l4 u4 ⊢
  simp only [Nat.reduceMul, Int.reducePow] at u4
  clear e4
  obtain ⟨s0, d0⟩ : ∃ v, valAt bs (pos + 16) 8 = v := ⟨_, rfl⟩
  rw [d0]
  have D0 := hid d0
  clear d0
  obtain ⟨s1, d1⟩ : ∃ v, valAt bs (pos + 24) 8 = v := ⟨_, rfl⟩
  rw [d1]
  have D1 := hid d1
  clear d1
  obtain ⟨s2, d2⟩ : ∃ v, valAt bs (pos + 32) 8 = v := ⟨_, rfl⟩
  rw [d2]
  have D2 := hid d2
  clear d2
  obtain ⟨s3, d3⟩ : ∃ v, valAt bs (pos + 40) 8 = v := ⟨_, rfl⟩
  rw [d3]
  have D3 := hid d3
  clear d3
  clear hb hsum
  go_enter Tryd.func44, Tryd.ntmps44
  go_wp2_with fail
  unfold zeroP at HG
  obtain ⟨rb, hrb⟩ : ∃ rb, w.heap.size = rb := ⟨_, rfl⟩
  obtain ⟨wa, hwa⟩ : ∃ wa, (w.alloc (.cells #[.int .i64 0, .int .i64 0, .int .i64 0, .int .u64 0, .int .i64 0, .int .u64 0, .int .u64 0, .int .u64 0, .int .u64 0] 26)).alloc (.cells #[.int .i64 0, .int .i64 0, .int .i64 0, .int .u64 0, .int .i64 0, .int .u64 0, .int .u64 0, .int .u64 0, .int .u64 0] 26) = wa := ⟨_, rfl⟩
  rw [hwa, hrb] at HG
  rw [hwa, hrb]
  clear hwa hrb
  have h0 := HN.out pos 1 _ HG.out.rd (by omega) (by omega) (by omega)
  rw [E0.out] at h0
  refine h0.mono ?_
  rintro e w0 ⟨rfl, hr, hf⟩
  have A0 := HG.out.call hr hf
  have q0 : w0.cell? ⟨rb + 1, 0, none⟩ = some (.int .i64 0) := A0.cell 0
  have z0 := A0.froz 0
  have G0 := hid (A0.set 0 (.int .i64 v0) rfl)
  clear h0 hr hf A0 HG
  go_wp2_with fail
  clear q0 z0
  have h1 := HN.out (pos + 1) 1 _ G0.out.rd (by omega) (by omega) (by omega)
  rw [E1.out] at h1
  refine h1.mono ?_
  rintro e w1 ⟨rfl, hr, hf⟩
  have A1 := G0.out.call hr hf
  have q1 : w1.cell? ⟨rb + 1, 4, none⟩ = some (.int .i64 0) := A1.cell 4
  have z1 := A1.froz 4
  have G1 := hid (A1.set 4 (.int .i64 v1) rfl)
  clear h1 hr hf A1 G0
  go_wp2_with fail
  clear q1 z1
  have h2 := HN.out (pos + 2) 2 _ G1.out.rd (by omega) (by omega) (by omega)
  rw [E2.out] at h2
  refine h2.mono ?_
  rintro e w2 ⟨rfl, hr, hf⟩
  have A2 := G1.out.call hr hf
  have q2 : w2.cell? ⟨rb + 1, 2, none⟩ = some (.int .i64 0) := A2.cell 2
  have z2 := A2.froz 2
  have G2 := hid (A2.set 2 (.int .i64 v2) rfl)
  clear h2 hr hf A2 G1
  go_wp2_with fail
  clear q2 z2
  have h3 := HN.out (pos + 4) 4 _ G2.out.rd (by omega) (by omega) (by omega)
  rw [E3.out] at h3
  refine h3.mono ?_
  rintro e w3 ⟨rfl, hr, hf⟩
  have A3 := G2.out.call hr hf
  have q3 : w3.cell? ⟨rb + 1, 1, none⟩ = some (.int .i64 0) := A3.cell 1
  have z3 := A3.froz 1
  have G3 := hid (A3.set 1 (.int .i64 v3) rfl)
  clear h3 hr hf A3 G2
  go_wp2_with fail
  clear q3 z3
  have h4 := HN.out (pos + 8) 8 _ G3.out.rd (by omega) (by omega) (by omega)
  rw [E4.out] at h4
  refine h4.mono ?_
  rintro e w4 ⟨rfl, hr, hf⟩
  have A4 := G3.out.call hr hf
  have q4 : w4.cell? ⟨rb + 1, 3, none⟩ = some (.int .u64 0) := A4.cell 3
  have z4 := A4.froz 3
  have G4 := hid (A4.set 3 (.int .u64 v4) rfl)
  clear h4 hr hf A4 G3
  go_wp2_with fail
  clear q4 z4
  have h5 := HS.out (pos + 16) _ G4.out.rd (by omega)
  rw [D0.out, show pos + 16 + 8 = pos + 24 by omega, show pos + 16 + 16 = pos + 32 by omega, show pos + 16 + 24 = pos + 40 by omega, D1.out, D2.out, D3.out] at h5
  refine h5.mono ?_
  rintro e w5 ⟨rfl, hr, hf⟩
  have A5 := G4.out.call hr hf
  have p0 : w5.cell? ⟨rb + 1, 0, none⟩ = some (.int .i64 v0) := A5.cell 0
  have z0 := A5.froz 0
  have r0 : w5.cell? ⟨rb, 0, none⟩ = some (.int .i64 0) := A5.cellR 0
  have y0 := A5.frozR 0
  have p1 : w5.cell? ⟨rb + 1, 1, none⟩ = some (.int .i64 v3) := A5.cell 1
  have z1 := A5.froz 1
  have r1 : w5.cell? ⟨rb, 1, none⟩ = some (.int .i64 0) := A5.cellR 1
  have y1 := A5.frozR 1
  have p2 : w5.cell? ⟨rb + 1, 2, none⟩ = some (.int .i64 v2) := A5.cell 2
  have z2 := A5.froz 2
  have r2 : w5.cell? ⟨rb, 2, none⟩ = some (.int .i64 0) := A5.cellR 2
  have y2 := A5.frozR 2
  have p3 : w5.cell? ⟨rb + 1, 3, none⟩ = some (.int .u64 v4) := A5.cell 3
  have z3 := A5.froz 3
  have r3 : w5.cell? ⟨rb, 3, none⟩ = some (.int .u64 0) := A5.cellR 3
  have y3 := A5.frozR 3
  have p4 : w5.cell? ⟨rb + 1, 4, none⟩ = some (.int .i64 v1) := A5.cell 4
  have z4 := A5.froz 4
  have r4 : w5.cell? ⟨rb, 4, none⟩ = some (.int .i64 0) := A5.cellR 4
  have y4 := A5.frozR 4
  have p5 : w5.cell? ⟨rb + 1, 5, none⟩ = some (.int .u64 0) := A5.cell 5
  have z5 := A5.froz 5
  have r5 : w5.cell? ⟨rb, 5, none⟩ = some (.int .u64 0) := A5.cellR 5
  have y5 := A5.frozR 5
  have p6 : w5.cell? ⟨rb + 1, 6, none⟩ = some (.int .u64 0) := A5.cell 6
  have z6 := A5.froz 6
  have r6 : w5.cell? ⟨rb, 6, none⟩ = some (.int .u64 0) := A5.cellR 6
  have y6 := A5.frozR 6
  have p7 : w5.cell? ⟨rb + 1, 7, none⟩ = some (.int .u64 0) := A5.cell 7
  have z7 := A5.froz 7
  have r7 : w5.cell? ⟨rb, 7, none⟩ = some (.int .u64 0) := A5.cellR 7
  have y7 := A5.frozR 7
  have p8 : w5.cell? ⟨rb + 1, 8, none⟩ = some (.int .u64 0) := A5.cell 8
  have z8 := A5.froz 8
  have r8 : w5.cell? ⟨rb, 8, none⟩ = some (.int .u64 0) := A5.cellR 8
  have y8 := A5.frozR 8
  have G5 := hid ((((A5.set 5 (.int .u64 s0) rfl).set 6 (.int .u64 s1) rfl).set 7 (.int .u64 s2) rfl).set 8 (.int .u64 s3) rfl)
  clear h5 hr hf A5 G4
  go_wp2_with fail
  obtain ⟨w6, hw6⟩ : ∃ w6, (((w5.setCell ⟨rb + 1, 5, none⟩ (.int .u64 s0)).setCell ⟨rb + 1, 6, none⟩ (.int .u64 s1)).setCell ⟨rb + 1, 7, none⟩ (.int .u64 s2)).setCell ⟨rb + 1, 8, none⟩ (.int .u64 s3) = w6 := ⟨_, rfl⟩
  rw [hw6] at G5 ⊢
  obtain ⟨h4, f4⟩ := sets_row rb 26 [(0, .int .i64 v0), (1, .int .i64 v3), (2, .int .i64 v2), (3, .int .u64 v4), (4, .int .i64 v1), (5, .int .u64 s0), (6, .int .u64 s1), (7, .int .u64 s2), (8, .int .u64 s3)] w6 _ G5.out.rr
  obtain ⟨wz, hwz⟩ : ∃ wz, sets w6 rb [(0, .int .i64 v0), (1, .int .i64 v3), (2, .int .i64 v2), (3, .int .u64 v4), (4, .int .i64 v1), (5, .int .u64 s0), (6, .int .u64 s1), (7, .int .u64 s2), (8, .int .u64 s3)] = wz := ⟨_, rfl⟩
  rw [hwz] at h4 f4
  simp only [List.foldl, List.setIfInBounds_toArray, List.set_cons_zero, List.set_cons_succ] at h4
  have hwz' : ((((((((w6.setCell ⟨rb, 0, none⟩ (.int .i64 v0)).setCell ⟨rb, 1, none⟩ (.int .i64 v3)).setCell ⟨rb, 2, none⟩ (.int .i64 v2)).setCell ⟨rb, 3, none⟩ (.int .u64 v4)).setCell ⟨rb, 4, none⟩ (.int .i64 v1)).setCell ⟨rb, 5, none⟩ (.int .u64 s0)).setCell ⟨rb, 6, none⟩ (.int .u64 s1)).setCell ⟨rb, 7, none⟩ (.int .u64 s2)).setCell ⟨rb, 8, none⟩ (.int .u64 s3) = wz := hwz
  rw [hwz']
  have g0 : wz.cell? ⟨rb, 0, none⟩ = some (.int .i64 v0) := by rw [cell_of_row wz _ _ _ _ _ h4]; rfl
  have g1 : wz.cell? ⟨rb, 1, none⟩ = some (.int .i64 v3) := by rw [cell_of_row wz _ _ _ _ _ h4]; rfl
  have g2 : wz.cell? ⟨rb, 2, none⟩ = some (.int .i64 v2) := by rw [cell_of_row wz _ _ _ _ _ h4]; rfl
  have g3 : wz.cell? ⟨rb, 3, none⟩ = some (.int .u64 v4) := by rw [cell_of_row wz _ _ _ _ _ h4]; rfl
  have g4 : wz.cell? ⟨rb, 4, none⟩ = some (.int .i64 v1) := by rw [cell_of_row wz _ _ _ _ _ h4]; rfl
  have g5 : wz.cell? ⟨rb, 5, none⟩ = some (.int .u64 s0) := by rw [cell_of_row wz _ _ _ _ _ h4]; rfl
  have g6 : wz.cell? ⟨rb, 6, none⟩ = some (.int .u64 s1) := by rw [cell_of_row wz _ _ _ _ _ h4]; rfl
  have g7 : wz.cell? ⟨rb, 7, none⟩ = some (.int .u64 s2) := by rw [cell_of_row wz _ _ _ _ _ h4]; rfl
  have g8 : wz.cell? ⟨rb, 8, none⟩ = some (.int .u64 s3) := by rw [cell_of_row wz _ _ _ _ _ h4]; rfl
  have gb := G5.out.hb
  have gg := G5.out.hg
  have gr := G5.out.hr
  refine bodyPost_ret (v := .tuple #[.agg #[.int .i64 v0, .int .i64 v3, .int .i64 v2, .int .u64 v4, .int .i64 v1, .int .u64 s0, .int .u64 s1, .int .u64 s2, .int .u64 s3], .bool true]) (by simp [results, Tryd.results44, go_sem, g0, g1, g2, g3, g4, g5, g6, g7, g8]) rfl ⟨rfl, G5.out.rd.kept f4 (by simp; omega) (by simp; omega), G5.out.fr.trans f4 (fun i hi hl => by simp at hi; omega)⟩
end Go.Proofs.YtdnnbinmippkdaaDoor
