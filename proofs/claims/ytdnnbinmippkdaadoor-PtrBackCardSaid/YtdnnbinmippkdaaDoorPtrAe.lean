/- How a pointer comes in. How an uberblock comes in. -/
import Derived.Test.YtdnnbinmippkdaaDoorPtrE
import Derived.Lib.SmallJoins
import Derived.Test.YtdnnbinmippkdaaDoorPtrG
namespace Go.Proofs.YtdnnbinmippkdaaDoor
section
open Go.ChangeShapes Go.WideShapes Go.ChangeAt Go.RowKit Go.Joins
set_option maxRecDepth 100000

theorem u64_bdQ {x : Int} (h : (Lit.int .u64 x).wf = true) : 0 ≤ x ∧ x < 18446744073709551616 := by
  simp [Lit.wf, IntKind.min, IntKind.max, IntKind.signed, IntKind.bits] at h
  omega
theorem ptr_came {H : Type} {enc : TypeId × Value → H} {W : World} {base : Nat} {spare : Nat → Bool} {held : Bool} {r : Reach} {b0 : Nat} {v : Value} {d : DataW H} {q : List MemPlace} (hv : Value.okWide Tryd.prog W r b0 26 v) (h : DataW.Trod enc Tryd.prog W base spare held 26 v d q) : ∃ p : P9, v = .agg p.arr ∧ p.ok := by
  obtain ⟨cs, rfl, hsz⟩ := okWide_struct Tryd.underlying26 hv
  have h9 : Tryd.prog.cellsOf 26 = 9 := by kernel_rfl
  have h4 : Tryd.prog.cellsOf 24 = 4 := by kernel_rfl
  have h1i : Tryd.prog.cellsOf 3 = 1 := by kernel_rfl
  have h1u : Tryd.prog.cellsOf 22 = 1 := by kernel_rfl
  rw [h9] at hsz
  obtain ⟨fuel, hf⟩ := h
  obtain ⟨xs, n, _, _, _, _, hF⟩ := DataW.trod_struct Tryd.underlying26 hf
  obtain ⟨l⟩ := cs
  match l, hsz with
  | [c0, c1, c2, c3, c4, c5, c6, c7, c8], _ =>
    have g0 := hF 0 _ rfl
    have g1 := hF 1 _ rfl
    have g2 := hF 2 _ rfl
    have g3 := hF 3 _ rfl
    have g4 := hF 4 _ rfl
    have g5 := hF 5 _ rfl
    have hx6 : xs.length = 6 := by assumption
    match xs, hx6 with
    | [x0, x1, x2, x3, x4, x5], _ =>
      simp [Value.cells, h1i, h1u, h4] at g0 g1 g2 g3 g4 g5
      obtain ⟨ys, m, _, _, _, hy, hG⟩ := DataW.trod_struct Tryd.underlying24 g5
      have k0 := hG 0 _ rfl
      have k1 := hG 1 _ rfl
      have k2 := hG 2 _ rfl
      have k3 := hG 3 _ rfl
      have hy4 : ys.length = 4 := by assumption
      match ys, hy4 with
      | [y0, y1, y2, y3], _ =>
        simp [h1u] at k0 k1 k2 k3
        obtain ⟨z0, e0, _, f0⟩ := DataW.trod_int Tryd.underlying3 g0
        obtain ⟨z1, e1, _, f1⟩ := DataW.trod_int Tryd.underlying3 g1
        obtain ⟨z2, e2, _, f2⟩ := DataW.trod_int Tryd.underlying3 g2
        obtain ⟨z3, e3, _, f3⟩ := DataW.trod_int Tryd.underlying22 g3
        obtain ⟨z4, e4, _, f4⟩ := DataW.trod_int Tryd.underlying3 g4
        obtain ⟨z5, e5, _, f5⟩ := DataW.trod_int Tryd.underlying22 k0
        obtain ⟨z6, e6, _, f6⟩ := DataW.trod_int Tryd.underlying22 k1
        obtain ⟨z7, e7, _, f7⟩ := DataW.trod_int Tryd.underlying22 k2
        obtain ⟨z8, e8, _, f8⟩ := DataW.trod_int Tryd.underlying22 k3
        simp only [List.cons.injEq, and_true] at e0 e1 e2 e3 e4 e5 e6 e7 e8
        subst e0 e1 e2 e3 e4 e5 e6 e7 e8
        exact ⟨⟨z0, z1, z2, z3, z4, z5, z6, z7, z8⟩, rfl, u64_bdQ f3, u64_bdQ f5, u64_bdQ f6, u64_bdQ f7, u64_bdQ f8⟩
end
section
open Go.ChangeShapes Go.WideShapes Go.ChangeAt Go.RowKit Go.Joins
set_option maxRecDepth 100000

theorem uber_came {H : Type} {enc : TypeId × Value → H} {W : World} {base : Nat} {spare : Nat → Bool} {held : Bool} {r : Reach} {b0 : Nat} {v : Value} {d : DataW H} {q : List MemPlace} (hv : Value.okWide Tryd.prog W r b0 45 v) (h : DataW.Trod enc Tryd.prog W base spare held 45 v d q) : ∃ u : U12, v = .agg u.arr ∧ u.ok := by
  obtain ⟨cs, rfl, hsz⟩ := okWide_struct Tryd.underlying45 hv
  have h12 : Tryd.prog.cellsOf 45 = 12 := by kernel_rfl
  have h9 : Tryd.prog.cellsOf 26 = 9 := by kernel_rfl
  have h4 : Tryd.prog.cellsOf 24 = 4 := by kernel_rfl
  have h1i : Tryd.prog.cellsOf 3 = 1 := by kernel_rfl
  have h1u : Tryd.prog.cellsOf 22 = 1 := by kernel_rfl
  rw [h12] at hsz
  obtain ⟨fuel, hf⟩ := h
  obtain ⟨us, m0, _, _, _, _, hE⟩ := DataW.trod_struct Tryd.underlying45 hf
  obtain ⟨l⟩ := cs
  match l, hsz with
  | [u0, u1, u2, c0, c1, c2, c3, c4, c5, c6, c7, c8], _ =>
    have r0 := hE 0 _ rfl
    have r1 := hE 1 _ rfl
    have r2 := hE 2 _ rfl
    have r3 := hE 3 _ rfl
    have hu4 : us.length = 4 := by assumption
    match us, hu4 with
    | [v0, v1, v2, v3], _ =>
      simp [Value.cells, h1u, h9] at r0 r1 r2 r3
      obtain ⟨zp, ep, _, fp⟩ := DataW.trod_int Tryd.underlying22 r0
      obtain ⟨zt, et, _, ft⟩ := DataW.trod_int Tryd.underlying22 r1
      obtain ⟨zn, en, _, fn⟩ := DataW.trod_int Tryd.underlying22 r2
      simp only [List.cons.injEq, and_true] at ep et en
      subst ep et en
      obtain ⟨xs, n, _, _, _, _, hF⟩ := DataW.trod_struct Tryd.underlying26 r3
      have g0 := hF 0 _ rfl
      have g1 := hF 1 _ rfl
      have g2 := hF 2 _ rfl
      have g3 := hF 3 _ rfl
      have g4 := hF 4 _ rfl
      have g5 := hF 5 _ rfl
      have hx6 : xs.length = 6 := by assumption
      match xs, hx6 with
      | [x0, x1, x2, x3, x4, x5], _ =>
        simp [h1i, h1u, h4] at g0 g1 g2 g3 g4 g5
        obtain ⟨ys, m, _, _, _, hy, hG⟩ := DataW.trod_struct Tryd.underlying24 g5
        have k0 := hG 0 _ rfl
        have k1 := hG 1 _ rfl
        have k2 := hG 2 _ rfl
        have k3 := hG 3 _ rfl
        have hy4 : ys.length = 4 := by assumption
        match ys, hy4 with
        | [y0, y1, y2, y3], _ =>
          simp [h1u] at k0 k1 k2 k3
          obtain ⟨z0, e0, _, f0⟩ := DataW.trod_int Tryd.underlying3 g0
          obtain ⟨z1, e1, _, f1⟩ := DataW.trod_int Tryd.underlying3 g1
          obtain ⟨z2, e2, _, f2⟩ := DataW.trod_int Tryd.underlying3 g2
          obtain ⟨z3, e3, _, f3⟩ := DataW.trod_int Tryd.underlying22 g3
          obtain ⟨z4, e4, _, f4⟩ := DataW.trod_int Tryd.underlying3 g4
          obtain ⟨z5, e5, _, f5⟩ := DataW.trod_int Tryd.underlying22 k0
          obtain ⟨z6, e6, _, f6⟩ := DataW.trod_int Tryd.underlying22 k1
          obtain ⟨z7, e7, _, f7⟩ := DataW.trod_int Tryd.underlying22 k2
          obtain ⟨z8, e8, _, f8⟩ := DataW.trod_int Tryd.underlying22 k3
          simp only [List.cons.injEq, and_true] at e0 e1 e2 e3 e4 e5 e6 e7 e8
          subst e0 e1 e2 e3 e4 e5 e6 e7 e8
          exact ⟨⟨zp, zt, zn, ⟨z0, z1, z2, z3, z4, z5, z6, z7, z8⟩⟩, rfl, u64_bdQ fp, u64_bdQ ft, u64_bdQ fn, u64_bdQ f3, u64_bdQ f5, u64_bdQ f6, u64_bdQ f7, u64_bdQ f8⟩
end
end Go.Proofs.YtdnnbinmippkdaaDoor
