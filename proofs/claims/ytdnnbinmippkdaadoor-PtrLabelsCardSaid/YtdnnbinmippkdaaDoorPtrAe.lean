/- How a pointer comes in. How an uberblock comes in. How a label comes in. -/
import Derived.Test.YtdnnbinmippkdaaDoorPtrE
import Derived.Lib.SmallJoins
import Derived.Test.YtdnnbinmippkdaaDoorPtrG
import Derived.Test.YtdnnbinmippkdaaDoorPtrI
import Derived.Test.YtdnnbinmippkdaaDoorRowC
namespace Go.Proofs.YtdnnbinmippkdaaDoor
section
section
open Go.ChangeShapes Go.WideShapes Go.ChangeAt Go.RowKit Go.Joins
set_option maxRecDepth 100000

theorem u64_bdQ {x : Int} (h : (Lit.int .u64 x).wf = true) : 0 ≤ x ∧ x < 18446744073709551616 := by
  simp [Lit.wf, IntKind.min, IntKind.max, IntKind.signed, IntKind.bits] at h
  omega
theorem ptr_came {H : Type} {enc : TypeId × Value → H} {W : World} {base : Nat} {spare : Nat → Bool} {held : Bool} {r : Reach} {b0 : Nat} {v : Value} {d : DataW H} {q : List MemPlace} (hv : Value.okWide Tryd.prog W r b0 26 v) (h : DataW.Trod enc Tryd.prog W base spare held 26 v d q) : ∃ p : P9, v = .agg p.arr ∧ p.ok := by
  obtain ⟨cs, rfl, hsz⟩ := okWide_struct Tryd.underlying26 hv
  have h9 : Tryd.prog.cellsOf 26 = 9 := by kernel_rfl
  have h4 : Tryd.prog.cellsOf 24 = 4 := by kernel_rfl
  have h1i : Tryd.prog.cellsOf 3 = 1 := by kernel_rfl
  have h1u : Tryd.prog.cellsOf 22 = 1 := by kernel_rfl
  rw [h9] at hsz
  obtain ⟨fuel, hf⟩ := h
  obtain ⟨xs, n, _, _, _, _, hF⟩ := DataW.trod_struct Tryd.underlying26 hf
  obtain ⟨l⟩ := cs
  match l, hsz with
  | [c0, c1, c2, c3, c4, c5, c6, c7, c8], _ =>
    have g0 := hF 0 _ rfl
    have g1 := hF 1 _ rfl
    have g2 := hF 2 _ rfl
    have g3 := hF 3 _ rfl
    have g4 := hF 4 _ rfl
    have g5 := hF 5 _ rfl
    have hx6 : xs.length = 6 := by assumption
    match xs, hx6 with
    | [x0, x1, x2, x3, x4, x5], _ =>
      simp [Value.cells, h1i, h1u, h4] at g0 g1 g2 g3 g4 g5
      obtain ⟨ys, m, _, _, _, hy, hG⟩ := DataW.trod_struct Tryd.underlying24 g5
      have k0 := hG 0 _ rfl
      have k1 := hG 1 _ rfl
      have k2 := hG 2 _ rfl
      have k3 := hG 3 _ rfl
      have hy4 : ys.length = 4 := by assumption
      match ys, hy4 with
      | [y0, y1, y2, y3], _ =>
        simp [h1u] at k0 k1 k2 k3
        obtain ⟨z0, e0, _, f0⟩ := DataW.trod_int Tryd.underlying3 g0
        obtain ⟨z1, e1, _, f1⟩ := DataW.trod_int Tryd.underlying3 g1
        obtain ⟨z2, e2, _, f2⟩ := DataW.trod_int Tryd.underlying3 g2
        obtain ⟨z3, e3, _, f3⟩ := DataW.trod_int Tryd.underlying22 g3
        obtain ⟨z4, e4, _, f4⟩ := DataW.trod_int Tryd.underlying3 g4
        obtain ⟨z5, e5, _, f5⟩ := DataW.trod_int Tryd.underlying22 k0
        obtain ⟨z6, e6, _, f6⟩ := DataW.trod_int Tryd.underlying22 k1
        obtain ⟨z7, e7, _, f7⟩ := DataW.trod_int Tryd.underlying22 k2
        obtain ⟨z8, e8, _, f8⟩ := DataW.trod_int Tryd.underlying22 k3
        simp only [List.cons.injEq, and_true] at e0 e1 e2 e3 e4 e5 e6 e7 e8
        subst e0 e1 e2 e3 e4 e5 e6 e7 e8
        exact ⟨⟨z0, z1, z2, z3, z4, z5, z6, z7, z8⟩, rfl, u64_bdQ f3, u64_bdQ f5, u64_bdQ f6, u64_bdQ f7, u64_bdQ f8⟩
end
section
open Go.ChangeShapes Go.WideShapes Go.ChangeAt Go.RowKit Go.Joins
set_option maxRecDepth 100000

theorem uber_came {H : Type} {enc : TypeId × Value → H} {W : World} {base : Nat} {spare : Nat → Bool} {held : Bool} {r : Reach} {b0 : Nat} {v : Value} {d : DataW H} {q : List MemPlace} (hv : Value.okWide Tryd.prog W r b0 45 v) (h : DataW.Trod enc Tryd.prog W base spare held 45 v d q) : ∃ u : U12, v = .agg u.arr ∧ u.ok := by
  obtain ⟨cs, rfl, hsz⟩ := okWide_struct Tryd.underlying45 hv
  have h12 : Tryd.prog.cellsOf 45 = 12 := by kernel_rfl
  have h9 : Tryd.prog.cellsOf 26 = 9 := by kernel_rfl
  have h4 : Tryd.prog.cellsOf 24 = 4 := by kernel_rfl
  have h1i : Tryd.prog.cellsOf 3 = 1 := by kernel_rfl
  have h1u : Tryd.prog.cellsOf 22 = 1 := by kernel_rfl
  rw [h12] at hsz
  obtain ⟨fuel, hf⟩ := h
  obtain ⟨us, m0, _, _, _, _, hE⟩ := DataW.trod_struct Tryd.underlying45 hf
  obtain ⟨l⟩ := cs
  match l, hsz with
  | [u0, u1, u2, c0, c1, c2, c3, c4, c5, c6, c7, c8], _ =>
    have r0 := hE 0 _ rfl
    have r1 := hE 1 _ rfl
    have r2 := hE 2 _ rfl
    have r3 := hE 3 _ rfl
    have hu4 : us.length = 4 := by assumption
    match us, hu4 with
    | [v0, v1, v2, v3], _ =>
      simp [Value.cells, h1u, h9] at r0 r1 r2 r3
      obtain ⟨zp, ep, _, fp⟩ := DataW.trod_int Tryd.underlying22 r0
      obtain ⟨zt, et, _, ft⟩ := DataW.trod_int Tryd.underlying22 r1
      obtain ⟨zn, en, _, fn⟩ := DataW.trod_int Tryd.underlying22 r2
      simp only [List.cons.injEq, and_true] at ep et en
      subst ep et en
      obtain ⟨xs, n, _, _, _, _, hF⟩ := DataW.trod_struct Tryd.underlying26 r3
      have g0 := hF 0 _ rfl
      have g1 := hF 1 _ rfl
      have g2 := hF 2 _ rfl
      have g3 := hF 3 _ rfl
      have g4 := hF 4 _ rfl
      have g5 := hF 5 _ rfl
      have hx6 : xs.length = 6 := by assumption
      match xs, hx6 with
      | [x0, x1, x2, x3, x4, x5], _ =>
        simp [h1i, h1u, h4] at g0 g1 g2 g3 g4 g5
        obtain ⟨ys, m, _, _, _, hy, hG⟩ := DataW.trod_struct Tryd.underlying24 g5
        have k0 := hG 0 _ rfl
        have k1 := hG 1 _ rfl
        have k2 := hG 2 _ rfl
        have k3 := hG 3 _ rfl
        have hy4 : ys.length = 4 := by assumption
        match ys, hy4 with
        | [y0, y1, y2, y3], _ =>
          simp [h1u] at k0 k1 k2 k3
          obtain ⟨z0, e0, _, f0⟩ := DataW.trod_int Tryd.underlying3 g0
          obtain ⟨z1, e1, _, f1⟩ := DataW.trod_int Tryd.underlying3 g1
          obtain ⟨z2, e2, _, f2⟩ := DataW.trod_int Tryd.underlying3 g2
          obtain ⟨z3, e3, _, f3⟩ := DataW.trod_int Tryd.underlying22 g3
          obtain ⟨z4, e4, _, f4⟩ := DataW.trod_int Tryd.underlying3 g4
          obtain ⟨z5, e5, _, f5⟩ := DataW.trod_int Tryd.underlying22 k0
          obtain ⟨z6, e6, _, f6⟩ := DataW.trod_int Tryd.underlying22 k1
          obtain ⟨z7, e7, _, f7⟩ := DataW.trod_int Tryd.underlying22 k2
          obtain ⟨z8, e8, _, f8⟩ := DataW.trod_int Tryd.underlying22 k3
          simp only [List.cons.injEq, and_true] at e0 e1 e2 e3 e4 e5 e6 e7 e8
          subst e0 e1 e2 e3 e4 e5 e6 e7 e8
          exact ⟨⟨zp, zt, zn, ⟨z0, z1, z2, z3, z4, z5, z6, z7, z8⟩⟩, rfl, u64_bdQ fp, u64_bdQ ft, u64_bdQ fn, u64_bdQ f3, u64_bdQ f5, u64_bdQ f6, u64_bdQ f7, u64_bdQ f8⟩
end
end
section
open Go.ChangeShapes Go.WideShapes Go.ChangeAt Go.RowKit Go.Deep
set_option maxRecDepth 100000

theorem list_ofT {α : Type} {P : Nat → α → Prop} (n : Nat) (h : ∀ i, i < n → ∃ x, P i x) : ∃ xs : List α, xs.length = n ∧ ∀ i (hi : i < xs.length), P i xs[i] := by
  induction n with
  | zero => exact ⟨[], rfl, fun i hi => absurd hi (by simp)⟩
  | succ n ih =>
    obtain ⟨xs, hl, hx⟩ := ih (fun i hi => h i (by omega))
    obtain ⟨x, hp⟩ := h n (by omega)
    refine ⟨xs ++ [x], by simp [hl], fun i hi => ?_⟩
    by_cases hlt : i < xs.length
    · rw [List.getElem_append_left hlt]; exact hx i hlt
    · have hi2 : i = xs.length := by simp at hi; omega
      subst hi2
      rw [List.getElem_append_right (Nat.le_refl _)]
      simpa [hl] using hp
section
variable {H : Type} {enc : TypeId × Value → H} {W : World}
theorem cellsT : Tryd.prog.cellsOf 39 = 3 := by kernel_rfl
theorem bytesT3 : Tryd.prog.bytesOf 39 = 24 := by kernel_rfl
theorem cellsT1 : Tryd.prog.cellsOf 3 = 1 := by kernel_rfl
def tRow (t : T3) : List Value := [.int .i64 t.kind, .int .i64 t.leaves, .int .i64 t.sectors]
theorem cameT_cell {fuel : Nat} {cs : List Value} {x : DataW H × List MemPlace} (h : DataW.trod enc Tryd.prog W 0 (fun _ => true) true fuel 39 cs = some x) (hlen : cs.length = 3) : ∃ t : T3, cs = tRow t := by
  obtain ⟨xs, k, _, hxe, _, hxl, hf⟩ := DataW.trod_struct Tryd.underlying39 h
  match cs, hlen with
  | [c0, c1, c2], _ =>
    match xs, hxl with
    | [y0, y1, y2], _ =>
      have f0 := hf 0 _ rfl
      have f1 := hf 1 _ rfl
      have f2 := hf 2 _ rfl
      simp [cellsT1] at f0 f1 f2
      obtain ⟨a, e0, _, _⟩ := DataW.trod_int Tryd.underlying3 f0
      obtain ⟨k, e1, _, _⟩ := DataW.trod_int Tryd.underlying3 f1
      obtain ⟨b, e2, _, _⟩ := DataW.trod_int Tryd.underlying3 f2
      simp only [List.cons.injEq, and_true] at e0 e1 e2
      subst e0 e1 e2
      exact ⟨⟨a, k, b⟩, rfl⟩
theorem cameT_cells {fuel : Nat} {cs : List Value} {x : DataW H × List MemPlace} (h : DataW.trod enc Tryd.prog W 0 (fun _ => true) true fuel 35 cs = some x) (hw : ∀ n ∈ x.1.weights Tryd.prog 35, n ≤ reachBytes) :
    ∃ p len cap, cs = [.slice p len cap] ∧ ∃ ts : List T3, ts.length = len ∧ RdT W p ts ∧ len ≤ cap ∧ cap ≤ 9223372036854775807 ∧ len ≤ 5864062014634 ∧ (ts = [] → p = none → cap = 0) := by
  have hroom := fun p len cap he => slice_room Tryd.underlying35 h hw p len cap he
  rcases open_slice Tryd.underlying35 h with ⟨hcs, _⟩ | ⟨a, len, cap, m, n, D, Pl, rfl, hb, hl, hm, hmm, rfl, hx⟩
  · exact ⟨none, 0, 0, hcs, [], rfl, Or.inl rfl, by omega, by omega, by omega, fun _ _ => rfl⟩
  · have hr := hroom (some a) len cap rfl
    rw [bytesT3] at hr
    refine ⟨some a, len, cap, rfl, ?_⟩
    simp only [if_true] at hmm
    subst hmm
    have each : ∀ i, i < len → ∃ t : T3, ∀ k v, (tRow t)[k]? = some v → W.cell? ((a.add (i * 3)).add k) = some v := by
      intro i hi
      obtain ⟨cs', h1, h2⟩ := hx i (by omega)
      rw [cellsT] at h1
      obtain ⟨_, hlen, hcell⟩ := World.cells?_some h1
      obtain ⟨t, rfl⟩ := cameT_cell h2 hlen
      refine ⟨t, fun k v hv => ?_⟩
      have hk : k < 3 := by have := (List.getElem?_eq_some_iff.1 hv).1; simpa [tRow] using this
      rw [hcell k hk]
      exact hv
    obtain ⟨ts, hxl, hxs⟩ := list_ofT len each
    refine ⟨ts, hxl, ?_, hl, by unfold maxLen at hm; omega, by omega, fun _ h => by cases h⟩
    by_cases h0 : len = 0
    · exact Or.inl (List.eq_nil_of_length_eq_zero (by omega))
    · have hs : a.spot = none := by
        have h1 := hxs 0 (by omega)
        exact spot_of_cell (by have := h1 0 _ rfl; simpa [Addr.add] using this)
      refine Or.inr ⟨a.block, a.off, by obtain ⟨g, o, sp⟩ := a; simp only at hs; subst hs; rfl, fun i hi => ?_⟩
      have h1 := hxs i hi
      have at' : ∀ k v, (tRow ts[i])[k]? = some v → W.cell? ⟨a.block, a.off + i * 3 + k, none⟩ = some v := by
        intro k v hv
        have := h1 k v hv
        rw [add_of hs, add_of rfl] at this
        simpa [Nat.add_assoc] using this
      have hg : ts.getD i default = ts[i] := by rw [List.getD_eq_getElem?_getD, List.getElem?_eq_getElem hi]; rfl
      rw [hg]
      exact ⟨at' 0 _ rfl, at' 1 _ rfl, at' 2 _ rfl⟩
theorem label_came {b0 : Nat} {v : Value} {d : DataW H} {q : List MemPlace} (hv : Value.okWide Tryd.prog W .any b0 37 v) (h : DataW.Trod enc Tryd.prog W 0 (fun _ => true) true 37 v d q) (hw : ∀ n ∈ d.weights Tryd.prog 37, n ≤ reachBytes) :
    ∃ l : LabV, v = .agg l.arr ∧ l.ok W ∧ l.n ≤ 5864062014634 ∧ (l.ts = [] → l.p = none → l.c = 0) := by
  obtain ⟨cs, rfl, hsz⟩ := okWide_struct Tryd.underlying37 hv
  have h4 : Tryd.prog.cellsOf 37 = 4 := by kernel_rfl
  have hs1 : Tryd.prog.cellsOf 35 = 1 := by kernel_rfl
  have h1u : Tryd.prog.cellsOf 22 = 1 := by kernel_rfl
  rw [h4] at hsz
  obtain ⟨fuel, hf⟩ := h
  obtain ⟨xs, n, _, hxe, _, hxl, hF⟩ := DataW.trod_struct Tryd.underlying37 hf
  obtain ⟨l⟩ := cs
  match l, hsz with
  | [c0, c1, c2, c3], _ =>
    have g0 := hF 0 _ rfl
    have g1 := hF 1 _ rfl
    have g2 := hF 2 _ rfl
    have g3 := hF 3 _ rfl
    match xs, hxl with
    | [x0, x1, x2, x3], _ =>
      simp [Value.cells, cellsT1, h1u, hs1] at g0 g1 g2 g3
      obtain ⟨z0, e0, _, f0⟩ := DataW.trod_int Tryd.underlying22 g0
      obtain ⟨p, len, cap, e1, ts, t1, t2, t3, t4, t5, t6⟩ := cameT_cells g1 (fun n hn => hw n (by
        rw [(Prod.mk.inj hxe).1]
        simp only [DataW.weights, Tryd.underlying37]
        exact DataW.weights_mem_each (j := 1) rfl rfl n hn))
      obtain ⟨z2, e2, _, f2⟩ := DataW.trod_int Tryd.underlying3 g2
      obtain ⟨z3, e3, _, f3⟩ := DataW.trod_int Tryd.underlying3 g3
      simp only [List.cons.injEq, and_true] at e0 e1 e2 e3
      subst e0 e1 e2 e3
      exact ⟨⟨z0, p, len, cap, z2, z3, ts⟩, rfl, ⟨t1, t2, t3, t4, u64_bdQ f0, i64_bd f2⟩, t5, t6⟩
end
end
end Go.Proofs.YtdnnbinmippkdaaDoor
