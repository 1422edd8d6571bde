/- Opening the arguments of layer 19's statements: lists of operations. -/
import Derived.Test.YthifchkeapbfdaaRowG
namespace Go.Proofs.Ythifchkeapbfdaa
set_option maxRecDepth 100000
open Go.ChangeShapes Go.WideShapes Go.ChangeAt Go.RowKit Go.Deep
section
variable {H : Type} {enc : TypeId × Value → H} {W : World}
/-- One operation's fields. -/
structure OpD where
  kind : Int
  at_ : Int
  many : Int
  p : Option Addr
  bl : Nat
  bc : Nat
def opCells (d : OpD) : List Value := [.int .i64 d.kind, .int .i64 d.at_, .int .i64 d.many, .slice d.p d.bl d.bc]
def OpAt (w : World) (g o : Nat) (d : OpD) : Prop :=
  w.cell? ⟨g, o, none⟩ = some (.int .i64 d.kind) ∧ w.cell? ⟨g, o + 1, none⟩ = some (.int .i64 d.at_) ∧ w.cell? ⟨g, o + 2, none⟩ = some (.int .i64 d.many) ∧ w.cell? ⟨g, o + 3, none⟩ = some (.slice d.p d.bl d.bc)
def OpOk (w : World) (d : OpD) : Prop :=
  (-9223372036854775808 ≤ d.kind ∧ d.kind ≤ 9223372036854775807) ∧ (-9223372036854775808 ≤ d.at_ ∧ d.at_ ≤ 9223372036854775807) ∧ (-9223372036854775808 ≤ d.many ∧ d.many ≤ 9223372036854775807) ∧ Came w d.p d.bl d.bc
theorem cellsOp : Try.prog.cellsOf 55 = 4 := by kernel_rfl
/-- A list of operations that came in. -/
def CameO (w : World) (p : Option Addr) (len cap : Nat) : Prop :=
  len ≤ cap ∧ cap ≤ 9223372036854775807 ∧ ((len = 0 ∧ (p = none → cap = 0)) ∨ ∃ g o, p = some ⟨g, o, none⟩ ∧ ∀ i, i < len → ∃ d, OpAt w g (o + i * 4) d ∧ OpOk w d)
/-- One operation, wherever it stands. -/
theorem cameOp_cells {fuel : Nat} {cs : List Value} {x : DataW H × List MemPlace} (h : DataW.trod enc Try.prog W 0 (fun _ => true) true fuel 55 cs = some x) (hlen : cs.length = 4) :
    ∃ d, cs = opCells d ∧ OpOk W d := by
  obtain ⟨xs, k, _, _, _, hxl, hf⟩ := DataW.trod_struct Try.underlying55 h
  match cs, hlen with
  | [c0, c1, c2, c3], _ =>
    match xs, hxl with
    | [y0, y1, y2, y3], _ =>
      have f0 := hf 0 _ rfl
      have f1 := hf 1 _ rfl
      have f2 := hf 2 _ rfl
      have f3 := hf 3 _ rfl
      simp [cellsI, cellsB] at f0 f1 f2 f3
      obtain ⟨kind, e0, _, w0⟩ := DataW.trod_int Try.underlying3 f0
      obtain ⟨a, e1, _, w1⟩ := DataW.trod_int Try.underlying3 f1
      obtain ⟨many, e2, _, w2⟩ := DataW.trod_int Try.underlying3 f2
      obtain ⟨p, bl, bc, e3, w3⟩ := came_cells f3
      simp only [List.cons.injEq, and_true] at e0 e1 e2 e3
      subst e0 e1 e2 e3
      exact ⟨⟨kind, a, many, p, bl, bc⟩, rfl, i64_bd w0, i64_bd w1, i64_bd w2, w3⟩
theorem cameO_cells {fuel : Nat} {cs : List Value} {x : DataW H × List MemPlace} (h : DataW.trod enc Try.prog W 0 (fun _ => true) true fuel 22 cs = some x) :
    ∃ p len cap, cs = [.slice p len cap] ∧ CameO W p len cap := by
  rcases open_slice Try.underlying22 h with ⟨hcs, _⟩ | ⟨a, len, cap, m, n, D, Pl, rfl, hb, hl, hm, hmm, rfl, hx⟩
  · exact ⟨none, 0, 0, hcs, by omega, by omega, Or.inl ⟨rfl, fun _ => rfl⟩⟩
  · refine ⟨some a, len, cap, rfl, hl, by unfold maxLen at hm; omega, ?_⟩
    simp only [if_true] at hmm
    subst hmm
    by_cases h0 : len = 0
    · exact Or.inl ⟨h0, by simp⟩
    · have each : ∀ i, i < len → ∃ d, (∀ k v, (opCells d)[k]? = some v → W.cell? ((a.add (i * 4)).add k) = some v) ∧ OpOk W d := by
        intro i hi
        obtain ⟨cs', h1, h2⟩ := hx i (by omega)
        rw [cellsOp] at h1
        obtain ⟨_, hlen, hcell⟩ := World.cells?_some h1
        obtain ⟨d, rfl, hok⟩ := cameOp_cells h2 hlen
        refine ⟨d, fun k v hv => ?_, hok⟩
        have hk : k < 4 := by have := (List.getElem?_eq_some_iff.1 hv).1; simpa [opCells] using this
        rw [hcell k hk]
        exact hv
      have hs : a.spot = none := by
        obtain ⟨d, h1, _⟩ := each 0 (by omega)
        exact spot_of_cell (by have := h1 0 _ rfl; simpa [Addr.add] using this)
      refine Or.inr ⟨a.block, a.off, by obtain ⟨g, o, sp⟩ := a; simp only at hs; subst hs; rfl, fun i hi => ?_⟩
      obtain ⟨d, h1, h2⟩ := each i hi
      refine ⟨d, ?_, h2⟩
      have at' : ∀ k v, (opCells d)[k]? = some v → W.cell? ⟨a.block, a.off + i * 4 + k, none⟩ = some v := by
        intro k v hv
        have := h1 k v hv
        rw [add_of hs, add_of rfl] at this
        simpa [Nat.add_assoc] using this
      exact ⟨at' 0 _ rfl, at' 1 _ rfl, at' 2 _ rfl, at' 3 _ rfl⟩
end
theorem OpAt.kept {w w' : World} {g o : Nat} {d : OpD} (h : OpAt w g o d) (hf : Frm [] w w') : OpAt w' g o d := by
  obtain ⟨h0, h1, h2, h3⟩ := h
  have hl := World.block_lt_of_cell? w _ h0
  exact ⟨(hf.cell (p := ⟨g, o, none⟩) hl (by simp)).trans h0, (hf.cell (p := ⟨g, o + 1, none⟩) hl (by simp)).trans h1, (hf.cell (p := ⟨g, o + 2, none⟩) hl (by simp)).trans h2, (hf.cell (p := ⟨g, o + 3, none⟩) hl (by simp)).trans h3⟩
theorem OpOk.kept {w w' : World} {d : OpD} (h : OpOk w d) (hf : Frm [] w w') : OpOk w' d := ⟨h.1, h.2.1, h.2.2.1, h.2.2.2.kept hf⟩
theorem CameO.kept {w w' : World} {p : Option Addr} {len cap : Nat} (h : CameO w p len cap) (hf : Frm [] w w') : CameO w' p len cap := by
  refine ⟨h.1, h.2.1, ?_⟩
  rcases h.2.2 with h' | ⟨g, o, rfl, h'⟩
  · exact Or.inl h'
  · refine Or.inr ⟨g, o, rfl, fun i hi => ?_⟩
    obtain ⟨d, h1, h2⟩ := h' i hi
    exact ⟨d, h1.kept hf, h2.kept hf⟩
end Go.Proofs.Ythifchkeapbfdaa
