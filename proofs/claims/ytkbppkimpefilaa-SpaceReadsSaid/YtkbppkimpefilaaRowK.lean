/- Opening the arguments of the statements: lists of calls. -/
import Derived.Test.YtkbppkimpefilaaRowC
namespace Go.Proofs.Ytkbppkimpefilaa
set_option maxRecDepth 100000
open Go.ChangeShapes Go.WideShapes Go.ChangeAt Go.RowKit Go.Deep
section
variable {H : Type} {enc : TypeId × Value → H} {W : World}
/-- One call's fields. -/
structure CallD where
  kind : Int
  n : Int
  many : Int
  p : Option Addr
  bl : Nat
  bc : Nat
  s : ByteArray
def CallAt (w : World) (g o : Nat) (d : CallD) : Prop :=
  w.cell? ⟨g, o, none⟩ = some (.int .i64 d.kind) ∧ w.cell? ⟨g, o + 1, none⟩ = some (.int .u64 d.n) ∧ w.cell? ⟨g, o + 2, none⟩ = some (.int .i64 d.many) ∧ w.cell? ⟨g, o + 3, none⟩ = some (.slice d.p d.bl d.bc) ∧ w.cell? ⟨g, o + 4, none⟩ = some (.string d.s)
def CallOk (w : World) (d : CallD) : Prop :=
  (-9223372036854775808 ≤ d.kind ∧ d.kind ≤ 9223372036854775807) ∧ (0 ≤ d.n ∧ d.n < 18446744073709551616) ∧ (-9223372036854775808 ≤ d.many ∧ d.many ≤ 9223372036854775807) ∧ Came w d.p d.bl d.bc ∧ d.s.size ≤ maxLen
theorem cellsU : Try.prog.cellsOf 63 = 1 := by kernel_rfl
/-- A list of calls that came in. -/
def CameL (w : World) (p : Option Addr) (len cap : Nat) : Prop :=
  len ≤ cap ∧ cap ≤ 9223372036854775807 ∧ ((len = 0 ∧ (p = none → cap = 0)) ∨ ∃ g o, p = some ⟨g, o, none⟩ ∧ ∀ i, i < len → ∃ d, CallAt w g (o + i * 5) d ∧ CallOk w d)
end
theorem CallAt.kept {w w' : World} {g o : Nat} {d : CallD} (h : CallAt w g o d) (hf : Frm [] w w') : CallAt w' g o d := by
  obtain ⟨h0, h1, h2, h3, h4⟩ := h
  have hl := World.block_lt_of_cell? w _ h0
  exact ⟨(hf.cell (p := ⟨g, o, none⟩) hl (by simp)).trans h0, (hf.cell (p := ⟨g, o + 1, none⟩) hl (by simp)).trans h1, (hf.cell (p := ⟨g, o + 2, none⟩) hl (by simp)).trans h2, (hf.cell (p := ⟨g, o + 3, none⟩) hl (by simp)).trans h3, (hf.cell (p := ⟨g, o + 4, none⟩) hl (by simp)).trans h4⟩
theorem CallOk.kept {w w' : World} {d : CallD} (h : CallOk w d) (hf : Frm [] w w') : CallOk w' d := ⟨h.1, h.2.1, h.2.2.1, h.2.2.2.1.kept hf, h.2.2.2.2⟩
theorem CameL.kept {w w' : World} {p : Option Addr} {len cap : Nat} (h : CameL w p len cap) (hf : Frm [] w w') : CameL w' p len cap := by
  refine ⟨h.1, h.2.1, ?_⟩
  rcases h.2.2 with h' | ⟨g, o, rfl, h'⟩
  · exact Or.inl h'
  · refine Or.inr ⟨g, o, rfl, fun i hi => ?_⟩
    obtain ⟨d, h1, h2⟩ := h' i hi
    exact ⟨d, h1.kept hf, h2.kept hf⟩
end Go.Proofs.Ytkbppkimpefilaa
