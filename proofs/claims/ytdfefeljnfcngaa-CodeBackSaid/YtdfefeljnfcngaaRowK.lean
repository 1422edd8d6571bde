/- Opening the arguments of the statements: numbers, bytes, lists of calls. -/
import Derived.Test.YtdfefeljnfcngaaRows
import Derived.Test.YtdfefeljnfcngaaBase
import Derived.ProofKit
import Derived.OpenShut
import Derived.ChangeOld
import Derived.Deep.Slices
namespace Go.Proofs.Ytdfefeljnfcngaa
set_option maxRecDepth 100000
open Go.ChangeShapes Go.WideShapes Go.ChangeAt Go.RowKit Go.Deep

theorem own : ownKnob Try.prog.godebug = none := by kernel_rfl
theorem laidOut : laidOutB Try.prog = true := by kernel_rfl
theorem u64_bd {x : Int} (h : (Lit.int .u64 x).wf = true) : 0 ≤ x ∧ x < 18446744073709551616 := by
  simp [Lit.wf, IntKind.min, IntKind.max, IntKind.signed, IntKind.bits] at h; omega
theorem i64_bd {x : Int} (h : (Lit.int .i64 x).wf = true) : -9223372036854775808 ≤ x ∧ x ≤ 9223372036854775807 := by
  simp [Lit.wf, IntKind.min, IntKind.max, IntKind.signed, IntKind.bits] at h; omega
theorem u8_bd {x : Int} (h : (Lit.int .u8 x).wf = true) : 0 ≤ x ∧ x < 256 := by
  simp [Lit.wf, IntKind.min, IntKind.max, IntKind.signed, IntKind.bits] at h; omega
/-- A slice of bytes that came in: the bytes that it shows. -/
def Came (w : World) (p : Option Addr) (len cap : Nat) : Prop := ∃ ns : List Int, ns.length = len ∧ Rd w p ns ∧ (∀ z ∈ ns, 0 ≤ z ∧ z < 256) ∧ (ns = [] → p = none → cap = 0) ∧ len ≤ cap ∧ cap ≤ 9223372036854775807
theorem spot_of_cell {w : World} {x : Addr} {v : Value} (h : w.cell? x = some v) : x.spot = none := by
  unfold World.cell? at h
  split at h
  · by_cases hs : x.spot.isSome = true
    · simp [hs] at h
    · simpa using hs
  · cases h
theorem came_of {w : World} {x : Addr} {len cap : Nat} {zs : List Int} (hl : len ≤ cap) (hm : cap ≤ maxLen) (hz : zs.length = cap) (hcell : ∀ i, i < zs.length → w.cell? (x.add i) = some (.int .u8 (zs.getD i 0))) (hwf : ∀ n ∈ zs, (Lit.int .u8 n).wf = true) : Came w (some x) len cap := by
  refine ⟨zs.take len, by simp; omega, ?_, fun z hz => u8_bd (hwf z (List.mem_of_mem_take hz)), by simp, hl, by unfold maxLen at hm; omega⟩
  by_cases h0 : len = 0
  · exact Or.inl (by simp [h0])
  · have hs : x.spot = none := spot_of_cell (by have := hcell 0 (by omega); simpa [Addr.add] using this)
    obtain ⟨g, o, sp⟩ := x
    simp only at hs
    subst hs
    refine Or.inr ⟨g, o, rfl, fun i hi => ?_⟩
    simp at hi
    have h := hcell i (by omega)
    rw [show (⟨g, o, none⟩ : Addr).add i = ⟨g, o + i, none⟩ by unfold Addr.add; split <;> simp_all] at h
    have h2 : i < zs.length := by omega
    rw [h]; simp [List.getD, hi, h2]
section
variable {H : Type} {enc : TypeId × Value → H} {W : World}
/-- A slice of bytes, wherever it stands. -/
theorem came_cells {fuel : Nat} {cs : List Value} {x : DataW H × List MemPlace} (h : DataW.trod enc Try.prog W 0 (fun _ => true) true fuel 22 cs = some x) :
    ∃ p len cap, cs = [.slice p len cap] ∧ Came W p len cap := by
  rcases open_ints Try.underlying22 Try.underlying5 (by kernel_rfl) h with ⟨hcs, _⟩ | ⟨x, l, c, zs, hcs, _, hl, hm, hz, _, hcell, hwz⟩
  · exact ⟨none, 0, 0, hcs, [], rfl, Or.inl rfl, by simp, fun _ _ => rfl, by omega, by omega⟩
  · exact ⟨some x, l, c, hcs, came_of hl hm (by simpa using hz) hcell hwz⟩
/-- One call's fields. -/
structure CallD where
  kind : Int
  n : Int
  many : Int
  p : Option Addr
  bl : Nat
  bc : Nat
  s : ByteArray
def CallAt (w : World) (g o : Nat) (d : CallD) : Prop :=
  w.cell? ⟨g, o, none⟩ = some (.int .i64 d.kind) ∧ w.cell? ⟨g, o + 1, none⟩ = some (.int .u64 d.n) ∧ w.cell? ⟨g, o + 2, none⟩ = some (.int .i64 d.many) ∧ w.cell? ⟨g, o + 3, none⟩ = some (.slice d.p d.bl d.bc) ∧ w.cell? ⟨g, o + 4, none⟩ = some (.string d.s)
def CallOk (w : World) (d : CallD) : Prop :=
  (-9223372036854775808 ≤ d.kind ∧ d.kind ≤ 9223372036854775807) ∧ (0 ≤ d.n ∧ d.n < 18446744073709551616) ∧ (-9223372036854775808 ≤ d.many ∧ d.many ≤ 9223372036854775807) ∧ Came w d.p d.bl d.bc ∧ d.s.size ≤ maxLen
theorem cellsI : Try.prog.cellsOf 3 = 1 := by kernel_rfl
theorem cellsU : Try.prog.cellsOf 30 = 1 := by kernel_rfl
theorem cellsB : Try.prog.cellsOf 22 = 1 := by kernel_rfl
theorem cellsS : Try.prog.cellsOf 9 = 1 := by kernel_rfl
theorem cellsCall : Try.prog.cellsOf 32 = 5 := by kernel_rfl
/-- A list of calls that came in. -/
def CameL (w : World) (p : Option Addr) (len cap : Nat) : Prop :=
  len ≤ cap ∧ cap ≤ 9223372036854775807 ∧ ((len = 0 ∧ (p = none → cap = 0)) ∨ ∃ g o, p = some ⟨g, o, none⟩ ∧ ∀ i, i < len → ∃ d, CallAt w g (o + i * 5) d ∧ CallOk w d)
theorem add_of {x : Addr} (hs : x.spot = none) (i : Nat) : x.add i = ⟨x.block, x.off + i, none⟩ := by
  obtain ⟨g, o, sp⟩ := x
  simp only at hs
  subst hs
  unfold Addr.add; split <;> simp_all
theorem cameL_cells {fuel : Nat} {cs : List Value} {x : DataW H × List MemPlace} (h : DataW.trod enc Try.prog W 0 (fun _ => true) true fuel 23 cs = some x) :
    ∃ p len cap, cs = [.slice p len cap] ∧ CameL W p len cap := by
  rcases open_slice Try.underlying23 h with ⟨hcs, _⟩ | ⟨a, len, cap, m, n, D, Pl, rfl, hb, hl, hm, hmm, rfl, hx⟩
  · exact ⟨none, 0, 0, hcs, by omega, by omega, Or.inl ⟨rfl, fun _ => rfl⟩⟩
  · refine ⟨some a, len, cap, rfl, hl, by unfold maxLen at hm; omega, ?_⟩
    simp only [if_true] at hmm
    subst hmm
    by_cases h0 : len = 0
    · exact Or.inl ⟨h0, by simp⟩
    · have each : ∀ i, i < len → ∃ d, (∀ k v, [Value.int .i64 d.kind, .int .u64 d.n, .int .i64 d.many, .slice d.p d.bl d.bc, .string d.s][k]? = some v → W.cell? ((a.add (i * 5)).add k) = some v) ∧ CallOk W d := by
        intro i hi
        obtain ⟨cs', h1, h2⟩ := hx i (by omega)
        rw [cellsCall] at h1
        obtain ⟨_, hlen, hcell⟩ := World.cells?_some h1
        obtain ⟨xs, k, _, _, _, hxl, hf⟩ := DataW.trod_struct Try.underlying32 h2
        match cs', hlen with
        | [c0, c1, c2, c3, c4], _ =>
          match xs, hxl with
          | [y0, y1, y2, y3, y4], _ =>
            have f0 := hf 0 _ rfl
            have f1 := hf 1 _ rfl
            have f2 := hf 2 _ rfl
            have f3 := hf 3 _ rfl
            have f4 := hf 4 _ rfl
            simp [cellsI, cellsU, cellsB, cellsS] at f0 f1 f2 f3 f4
            obtain ⟨kind, e0, _, w0⟩ := DataW.trod_int Try.underlying3 f0
            obtain ⟨nn, e1, _, w1⟩ := DataW.trod_int Try.underlying30 f1
            obtain ⟨many, e2, _, w2⟩ := DataW.trod_int Try.underlying3 f2
            obtain ⟨p, bl, bc, e3, w3⟩ := came_cells f3
            obtain ⟨s, e4, _, w4⟩ := DataW.trod_string Try.underlying9 f4
            simp only [List.cons.injEq, and_true] at e0 e1 e2 e3 e4
            subst e0 e1 e2 e3 e4
            refine ⟨⟨kind, nn, many, p, bl, bc, s⟩, fun k v hv => ?_, i64_bd w0, u64_bd w1, i64_bd w2, w3, w4⟩
            have hk : k < 5 := by have := (List.getElem?_eq_some_iff.1 hv).1; simpa using this
            rw [hcell k hk]
            exact hv
      have hs : a.spot = none := by
        obtain ⟨d, h1, _⟩ := each 0 (by omega)
        exact spot_of_cell (by have := h1 0 _ rfl; simpa [Addr.add] using this)
      refine Or.inr ⟨a.block, a.off, by obtain ⟨g, o, sp⟩ := a; simp only at hs; subst hs; rfl, fun i hi => ?_⟩
      obtain ⟨d, h1, h2⟩ := each i hi
      refine ⟨d, ?_, h2⟩
      have at' : ∀ k v, [Value.int .i64 d.kind, .int .u64 d.n, .int .i64 d.many, .slice d.p d.bl d.bc, .string d.s][k]? = some v → W.cell? ⟨a.block, a.off + i * 5 + k, none⟩ = some v := by
        intro k v hv
        have := h1 k v hv
        rw [add_of hs, add_of rfl] at this
        simpa [Nat.add_assoc] using this
      exact ⟨at' 0 _ rfl, at' 1 _ rfl, at' 2 _ rfl, at' 3 _ rfl, at' 4 _ rfl⟩
end
theorem Came.kept {w w' : World} {p : Option Addr} {len cap : Nat} (h : Came w p len cap) (hf : Frm [] w w') : Came w' p len cap := by
  obtain ⟨ns, h1, h2, h3⟩ := h
  exact ⟨ns, h1, h2.kept hf (by simp), h3⟩
theorem CallAt.kept {w w' : World} {g o : Nat} {d : CallD} (h : CallAt w g o d) (hf : Frm [] w w') : CallAt w' g o d := by
  obtain ⟨h0, h1, h2, h3, h4⟩ := h
  have hl := World.block_lt_of_cell? w _ h0
  exact ⟨(hf.cell (p := ⟨g, o, none⟩) hl (by simp)).trans h0, (hf.cell (p := ⟨g, o + 1, none⟩) hl (by simp)).trans h1, (hf.cell (p := ⟨g, o + 2, none⟩) hl (by simp)).trans h2, (hf.cell (p := ⟨g, o + 3, none⟩) hl (by simp)).trans h3, (hf.cell (p := ⟨g, o + 4, none⟩) hl (by simp)).trans h4⟩
theorem CallOk.kept {w w' : World} {d : CallD} (h : CallOk w d) (hf : Frm [] w w') : CallOk w' d := ⟨h.1, h.2.1, h.2.2.1, h.2.2.2.1.kept hf, h.2.2.2.2⟩
theorem CameL.kept {w w' : World} {p : Option Addr} {len cap : Nat} (h : CameL w p len cap) (hf : Frm [] w w') : CameL w' p len cap := by
  refine ⟨h.1, h.2.1, ?_⟩
  rcases h.2.2 with h' | ⟨g, o, rfl, h'⟩
  · exact Or.inl h'
  · refine Or.inr ⟨g, o, rfl, fun i hi => ?_⟩
    obtain ⟨d, h1, h2⟩ := h' i hi
    exact ⟨d, h1.kept hf, h2.kept hf⟩
end Go.Proofs.Ytdfefeljnfcngaa
