/- Opening the arguments of layer 3's statements: lists of calls, where what comes in is of a bounded bulk. -/
import Derived.Test.YtfclamndjnoopaaRowO
namespace Go.Proofs.Ytfclamndjnoopaa
set_option maxRecDepth 100000
open Go.ChangeShapes Go.WideShapes Go.ChangeAt Go.RowKit Go.Deep
section
variable {H : Type} {enc : TypeId × Value → H} {W : World}
theorem bulk_pos : ∀ (d : DataW H), 1 ≤ Rows.uptoBulk d := by
  intro d
  cases d with
  | lit l => cases l <;> simp [Rows.uptoBulk]
  | nil => simp [Rows.uptoBulk]
  | ptr d => simp [Rows.uptoBulk]
  | slice a b => simp [Rows.uptoBulk]
  | agg a => simp [Rows.uptoBulk]
  | iface t d => simp [Rows.uptoBulk]
  | map e => simp [Rows.uptoBulk]
  | held h => simp [Rows.uptoBulk]
theorem bulk_len : ∀ (l : List (DataW H)), l.length ≤ Rows.uptoBulkAll l := by
  intro l
  induction l with
  | nil => simp [Rows.uptoBulkAll]
  | cons d l ih => have := bulk_pos d; simp only [Rows.uptoBulkAll, List.length_cons]; omega
theorem bulk_mem {d : DataW H} : ∀ {l : List (DataW H)}, d ∈ l → Rows.uptoBulk d ≤ Rows.uptoBulkAll l := by
  intro l
  induction l with
  | nil => intro h; cases h
  | cons a l ih =>
    intro h
    simp only [Rows.uptoBulkAll]
    rcases List.mem_cons.1 h with rfl | h
    · omega
    · have := ih h; omega
theorem lits_length (k : IntKind) (zs : List Int) : (lits k zs : List (DataW H)).length = zs.length := by simp [lits]
theorem came_bulk {fuel : Nat} {cs : List Value} {x : DataW H × List MemPlace} {M : Nat} (h : DataW.trod enc Try.prog W 0 (fun _ => true) true fuel 22 cs = some x) (hb : Rows.uptoBulk x.1 ≤ M) : ∃ p len cap, cs = [.slice p len cap] ∧ Came W p len cap ∧ len ≤ M := by
  rcases open_ints Try.underlying22 Try.underlying5 (by kernel_rfl) h with ⟨hcs, _⟩ | ⟨a, l, c, zs, hcs, _, hl, hm, hz, hx, hcell, hwz⟩
  · exact ⟨none, 0, 0, hcs, ⟨[], rfl, Or.inl rfl, by simp, fun _ _ => rfl, by omega, by omega⟩, by omega⟩
  · simp only [if_true] at hz
    refine ⟨some a, l, c, hcs, came_of hl hm hz hcell hwz, ?_⟩
    have e := congrArg Prod.fst hx
    simp only at e
    rw [e, Rows.uptoBulk] at hb
    have := bulk_len (lits .u8 (zs.take l) : List (DataW H))
    rw [lits_length, List.length_take] at this
    omega
theorem cameT_bulk {fuel : Nat} {cs : List Value} {x : DataW H × List MemPlace} {M : Nat} (hM : M ≤ 140737488351232) (h : DataW.trod enc Try.prog W 0 (fun _ => true) true fuel 39 cs = some x) (hb : Rows.uptoBulk x.1 ≤ M) : ∃ p len cap, cs = [.slice p len cap] ∧ CameT W p len cap ∧ len ≤ M := by
  rcases open_bools Try.underlying39 Try.underlying4 (by kernel_rfl) h with ⟨hcs, _⟩ | ⟨a, l, c, B, hcs, _, hl, hm, hx, hcell⟩
  · exact ⟨none, 0, 0, hcs, ⟨by omega, by omega, [], rfl, Or.inl rfl⟩, by omega⟩
  · have e := congrArg Prod.fst hx
    simp only at e
    have hlM : l ≤ M := by
      rw [e] at hb
      simp only [boolRow, Rows.uptoBulk] at hb
      have := bulk_len ((List.range l).map fun i => (.lit (.bool (B i)) : DataW H))
      simp only [List.length_map, List.length_range] at this
      omega
    refine ⟨some a, l, c, hcs, ⟨hl, by omega, (List.range l).map B, by simp, ?_⟩, hlM⟩
    by_cases h0 : l = 0
    · exact Or.inl (by simp [h0])
    · have hs : a.spot = none := spot_of_cell (by have := hcell 0 (by omega); simpa [Addr.add] using this)
      refine Or.inr ⟨a.block, a.off, by obtain ⟨g, o, sp⟩ := a; simp only at hs; subst hs; rfl, fun i u hu => ?_⟩
      have hi : i < l := by have := (List.getElem?_eq_some_iff.1 hu).1; simpa using this
      have h1 := hcell i (by omega)
      rw [add_of hs] at h1
      rw [h1]
      simpa [hi] using hu
/-- One call's fields. -/
structure OpS where
  kind : Int
  disk : Int
  at_ : Int
  many : Int
  p : Option Addr
  bl : Nat
  bc : Nat
  sp : Option Addr
  sl : Nat
  sc : Nat
def OpS.row (d : OpS) : List Value := [.int .i64 d.kind, .int .i64 d.disk, .int .i64 d.at_, .int .i64 d.many, .slice d.p d.bl d.bc, .slice d.sp d.sl d.sc]
def OpIn (w : World) (M : Nat) (d : OpS) : Prop :=
  (-9223372036854775808 ≤ d.kind ∧ d.kind ≤ 9223372036854775807) ∧ (-9223372036854775808 ≤ d.disk ∧ d.disk ≤ 9223372036854775807) ∧ (-9223372036854775808 ≤ d.at_ ∧ d.at_ ≤ 9223372036854775807) ∧ (-9223372036854775808 ≤ d.many ∧ d.many ≤ 9223372036854775807) ∧ Came w d.p d.bl d.bc ∧ d.bl ≤ M ∧ CameT w d.sp d.sl d.sc ∧ d.sl ≤ M
theorem cellsOpS : Try.prog.cellsOf 41 = 6 := by kernel_rfl
theorem cellsT : Try.prog.cellsOf 39 = 1 := by kernel_rfl
/-- A list of calls that came in. -/
def CameOps (w : World) (M : Nat) (p : Option Addr) (len cap : Nat) : Prop :=
  len ≤ cap ∧ cap ≤ 9223372036854775807 ∧ len ≤ M ∧ (len = 0 ∨ ∃ g o, p = some ⟨g, o, none⟩ ∧ ∀ i, i < len → ∃ d, w.rangeAt g (o + i * 6) (OpS.row d) ∧ OpIn w M d)
theorem cameOpS_cells {fuel : Nat} {cs : List Value} {x : DataW H × List MemPlace} {M : Nat} (hM : M ≤ 140737488351232) (h : DataW.trod enc Try.prog W 0 (fun _ => true) true fuel 41 cs = some x) (hlen : cs.length = 6) (hb : Rows.uptoBulk x.1 ≤ M) :
    ∃ d, cs = OpS.row d ∧ OpIn W M d := by
  obtain ⟨xs, k, _, hxe, _, hxl, hf⟩ := DataW.trod_struct Try.underlying41 h
  match cs, hlen with
  | [c0, c1, c2, c3, c4, c5], _ =>
    match xs, hxl with
    | [y0, y1, y2, y3, y4, y5], _ =>
      have f0 := hf 0 _ rfl
      have f1 := hf 1 _ rfl
      have f2 := hf 2 _ rfl
      have f3 := hf 3 _ rfl
      have f4 := hf 4 _ rfl
      have f5 := hf 5 _ rfl
      simp [cellsI, cellsB, cellsT] at f0 f1 f2 f3 f4 f5
      have hx1 := (Prod.mk.inj hxe).1
      rw [hx1, Rows.uptoBulk] at hb
      have b4 : Rows.uptoBulk y4.1 ≤ M := by
        have := bulk_mem (d := y4.1) (l := [y0, y1, y2, y3, y4, y5].map (fun x => x.fst)) (by simp)
        omega
      have b5 : Rows.uptoBulk y5.1 ≤ M := by
        have := bulk_mem (d := y5.1) (l := [y0, y1, y2, y3, y4, y5].map (fun x => x.fst)) (by simp)
        omega
      obtain ⟨kind, e0, _, w0⟩ := DataW.trod_int Try.underlying3 f0
      obtain ⟨dk, e1, _, w1⟩ := DataW.trod_int Try.underlying3 f1
      obtain ⟨a, e2, _, w2⟩ := DataW.trod_int Try.underlying3 f2
      obtain ⟨many, e3, _, w3⟩ := DataW.trod_int Try.underlying3 f3
      obtain ⟨p, bl, bc, e4, w4, l4⟩ := came_bulk f4 b4
      obtain ⟨sp, sl, sc, e5, w5, l5⟩ := cameT_bulk hM f5 b5
      simp only [List.cons.injEq, and_true] at e0 e1 e2 e3 e4 e5
      subst e0 e1 e2 e3 e4 e5
      exact ⟨⟨kind, dk, a, many, p, bl, bc, sp, sl, sc⟩, rfl, i64_bd w0, i64_bd w1, i64_bd w2, i64_bd w3, w4, l4, w5, l5⟩
theorem cameOps_cells {fuel : Nat} {cs : List Value} {x : DataW H × List MemPlace} {M : Nat} (hM : M ≤ 140737488351232) (h : DataW.trod enc Try.prog W 0 (fun _ => true) true fuel 38 cs = some x) (hb : Rows.uptoBulk x.1 ≤ M) :
    ∃ p len cap, cs = [.slice p len cap] ∧ CameOps W M p len cap := by
  rcases open_slice Try.underlying38 h with ⟨hcs, _⟩ | ⟨a, len, cap, m, n, D, Pl, rfl, hb0, hl, hm, hmm, rfl, hx⟩
  · exact ⟨none, 0, 0, hcs, by omega, by omega, by omega, Or.inl rfl⟩
  · simp only [Rows.uptoBulk] at hb
    have hlM : len ≤ M := by
      have := bulk_len ((List.range len).map D)
      simp only [List.length_map, List.length_range] at this
      omega
    refine ⟨some a, len, cap, rfl, hl, by unfold maxLen at hm; omega, hlM, ?_⟩
    simp only [if_true] at hmm
    subst hmm
    by_cases h0 : len = 0
    · exact Or.inl h0
    · have each : ∀ i, i < len → ∃ d, (∀ k v, (OpS.row d)[k]? = some v → W.cell? ((a.add (i * 6)).add k) = some v) ∧ OpIn W M d := by
        intro i hi
        obtain ⟨cs', h1, h2⟩ := hx i (by omega)
        rw [cellsOpS] at h1
        obtain ⟨_, hlen, hcell⟩ := World.cells?_some h1
        have hbi : Rows.uptoBulk (D i) ≤ M := by
          have := bulk_mem (d := D i) (l := (List.range len).map D) (List.mem_map.2 ⟨i, List.mem_range.2 hi, rfl⟩)
          omega
        obtain ⟨d, rfl, hok⟩ := cameOpS_cells hM h2 hlen hbi
        refine ⟨d, fun k v hv => ?_, hok⟩
        have hk : k < 6 := by have := (List.getElem?_eq_some_iff.1 hv).1; simpa [OpS.row] using this
        rw [hcell k hk]
        exact hv
      have hs : a.spot = none := by
        obtain ⟨d, h1, _⟩ := each 0 (by omega)
        exact spot_of_cell (by have := h1 0 _ rfl; simpa [Addr.add] using this)
      refine Or.inr ⟨a.block, a.off, by obtain ⟨g, o, sp⟩ := a; simp only at hs; subst hs; rfl, fun i hi => ?_⟩
      obtain ⟨d, h1, h2⟩ := each i hi
      refine ⟨d, fun k v hv => ?_, h2⟩
      have := h1 k v hv
      rw [add_of hs, add_of rfl] at this
      simpa [Nat.add_assoc] using this
end
theorem CameT.kept {w w' : World} {p : Option Addr} {len cap : Nat} (h : CameT w p len cap) (hf : Frm [] w w') : CameT w' p len cap := by
  obtain ⟨h1, h2, bs, h3, h4⟩ := h
  exact ⟨h1, h2, bs, h3, h4.kept hf (by simp)⟩
theorem OpIn.kept {w w' : World} {M : Nat} {d : OpS} (h : OpIn w M d) (hf : Frm [] w w') : OpIn w' M d := ⟨h.1, h.2.1, h.2.2.1, h.2.2.2.1, h.2.2.2.2.1.kept hf, h.2.2.2.2.2.1, h.2.2.2.2.2.2.1.kept hf, h.2.2.2.2.2.2.2⟩
theorem range_kept {w w' : World} {g o : Nat} {cs : List Value} (h : w.rangeAt g o cs) (hf : Frm [] w w') : w'.rangeAt g o cs := fun i v hv => by
  have h1 := h i v hv
  exact (hf.cell (p := ⟨g, o + i, none⟩) (World.block_lt_of_cell? w _ h1) (by simp)).trans h1
theorem CameOps.kept {w w' : World} {M : Nat} {p : Option Addr} {len cap : Nat} (h : CameOps w M p len cap) (hf : Frm [] w w') : CameOps w' M p len cap := by
  refine ⟨h.1, h.2.1, h.2.2.1, ?_⟩
  rcases h.2.2.2 with h' | ⟨g, o, rfl, h'⟩
  · exact Or.inl h'
  · refine Or.inr ⟨g, o, rfl, fun i hi => ?_⟩
    obtain ⟨d, h1, h2⟩ := h' i hi
    exact ⟨d, range_kept h1 hf, h2.kept hf⟩
end Go.Proofs.Ytfclamndjnoopaa
