/- Opening the arguments of layer 19's statements: lists of cells. -/
import Derived.Test.YthifchkeapbfdaaVolBa
import Derived.Test.YthifchkeapbfdaaRowG
namespace Go.Proofs.Ythifchkeapbfdaa
set_option maxRecDepth 100000
open Go.ChangeShapes Go.WideShapes Go.ChangeAt Go.RowKit Go.Deep

def GAt (w : World) (g o : Nat) (x : GCell) : Prop :=
  w.cell? ⟨g, o, none⟩ = some (.int .i64 x.a) ∧ w.cell? ⟨g, o + 1, none⟩ = some (.int .i64 x.k) ∧ w.cell? ⟨g, o + 2, none⟩ = some (.int .i64 x.b) ∧ w.cell? ⟨g, o + 3, none⟩ = some (.slice x.p x.zs.length x.c)
def GOk (w : World) (x : GCell) : Prop :=
  (-9223372036854775808 ≤ x.a ∧ x.a ≤ 9223372036854775807) ∧ (-9223372036854775808 ≤ x.k ∧ x.k ≤ 9223372036854775807) ∧ (-9223372036854775808 ≤ x.b ∧ x.b ≤ 9223372036854775807) ∧ Rd w x.p x.zs ∧ (∀ z ∈ x.zs, 0 ≤ z ∧ z < 256) ∧ (x.zs = [] → x.p = none → x.c = 0) ∧ x.zs.length ≤ 140737488351232
/-- A list of cells that came in. -/
def CameG (w : World) (p : Option Addr) (len cap : Nat) (xs : List GCell) : Prop :=
  xs.length = len ∧ len ≤ cap ∧ cap ≤ 9223372036854775807 ∧ len ≤ 2932031007317 ∧ (len = 0 ∨ ∃ g o, p = some ⟨g, o, none⟩ ∧ ∀ i (h : i < xs.length), GAt w g (o + i * 4) xs[i]) ∧ ∀ x ∈ xs, GOk w x
theorem GAt.kept {w w' : World} {g o : Nat} {x : GCell} (h : GAt w g o x) (hf : Frm [] w w') : GAt w' g o x := by
  obtain ⟨h0, h1, h2, h3⟩ := h
  have hl := World.block_lt_of_cell? w _ h0
  exact ⟨(hf.cell (p := ⟨g, o, none⟩) hl (by simp)).trans h0, (hf.cell (p := ⟨g, o + 1, none⟩) hl (by simp)).trans h1, (hf.cell (p := ⟨g, o + 2, none⟩) hl (by simp)).trans h2, (hf.cell (p := ⟨g, o + 3, none⟩) hl (by simp)).trans h3⟩
theorem GOk.kept {w w' : World} {x : GCell} (h : GOk w x) (hf : Frm [] w w') : GOk w' x := ⟨h.1, h.2.1, h.2.2.1, h.2.2.2.1.kept hf (by simp), h.2.2.2.2⟩
theorem list_of {α : Type} {P : Nat → α → Prop} (n : Nat) (h : ∀ i, i < n → ∃ x, P i x) : ∃ xs : List α, xs.length = n ∧ ∀ i (hi : i < xs.length), P i xs[i] := by
  induction n with
  | zero => exact ⟨[], rfl, fun i hi => absurd hi (by simp)⟩
  | succ n ih =>
    obtain ⟨xs, hl, hx⟩ := ih (fun i hi => h i (by omega))
    obtain ⟨x, hp⟩ := h n (by omega)
    refine ⟨xs ++ [x], by simp [hl], fun i hi => ?_⟩
    by_cases hlt : i < xs.length
    · rw [List.getElem_append_left hlt]; exact hx i hlt
    · have hi2 : i = xs.length := by simp at hi; omega
      subst hi2
      rw [List.getElem_append_right (Nat.le_refl _)]
      simpa [hl] using hp
section
variable {H : Type} {enc : TypeId × Value → H} {W : World}
theorem cellsG : Try.prog.cellsOf 57 = 4 := by kernel_rfl
theorem bytesG : Try.prog.bytesOf 57 = 48 := by kernel_rfl
theorem cameG_cell {fuel : Nat} {cs : List Value} {x : DataW H × List MemPlace} (h : DataW.trod enc Try.prog W 0 (fun _ => true) true fuel 57 cs = some x) (hlen : cs.length = 4) (hw : ∀ n ∈ x.1.weights Try.prog 57, n ≤ reachBytes) :
    ∃ d : GCell, cs = gRow d ∧ GOk W d := by
  obtain ⟨xs, k, _, hxe, _, hxl, hf⟩ := DataW.trod_struct Try.underlying57 h
  match cs, hlen with
  | [c0, c1, c2, c3], _ =>
    match xs, hxl with
    | [y0, y1, y2, y3], _ =>
      have f0 := hf 0 _ rfl
      have f1 := hf 1 _ rfl
      have f2 := hf 2 _ rfl
      have f3 := hf 3 _ rfl
      simp [cellsI, cellsB] at f0 f1 f2 f3
      obtain ⟨a, e0, _, w0⟩ := DataW.trod_int Try.underlying3 f0
      obtain ⟨k, e1, _, w1⟩ := DataW.trod_int Try.underlying3 f1
      obtain ⟨b, e2, _, w2⟩ := DataW.trod_int Try.underlying3 f2
      obtain ⟨p, bl, bc, e3, w3⟩ := came_cells f3
      simp only [List.cons.injEq, and_true] at e0 e1 e2 e3
      subst e0 e1 e2 e3
      have hbl := came_len f3 (fun n hn => hw n (by
        rw [(Prod.mk.inj hxe).1]
        simp only [DataW.weights, Try.underlying57]
        exact DataW.weights_mem_each (j := 3) rfl rfl n hn)) p bl bc rfl
      obtain ⟨ns, rfl, hr, hb, hpc, _, _⟩ := w3
      exact ⟨⟨a, k, b, p, bc, ns⟩, rfl, i64_bd w0, i64_bd w1, i64_bd w2, hr, hb, hpc, hbl⟩
theorem cameG_cells {fuel : Nat} {cs : List Value} {x : DataW H × List MemPlace} (h : DataW.trod enc Try.prog W 0 (fun _ => true) true fuel 36 cs = some x) (hw : ∀ n ∈ x.1.weights Try.prog 36, n ≤ reachBytes) :
    ∃ p len cap, cs = [.slice p len cap] ∧ ∃ xs, CameG W p len cap xs := by
  have hroom := fun p len cap he => slice_room Try.underlying36 h hw p len cap he
  rcases open_slice Try.underlying36 h with ⟨hcs, _⟩ | ⟨a, len, cap, m, n, D, Pl, rfl, hb, hl, hm, hmm, rfl, hx⟩
  · exact ⟨none, 0, 0, hcs, [], rfl, by omega, by omega, by omega, Or.inl rfl, by simp⟩
  · have hr := hroom (some a) len cap rfl
    rw [bytesG] at hr
    refine ⟨some a, len, cap, rfl, ?_⟩
    simp only [if_true] at hmm
    subst hmm
    have each : ∀ i, i < len → ∃ d : GCell, (∀ k v, (gRow d)[k]? = some v → W.cell? ((a.add (i * 4)).add k) = some v) ∧ GOk W d := by
      intro i hi
      obtain ⟨cs', h1, h2⟩ := hx i (by omega)
      have hwi : ∀ n ∈ (D i).weights Try.prog 57, n ≤ reachBytes := by
        intro n hn
        refine hw n ?_
        simp only [DataW.weights, Try.underlying36, List.mem_cons, List.mem_append]
        exact Or.inr (Or.inl (mem_all (List.mem_map.2 ⟨i, List.mem_range.2 hi, rfl⟩) hn))
      rw [cellsG] at h1
      obtain ⟨_, hlen, hcell⟩ := World.cells?_some h1
      obtain ⟨d, rfl, hok⟩ := cameG_cell h2 hlen hwi
      refine ⟨d, fun k v hv => ?_, hok⟩
      have hk : k < 4 := by have := (List.getElem?_eq_some_iff.1 hv).1; simpa [gRow] using this
      rw [hcell k hk]
      exact hv
    obtain ⟨xs, hxl, hxs⟩ := list_of len each
    refine ⟨xs, hxl, hl, by unfold maxLen at hm; omega, by omega, ?_, fun y hy => ?_⟩
    · by_cases h0 : len = 0
      · exact Or.inl h0
      · have hs : a.spot = none := by
          have h1 := (hxs 0 (by omega)).1
          exact spot_of_cell (by have := h1 0 _ rfl; simpa [Addr.add] using this)
        refine Or.inr ⟨a.block, a.off, by obtain ⟨g, o, sp⟩ := a; simp only at hs; subst hs; rfl, fun i hi => ?_⟩
        have h1 := (hxs i hi).1
        have at' : ∀ k v, (gRow xs[i])[k]? = some v → W.cell? ⟨a.block, a.off + i * 4 + k, none⟩ = some v := by
          intro k v hv
          have := h1 k v hv
          rw [add_of hs, add_of rfl] at this
          simpa [Nat.add_assoc] using this
        exact ⟨at' 0 _ rfl, at' 1 _ rfl, at' 2 _ rfl, at' 3 _ rfl⟩
    · obtain ⟨i, hi, rfl⟩ := List.getElem_of_mem hy
      exact (hxs i hi).2
end
end Go.Proofs.Ythifchkeapbfdaa
