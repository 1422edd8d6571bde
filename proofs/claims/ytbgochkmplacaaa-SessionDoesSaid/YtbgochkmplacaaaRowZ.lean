/- Opening the arguments of SessionDoes: scripts of calls, with lists of replies in them. -/
import Derived.Test.YtbgochkmplacaaaRowU
import Derived.Test.YtbgochkmplacaaaSsAg
namespace Go.Proofs.Ytbgochkmplacaaa
set_option maxRecDepth 100000
open Go.ChangeShapes Go.WideShapes Go.ChangeAt Go.RowKit Go.Deep
section
variable {H : Type} {enc : TypeId × Value → H} {W : World}
theorem replies_cells {fuel : Nat} {cs : List Value} {x : DataW H × List MemPlace} (h : DataW.trod enc Try.prog W 0 (fun _ => true) true fuel 52 cs = some x) (hw : ∀ n ∈ x.1.weights Try.prog 52, n ≤ reachBytes) :
    ∃ p len cap, cs = [.slice p len cap] ∧ ∀ d : OpR, d.lp = p → d.ll = len → d.lc = cap → LIn24 W d := by
  have h' := h
  rcases open_slice Try.underlying52 h with ⟨hcs, _⟩ | ⟨a, len, cap, m, n, D, Pl, hcs, hb0, hl, hm, hmm, hxe, hx⟩
  · exact ⟨none, 0, 0, hcs, fun d e1 e2 e3 => ⟨[], by rw [e2]; rfl, Or.inl rfl, by rw [e2]; omega, fun _ => e3, by simp⟩⟩
  · simp only [if_true] at hmm
    have hroom := slice_room Try.underlying52 h' hw (some a) len cap hcs
    rw [show Try.prog.bytesOf 61 = 96 by kernel_rfl] at hroom
    have each : ∀ i, i < len → ∃ v : Rp, (∀ j u, v.row[j]? = some u → W.cell? ((a.add (i * 7)).add j) = some u) ∧ RpIn W v := by
      intro i hi
      obtain ⟨cs', h1, h2⟩ := hx i (by omega)
      have hwi : ∀ n ∈ (D i).weights Try.prog 61, n ≤ reachBytes := by
        intro n hn
        refine hw n ?_
        rw [hxe]
        simp only [DataW.weights, Try.underlying52, List.mem_cons, List.mem_append]
        exact Or.inr (Or.inl (mem_all (List.mem_map.2 ⟨i, List.mem_range.2 hi, rfl⟩) hn))
      rw [cellsRep] at h1
      obtain ⟨_, hlen, hcell⟩ := World.cells?_some h1
      obtain ⟨v, rfl, hok⟩ := reply_cells h2 hlen hwi
      refine ⟨v, fun j u hu => ?_, hok⟩
      have hk : j < 7 := by have := (List.getElem?_eq_some_iff.1 hu).1; simpa [Rp.row] using this
      rw [hcell j hk]
      exact hu
    have : Inhabited Rp := ⟨rp0⟩
    obtain ⟨V, hV⟩ := choose_lt (α := Rp) (p := fun i v => (∀ j u, v.row[j]? = some u → W.cell? ((a.add (i * 7)).add j) = some u) ∧ RpIn W v) each
    refine ⟨some a, len, cap, hcs, fun d e1 e2 e3 => ⟨(List.range len).map V, by rw [e2]; simp, ?_, by rw [e2]; exact hroom, fun h => (by rw [e1] at h; cases h), fun v hv => ?_⟩⟩
    · by_cases h0 : len = 0
      · subst h0; exact Or.inl rfl
      · have hs : a.spot = none := spot_of_cell (by have := (hV 0 (by omega)).1 0 _ rfl; simpa [Addr.add] using this)
        refine Or.inr ⟨a.block, a.off, by rw [e1]; obtain ⟨g, o, sp⟩ := a; simp only at hs; subst hs; rfl, fun i u hu => ?_⟩
        have hi := (List.getElem?_eq_some_iff.1 hu).1
        rw [rowsR_len] at hi
        simp only [List.length_map, List.length_range] at hi
        have hq : i / 7 < len := by omega
        have hj : i % 7 < 7 := Nat.mod_lt _ (by omega)
        obtain ⟨u', hu'⟩ : ∃ u', (V (i / 7)).row[i % 7]? = some u' := ⟨_, List.getElem?_eq_getElem hj⟩
        have h1 := rowsR_get ((List.range len).map V) (i / 7) (V (i / 7)) (by simp [hq]) (i % 7) u' hu'
        rw [show i / 7 * 7 + i % 7 = i by omega, hu] at h1
        have h2 := (hV (i / 7) hq).1 (i % 7) u' hu'
        rw [add_of hs, add_of rfl] at h2
        simp only [Nat.add_assoc] at h2
        rw [show i / 7 * 7 + i % 7 = i by omega] at h2
        rw [h2, h1]
    · obtain ⟨i, hi, rfl⟩ := List.mem_map.1 hv
      exact (hV i (List.mem_range.1 hi)).2.2.2
theorem op24D_cells {fuel : Nat} {cs : List Value} {x : DataW H × List MemPlace} (h : DataW.trod enc Try.prog W 0 (fun _ => true) true fuel 63 cs = some x) (hlen : cs.length = 10) (hw : ∀ n ∈ x.1.weights Try.prog 63, n ≤ reachBytes) :
    ∃ d : OpR, cs = d.row ∧ OpRIn W d ∧ LIn24 W d := by
  obtain ⟨xs, k, _, hxe, _, hxl, hf⟩ := DataW.trod_struct Try.underlying63 h
  match cs, hlen with
  | [c0, c1, c2, c3, c4, c5, c6, c7, c8, c9], _ =>
    match xs, hxl with
    | [y0, y1, y2, y3], _ =>
      have f0 := hf 0 _ rfl
      have f1 := hf 1 _ rfl
      have f2 := hf 2 _ rfl
      have f3 := hf 3 _ rfl
      simp [cellsI, cellsRep, cellsReps] at f0 f1 f2 f3
      have hx1 := (Prod.mk.inj hxe).1
      have hw2 : ∀ n ∈ y2.1.weights Try.prog 61, n ≤ reachBytes := fun n hn => hw n (by
        rw [hx1]
        simp only [DataW.weights, Try.underlying63]
        exact DataW.weights_mem_each (j := 2) rfl rfl n hn)
      obtain ⟨kd, e0, _, w0⟩ := DataW.trod_int Try.underlying3 f0
      obtain ⟨wh, e1, _, w1⟩ := DataW.trod_int Try.underlying3 f1
      obtain ⟨v, e2, w2⟩ := reply_cells f2 rfl hw2
      have hw3 : ∀ n ∈ y3.1.weights Try.prog 52, n ≤ reachBytes := fun n hn => hw n (by
        rw [hx1]
        simp only [DataW.weights, Try.underlying63]
        exact DataW.weights_mem_each (j := 3) rfl rfl n hn)
      obtain ⟨lq, ll, lr, e3, w3⟩ := replies_cells f3 hw3
      simp only [Rp.row, List.cons.injEq, and_true] at e0 e1 e2 e3
      obtain ⟨a0, a1, a2, a3, a4, a5, a6⟩ := e2
      subst e0 e1 e3 a0 a1 a2 a3 a4 a5 a6
      exact ⟨⟨kd, wh, v, lq, ll, lr⟩, rfl, ⟨i64_bd w0, i64_bd w1, w2⟩, w3 _ rfl rfl rfl⟩
theorem cameD_cells {fuel : Nat} {cs : List Value} {x : DataW H × List MemPlace} (h : DataW.trod enc Try.prog W 0 (fun _ => true) true fuel 47 cs = some x) (hw : ∀ n ∈ x.1.weights Try.prog 47, n ≤ reachBytes) :
    ∃ p len cap, cs = [.slice p len cap] ∧ CameD W p len cap := by
  rcases open_slice Try.underlying47 h with ⟨hcs, _⟩ | ⟨a, len, cap, m, n, D, Pl, rfl, hb0, hl, hm, hmm, hxe, hx⟩
  · exact ⟨none, 0, 0, hcs, by omega, by omega, by omega, Or.inl rfl⟩
  · simp only [if_true] at hmm
    have hroom := slice_room Try.underlying47 h hw (some a) len cap rfl
    rw [show Try.prog.bytesOf 63 = 136 by kernel_rfl] at hroom
    refine ⟨some a, len, cap, rfl, hl, by unfold maxLen at hm; omega, hroom, ?_⟩
    by_cases h0 : len = 0
    · exact Or.inl h0
    · have each : ∀ i, i < len → ∃ d : OpR, (∀ j v, d.row[j]? = some v → W.cell? ((a.add (i * 10)).add j) = some v) ∧ OpRIn W d ∧ LIn24 W d := by
        intro i hi
        obtain ⟨cs', h1, h2⟩ := hx i (by omega)
        have hwi : ∀ n ∈ (D i).weights Try.prog 63, n ≤ reachBytes := by
          intro n hn
          refine hw n ?_
          rw [hxe]
          simp only [DataW.weights, Try.underlying47, List.mem_cons, List.mem_append]
          exact Or.inr (Or.inl (mem_all (List.mem_map.2 ⟨i, List.mem_range.2 hi, rfl⟩) hn))
        rw [cellsOp24] at h1
        obtain ⟨_, hlen, hcell⟩ := World.cells?_some h1
        obtain ⟨d, rfl, hok⟩ := op24D_cells h2 hlen hwi
        refine ⟨d, fun j v hv => ?_, hok⟩
        have hk : j < 10 := by have := (List.getElem?_eq_some_iff.1 hv).1; simpa [OpR.row] using this
        rw [hcell j hk]
        exact hv
      have hs : a.spot = none := by
        obtain ⟨d, h1, _⟩ := each 0 (by omega)
        exact spot_of_cell (by have := h1 0 _ rfl; simpa [Addr.add] using this)
      refine Or.inr ⟨a.block, a.off, by obtain ⟨g, o, sp⟩ := a; simp only at hs; subst hs; rfl, fun i hi => ?_⟩
      obtain ⟨d, h1, h2⟩ := each i hi
      refine ⟨d, fun j u hu => ?_, h2⟩
      have q0 := h1 j u hu
      rw [add_of hs, add_of rfl] at q0
      simpa [Nat.add_assoc] using q0
end
end Go.Proofs.Ytbgochkmplacaaa
