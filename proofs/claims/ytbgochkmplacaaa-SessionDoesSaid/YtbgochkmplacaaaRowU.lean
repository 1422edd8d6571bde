/- Opening the arguments of layer 24's statements: scripts of calls, with replies in them. -/
import Derived.Test.YtbgochkmplacaaaSsK
import Derived.Test.YtbgochkmplacaaaRowC
import Derived.Deep.MidRow
import Derived.Deep.Strs
namespace Go.Proofs.Ytbgochkmplacaaa
set_option maxRecDepth 100000
open Go.ChangeShapes Go.WideShapes Go.ChangeAt Go.RowKit Go.Deep
section
variable {H : Type} {enc : TypeId × Value → H} {W : World}
theorem cellsStr : Try.prog.cellsOf 9 = 1 := by kernel_rfl
theorem cellsStrs : Try.prog.cellsOf 58 = 1 := by kernel_rfl
theorem cellsErr : Try.prog.cellsOf 34 = 1 := by kernel_rfl
theorem cellsRep : Try.prog.cellsOf 61 = 7 := by kernel_rfl
theorem cellsReps : Try.prog.cellsOf 52 = 1 := by kernel_rfl
theorem cellsOp24 : Try.prog.cellsOf 63 = 10 := by kernel_rfl
theorem strs_cells {fuel : Nat} {cs : List Value} {x : DataW H × List MemPlace} (h : DataW.trod enc Try.prog W 0 (fun _ => true) true fuel 58 cs = some x) (hw : ∀ n ∈ x.1.weights Try.prog 58, n ≤ reachBytes) :
    ∃ p ss c, cs = [.slice p ss.length c] ∧ Rv W p (strs ss) ∧ (ss = [] → p = none → c = 0) ∧ ss.length * 16 ≤ 140737488351232 := by
  rcases open_strs Try.underlying58 Try.underlying9 cellsStr h with ⟨hcs, _⟩ | ⟨a, len, cap, m, Sx, hcs, hb, hl, hm, hmm, hx, hcell⟩
  · exact ⟨none, [], 0, hcs, Or.inl rfl, fun _ _ => rfl, by simp⟩
  · simp only [if_true] at hmm
    have hroom := slice_room Try.underlying58 h hw (some a) len cap hcs
    rw [show Try.prog.bytesOf 9 = 16 by kernel_rfl] at hroom
    refine ⟨some a, (List.range len).map Sx, cap, by rw [hcs]; simp, ?_, fun _ h => (by cases h), by simpa using hroom⟩
    by_cases h0 : len = 0
    · subst h0; exact Or.inl (by simp [strs])
    · have hs : a.spot = none := spot_of_cell (by have := (hcell 0 (by omega)).1; simpa [Addr.add] using this)
      refine Or.inr ⟨a.block, a.off, by obtain ⟨g, o, sp⟩ := a; simp only at hs; subst hs; rfl, fun i u hu => ?_⟩
      unfold strs at hu
      rw [List.map_map] at hu
      have hi : i < len := by have := (List.getElem?_eq_some_iff.1 hu).1; simpa using this
      rw [List.getElem?_map, List.getElem?_range hi, Option.map_some] at hu
      have h1 := (hcell i (by omega)).1
      rw [add_of hs] at h1
      rw [h1]
      simpa using hu
theorem bytes_cells {fuel : Nat} {cs : List Value} {x : DataW H × List MemPlace} (h : DataW.trod enc Try.prog W 0 (fun _ => true) true fuel 59 cs = some x) (hw : ∀ n ∈ x.1.weights Try.prog 59, n ≤ reachBytes) :
    ∃ p ds c, cs = [.slice p ds.length c] ∧ Rd W p ds ∧ (ds = [] → p = none → c = 0) ∧ ds.length ≤ 140737488351232 := by
  obtain ⟨p, len, cap, hcs, ns, h1, h2, _, h4, _, _⟩ := came_cells h
  have h5 := came_len h hw p len cap hcs
  subst h1
  exact ⟨p, ns, cap, hcs, h2, h4, h5⟩
theorem reply_cells {fuel : Nat} {cs : List Value} {x : DataW H × List MemPlace} (h : DataW.trod enc Try.prog W 0 (fun _ => true) true fuel 61 cs = some x) (hlen : cs.length = 7) (hw : ∀ n ∈ x.1.weights Try.prog 61, n ≤ reachBytes) :
    ∃ v : Rp, cs = v.row ∧ RpIn W v := by
  obtain ⟨xs, k, _, hxe, _, hxl, hf⟩ := DataW.trod_struct Try.underlying61 h
  match cs, hlen with
  | [c0, c1, c2, c3, c4, c5, c6], _ =>
    match xs, hxl with
    | [y0, y1, y2, y3, y4, y5, y6], _ =>
      have f0 := hf 0 _ rfl
      have f1 := hf 1 _ rfl
      have f2 := hf 2 _ rfl
      have f3 := hf 3 _ rfl
      have f4 := hf 4 _ rfl
      have f5 := hf 5 _ rfl
      have f6 := hf 6 _ rfl
      simp [cellsI, cellsErr, cellsStr, cellsStrs, cellsB] at f0 f1 f2 f3 f4 f5 f6
      have hx1 := (Prod.mk.inj hxe).1
      have hw5 : ∀ n ∈ y5.1.weights Try.prog 58, n ≤ reachBytes := fun n hn => hw n (by
        rw [hx1]
        simp only [DataW.weights, Try.underlying61]
        exact DataW.weights_mem_each (j := 5) rfl rfl n hn)
      have hw6 : ∀ n ∈ y6.1.weights Try.prog 59, n ≤ reachBytes := fun n hn => hw n (by
        rw [hx1]
        simp only [DataW.weights, Try.underlying61]
        exact DataW.weights_mem_each (j := 6) rfl rfl n hn)
      obtain ⟨s, e0, _, w0⟩ := DataW.trod_int Try.underlying3 f0
      obtain ⟨id, e1, _, w1⟩ := DataW.trod_int Try.underlying3 f1
      obtain ⟨er, e2, _, w2⟩ := DataW.trod_int Try.underlying34 f2
      obtain ⟨nu, e3, _, w3⟩ := DataW.trod_int Try.underlying3 f3
      obtain ⟨tx, e4, _, w4⟩ := DataW.trod_string Try.underlying9 f4
      obtain ⟨lp, ss, lc, e5, g1, g2, g3⟩ := strs_cells f5 hw5
      obtain ⟨dp, ds, dc, e6, g4, g5, g6⟩ := bytes_cells f6 hw6
      simp only [List.cons.injEq, and_true] at e0 e1 e2 e3 e4 e5 e6
      subst e0 e1 e2 e3 e4 e5 e6
      exact ⟨⟨⟨s, id, er, nu, tx, ss, ds⟩, lp, lc, dp, dc⟩, rfl, i64_bd w0, i64_bd w1, g1, g4, g2, g5, g3, g6⟩
theorem op24_cells {fuel : Nat} {cs : List Value} {x : DataW H × List MemPlace} (h : DataW.trod enc Try.prog W 0 (fun _ => true) true fuel 63 cs = some x) (hlen : cs.length = 10) (hw : ∀ n ∈ x.1.weights Try.prog 63, n ≤ reachBytes) :
    ∃ d : OpR, cs = d.row ∧ OpRIn W d := by
  obtain ⟨xs, k, _, hxe, _, hxl, hf⟩ := DataW.trod_struct Try.underlying63 h
  match cs, hlen with
  | [c0, c1, c2, c3, c4, c5, c6, c7, c8, c9], _ =>
    match xs, hxl with
    | [y0, y1, y2, y3], _ =>
      have f0 := hf 0 _ rfl
      have f1 := hf 1 _ rfl
      have f2 := hf 2 _ rfl
      have f3 := hf 3 _ rfl
      simp [cellsI, cellsRep, cellsReps] at f0 f1 f2 f3
      have hx1 := (Prod.mk.inj hxe).1
      have hw2 : ∀ n ∈ y2.1.weights Try.prog 61, n ≤ reachBytes := fun n hn => hw n (by
        rw [hx1]
        simp only [DataW.weights, Try.underlying63]
        exact DataW.weights_mem_each (j := 2) rfl rfl n hn)
      obtain ⟨kd, e0, _, w0⟩ := DataW.trod_int Try.underlying3 f0
      obtain ⟨wh, e1, _, w1⟩ := DataW.trod_int Try.underlying3 f1
      obtain ⟨v, e2, w2⟩ := reply_cells f2 rfl hw2
      obtain ⟨lq, ll, lr, e3⟩ : ∃ lq ll lr, [c9] = [Value.slice lq ll lr] := by
        rcases open_slice Try.underlying52 f3 with ⟨hcs, _⟩ | ⟨a, len, cap, m, n, D, Pl, hcs, _⟩
        · exact ⟨_, _, _, hcs⟩
        · exact ⟨_, _, _, hcs⟩
      simp only [Rp.row, List.cons.injEq, and_true] at e0 e1 e2 e3
      obtain ⟨a0, a1, a2, a3, a4, a5, a6⟩ := e2
      subst e0 e1 e3 a0 a1 a2 a3 a4 a5 a6
      exact ⟨⟨kd, wh, v, lq, ll, lr⟩, rfl, i64_bd w0, i64_bd w1, w2⟩
theorem cameR_cells {fuel : Nat} {cs : List Value} {x : DataW H × List MemPlace} (h : DataW.trod enc Try.prog W 0 (fun _ => true) true fuel 47 cs = some x) (hw : ∀ n ∈ x.1.weights Try.prog 47, n ≤ reachBytes) :
    ∃ p len cap, cs = [.slice p len cap] ∧ CameR W p len cap := by
  rcases open_slice Try.underlying47 h with ⟨hcs, _⟩ | ⟨a, len, cap, m, n, D, Pl, rfl, hb0, hl, hm, hmm, rfl, hx⟩
  · exact ⟨none, 0, 0, hcs, by omega, by omega, Or.inl rfl⟩
  · simp only [if_true] at hmm
    refine ⟨some a, len, cap, rfl, hl, by unfold maxLen at hm; omega, ?_⟩
    by_cases h0 : len = 0
    · exact Or.inl h0
    · have each : ∀ i, i < len → ∃ d : OpR, (∀ j v, d.row[j]? = some v → W.cell? ((a.add (i * 10)).add j) = some v) ∧ OpRIn W d := by
        intro i hi
        obtain ⟨cs', h1, h2⟩ := hx i (by omega)
        have hwi : ∀ n ∈ (D i).weights Try.prog 63, n ≤ reachBytes := by
          intro n hn
          refine hw n ?_
          simp only [DataW.weights, Try.underlying47, List.mem_cons, List.mem_append]
          exact Or.inr (Or.inl (mem_all (List.mem_map.2 ⟨i, List.mem_range.2 hi, rfl⟩) hn))
        rw [cellsOp24] at h1
        obtain ⟨_, hlen, hcell⟩ := World.cells?_some h1
        obtain ⟨d, rfl, hok⟩ := op24_cells h2 hlen hwi
        refine ⟨d, fun j v hv => ?_, hok⟩
        have hk : j < 10 := by have := (List.getElem?_eq_some_iff.1 hv).1; simpa [OpR.row] using this
        rw [hcell j hk]
        exact hv
      have hs : a.spot = none := by
        obtain ⟨d, h1, _⟩ := each 0 (by omega)
        exact spot_of_cell (by have := h1 0 _ rfl; simpa [Addr.add] using this)
      refine Or.inr ⟨a.block, a.off, by obtain ⟨g, o, sp⟩ := a; simp only at hs; subst hs; rfl, fun i hi => ?_⟩
      obtain ⟨d, h1, h2⟩ := each i hi
      refine ⟨d, fun j u hu => ?_, h2⟩
      have q0 := h1 j u hu
      rw [add_of hs, add_of rfl] at q0
      simpa [Nat.add_assoc] using q0
end
end Go.Proofs.Ytbgochkmplacaaa
