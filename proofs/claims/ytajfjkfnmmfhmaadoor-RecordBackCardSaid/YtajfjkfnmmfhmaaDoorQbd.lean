/- Inputs as they come in: a list of records. -/
import Derived.Test.YtajfjkfnmmfhmaaDoorQax
import Derived.Test.YtajfjkfnmmfhmaaDoorQaz
namespace Go.Proofs.YtajfjkfnmmfhmaaDoor
section
open Go.RowKit Go.ChangeShapes Go.WideShapes Go.Deep
set_option maxRecDepth 100000
section
variable {H : Type} {enc : TypeId × Value → H} {W : World}
theorem rec_cells {fuel : Nat} {cs : List Value} {x : DataW H × List MemPlace} (hf : DataW.trod enc Tryd.prog W 0 (fun _ => true) true fuel 30 cs = some x) (hsz : cs.length = 13) (hw : ∀ n ∈ x.1.weights Tryd.prog 30, n ≤ reachBytes) :
    ∃ y : Rk, cs = y.r.arr.toList ∧ RcOk W y.r y.P y.K y.D ∧ y.r.name.size ≤ 140737488355328 := by
  have hs1 : Tryd.prog.cellsOf 23 = 1 := by kernel_rfl
  have hs2 : Tryd.prog.cellsOf 27 = 1 := by kernel_rfl
  have hs3 : Tryd.prog.cellsOf 28 = 1 := by kernel_rfl
  have hi1 : Tryd.prog.cellsOf 3 = 1 := by kernel_rfl
  have ht1 : Tryd.prog.cellsOf 9 = 1 := by kernel_rfl
  obtain ⟨xs, n, _, hxe, _, hxl, hF⟩ := DataW.trod_struct Tryd.underlying30 hf
  match cs, hsz with
  | [c0, c1, c2, c3, c4, c5, c6, c7, c8, c9, c10, c11, c12], _ =>
    have g0 := hF 0 _ rfl
    have g1 := hF 1 _ rfl
    have g2 := hF 2 _ rfl
    have g3 := hF 3 _ rfl
    have g4 := hF 4 _ rfl
    have g5 := hF 5 _ rfl
    have g6 := hF 6 _ rfl
    have g7 := hF 7 _ rfl
    have g8 := hF 8 _ rfl
    have g9 := hF 9 _ rfl
    have g10 := hF 10 _ rfl
    have g11 := hF 11 _ rfl
    have g12 := hF 12 _ rfl
    match xs, hxl with
    | [x0, x1, x2, x3, x4, x5, x6, x7, x8, x9, x10, x11, x12], _ =>
      simp [hs1, hs2, hs3, hi1, ht1] at g0 g1 g2 g3 g4 g5 g6 g7 g8 g9 g10 g11 g12
      obtain ⟨z0, e0, _, _⟩ := DataW.trod_int Tryd.underlying3 g0
      obtain ⟨z2, e2, _, _⟩ := DataW.trod_int Tryd.underlying3 g2
      obtain ⟨z3, e3, _, _⟩ := DataW.trod_int Tryd.underlying3 g3
      obtain ⟨z4, e4, _, _⟩ := DataW.trod_int Tryd.underlying3 g4
      obtain ⟨z5, e5, _, _⟩ := DataW.trod_int Tryd.underlying3 g5
      obtain ⟨z8, e8, _, _⟩ := DataW.trod_int Tryd.underlying3 g8
      obtain ⟨z9, e9, _, _⟩ := DataW.trod_int Tryd.underlying3 g9
      obtain ⟨z10, e10, _, _⟩ := DataW.trod_int Tryd.underlying3 g10
      obtain ⟨z1, e1, d1, _⟩ := DataW.trod_string Tryd.underlying9 g1
      obtain ⟨z6, e6, _, _⟩ := DataW.trod_string Tryd.underlying9 g6
      obtain ⟨pp, pn, pc, P, e7, hP, hrp, hpn⟩ := props_came g7
      obtain ⟨kp, kn, kc, K, e11, hK, hrk, hkn⟩ := keeps_came g11
      obtain ⟨p, len, cap, e12, ns, hnl, hrd, hnb, _, hlc, _⟩ := came_cells g12
      have hnm : z1.size ≤ reachBytes := hw z1.size (by
        rw [(Prod.mk.inj hxe).1]
        simp only [DataW.weights, Tryd.underlying30]
        refine DataW.weights_mem_each (j := 1) (d := .lit (.string z1.data.toList)) rfl (by simp [d1]) _ ?_
        simp only [DataW.weights, List.mem_singleton]
        rfl)
      simp only [List.cons.injEq, and_true] at e0 e1 e2 e3 e4 e5 e6 e7 e8 e9 e10 e11 e12
      subst e0 e1 e2 e3 e4 e5 e6 e7 e8 e9 e10 e11 e12
      exact ⟨⟨⟨z0, z1, z2, z3, z4, z5, z6, pp, pn, pc, z8, z9, z10, kp, kn, kc, p, len, cap⟩, P, K, ns⟩, rfl, ⟨hrp, hP, hrk, hK, hrd, hnl, hnb, ⟨hpn, hkn⟩⟩, by unfold reachBytes at hnm; show z1.size ≤ _; omega⟩
theorem recs_came {fuel : Nat} {cs : List Value} {x : DataW H × List MemPlace} (h : DataW.trod enc Tryd.prog W 0 (fun _ => true) true fuel 22 cs = some x) (hw : ∀ n ∈ x.1.weights Tryd.prog 22, n ≤ reachBytes) :
    ∃ p len cap L, cs = [.slice p len cap] ∧ L.length = len ∧ RdRk W p L ∧ len ≤ 9223372036854775807 := by
  have h13 : Tryd.prog.cellsOf 30 = 13 := by kernel_rfl
  rcases open_slice Tryd.underlying22 h with ⟨hcs, _⟩ | ⟨a, len, cap, m, n, D, Pl, rfl, hb, hl, hm, hmm, rfl, hx⟩
  · exact ⟨none, 0, 0, [], hcs, rfl, Or.inl rfl, by omega⟩
  · simp only [if_true] at hmm
    subst hmm
    have each : ∀ i, i < len → ∃ y : Rk, (∀ j u, y.r.arr[j]? = some u → W.cell? ((a.add (i * 13)).add j) = some u) ∧ RcOk W y.r y.P y.K y.D ∧ y.r.name.size ≤ 140737488355328 := by
      intro i hi
      obtain ⟨cs', h1, h2⟩ := hx i (by omega)
      rw [h13] at h1
      obtain ⟨_, hlen, hcell⟩ := World.cells?_some h1
      have hwi : ∀ n ∈ (D i).weights Tryd.prog 30, n ≤ reachBytes := by
        intro n hn
        refine hw n ?_
        simp only [DataW.weights, Tryd.underlying22, List.mem_cons, List.mem_append]
        exact Or.inr (Or.inl (mem_all (List.mem_map.2 ⟨i, List.mem_range.2 hi, rfl⟩) hn))
      obtain ⟨y, hy, hok, hn⟩ := rec_cells h2 hlen hwi
      refine ⟨y, fun j u hu => ?_, hok, hn⟩
      have hj : j < 13 := (Array.getElem?_eq_some_iff.1 hu).1
      rw [hcell j hj, hy]
      simpa using hu
    obtain ⟨L, hLl, hLs⟩ := list_eachR rk0 _ len each
    refine ⟨some a, len, _, L, rfl, hLl, ?_, by unfold maxLen at hm; omega⟩
    by_cases h0 : len = 0
    · subst h0
      rw [List.eq_nil_of_length_eq_zero hLl]
      exact Or.inl rfl
    · have hs : a.spot = none := by
        have h1 := (hLs 0 (by omega)).1 0 _ rfl
        exact spot_of_cell (by simpa [Addr.add] using h1)
      refine Or.inr ⟨a.block, a.off, by obtain ⟨g, o, sp⟩ := a; simp only at hs; subst hs; rfl, fun i u hu => ?_⟩
      have hi := (List.getElem?_eq_some_iff.1 hu).1
      rw [hLl] at hi
      obtain ⟨h1, h2, h3⟩ := hLs i hi
      rw [List.getD_eq_getElem?_getD, hu] at h1 h2 h3
      refine ⟨fun j v hv => ?_, h2, h3⟩
      have h4 := h1 j v hv
      rw [add_of hs, add_of rfl] at h4
      exact h4
end
end
end Go.Proofs.YtajfjkfnmmfhmaaDoor
