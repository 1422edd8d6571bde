/- TreeGrows: what was born behind a later group was born behind an earlier one, and spans rise; for every size, every list of pointers and any two groups. Opening the arguments of layer 12's statements: lists of pointers, lists of slots. -/
import Derived.Test.YtkolbijhekbelaaQap
import Derived.Test.YtkolbijhekbelaaQas
import Derived.Lib.SmallJoins
namespace Go.Proofs.Ytkolbijhekbelaa
section
set_option maxRecDepth 100000
open Go.ChangeShapes Go.WideShapes Go.ChangeAt Go.RowKit Go.Joins Go.Deep
section
variable {H : Type} {enc : TypeId × Value → H} {W : World}
theorem cellsPt : Try.prog.cellsOf 40 = 9 := by kernel_rfl
theorem cellsSm : Try.prog.cellsOf 38 = 4 := by kernel_rfl
theorem cellsU8 : Try.prog.cellsOf 36 = 1 := by kernel_rfl
theorem cellsBo : Try.prog.cellsOf 4 = 1 := by kernel_rfl
theorem cellsSlt : Try.prog.cellsOf 48 = 11 := by kernel_rfl
theorem pt_cells {fuel : Nat} {cs : List Value} {x : DataW H × List MemPlace} (h : DataW.trod enc Try.prog W 0 (fun _ => true) true fuel 40 cs = some x) (hlen : cs.length = 9) :
    ∃ p : P9, cs = p.arr.toList ∧ p.ok := by
  obtain ⟨xs, n, _, _, _, hx6, hF⟩ := DataW.trod_struct Try.underlying40 h
  match cs, hlen with
  | [c0, c1, c2, c3, c4, c5, c6, c7, c8], _ =>
    have g0 := hF 0 _ rfl
    have g1 := hF 1 _ rfl
    have g2 := hF 2 _ rfl
    have g3 := hF 3 _ rfl
    have g4 := hF 4 _ rfl
    have g5 := hF 5 _ rfl
    match xs, hx6 with
    | [x0, x1, x2, x3, x4, x5], _ =>
      simp [cellsI, cellsU8, cellsSm] at g0 g1 g2 g3 g4 g5
      obtain ⟨ys, m, _, _, _, hy4, hG⟩ := DataW.trod_struct Try.underlying38 g5
      have k0 := hG 0 _ rfl
      have k1 := hG 1 _ rfl
      have k2 := hG 2 _ rfl
      have k3 := hG 3 _ rfl
      match ys, hy4 with
      | [y0, y1, y2, y3], _ =>
        simp [cellsU8] at k0 k1 k2 k3
        obtain ⟨z0, e0, _, f0⟩ := DataW.trod_int Try.underlying3 g0
        obtain ⟨z1, e1, _, f1⟩ := DataW.trod_int Try.underlying3 g1
        obtain ⟨z2, e2, _, f2⟩ := DataW.trod_int Try.underlying3 g2
        obtain ⟨z3, e3, _, f3⟩ := DataW.trod_int Try.underlying36 g3
        obtain ⟨z4, e4, _, f4⟩ := DataW.trod_int Try.underlying3 g4
        obtain ⟨z5, e5, _, f5⟩ := DataW.trod_int Try.underlying36 k0
        obtain ⟨z6, e6, _, f6⟩ := DataW.trod_int Try.underlying36 k1
        obtain ⟨z7, e7, _, f7⟩ := DataW.trod_int Try.underlying36 k2
        obtain ⟨z8, e8, _, f8⟩ := DataW.trod_int Try.underlying36 k3
        simp only [List.cons.injEq, and_true] at e0 e1 e2 e3 e4 e5 e6 e7 e8
        subst e0 e1 e2 e3 e4 e5 e6 e7 e8
        exact ⟨⟨z0, z1, z2, z3, z4, z5, z6, z7, z8⟩, rfl, u64_bd f3, u64_bd f5, u64_bd f6, u64_bd f7, u64_bd f8⟩
theorem slt_cells {fuel : Nat} {cs : List Value} {x : DataW H × List MemPlace} (h : DataW.trod enc Try.prog W 0 (fun _ => true) true fuel 48 cs = some x) (hlen : cs.length = 11) :
    ∃ s : Sl, cs = s.row ∧ s.root.ok ∧ -9223372036854775808 ≤ s.size ∧ s.size ≤ 9223372036854775807 := by
  obtain ⟨xs, n, _, _, _, hx3, hF⟩ := DataW.trod_struct Try.underlying48 h
  match cs, hlen with
  | [b0, b1, c0, c1, c2, c3, c4, c5, c6, c7, c8], _ =>
    have g0 := hF 0 _ rfl
    have g1 := hF 1 _ rfl
    have g2 := hF 2 _ rfl
    match xs, hx3 with
    | [x0, x1, x2], _ =>
      simp [cellsI, cellsBo, cellsPt] at g0 g1 g2
      obtain ⟨bo, e0, _⟩ := DataW.trod_bool Try.underlying4 g0
      obtain ⟨z1, e1, _, f1⟩ := DataW.trod_int Try.underlying3 g1
      obtain ⟨p, e2, hp⟩ := pt_cells g2 rfl
      obtain ⟨a0, a1, a2, a3, a4, a5, a6, a7, a8⟩ := p
      simp only [P9.arr, List.cons.injEq, and_true] at e0 e1 e2
      obtain ⟨r0, r1, r2, r3, r4, r5, r6, r7, r8⟩ := e2
      subst e0 e1 r0 r1 r2 r3 r4 r5 r6 r7 r8
      exact ⟨⟨bo, z1, ⟨a0, a1, a2, a3, a4, a5, a6, a7, a8⟩⟩, rfl, hp, i64_bd f1⟩
/-- A list of pointers that came in. -/
def CameP9 (w : World) (p : Option Addr) (len cap : Nat) (l : List P9) : Prop :=
  l.length = len ∧ len ≤ cap ∧ cap ≤ 9223372036854775807 ∧ len * 72 ≤ 140737488351232 ∧ (p = none → cap = 0) ∧ Rv w p (rowsP l) ∧ ∀ x ∈ l, x.ok
/-- A list of slots that came in. -/
def CameSl (w : World) (p : Option Addr) (len cap : Nat) (l : List Sl) : Prop :=
  l.length = len ∧ len ≤ cap ∧ cap ≤ 9223372036854775807 ∧ len * 88 ≤ 140737488351232 ∧ (p = none → cap = 0) ∧ Rv w p (rowsSl l) ∧ ∀ x ∈ l, x.root.ok ∧ -9223372036854775808 ≤ x.size ∧ x.size ≤ 9223372036854775807
/-- Rows of one width, laid one behind the other. -/
theorem rows_laid {α : Type} [Inhabited α] (n : Nat) (hn : 0 < n) (row : α → List Value) (rows : List α → List Value) (hrow : ∀ x, (row x).length = n) (hlen : ∀ l, (rows l).length = l.length * n) (hget : ∀ (l : List α) (i : Nat) (v : α), l[i]? = some v → ∀ (j : Nat) (u : Value), (row v)[j]? = some u → (rows l)[i * n + j]? = some u) (ok : α → Prop) (a : Addr) (len : Nat) (each : ∀ i, i < len → ∃ v : α, (∀ j u, (row v)[j]? = some u → W.cell? ((a.add (i * n)).add j) = some u) ∧ ok v) :
    ∃ l : List α, l.length = len ∧ Rv W (some a) (rows l) ∧ ∀ x ∈ l, ok x := by
  obtain ⟨V, hV⟩ := choose_lt (α := α) (p := fun i v => (∀ j u, (row v)[j]? = some u → W.cell? ((a.add (i * n)).add j) = some u) ∧ ok v) each
  refine ⟨(List.range len).map V, by simp, ?_, fun v hv => ?_⟩
  · by_cases h0 : len = 0
    · subst h0; exact Or.inl (by have := hlen []; simpa using this)
    · obtain ⟨u0, hu0⟩ : ∃ u, (row (V 0))[0]? = some u := ⟨_, List.getElem?_eq_getElem (by rw [hrow]; exact hn)⟩
      have hs : a.spot = none := spot_of_cell (by have := (hV 0 (by omega)).1 0 _ hu0; simpa [Addr.add] using this)
      refine Or.inr ⟨a.block, a.off, by obtain ⟨g, o, sp⟩ := a; simp only at hs; subst hs; rfl, fun i u hu => ?_⟩
      have hi := (List.getElem?_eq_some_iff.1 hu).1
      rw [hlen] at hi
      simp only [List.length_map, List.length_range] at hi
      have hq : i / n < len := Nat.div_lt_of_lt_mul (by rw [Nat.mul_comm]; exact hi)
      have hj : i % n < n := Nat.mod_lt _ hn
      have hdm : i / n * n + i % n = i := by rw [Nat.mul_comm]; exact Nat.div_add_mod i n
      obtain ⟨u', hu'⟩ : ∃ u', (row (V (i / n)))[i % n]? = some u' := ⟨_, List.getElem?_eq_getElem (by rw [hrow]; exact hj)⟩
      have h1 := hget ((List.range len).map V) (i / n) (V (i / n)) (by simp [hq]) (i % n) u' hu'
      rw [hdm, hu] at h1
      have h2 := (hV (i / n) hq).1 (i % n) u' hu'
      rw [add_of hs, add_of rfl] at h2
      simp only [Nat.add_assoc] at h2
      rw [hdm] at h2
      rw [h2, h1]
  · obtain ⟨i, hi, rfl⟩ := List.mem_map.1 hv
    exact (hV i (List.mem_range.1 hi)).2
instance : Inhabited P9 := ⟨zero9⟩
instance : Inhabited Sl := ⟨sl0⟩
theorem cameP9_cells {fuel : Nat} {cs : List Value} {x : DataW H × List MemPlace} (h : DataW.trod enc Try.prog W 0 (fun _ => true) true fuel 30 cs = some x) (hw : ∀ n ∈ x.1.weights Try.prog 30, n ≤ reachBytes) :
    ∃ p len cap, cs = [.slice p len cap] ∧ ∃ l, CameP9 W p len cap l := by
  have h' := h
  rcases open_slice Try.underlying30 h with ⟨hcs, _⟩ | ⟨a, len, cap, m, n, D, Pl, rfl, hb0, hl, hm, hmm, hxe, hx⟩
  · exact ⟨none, 0, 0, hcs, [], rfl, by omega, by omega, by omega, fun _ => rfl, Or.inl rfl, by simp⟩
  · simp only [if_true] at hmm
    have hroom := slice_room Try.underlying30 h' hw (some a) len cap rfl
    rw [show Try.prog.bytesOf 40 = 72 by kernel_rfl] at hroom
    obtain ⟨l, h1, h2, h3⟩ := rows_laid (W := W) 9 (by omega) (fun p : P9 => p.arr.toList) rowsP (fun _ => rfl) rowsP_len rowsP_get P9.ok a len (fun i hi => by
      obtain ⟨cs', h1, h2⟩ := hx i (by omega)
      rw [cellsPt] at h1
      obtain ⟨_, hlen, hcell⟩ := World.cells?_some h1
      obtain ⟨y, rfl, hok⟩ := pt_cells h2 hlen
      refine ⟨y, fun k v hv => ?_, hok⟩
      have hk : k < 9 := by have := (List.getElem?_eq_some_iff.1 hv).1; simpa [P9.arr] using this
      rw [hcell k hk]
      exact hv)
    exact ⟨some a, len, cap, rfl, l, h1, hl, by unfold maxLen at hm; omega, hroom, by simp, h2, h3⟩
theorem cameSl_cells {fuel : Nat} {cs : List Value} {x : DataW H × List MemPlace} (h : DataW.trod enc Try.prog W 0 (fun _ => true) true fuel 42 cs = some x) (hw : ∀ n ∈ x.1.weights Try.prog 42, n ≤ reachBytes) :
    ∃ p len cap, cs = [.slice p len cap] ∧ ∃ l, CameSl W p len cap l := by
  have h' := h
  rcases open_slice Try.underlying42 h with ⟨hcs, _⟩ | ⟨a, len, cap, m, n, D, Pl, rfl, hb0, hl, hm, hmm, hxe, hx⟩
  · exact ⟨none, 0, 0, hcs, [], rfl, by omega, by omega, by omega, fun _ => rfl, Or.inl rfl, by simp⟩
  · simp only [if_true] at hmm
    have hroom := slice_room Try.underlying42 h' hw (some a) len cap rfl
    rw [show Try.prog.bytesOf 48 = 88 by kernel_rfl] at hroom
    obtain ⟨l, h1, h2, h3⟩ := rows_laid (W := W) 11 (by omega) Sl.row rowsSl (fun _ => rfl) rowsSl_len rowsSl_get (fun x => x.root.ok ∧ -9223372036854775808 ≤ x.size ∧ x.size ≤ 9223372036854775807) a len (fun i hi => by
      obtain ⟨cs', h1, h2⟩ := hx i (by omega)
      rw [cellsSlt] at h1
      obtain ⟨_, hlen, hcell⟩ := World.cells?_some h1
      obtain ⟨y, rfl, hok⟩ := slt_cells h2 hlen
      refine ⟨y, fun k v hv => ?_, hok⟩
      have hk : k < 11 := by have := (List.getElem?_eq_some_iff.1 hv).1; simpa [Sl.row] using this
      rw [hcell k hk]
      exact hv)
    exact ⟨some a, len, cap, rfl, l, h1, hl, by unfold maxLen at hm; omega, hroom, by simp, h2, h3⟩
end
end
section
open Go.ChangeShapes Go.WideShapes Go.ChangeAt Go.RowKit

set_option maxRecDepth 100000 in
theorem treegrows_lifted (os : Os) (started : os.Started) (H : Type) (enc : TypeId × Value → H) :
    ReturnsInHanded {} Try.checked os 8 .any (Rows.treeGrowsSpec.pre6 enc Try.prog Try.f8 Rows.treeGrowsRow.domain false) (Rows.treeGrowsSpec.post enc Try.prog Try.f8 false true false false) := by
  refine returnsInHanded_of_change_sized (C := Try.checked) own started (by kernel_rfl) Try.func8
    (ChangeSpec.witness6 (enc := enc) (C := Try.checked) false ⟨#[], #[.int .i64 0, .slice none 0 0, .int .u64 0, .int .u64 0], []⟩ 8 (by kernel_rfl) (by kernel_rfl) (by kernel_rfl) (by kernel_rfl)) ?_
  intro W base args ds gs before hval0 hW hcnd hsz0 _
  have hval : ∀ (j : Nat) t v, Try.f8.params[j]? = some t → args[j]? = some v → Value.okWide Try.prog W .any base t v := hval0
  have hsz : (DataW.weightsEach Try.prog (Try.f8.params.toList ++ Rows.treeGrowsSpec.plain.varTypes Try.prog) (ds ++ gs)).all (· ≤ reachBytes) = true := hsz0
  have hW' := hW
  obtain ⟨p, q, hA0, hV, rfl, hfz, hnd⟩ := hW
  have hA : DataW.TrodAll enc Try.prog W 0 (fun _ => true) true Try.f8.params.toList args.toList ds p := hA0
  rw [Try.params8] at hA hval hsz
  obtain ⟨v0, vs0, d0, ds0, p0, q0, hargs, rfl, rfl, h0, r0⟩ := trodAll_cons hA
  obtain ⟨v1, vs1, d1, ds1, p1, q1, rfl, rfl, rfl, h1, r1⟩ := trodAll_cons r0
  obtain ⟨v2, vs2, d2, ds2, p2, q2, rfl, rfl, rfl, h2, r2⟩ := trodAll_cons r1
  obtain ⟨v3, vs3, d3, ds3, p3, q3, rfl, rfl, rfl, h3, r3⟩ := trodAll_cons r2
  obtain ⟨rfl, rfl, rfl⟩ := trodAll_nil r3
  obtain rfl : args = #[v0, v1, v2, v3] := by cases args; simp_all
  obtain ⟨rfl, rfl⟩ := trodVars_none hV
  have lt1 : ∀ x ∈ p1, x.block < W.heap.size := by obtain ⟨m, hm⟩ := h1; exact DataW.trod_lt m _ _ _ hm
  obtain ⟨a0, rfl, rfl, rfl, w0⟩ := open_int Try.underlying3 (hval 0 3 v0 rfl rfl) h0
  obtain ⟨b1, l1, c1, rfl⟩ := okWide_slice Try.underlying30 (hval 1 30 v1 rfl rfl)
  obtain ⟨a2, rfl, rfl, rfl, w2⟩ := open_int Try.underlying36 (hval 2 36 v2 rfl rfl) h2
  obtain ⟨a3, rfl, rfl, rfl, w3⟩ := open_int Try.underlying36 (hval 3 36 v3 rfl rfl) h3
  obtain ⟨es1, w1⟩ : ∃ es, CameP9 W b1 l1 c1 es := by
    obtain ⟨fuel, hf⟩ := h1
    obtain ⟨p, len, cap, he, es, hh⟩ := cameP9_cells hf (fun n hn => by
      have := List.all_eq_true.1 hsz n (DataW.weights_mem_each (j := 1) rfl rfl n hn)
      simpa using this)
    simp [Value.cells] at he
    obtain ⟨rfl, rfl, rfl⟩ := he
    exact ⟨es, hh⟩
  clear hA0 hval0 hsz hsz0
  have walk : Calls Try.prog 8 #[.int .i64 a0, .slice b1 l1 c1, .int .u64 a2, .int .u64 a3] W fun e w' => e = .returned (.bool true) ∧ Frm [] W w' := grows_any a0 a2 a3 b1 l1 c1 es1 W w1.2.2.2.2.2.1 w1.1 (by have := w1.2.2.2.1; omega) (i64_bd w0) (u64_bd w2).1 (u64_bd w3).1
  refine walk.mono fun e W' ⟨he, hg⟩ => ?_
  subst he
  have bel : Below W.heap.size W W' := hg.below (Nat.le_refl _) (by simp)
  exact ⟨_, rfl, _, _, _, [], _, [], hW', trodAll_mk1 (shut_bool Try.underlying4 _), (trodAll_cons_mk (shut_int Try.underlying3 w0) (trodAll_cons_mk (Below.trod laidOut (by kernel_rfl) (of_decide_eq_true (by kernel_rfl)) h1 bel lt1) (trodAll_cons_mk (shut_int Try.underlying36 w2) (trodAll_cons_mk (shut_int Try.underlying36 w3) trodAll_mk0)))), rfl, bel.frame _, fun h => by cases h⟩

theorem treegrows_holds : Rows.TreeGrowsSaid :=
  OpenClaim.holds_of_wide 8 Try.f8 rfl rfl rfl rfl rfl rfl rfl ⟨rfl, rfl, rfl, rfl, rfl⟩ rfl rfl rfl rfl rfl (by kernel_rfl) Try.func8 (by kernel_rfl)
    (of_decide_eq_true (by kernel_rfl)) (by unfold Func.isWrapper; first | (rw [if_pos (by decide +kernel)]; kernel_rfl) | (rw [if_neg (by decide +kernel)]; exact ⟨rfl, rfl⟩))
    (fun os started H enc _ => treegrows_lifted os started H enc)
end
end Go.Proofs.Ytkolbijhekbelaa
