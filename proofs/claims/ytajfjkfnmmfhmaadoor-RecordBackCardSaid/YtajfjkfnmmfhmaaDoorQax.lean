/- Opening the arguments of the statements: numbers, bytes. A slice that came in is no longer than what a row may hold. The listed variable of the laws of layer 2: what the row's condition gives; a world that meets it. The three listed variables of the laws of layer 20: what the row's condition gives; a world that meets it. Inputs as they come in: a record. -/
import Derived.Test.YtajfjkfnmmfhmaaDoorRows
import Derived.Test.YtajfjkfnmmfhmaaDoorQaa
import Derived.ProofKit
import Derived.OpenShut
import Derived.ChangeOld
import Derived.Deep.Slices
import Derived.SizedLaws
import Derived.Test.YtajfjkfnmmfhmaaDoorQae
import Derived.LaidLaws
import Derived.Lib.LaidTab
import Derived.LaidSub
import Derived.Test.YtajfjkfnmmfhmaaDoorQag
namespace Go.Proofs.YtajfjkfnmmfhmaaDoor
section
section
set_option maxRecDepth 100000
open Go.ChangeShapes Go.WideShapes Go.ChangeAt Go.RowKit Go.Deep

theorem own : ownKnob Tryd.prog.godebug = none := by kernel_rfl
theorem laidOut : laidOutB Tryd.prog = true := by kernel_rfl
theorem u64_bd {x : Int} (h : (Lit.int .u64 x).wf = true) : 0 ≤ x ∧ x < 18446744073709551616 := by
  simp [Lit.wf, IntKind.min, IntKind.max, IntKind.signed, IntKind.bits] at h; omega
theorem i64_bd {x : Int} (h : (Lit.int .i64 x).wf = true) : -9223372036854775808 ≤ x ∧ x ≤ 9223372036854775807 := by
  simp [Lit.wf, IntKind.min, IntKind.max, IntKind.signed, IntKind.bits] at h; omega
theorem u8_bd {x : Int} (h : (Lit.int .u8 x).wf = true) : 0 ≤ x ∧ x < 256 := by
  simp [Lit.wf, IntKind.min, IntKind.max, IntKind.signed, IntKind.bits] at h; omega
/-- A slice of bytes that came in: the bytes that it shows. -/
def Came (w : World) (p : Option Addr) (len cap : Nat) : Prop := ∃ ns : List Int, ns.length = len ∧ Rd w p ns ∧ (∀ z ∈ ns, 0 ≤ z ∧ z < 256) ∧ (ns = [] → p = none → cap = 0) ∧ len ≤ cap ∧ cap ≤ 9223372036854775807
theorem spot_of_cell {w : World} {x : Addr} {v : Value} (h : w.cell? x = some v) : x.spot = none := by
  unfold World.cell? at h
  split at h
  · by_cases hs : x.spot.isSome = true
    · simp [hs] at h
    · simpa using hs
  · cases h
theorem came_of {w : World} {x : Addr} {len cap : Nat} {zs : List Int} (hl : len ≤ cap) (hm : cap ≤ maxLen) (hz : zs.length = cap) (hcell : ∀ i, i < zs.length → w.cell? (x.add i) = some (.int .u8 (zs.getD i 0))) (hwf : ∀ n ∈ zs, (Lit.int .u8 n).wf = true) : Came w (some x) len cap := by
  refine ⟨zs.take len, by simp; omega, ?_, fun z hz => u8_bd (hwf z (List.mem_of_mem_take hz)), by simp, hl, by unfold maxLen at hm; omega⟩
  by_cases h0 : len = 0
  · exact Or.inl (by simp [h0])
  · have hs : x.spot = none := spot_of_cell (by have := hcell 0 (by omega); simpa [Addr.add] using this)
    obtain ⟨g, o, sp⟩ := x
    simp only at hs
    subst hs
    refine Or.inr ⟨g, o, rfl, fun i hi => ?_⟩
    simp at hi
    have h := hcell i (by omega)
    rw [show (⟨g, o, none⟩ : Addr).add i = ⟨g, o + i, none⟩ by unfold Addr.add; split <;> simp_all] at h
    have h2 : i < zs.length := by omega
    rw [h]; simp [List.getD, hi, h2]
section
variable {H : Type} {enc : TypeId × Value → H} {W : World}
/-- A slice of bytes, wherever it stands. -/
theorem came_cells {fuel : Nat} {cs : List Value} {x : DataW H × List MemPlace} (h : DataW.trod enc Tryd.prog W 0 (fun _ => true) true fuel 23 cs = some x) :
    ∃ p len cap, cs = [.slice p len cap] ∧ Came W p len cap := by
  rcases open_ints Tryd.underlying23 Tryd.underlying5 (by kernel_rfl) h with ⟨hcs, _⟩ | ⟨x, l, c, zs, hcs, _, hl, hm, hz, _, hcell, hwz⟩
  · exact ⟨none, 0, 0, hcs, [], rfl, Or.inl rfl, by simp, fun _ _ => rfl, by omega, by omega⟩
  · exact ⟨some x, l, c, hcs, came_of hl hm (by simpa using hz) hcell hwz⟩
theorem cellsI : Tryd.prog.cellsOf 3 = 1 := by kernel_rfl
theorem cellsB : Tryd.prog.cellsOf 23 = 1 := by kernel_rfl
theorem cellsS : Tryd.prog.cellsOf 9 = 1 := by kernel_rfl
theorem add_of {x : Addr} (hs : x.spot = none) (i : Nat) : x.add i = ⟨x.block, x.off + i, none⟩ := by
  obtain ⟨g, o, sp⟩ := x
  simp only at hs
  subst hs
  unfold Addr.add; split <;> simp_all
end
theorem Came.kept {w w' : World} {p : Option Addr} {len cap : Nat} (h : Came w p len cap) (hf : Frm [] w w') : Came w' p len cap := by
  obtain ⟨ns, h1, h2, h3⟩ := h
  exact ⟨ns, h1, h2.kept hf (by simp), h3⟩
end
section
set_option maxRecDepth 100000
open Go.ChangeShapes Go.WideShapes Go.ChangeAt Go.RowKit Go.Deep

theorem bytesU : Tryd.prog.bytesOf 5 = 1 := by kernel_rfl
section
variable {H : Type} {enc : TypeId × Value → H} {W : World} {P : Program}
theorem slice_room {t E : TypeId} (ht : P.underlying t = some (.slice E)) {fuel : Nat} {cs : List Value} {x : DataW H × List MemPlace} (h : DataW.trod enc P W 0 (fun _ => true) true fuel t cs = some x) (hw : ∀ n ∈ x.1.weights P t, n ≤ reachBytes) (p : Option Addr) (len cap : Nat) (he : cs = [.slice p len cap]) : len * P.bytesOf E ≤ 140737488351232 := by
  rcases open_slice ht h with ⟨hcs, _⟩ | ⟨a, l, c, m, n, D, Pl, rfl, hb, hl, hm, hmm, rfl, hx⟩
  · rw [hcs] at he
    simp only [List.cons.injEq, Value.slice.injEq, and_true] at he
    obtain ⟨_, rfl, _⟩ := he
    simp
  · simp only [List.cons.injEq, Value.slice.injEq, and_true] at he
    obtain ⟨rfl, rfl, rfl⟩ := he
    have := hw _ (by
      simp only [DataW.weights, ht]
      exact List.mem_cons_self)
    simp only [List.length_map, List.length_range, reachBytes] at this
    refine Nat.le_trans (Nat.mul_le_mul_right _ (Nat.le_add_right l (m - l))) this
theorem mem_all {P : Program} {e : TypeId} {l : List (DataW H)} {d : DataW H} (hd : d ∈ l) {n : Nat} (hn : n ∈ d.weights P e) : n ∈ DataW.weightsAll P e l := by
  induction l with
  | nil => cases hd
  | cons a l ih =>
    simp only [DataW.weightsAll, List.mem_append]
    rcases List.mem_cons.1 hd with rfl | h
    · exact Or.inl hn
    · exact Or.inr (ih h)
theorem came_len {fuel : Nat} {cs : List Value} {x : DataW H × List MemPlace} (h : DataW.trod enc Tryd.prog W 0 (fun _ => true) true fuel 23 cs = some x) (hw : ∀ n ∈ x.1.weights Tryd.prog 23, n ≤ reachBytes) (p : Option Addr) (len cap : Nat) (he : cs = [.slice p len cap]) : len ≤ 140737488351232 := by
  rcases open_ints Tryd.underlying23 Tryd.underlying5 (by kernel_rfl) h with ⟨hcs, _⟩ | ⟨a, l, c, zs, hcs, _, hl, hm, hz, hxx, _, _⟩
  · rw [hcs] at he
    simp at he
    omega
  · rw [hcs] at he
    simp only [List.cons.injEq, Value.slice.injEq, and_true] at he
    obtain ⟨_, rfl, _⟩ := he
    have := hw ((zs.take l).length + (zs.drop l).length) (by
      rw [hxx]
      simp [DataW.weights, Tryd.underlying23, bytesU, lits])
    simp only [List.length_take, List.length_drop, reachBytes] at this
    simp only [if_true] at hz
    omega
end
end
end
section
open Go.ChangeShapes Go.WideShapes Go.ChangeAt Go.RowKit
set_option maxRecDepth 100000

theorem bulk_lits {H : Type} (k : IntKind) (zs : List Int) : Rows.uptoBulkAll (H := H) (lits k zs) = zs.length := by
  induction zs with
  | nil => rfl
  | cons z zs ih =>
    have e : (lits k (z :: zs) : List (DataW H)) = .lit (.int k z) :: lits k zs := rfl
    rw [e, Rows.uptoBulkAll, ih, List.length_cons]
    simp only [Rows.uptoBulk]
    omega
theorem g_primes : Tryd.prog.globalNamed "undercroft/sum.primes" = some 0 := by kernel_rfl
theorem g_primesType : (Tryd.prog.globals[0]?).map (·.type) = some 118 := by kernel_rfl
theorem cells_u32 : Tryd.prog.cellsOf 108 = 1 := by kernel_rfl
theorem cells_tab : Tryd.prog.cellsOf 118 = 64 := by kernel_rfl
theorem primes_of_laid {W : World} (h : laidMetH Tryd.prog [("undercroft/sum.primes", Rows.laid_undercroft_sum_primes)] W) : Primes W := by
  have h2 : laidMet Tryd.prog [("undercroft/sum.primes", Lib.tabData .u32 PR)] W := h
  have hT : Lib.TabIs Tryd.prog W "undercroft/sum.primes" .u32 PR := Lib.tabIs_of_head g_primes g_primesType Tryd.underlying118 Tryd.underlying108 cells_u32 cells_tab h2
  exact fun t ht => hT.cell g_primes t ht
/-- The settled world, the variable holding what its initialiser lays. -/
noncomputable def laidW (os : Os) : World :=
  { World.holding Tryd.prog os ⟨#[], #[], []⟩ with heap := (World.holding Tryd.prog os ⟨#[], #[], []⟩).heap.modify 0 fun
      | .cells _ t frozen => .cells (PR.map fun z => Value.int .u32 z).toArray t frozen
      | o => o }
theorem laid_met (os : Os) (args : Array Value) : laidMet Tryd.prog [("undercroft/sum.primes", Rows.laid_undercroft_sum_primes)] ((laidW os).forCall (fun _ _ => 0) ⟨#[], args, []⟩).memory :=
  laidMet_of_run' 8 (by kernel_rfl) (by kernel_rfl)
end
section
open Go.ChangeShapes Go.WideShapes Go.ChangeAt Go.RowKit
set_option maxRecDepth 100000

theorem keep_oneR {W : World} {l : List (String × DataW Unit)} (name : String) {d : DataW Unit} (h : laidMetH Tryd.prog l W) (hl : l.filter (fun x => x.1 == name) = [(name, d)]) : laidMetH Tryd.prog [(name, d)] W := by
  have h2 := h.filter (fun x => x.1 == name)
  rwa [hl] at h2
theorem primes_of_laid3 {W : World} (h : laidMetH Tryd.prog [("undercroft/sum.primes", Rows.laid_undercroft_sum_primes), ("unicode/utf8.acceptRanges", Rows.laid_unicode_utf8_acceptRanges), ("unicode/utf8.first", Rows.laid_unicode_utf8_first)] W) : Primes W :=
  primes_of_laid (keep_oneR "undercroft/sum.primes" h rfl)
def UF : List Int := List.replicate 128 240 ++ List.replicate 66 241 ++ List.replicate 30 2 ++ [19] ++ List.replicate 12 3 ++ [35, 3, 3, 52, 4, 4, 4, 68] ++ List.replicate 11 241
def UA : List Int := [128, 191, 160, 191, 128, 159, 144, 191, 128, 143] ++ List.replicate 22 0
/-- The settled world, the variables holding what their initialisers lay. -/
noncomputable def laidWr (os : Os) : World :=
  { laidW os with heap := ((laidW os).heap.modify 2 fun
      | .cells _ t frozen => .cells (UF.map fun z => Value.int .u8 z).toArray t frozen
      | o => o).modify 3 fun
      | .cells _ t frozen => .cells (UA.map fun z => Value.int .u8 z).toArray t frozen
      | o => o }
theorem laid_metr (os : Os) (args : Array Value) : laidMet Tryd.prog [("undercroft/sum.primes", Rows.laid_undercroft_sum_primes), ("unicode/utf8.acceptRanges", Rows.laid_unicode_utf8_acceptRanges), ("unicode/utf8.first", Rows.laid_unicode_utf8_first)] ((laidWr os).forCall (fun _ _ => 0) ⟨#[], args, []⟩).memory :=
  laidMet_of_run' 8 (by kernel_rfl) (by kernel_rfl)
end
section
open Go.RowKit Go.ChangeShapes Go.WideShapes Go.Deep
set_option maxRecDepth 100000
theorem list_eachR {α : Type} (z : α) (P : Nat → α → Prop) : ∀ n, (∀ i, i < n → ∃ a, P i a) → ∃ l : List α, l.length = n ∧ ∀ i, i < n → P i (l.getD i z)
  | 0, _ => ⟨[], rfl, fun i hi => by omega⟩
  | n + 1, h => by
    obtain ⟨l, hl, hp⟩ := list_eachR z P n (fun i hi => h i (by omega))
    obtain ⟨a, ha⟩ := h n (by omega)
    refine ⟨l ++ [a], by simp [hl], fun i hi => ?_⟩
    by_cases hin : i < n
    · have := hp i hin
      rw [List.getD_eq_getElem?_getD, List.getElem?_append_left (by omega), ← List.getD_eq_getElem?_getD]
      exact this
    · obtain rfl : i = n := by omega
      rw [List.getD_eq_getElem?_getD, List.getElem?_append_right (by omega), hl, Nat.sub_self]
      exact ha
section
variable {H : Type} {enc : TypeId × Value → H} {W : World}
theorem keeps_came {fuel : Nat} {cs : List Value} {x : DataW H × List MemPlace} (h : DataW.trod enc Tryd.prog W 0 (fun _ => true) true fuel 28 cs = some x) :
    ∃ p len cap K, cs = [.slice p len cap] ∧ K.length = len ∧ RdI W p K ∧ len ≤ 9223372036854775807 := by
  have ht1 : Tryd.prog.cellsOf 3 = 1 := by kernel_rfl
  rcases open_slice Tryd.underlying28 h with ⟨hcs, _⟩ | ⟨a, len, cap, m, n, D, Pl, rfl, hb, hl, hm, hmm, rfl, hx⟩
  · exact ⟨none, 0, 0, [], hcs, rfl, Or.inl rfl, by omega⟩
  · simp only [if_true] at hmm
    subst hmm
    have each : ∀ i, i < len → ∃ s, W.cell? (a.add i) = some (.int .i64 s) := by
      intro i hi
      obtain ⟨cs', h1, h2⟩ := hx i (by omega)
      rw [ht1, Nat.mul_one] at h1
      obtain ⟨_, hlen, hcell⟩ := World.cells?_some h1
      obtain ⟨s, e, _, _⟩ := DataW.trod_int Tryd.underlying3 h2
      subst e
      exact ⟨s, by have := hcell 0 (by omega); simpa [Addr.add] using this⟩
    obtain ⟨L, hLl, hLs⟩ := list_eachR (0 : Int) _ len each
    refine ⟨some a, len, _, L, rfl, hLl, ?_, by unfold maxLen at hm; omega⟩
    by_cases h0 : len = 0
    · subst h0
      rw [List.eq_nil_of_length_eq_zero hLl]
      exact Or.inl rfl
    · have hs : a.spot = none := by
        have h1 := hLs 0 (by omega)
        exact spot_of_cell (by simpa [Addr.add] using h1)
      refine Or.inr ⟨a.block, a.off, by obtain ⟨g, o, sp⟩ := a; simp only at hs; subst hs; rfl, fun i u hu => ?_⟩
      have hi := (List.getElem?_eq_some_iff.1 hu).1
      rw [List.length_map, hLl] at hi
      have h1 := hLs i hi
      rw [add_of hs] at h1
      rw [h1]
      rw [List.getElem?_map, List.getElem?_eq_getElem (by omega)] at hu
      rw [List.getD_eq_getElem?_getD, List.getElem?_eq_getElem (by omega)]
      exact hu
theorem props_came {fuel : Nat} {cs : List Value} {x : DataW H × List MemPlace} (h : DataW.trod enc Tryd.prog W 0 (fun _ => true) true fuel 27 cs = some x) :
    ∃ p len cap P, cs = [.slice p len cap] ∧ P.length = len ∧ RdP W p P ∧ len ≤ 9223372036854775807 := by
  have ht2 : Tryd.prog.cellsOf 69 = 2 := by kernel_rfl
  have hs1 : Tryd.prog.cellsOf 9 = 1 := by kernel_rfl
  rcases open_slice Tryd.underlying27 h with ⟨hcs, _⟩ | ⟨a, len, cap, m, n, D, Pl, rfl, hb, hl, hm, hmm, rfl, hx⟩
  · exact ⟨none, 0, 0, [], hcs, rfl, Or.inl rfl, by omega⟩
  · simp only [if_true] at hmm
    subst hmm
    have each : ∀ i, i < len → ∃ s : Pr, W.cell? (a.add (i * 2)) = some (.string s.1) ∧ W.cell? (a.add (i * 2 + 1)) = some (.string s.2) := by
      intro i hi
      obtain ⟨cs', h1, h2⟩ := hx i (by omega)
      rw [ht2] at h1
      obtain ⟨_, hlen, hcell⟩ := World.cells?_some h1
      obtain ⟨xs, n2, _, _, _, hxl, hF⟩ := DataW.trod_struct Tryd.underlying69 h2
      match cs', hlen with
      | [c0, c1], _ =>
        have g0 := hF 0 _ rfl
        have g1 := hF 1 _ rfl
        match xs, hxl with
        | [x0, x1], _ =>
          simp [hs1] at g0 g1
          obtain ⟨s0, e0, _⟩ := DataW.trod_string Tryd.underlying9 g0
          obtain ⟨s1, e1, _⟩ := DataW.trod_string Tryd.underlying9 g1
          simp only [List.cons.injEq, and_true] at e0 e1
          subst e0 e1
          refine ⟨(s0, s1), ?_, ?_⟩
          · have := hcell 0 (by simp); simpa [Addr.add] using this
          · have := hcell 1 (by simp)
            rw [Addr.add_add] at this
            simpa using this
    obtain ⟨L, hLl, hLs⟩ := list_eachR ((⟨#[]⟩, ⟨#[]⟩) : Pr) _ len each
    refine ⟨some a, len, _, L, rfl, hLl, ?_, by unfold maxLen at hm; omega⟩
    by_cases h0 : len = 0
    · subst h0
      rw [List.eq_nil_of_length_eq_zero hLl]
      exact Or.inl rfl
    · have hs : a.spot = none := by
        have h1 := (hLs 0 (by omega)).1
        exact spot_of_cell (by simpa [Addr.add] using h1)
      refine Or.inr ⟨a.block, a.off, by obtain ⟨g, o, sp⟩ := a; simp only at hs; subst hs; rfl, fun i u hu => ?_⟩
      have hi := (List.getElem?_eq_some_iff.1 hu).1
      rw [hLl] at hi
      obtain ⟨h1, h2⟩ := hLs i hi
      rw [add_of hs] at h1 h2
      rw [List.getD_eq_getElem?_getD, hu] at h1 h2
      exact ⟨h1, by rw [Nat.add_assoc]; exact h2⟩
theorem rec_came {b0 : Nat} {v : Value} {d : DataW H} {q : List MemPlace} (hv : Value.okWide Tryd.prog W .any b0 30 v) (h : DataW.Trod enc Tryd.prog W 0 (fun _ => true) true 30 v d q) (hw : ∀ n ∈ d.weights Tryd.prog 30, n ≤ reachBytes) :
    ∃ (r : Rc) (P : List Pr) (K D : List Int), v = .agg r.arr ∧ RcOk W r P K D ∧ r.name.size ≤ 140737488355328 ∧ r.dl ≤ r.dc := by
  obtain ⟨cs, rfl, hsz⟩ := okWide_struct Tryd.underlying30 hv
  have h13 : Tryd.prog.cellsOf 30 = 13 := by kernel_rfl
  have hs1 : Tryd.prog.cellsOf 23 = 1 := by kernel_rfl
  have hs2 : Tryd.prog.cellsOf 27 = 1 := by kernel_rfl
  have hs3 : Tryd.prog.cellsOf 28 = 1 := by kernel_rfl
  have hi1 : Tryd.prog.cellsOf 3 = 1 := by kernel_rfl
  have ht1 : Tryd.prog.cellsOf 9 = 1 := by kernel_rfl
  rw [h13] at hsz
  obtain ⟨fuel, hf⟩ := h
  obtain ⟨xs, n, _, hxe, _, hxl, hF⟩ := DataW.trod_struct Tryd.underlying30 hf
  obtain ⟨l⟩ := cs
  match l, hsz with
  | [c0, c1, c2, c3, c4, c5, c6, c7, c8, c9, c10, c11, c12], _ =>
    have g0 := hF 0 _ rfl
    have g1 := hF 1 _ rfl
    have g2 := hF 2 _ rfl
    have g3 := hF 3 _ rfl
    have g4 := hF 4 _ rfl
    have g5 := hF 5 _ rfl
    have g6 := hF 6 _ rfl
    have g7 := hF 7 _ rfl
    have g8 := hF 8 _ rfl
    have g9 := hF 9 _ rfl
    have g10 := hF 10 _ rfl
    have g11 := hF 11 _ rfl
    have g12 := hF 12 _ rfl
    match xs, hxl with
    | [x0, x1, x2, x3, x4, x5, x6, x7, x8, x9, x10, x11, x12], _ =>
      simp [Value.cells, hs1, hs2, hs3, hi1, ht1] at g0 g1 g2 g3 g4 g5 g6 g7 g8 g9 g10 g11 g12
      obtain ⟨z0, e0, _, _⟩ := DataW.trod_int Tryd.underlying3 g0
      obtain ⟨z2, e2, _, _⟩ := DataW.trod_int Tryd.underlying3 g2
      obtain ⟨z3, e3, _, _⟩ := DataW.trod_int Tryd.underlying3 g3
      obtain ⟨z4, e4, _, _⟩ := DataW.trod_int Tryd.underlying3 g4
      obtain ⟨z5, e5, _, _⟩ := DataW.trod_int Tryd.underlying3 g5
      obtain ⟨z8, e8, _, _⟩ := DataW.trod_int Tryd.underlying3 g8
      obtain ⟨z9, e9, _, _⟩ := DataW.trod_int Tryd.underlying3 g9
      obtain ⟨z10, e10, _, _⟩ := DataW.trod_int Tryd.underlying3 g10
      obtain ⟨z1, e1, d1, _⟩ := DataW.trod_string Tryd.underlying9 g1
      obtain ⟨z6, e6, _, _⟩ := DataW.trod_string Tryd.underlying9 g6
      obtain ⟨pp, pn, pc, P, e7, hP, hrp, hpn⟩ := props_came g7
      obtain ⟨kp, kn, kc, K, e11, hK, hrk, hkn⟩ := keeps_came g11
      obtain ⟨p, len, cap, e12, ns, hnl, hrd, hnb, _, hlc, _⟩ := came_cells g12
      have hnm : z1.size ≤ reachBytes := hw z1.size (by
        rw [(Prod.mk.inj hxe).1]
        simp only [DataW.weights, Tryd.underlying30]
        refine DataW.weights_mem_each (j := 1) (d := .lit (.string z1.data.toList)) rfl (by simp [d1]) _ ?_
        simp only [DataW.weights, List.mem_singleton]
        rfl)
      simp only [List.cons.injEq, and_true] at e0 e1 e2 e3 e4 e5 e6 e7 e8 e9 e10 e11 e12
      subst e0 e1 e2 e3 e4 e5 e6 e7 e8 e9 e10 e11 e12
      exact ⟨⟨z0, z1, z2, z3, z4, z5, z6, pp, pn, pc, z8, z9, z10, kp, kn, kc, p, len, cap⟩, P, K, ns, rfl, ⟨hrp, hP, hrk, hK, hrd, hnl, hnb, ⟨hpn, hkn⟩⟩, by unfold reachBytes at hnm; show z1.size ≤ _; omega, hlc⟩
end
end
end Go.Proofs.YtajfjkfnmmfhmaaDoor
