/- Contracts of package volume: cells as values, blank, Cells. -/
import Derived.Test.YthifchkeapbfdaaVolC
namespace Go.Proofs.Ythifchkeapbfdaa
open Go.RowKit
set_option maxRecDepth 100000

theorem infoCell : (Try.prog.info? 57).map (fun i => (i.zero, i.size, i.bytes)) = some (some (.agg #[.int .i64 0, .int .i64 0, .int .i64 0, .slice none 0 0]), 4, 48) := by kernel_rfl
set_option maxHeartbeats 400000 in
theorem blank_any (p : Option Addr) (c : Nat) (zs : List Int) (w : World) (hrd : Rd w p zs) (hl : zs.length ≤ 9223372036854775807) :
    Calls Try.prog 19 #[.slice p zs.length c] w fun e w' => e = .returned (.bool (zs.all (· == 0))) ∧ w = w' := by
  have HR : Hid (∀ i, i < zs.length → ∃ g o, p = some ⟨g, o, none⟩ ∧ w.cell? ⟨g, o + i, none⟩ = some (.int .u8 (zs.getD i 0))) := by
    intro i hi
    rcases hrd with h | ⟨g, o, h1, h2⟩
    · subst h; simp at hi
    · exact ⟨g, o, h1, h2 i hi⟩
  clear hrd
  go_enter Try.func19, Try.ntmps19
  go_wp2_with fail
  go_loop [7] (fun i => ∃ j : Nat, j ≤ zs.length ∧ i = .int .i64 j ∧ Hid ((zs.take j).all (· == 0) = true)) (fun i => zs.length - (intOf i).toNat)
  case atStart => exact ⟨0, Nat.zero_le _, rfl, hid (by simp)⟩
  case round =>
    obtain ⟨j, hj, rfl, hall⟩ := hrel
    by_cases hlt : j < zs.length
    · obtain ⟨g, o, rfl, hc⟩ := HR.out j hlt
      have e3 : zs.take (j + 1) = zs.take j ++ [zs.getD j 0] := by
        rw [List.take_succ_eq_append_getElem hlt]; simp [List.getD, hlt]
      have hmem : zs.getD j 0 ∈ zs := by simp [List.getD, hlt]
      generalize zs.getD j 0 = x at hc e3 hmem
      have HE := hid e3
      have HM := hid hmem
      clear e3 hmem
      by_cases hx : x = 0
      · have hb : (x != 0) = false := by simp [hx]
        have HX := hid hx
        clear hx
        go_wp2_with fail
        go_round
        case rel =>
          refine ⟨j + 1, by omega, by go_num, ?_⟩
          show _ = _
          rw [HE.out, List.all_append, hall.out, HX.out]; rfl
        case measure => simp [intOf]; omega
      · have hb : (x != 0) = true := by simpa using hx
        have HX := hid hx
        clear hx
        go_wp2_with fail
        go_returns
        refine ⟨boolE ?_, rfl⟩
        symm
        rw [Bool.eq_false_iff]
        intro h
        rw [List.all_eq_true] at h
        exact HX.out (by simpa using h x HM.out)
    · obtain rfl : j = zs.length := by omega
      rw [List.take_length] at hall
      go_wp2_with fail
      go_returns
      exact ⟨boolE hall.out.symm, rfl⟩
set_option maxHeartbeats 400000 in
theorem cell_any (k : Int) (p : Option Addr) (c : Nat) (zs : List Int) (w : World) (hrd : Rd w p zs) (hl : zs.length ≤ 140737488355328) (hpc : zs = [] → p = none → c = 0) :
    Calls Try.prog 26 #[.int .i64 k, .slice p zs.length c] w fun e w' => ∃ p' n' c', e = .returned (.agg #[.int .i64 1, .int .i64 k, .int .i64 0, .slice p' n' c']) ∧ n' = zs.length ∧ Own w' 5 (.slice p' n' c') zs ∧ Frm [] w w' ∧ ∀ k ∈ blk p', w.heap.size ≤ k := by
  have HA : Hid (Frm [] w (w.alloc (.cells #[.int .i64 0, .int .i64 0, .int .i64 0, .slice none 0 0] 57))) := (Frm.refl _ _).alloc _
  have HR := hid (hrd.kept HA.out (by simp))
  have HPC := hid hpc
  clear hrd hpc
  go_enter Try.func26, Try.ntmps26
  go_wp2_with (at_builtin; refine wpList_appB rfl _ _ 44 rfl 5 Try.underlying44 infoB none 0 0 [] rfl rfl (Own.nil _ _) p zs.length c zs rfl rfl HPC.out HR.out (by simp; omega) ?_)
  intro xs p2 c2 w2 hxs ho hf hfr
  have hx : xs = zs := hxs.out
  subst xs
  have hh : w2.heap[w.heap.size]? = some (.cells #[.int .i64 0, .int .i64 0, .int .i64 0, .slice none 0 0] 57 (0, 0)) := Frm.heap (S := []) hf.out (heap_alloc_new _ _) (by simp)
  have d0 : w2.cell? ⟨w.heap.size, 0, none⟩ = some (.int .i64 0) := by rw [cell_of_row _ _ _ _ _ _ hh]; rfl
  have d1 : w2.cell? ⟨w.heap.size, 1, none⟩ = some (.int .i64 0) := by rw [cell_of_row _ _ _ _ _ _ hh]; rfl
  have d2 : w2.cell? ⟨w.heap.size, 2, none⟩ = some (.int .i64 0) := by rw [cell_of_row _ _ _ _ _ _ hh]; rfl
  have d3 : w2.cell? ⟨w.heap.size, 3, none⟩ = some (.slice none 0 0) := by rw [cell_of_row _ _ _ _ _ _ hh]; rfl
  have f0 := frozen_of_row w2 w.heap.size 0 _ _ hh
  have f1 := frozen_of_row w2 w.heap.size 1 _ _ hh
  have f2 := frozen_of_row w2 w.heap.size 2 _ _ hh
  have f3 := frozen_of_row w2 w.heap.size 3 _ _ hh
  have HH := hid hh
  clear hh
  go_wp2_with fail
  generalize hW : (((w2.setCell ⟨w.heap.size, 0, none⟩ (.int .i64 1)).setCell ⟨w.heap.size, 1, none⟩ (.int .i64 k)).setCell ⟨w.heap.size, 2, none⟩ (.int .i64 0)).setCell ⟨w.heap.size, 3, none⟩ (.slice p2 zs.length c2) = W3
  have hs := HH.out
  have h3 : W3.heap[w.heap.size]? = some (.cells #[.int .i64 1, .int .i64 k, .int .i64 0, .slice p2 zs.length c2] 57 (0, 0)) := by
    rw [← hW]
    rw [heap_setCell_same _ _ 3 _ _ _ (heap_setCell_same _ _ 2 _ _ _ (heap_setCell_same _ _ 1 _ _ _ (heap_setCell_same _ _ 0 _ _ _ hs)))]
    rfl
  have hF3 : Frm [w.heap.size] w2 W3 := by
    rw [← hW]
    exact ((((Frm.refl _ _).setCell _ _ (by simp)).setCell _ _ (by simp)).setCell _ _ (by simp)).setCell _ _ (by simp)
  have HF3 := hid hF3
  have e0 : W3.cell? ⟨w.heap.size, 0, none⟩ = some (.int .i64 1) := by rw [cell_of_row _ _ _ _ _ _ h3]; rfl
  have e1 : W3.cell? ⟨w.heap.size, 1, none⟩ = some (.int .i64 k) := by rw [cell_of_row _ _ _ _ _ _ h3]; rfl
  have e2 : W3.cell? ⟨w.heap.size, 2, none⟩ = some (.int .i64 0) := by rw [cell_of_row _ _ _ _ _ _ h3]; rfl
  have e3 : W3.cell? ⟨w.heap.size, 3, none⟩ = some (.slice p2 zs.length c2) := by rw [cell_of_row _ _ _ _ _ _ h3]; rfl
  clear hs h3 hF3 hW d0 d1 d2 d3 f0 f1 f2 f3
  refine bodyPost_ret (v := .agg #[.int .i64 1, .int .i64 k, .int .i64 0, .slice p2 zs.length c2]) (by simp [results, Try.results26, go_sem, e0, e1, e2, e3]) rfl ?_
  have hnew : ∀ j ∈ blk p2, w.heap.size + 1 ≤ j := fun j hj => (hfr.out j hj).elim (fun h => by simp [blk] at h) id
  refine ⟨p2, zs.length, c2, rfl, rfl, ho.out.kept HF3.out (by rw [own_blk]; intro j hj; have := hnew j hj; simp; omega), ?_, fun j hj => by have := hnew j hj; omega⟩
  exact (HA.out.trans (T := []) hf.out (by simp)).trans HF3.out (fun i hi hlt => by simp at hi; omega)
/-- A cell of a volume: its place, its bytes, where they lie. -/
structure CellV where
  k : Int
  p : Option Addr
  c : Nat
  zs : List Int
def cellRow (x : CellV) : List Value := [.int .i64 1, .int .i64 x.k, .int .i64 0, .slice x.p x.zs.length x.c]
def cellRows (xs : List CellV) : List Value := xs.flatMap cellRow
theorem cellRows_snoc (xs : List CellV) (x : CellV) : cellRows (xs ++ [x]) = cellRows xs ++ cellRow x := by simp [cellRows]
theorem cellRows_length (xs : List CellV) : (cellRows xs).length = xs.length * 4 := by
  induction xs with
  | nil => rfl
  | cons e es ih => rw [cellRows, List.flatMap_cons, List.length_append, ← cellRows, ih]; simp [cellRow]; omega
theorem cellRows_at (xs : List CellV) (t : Nat) (h : t < xs.length) (j : Nat) (hj : j < 4) : (cellRows xs)[t * 4 + j]? = (cellRow xs[t])[j]? := by
  have e1 : xs = xs.take t ++ ([xs[t]] ++ xs.drop (t + 1)) := by simp
  have e2 : cellRows xs = cellRows (xs.take t) ++ (cellRow xs[t] ++ cellRows (xs.drop (t + 1))) := by
    have h3 := congrArg cellRows e1
    rw [h3]
    simp only [cellRows, List.flatMap_append, List.flatMap_cons, List.flatMap_nil, List.append_nil]
  have hl : (cellRows (xs.take t)).length = t * 4 := by rw [cellRows_length]; simp; omega
  rw [e2, List.getElem?_append_right (by omega), hl, List.getElem?_append_left (by simp [cellRow]; omega)]
  congr 1
  omega
theorem cellRow_one (x : CellV) : ∀ u ∈ cellRow x, u.oneCell' = true := by
  intro u hu; simp [cellRow] at hu; rcases hu with rfl | rfl | rfl | rfl <;> rfl
/-- The chunk at a place. -/
def chunk (bs : List Int) (k : Nat) : List Int := (bs.drop (256 * k)).take 256
/-- What the first n chunks give. -/
def chunksL (bs : List Int) (n : Nat) : List (Int × List Int) := (List.range n).filterMap fun k => if (chunk bs k).all (· == 0) then none else some ((k : Int), chunk bs k)
def cellsL (bs : List Int) : List (Int × List Int) := (-1, le bs.length 4) :: chunksL bs (bs.length / 256)
theorem chunksL_succ (bs : List Int) (n : Nat) : chunksL bs (n + 1) = chunksL bs n ++ (if (chunk bs n).all (· == 0) then [] else [((n : Int), chunk bs n)]) := by
  unfold chunksL
  rw [List.range_succ, List.filterMap_append]
  congr 1
  rw [List.filterMap_cons, List.filterMap_nil]
  by_cases h : (chunk bs n).all (· == 0) = true
  · rw [if_pos h, if_pos h]
  · rw [if_neg h, if_neg h]
/-- Cells in memory: what they say, where it lies. -/
def IsCells (w : World) (lo : Nat) (pp : Option Addr) (pc : Nat) (xs : List CellV) : Prop :=
  w.ownsRow 0 57 4 (.slice pp xs.length pc) xs.length (cellRows xs) ∧ (∀ k ∈ blk pp, lo ≤ k) ∧ ∀ x ∈ xs, Rd w x.p x.zs ∧ (∀ k ∈ blk x.p, lo ≤ k ∧ k < w.heap.size) ∧ (x.zs = [] → x.p = none → x.c = 0)
end Go.Proofs.Ythifchkeapbfdaa
