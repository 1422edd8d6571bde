/- Lists of rows of bytes: of one's own, and such that are only read; two arrays of bytes held against one another. -/
import Derived.Test.YtiefgfbeemlnjaaGen
import Derived.Test.YtiefgfbeemlnjaaRowB
import Derived.Laws.StructEq
namespace Go.Proofs.Ytiefgfbeemlnjaa
open Go.RowKit
set_option maxRecDepth 100000

theorem infoR : (Try.prog.info? 22).map (fun i => (i.zero, i.size, i.bytes)) = some (some (.slice none 0 0), 1, 24) := by kernel_rfl
def nilV : Value := .slice none 0 0
theorem getD_mem {α : Type} {l : List α} {i : Nat} {d : α} (h : i < l.length) : l.getD i d ∈ l := by
  rw [List.getD_eq_getElem?_getD, List.getElem?_eq_getElem h]
  exact List.getElem_mem h
theorem getD_snoc_lt {α : Type} {l : List α} {i : Nat} {d x : α} (h : i < l.length) : (l ++ [x]).getD i d = l.getD i d := by
  rw [List.getD_eq_getElem?_getD, List.getD_eq_getElem?_getD, List.getElem?_append_left h]
theorem getD_snoc_eq {α : Type} {l : List α} {d x : α} : (l ++ [x]).getD l.length d = x := by
  rw [List.getD_eq_getElem?_getD, List.getElem?_append_right (Nat.le_refl _)]; simp
/-- A row of one's own with its bytes. -/
def OwnAt (w : World) (v : Value) (zs : List Int) : Prop := ∃ q d, v = .slice q zs.length d ∧ Own w 5 v zs
theorem OwnAt.kept {S : List Nat} {w w' : World} {v : Value} {zs : List Int} (h : OwnAt w v zs) (hf : Frm S w w') (hn : ∀ k ∈ v.ownBlock.toList, k ∉ S) : OwnAt w' v zs := by
  obtain ⟨q, d, rfl, ho⟩ := h
  exact ⟨q, d, rfl, ho.kept hf hn⟩
theorem OwnAt.lows {w : World} {v : Value} {zs : List Int} (h : OwnAt w v zs) : ∀ k ∈ v.ownBlock.toList, k < w.heap.size := by
  obtain ⟨q, d, rfl, ho⟩ := h
  rw [own_blk]
  exact ho.lows
/-- A list of rows of one's own, from an index on as they were; all of it lies from a block on. -/
structure LOwn (B lo : Nat) (w : World) (p : Option Addr) (n c : Nat) (vs : List Value) (bs : List (List Int)) : Prop where
  own : w.ownsRow 0 22 1 (.slice p n c) n vs
  lenB : bs.length = n
  each : ∀ i, lo ≤ i → i < n → OwnAt w (vs.getD i nilV) (bs.getD i [])
  new : ∀ v ∈ vs, ∀ k ∈ v.ownBlock.toList, B ≤ k ∧ k ∉ blk p
  apart : vs.Pairwise (fun u v => ∀ k ∈ u.ownBlock.toList, k ∉ v.ownBlock.toList)
  newp : ∀ k ∈ blk p, B ≤ k
theorem LOwn.lenV {B lo : Nat} {w : World} {p : Option Addr} {n c : Nat} {vs : List Value} {bs : List (List Int)} (h : LOwn B lo w p n c vs bs) : vs.length = n := by
  have := h.own.1; omega
theorem LOwn.nil (B : Nat) (w : World) : LOwn B 0 w none 0 0 [] [] :=
  ⟨World.ownsRow_nil w 0 _ 1, rfl, fun i _ h => absurd h (by omega), by simp, List.Pairwise.nil, by simp [blk]⟩
theorem LOwn.kept {S : List Nat} {B lo : Nat} {w w' : World} {p : Option Addr} {n c : Nat} {vs : List Value} {bs : List (List Int)} (h : LOwn B lo w p n c vs bs) (hf : Frm S w w') (hS : ∀ k ∈ S, k < w.heap.size → k < B) : LOwn B lo w' p n c vs bs := by
  have hl := h.lenV
  refine ⟨ownsRow_kept h.own hf (fun k hk hs => ?_), h.lenB, fun i h1 h2 => (h.each i h1 h2).kept hf (fun k hk hs => ?_), h.new, h.apart, h.newp⟩
  · have a := h.newp k hk
    have b := hS k hs (ownsRow_low h.own k hk)
    omega
  · have a := (h.new _ (getD_mem (by omega)) k hk).1
    have b := hS k hs ((h.each i h1 h2).lows k hk)
    omega
theorem LOwn.spoilt {B lo : Nat} {w w' : World} {p : Option Addr} {n c : Nat} {vs : List Value} {bs : List (List Int)} (h : LOwn B lo w p n c vs bs) (hlo : lo < n) (hf : Frm (vs.getD lo nilV).ownBlock.toList w w') : LOwn B (lo + 1) w' p n c vs bs := by
  have hl := h.lenV
  refine ⟨ownsRow_kept h.own hf (fun k hk hs => (h.new _ (getD_mem (by omega)) k hs).2 hk), h.lenB, fun i h1 h2 => (h.each i (by omega) h2).kept hf (fun k hk hs => ?_), h.new, h.apart, h.newp⟩
  have hp := List.pairwise_iff_getElem.1 h.apart lo i (by omega) (by omega) (by omega)
  rw [List.getD_eq_getElem?_getD, List.getElem?_eq_getElem (by omega)] at hs hk
  exact hp k hs hk
/-- One row more. -/
theorem LOwn.snoc {B : Nat} {w w2 : World} {p p2 : Option Addr} {n c c2 : Nat} {vs : List Value} {bs : List (List Int)} {v : Value} {z : List Int} (h : LOwn B 0 w p n c vs bs) (hB : B ≤ w.heap.size) (hv : OwnAt w v z) (hvn : ∀ k ∈ v.ownBlock.toList, B ≤ k ∧ k ∉ blk p ∧ ∀ u ∈ vs, k ∉ u.ownBlock.toList)
    (ho : w2.ownsRow 0 22 1 (.slice p2 (n + 1) c2) (n + 1) (vs ++ [v])) (hf : Frm (blk p) w w2) (hk : ∀ k ∈ blk p2, k ∈ blk p ∨ w.heap.size ≤ k) : LOwn B 0 w2 p2 (n + 1) c2 (vs ++ [v]) (bs ++ [z]) := by
  have hl := h.lenV
  have hb := h.lenB
  refine ⟨ho, by simp [hb], fun i _ h2 => ?_, fun u hu k hku => ?_, ?_, fun k hk2 => ?_⟩
  · by_cases hi : i < n
    · rw [getD_snoc_lt (by omega), getD_snoc_lt (by omega)]
      exact (h.each i (Nat.zero_le _) hi).kept hf (fun k hk => (h.new _ (getD_mem (by omega)) k hk).2)
    · obtain rfl : i = n := by omega
      have e1 : (vs ++ [v]).getD i nilV = v := by have := getD_snoc_eq (l := vs) (d := nilV) (x := v); rwa [hl] at this
      have e2 : (bs ++ [z]).getD i [] = z := by have := getD_snoc_eq (l := bs) (d := []) (x := z); rwa [hb] at this
      rw [e1, e2]
      exact hv.kept hf (fun k hk => (hvn k hk).2.1)
  · rcases List.mem_append.1 hu with hu | hu
    · obtain ⟨i, hi, rfl⟩ := List.getElem_of_mem hu
      have hlow := (h.each i (Nat.zero_le _) (by omega)).lows k (by rw [List.getD_eq_getElem?_getD, List.getElem?_eq_getElem hi]; exact hku)
      refine ⟨(h.new _ (List.getElem_mem hi) k hku).1, fun hk2 => ?_⟩
      rcases hk k hk2 with h3 | h3
      · exact (h.new _ (List.getElem_mem hi) k hku).2 h3
      · omega
    · simp only [List.mem_singleton] at hu
      subst hu
      have hlow := hv.lows k hku
      refine ⟨(hvn k hku).1, fun hk2 => ?_⟩
      rcases hk k hk2 with h3 | h3
      · exact (hvn k hku).2.1 h3
      · omega
  · rw [List.pairwise_append]
    refine ⟨h.apart, List.pairwise_singleton _ _, fun u hu x hx k hku hkx => ?_⟩
    simp only [List.mem_singleton] at hx
    subst hx
    exact (hvn k hkx).2.2 u hu hku
  · rcases hk k hk2 with h3 | h3
    · exact h.newp k h3
    · omega
/-- A list of rows of bytes that can be read. -/
def LRd (w : World) (p : Option Addr) (bs : List (List Int)) : Prop := bs = [] ∨ ∃ g o, p = some ⟨g, o, none⟩ ∧ ∀ i, i < bs.length → ∃ q n c, w.cell? ⟨g, o + i, none⟩ = some (.slice q n c) ∧ n = (bs.getD i []).length ∧ Rd w q (bs.getD i [])
theorem LRd.kept {w w' : World} {p : Option Addr} {bs : List (List Int)} (h : LRd w p bs) (hf : Frm [] w w') : LRd w' p bs := by
  rcases h with h | ⟨g, o, rfl, h⟩
  · exact Or.inl h
  · refine Or.inr ⟨g, o, rfl, fun i hi => ?_⟩
    obtain ⟨q, n, c, h1, h2, h3⟩ := h i hi
    exact ⟨q, n, c, (hf.cell (p := ⟨g, o + i, none⟩) (World.block_lt_of_cell? w _ h1) (by simp)).trans h1, h2, h3.kept hf (by simp)⟩
theorem LOwn.cell {B lo : Nat} {w : World} {p : Option Addr} {n c : Nat} {vs : List Value} {bs : List (List Int)} (h : LOwn B lo w p n c vs bs) (hn : 0 < n) : ∃ g, p = some ⟨g, 0, none⟩ ∧ g < w.heap.size ∧ ∀ i, i < n → w.cell? ⟨g, i, none⟩ = some (vs.getD i nilV) := by
  have hl := h.lenV
  have ho := h.own
  rcases ho.2 with ⟨_, h0⟩ | ⟨g, c', cur, he, _, hg, _⟩
  · omega
  · simp only [Value.slice.injEq] at he
    obtain ⟨rfl, _, rfl⟩ := he
    refine ⟨g, rfl, lt_of_heap hg, fun i hi => ?_⟩
    rw [World.ownsRow.cellAt ho i (by omega), List.getD_eq_getElem?_getD, List.getElem?_eq_getElem (by omega)]
    rfl
theorem LOwn.rd {B : Nat} {w : World} {p : Option Addr} {n c : Nat} {vs : List Value} {bs : List (List Int)} (h : LOwn B 0 w p n c vs bs) : LRd w p bs := by
  by_cases hn : n = 0
  · exact Or.inl (List.eq_nil_of_length_eq_zero (by rw [h.lenB, hn]))
  · obtain ⟨g, rfl, _, hc⟩ := h.cell (by omega)
    refine Or.inr ⟨g, 0, rfl, fun i hi => ?_⟩
    rw [h.lenB] at hi
    obtain ⟨q, d, hv, ho⟩ := h.each i (Nat.zero_le _) hi
    rw [hv] at ho
    exact ⟨q, _, d, by rw [Nat.zero_add, hc i hi, hv], rfl, ho.rd⟩
/-- Texts of the same bytes alone are the same. -/
theorem str_inj {xs ys : List Int} (hx : ∀ z ∈ xs, 0 ≤ z ∧ z < 256) (hy : ∀ z ∈ ys, 0 ≤ z ∧ z < 256) (h : strOfNums xs = strOfNums ys) : xs = ys := by
  have h1 := congrArg (fun s : ByteArray => s.data.toList) h
  simp only [strOfNums_data] at h1
  have key : ∀ zs : List Int, (∀ z ∈ zs, 0 ≤ z ∧ z < 256) → (zs.map fun n => UInt8.ofNat n.toNat).map (fun b => (b.toNat : Int)) = zs := by
    intro zs hz
    rw [List.map_map]
    conv => rhs; rw [← List.map_id zs]
    apply List.map_congr_left
    intro z hm
    have := hz z hm
    simp
    omega
  rw [← key xs hx, ← key ys hy, h1]
section
variable {P : Program} (w : World)
/-- Two arrays of bytes held against one another. -/
theorem run_equalIn_bv (d : Nat) (t e : TypeId) (n : Nat) (ht : P.underlying t = some (.array n e)) (he : P.underlying e = some (.int .u8)) (hsz : ∀ w, (sizeOf e).run P w = .ok 1 w)
    (xs ys : List Int) (hx : xs.length = n) (hy : ys.length = n) :
    (Op.equalIn (d + 2) t (.agg (bv xs).toArray) (.agg (bv ys).toArray)).run P w = .ok (xs == ys) w := by
  have hall : ∀ (xs ys : List Int), xs.length = ys.length → ((List.range xs.length).all fun i => xs.getD i 0 == ys.getD i 0) = (xs == ys) := by
    intro xs
    induction xs with
    | nil => intro ys h; cases ys with
      | nil => rfl
      | cons _ _ => simp at h
    | cons x xs ih => intro ys h; cases ys with
      | nil => simp at h
      | cons y ys =>
        have ih := ih ys (by simpa using h)
        rw [List.length_cons, List.range_succ_eq_map, List.all_cons, List.all_map]
        simp only [List.getD_cons_zero, Function.comp_def, List.getD_cons_succ, ih]
        simp [List.cons_beq_cons]
  rw [← hall xs ys (hx.trans hy.symm), hx, List.range_eq_range', Op.equalIn]
  simp only [Sem.run_bind, run_underlying ht, Result.andThen_ok, hsz, Std.Legacy.Range.forIn_eq_forIn_range', Std.Legacy.Range.size, Nat.sub_zero, Nat.add_sub_cancel, Nat.div_one]
  have hl : ∀ i ∈ List.range' 0 n 1, i < n := fun i hi => by simpa using (List.mem_range'_1.1 hi).2
  generalize List.range' 0 n 1 = l at hl ⊢
  induction l with
  | nil => simp
  | cons i l ih =>
    have hi : i < n := hl i (by simp)
    have px : (part e (bv xs).toArray (i * 1)).run P w = .ok (.int .u8 (xs.getD i 0)) w := by
      simp [part, isAgg, run_underlying he, bv, List.getD, List.getElem?_eq_getElem (show i < xs.length by omega)]
    have py : (part e (bv ys).toArray (i * 1)).run P w = .ok (.int .u8 (ys.getD i 0)) w := by
      simp [part, isAgg, run_underlying he, bv, List.getD, List.getElem?_eq_getElem (show i < ys.length by omega)]
    have pe : (Op.equalIn (d + 1) e (.int .u8 (xs.getD i 0)) (.int .u8 (ys.getD i 0))).run P w = .ok (xs.getD i 0 == ys.getD i 0) w := run_equalIn_int w d e .u8 .u8 _ _ he
    simp only [List.forIn_cons, Sem.run_bind, px, py, pe, Result.andThen_ok, List.all_cons]
    cases hb : (xs.getD i 0 == ys.getD i 0)
    · simp
    · simp only [Bool.not_true, Bool.false_eq_true, if_false, Sem.run_pure, Result.andThen_ok, Bool.true_and]
      exact ih fun j hj => hl j (by simp [hj])
theorem run_neq_bv (t e : TypeId) (n : Nat) (ht : P.underlying t = some (.array n e)) (he : P.underlying e = some (.int .u8)) (hsz : ∀ w, (sizeOf e).run P w = .ok 1 w)
    (xs ys : List Int) (hx : xs.length = n) (hy : ys.length = n) :
    (binOp .neq t (.agg (bv xs).toArray) (.agg (bv ys).toArray)).run P w = .ok (.bool (!(xs == ys))) w := by
  rw [run_neq_struct, run_equalIn_bv w 9998 t e n ht he hsz xs ys hx hy]
  rfl
end
end Go.Proofs.Ytiefgfbeemlnjaa
