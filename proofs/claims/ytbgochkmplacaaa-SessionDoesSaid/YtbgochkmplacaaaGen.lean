/- Laws of bytes for all packages: conversion to text, a copy into the midst of a block, one's own bytes set. -/
import Derived.Test.YtbgochkmplacaaaRows
import Derived.Test.YtbgochkmplacaaaBaseG
import Derived.Laws.OwnMore
import Derived.Deep.QuietTactic
import Derived.BigQuiet
import Derived.Deep.RegionHeld3
namespace Go.Proofs.Ytbgochkmplacaaa
open Go.RowKit Go.Lib
set_option maxRecDepth 100000

theorem infoB : (Try.prog.info? 5).map (fun i => (i.zero, i.size, i.bytes)) = some (some (.int .u8 0), 1, 1) := by kernel_rfl
theorem cv_any {P : Program} {w : World} (src e dst : TypeId) (hs : P.underlying src = some (.slice e)) (he : P.underlying e = some (.int .u8)) (hd : P.underlying dst = some .string) {p : Option Addr} {n : Nat} {zs : List Int} (hrd : Rd w p zs) (cap : Nat) (hn : zs.length = n) :
    Sem.run P (convert src dst (.slice p n cap)) w = .ok (.string (strOfNums zs)) w := by
  rcases hrd with rfl | ⟨g, o, rfl, hc⟩
  · simp at hn
    subst hn
    cases p with
    | none => exact run_convert_bytes_nil (P := P) (w := w) src e hs he 0 cap dst hd
    | some a =>
      rw [run_convert_bytes_string w src dst e _ _ _ hs he hd, run_bytesToString w a 0 cap [] (by simp [loadCells, loadCellsFrom])]
      rfl
  · exact run_convert_bytes_arg (P := P) (w := w) src e hs he g o n cap zs hn (fun i hi => hc i (by omega)) dst hd
/-- Bytes with others in their midst. -/
def splice (bs : List Int) (at_ : Nat) (zs : List Int) : List Int := bs.take at_ ++ zs ++ bs.drop (at_ + zs.length)
theorem splice_length {bs zs : List Int} {i : Nat} (h : i + zs.length ≤ bs.length) : (splice bs i zs).length = bs.length := by
  simp [splice]; omega
theorem splice_nil (bs : List Int) (i : Nat) : splice bs i [] = bs := by simp [splice]
theorem splice_splice {bs zs ys : List Int} {i : Nat} (h : i + zs.length + ys.length ≤ bs.length) : splice (splice bs i zs) (i + zs.length) ys = splice bs i (zs ++ ys) := by
  obtain ⟨A, hA⟩ : ∃ A, bs.take i ++ zs = A := ⟨_, rfl⟩
  have e1 : A.length = i + zs.length := by rw [← hA]; simp; omega
  have e2 : splice bs i zs = A ++ bs.drop (i + zs.length) := by unfold splice; rw [hA]
  have e3 : splice bs i (zs ++ ys) = A ++ ys ++ bs.drop (i + zs.length + ys.length) := by
    unfold splice
    rw [← hA, List.length_append]
    simp [Nat.add_assoc]
  rw [e2, e3]
  unfold splice
  rw [← e1, List.take_left, ← List.drop_drop, List.drop_left, List.drop_drop]
theorem bv_toList (zs : List Int) : (bv zs).toArray.toList = bv zs := by simp
section
variable {P : Program} {w : World}
/-- copy into the midst of a block. -/
theorem run_copyS (T ty : TypeId) (E : TypeId) (B : TypeId) (ht : P.underlying T = some (.slice E)) (hI : (P.info? E).map (fun i => (i.zero, i.size, i.bytes)) = some (some (.int .u8 0), 1, 1))
    (dp : Option Addr) (dn dc : Nat) (g off : Nat) (bs : List Int) (hg : w.heap[g]? = some (.cells (bv bs).toArray B (0, 0))) (hdp : 0 < dn → dp = some ⟨g, off, none⟩) (hdn : off + dn ≤ bs.length)
    (p : Option Addr) (c : Nat) (ns : List Int) (hrd : Rd w p ns) (k : Nat) (hk : k = min ns.length dn) :
    ∃ w', (Builtin.copy_ #[T, T] ty #[.slice dp dn dc, .slice p ns.length c]).run P w = .ok (.int .i64 (k : Int)) w' ∧ w'.heap[g]? = some (.cells (bv (splice bs off (ns.take k))).toArray B (0, 0)) ∧ Frm [g] w w' := by
  obtain ⟨i, hi, hz, h1, h2⟩ := info_parts hI
  have hsz : (P.info? E).map (·.size) = some 1 := by simp [hi, h1]
  by_cases hn : k = 0
  · have hrun := run_copy_none (P := P) w T T ty E dp p dn dc ns.length c ht hsz (by show min ns.length dn = 0; omega)
    refine ⟨w, by rw [hn]; exact hrun, by rw [hn]; simpa [splice] using hg, Frm.refl _ _⟩
  · have hne : ns ≠ [] := by intro e; subst e; simp at hk; omega
    obtain ⟨ad, rfl, hnews⟩ := bytes_at hrd hne
    have hdn0 : 0 < dn := by omega
    have hkl : k ≤ ns.length ∧ k ≤ dn := by omega
    have hl : (bv (ns.take k)).length = k := by simp [bv]; omega
    obtain rfl := hdp hdn0
    have hrun := run_copy_row (P := P) w T T ty E g off dn dc ad ns.length c _ B (bv (ns.take k)) ht hsz hg (by rw [hl]; exact hk) (by
      intro j v hj
      have hjn : j < k := by have := (List.getElem?_eq_some_iff.1 hj).1; omega
      refine hnews j v ?_
      rw [bv_take, List.getElem?_take, if_pos hjn] at hj
      exact hj) (by rw [hl]; simp [bv]; omega) bv_one
    rw [hl] at hrun
    refine ⟨_, hrun, ?_, ⟨rfl, rfl, rfl, by simp, fun j _ hj => setRow_other w g j _ (by simpa using hj)⟩⟩
    rw [setRow_heap w g _ _ B _ hg]
    congr 2
    apply Array.ext'
    have e1 : (ns.take k).length = k := by simp; omega
    unfold splice
    rw [e1]
    simp [bv, List.map_take, List.map_drop]
theorem wpList_copyS {ops : Array Oper} {rest : List Oper} {o : Oper} {a : Act} {Q : Exit → Act → World → Prop} (hgd : o.guard = none) (d s : Operand) (T : TypeId)
    (ho : o.op = .call { callee := .builtin .copy, args := #[d, s], argTypes := #[T, T] })
    (E B : TypeId) (ht : P.underlying T = some (.slice E)) (hI : (P.info? E).map (fun i => (i.zero, i.size, i.bytes)) = some (some (.int .u8 0), 1, 1))
    (dp : Option Addr) (dn dc : Nat) (hd : a.eval d = .slice dp dn dc) (g off : Nat) (bs : List Int) (hg : w.heap[g]? = some (.cells (bv bs).toArray B (0, 0))) (hdp : 0 < dn → dp = some ⟨g, off, none⟩) (hdn : off + dn ≤ bs.length)
    (p : Option Addr) (m c : Nat) (ns : List Int) (hx : a.eval s = .slice p m c) (hm : m = ns.length) (hrd : Rd w p ns)
    (h : ∀ w' k, Hid (k = min m dn) → Hid (w'.heap[g]? = some (.cells (bv (splice bs off (ns.take k))).toArray B (0, 0))) → Hid (Frm [g] w w') → wpList P ops Q rest (a.put o.dst (.int .i64 (k : Int))) w') :
    wpList P ops Q (o :: rest) a w := by
  refine wpList_plain hgd fun K hK => ?_
  subst hm
  obtain ⟨w', hrun, h1, h2⟩ := run_copyS (P := P) (w := w) T o.type E B ht hI dp dn dc g off bs hg hdp hdn p c ns hrd _ rfl
  unfold Oper.wp
  simp only [execOp, ho, resolve, invoke, builtin, Sem.run_bind, Sem.run_pure, Result.andThen_ok, List.map_toArray, List.map_cons, List.map_nil, hd, hx, hrun]
  exact hK _ _ (h w' _ rfl h1 h2)
theorem step_copyS {ops : Array Oper} {o : Oper} {a : Act} {K : Act → World → Prop} {Q : Exit → Act → World → Prop} {Z : Prop} (hgd : o.guard = none) (d s : Operand) (T : TypeId)
    (ho : o.op = .call { callee := .builtin .copy, args := #[d, s], argTypes := #[T, T] })
    (E B : TypeId) (ht : P.underlying T = some (.slice E)) (hI : (P.info? E).map (fun i => (i.zero, i.size, i.bytes)) = some (some (.int .u8 0), 1, 1))
    (dp : Option Addr) (dn dc : Nat) (hd : a.eval d = .slice dp dn dc) (g off : Nat) (bs : List Int) (hg : w.heap[g]? = some (.cells (bv bs).toArray B (0, 0))) (hdp : 0 < dn → dp = some ⟨g, off, none⟩) (hdn : off + dn ≤ bs.length)
    (p : Option Addr) (m c : Nat) (ns : List Int) (hx : a.eval s = .slice p m c) (hm : m = ns.length) (hrd : Rd w p ns)
    (h : ∀ w' k, Hid (k = min m dn) → Hid (w'.heap[g]? = some (.cells (bv (splice bs off (ns.take k))).toArray B (0, 0))) → Hid (Frm [g] w w') → K (a.put o.dst (.int .i64 (k : Int))) w') :
    if Region.wanted o (yielded ops a.tmps) = true then Oper.wp P o a w K Q else Z := by
  have hw : Region.wanted o (yielded ops a.tmps) = true := by simp [Region.wanted, hgd]
  rw [if_pos hw]
  subst hm
  obtain ⟨w', hrun, h1, h2⟩ := run_copyS (P := P) (w := w) T o.type E B ht hI dp dn dc g off bs hg hdp hdn p c ns hrd _ rfl
  unfold Oper.wp
  simp only [execOp, ho, resolve, invoke, builtin, Sem.run_bind, Sem.run_pure, Result.andThen_ok, List.map_toArray, List.map_cons, List.map_nil, hd, hx, hrun]
  exact h w' _ rfl h1 h2
end
theorem Own.lows {w : World} {E : TypeId} {p : Option Addr} {n c : Nat} {zs : List Int} (h : Own w E (.slice p n c) zs) : ∀ k ∈ blk p, k < w.heap.size := by
  obtain ⟨p', c', he, _, _, hh, _⟩ := h.shape
  simp only [Value.slice.injEq] at he
  obtain ⟨rfl, _, rfl⟩ := he
  intro k hk
  cases p with
  | none => simp [blk] at hk
  | some a => simp [blk] at hk; subst hk; exact (hh a rfl).2.2
theorem Rd.lows {w : World} {p : Option Addr} {zs : List Int} (h : Rd w p zs) (hne : zs ≠ []) : ∀ k ∈ blk p, k < w.heap.size := by
  rcases h with h | ⟨g, o, rfl, hc⟩
  · exact absurd h hne
  · intro k hk
    simp [blk] at hk
    subst hk
    exact World.block_lt_of_cell? w _ (hc 0 (by cases zs with | nil => exact absurd rfl hne | cons _ _ => simp))
/-- Bytes stand where they stood, if none of their blocks was touched that was there. -/
theorem Rd.keptS {S : List Nat} {w w' : World} {p : Option Addr} {zs : List Int} (h : Rd w p zs) (hf : Frm S w w') (hS : ∀ k ∈ blk p, k < w.heap.size → k ∉ S) : Rd w' p zs := by
  by_cases hne : zs = []
  · exact Or.inl hne
  · exact h.kept hf (fun k hk => hS k hk (h.lows hne k hk))
theorem Own.setAt {w : World} {E : TypeId} {p : Option Addr} {n c i : Nat} {ys : List Int} (h : Own w E (.slice p n c) ys) (hn : ys.length = n) (hi : i < n) :
    ∃ g, p = some ⟨g, 0, none⟩ ∧ g < w.heap.size ∧ w.cell? ⟨g, i, none⟩ = some (.int .u8 (ys.getD i 0)) ∧ w.frozen? ⟨g, i, none⟩ = false ∧ ∀ z, Own (w.setCell ⟨g, i, none⟩ (.int .u8 z)) E (.slice p n c) (ys.set i z) := by
  subst hn
  obtain ⟨p', c', he, _, hnn, hh, _⟩ := h.shape
  simp only [Value.slice.injEq, true_and] at he
  obtain ⟨rfl, rfl⟩ := he
  cases p with
  | none => obtain ⟨h0, _⟩ := hnn rfl; subst h0; simp at hi
  | some a =>
    obtain ⟨h1, h2, h3⟩ := hh a rfl
    obtain ⟨g, o, sp⟩ := a
    simp only at h1 h2 h3
    subst h1 h2
    refine ⟨g, rfl, h3, ?_, World.ownsRow.frozenAt h i, fun z => ?_⟩
    · rw [World.ownsRow.cellAt h i (by omega), bv_get hi]
    · have := (World.ownsRow.stored h i (.int .u8 z)).1
      unfold Own
      rw [List.length_set]
      simpa [bv, List.map_set] using this
theorem boolE {a c : Bool} (h : a = c) : Ending.returned (.bool a) = Ending.returned (.bool c) := by rw [h]
theorem intE {a c : Int} (h : a = c) : Ending.returned (.int .i64 a) = Ending.returned (.int .i64 c) := by rw [h]
theorem heap_alloc_to (w : World) (o : Obj) {k : Nat} (h : w.heap.size = k) : (w.alloc o).heap[k]? = some o := by subst h; exact heap_alloc_new _ _
end Go.Proofs.Ytbgochkmplacaaa
