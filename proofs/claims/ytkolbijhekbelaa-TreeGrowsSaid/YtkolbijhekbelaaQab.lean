/- Laws of bytes for all packages: conversion to text, a copy into the midst of a block, one's own bytes set. Laws of no program: slices of structs: a part of one, copy, clear, append where there is room, append of noughts. A slice of one long element is built; speaks of no program. -/
import Derived.Test.YtkolbijhekbelaaRows
import Derived.Test.YtkolbijhekbelaaQaa
import Derived.Laws.OwnMore
import Derived.Deep.QuietTactic
import Derived.BigQuiet
import Derived.Deep.RegionHeld3
import Derived.Lib.AppendZerosOnto
import Derived.Lib.Overlaps
import Derived.Laws.MakeOwn
namespace Go.Proofs.Ytkolbijhekbelaa
section
open Go.RowKit Go.Lib
set_option maxRecDepth 100000

theorem infoB : (Try.prog.info? 5).map (fun i => (i.zero, i.size, i.bytes)) = some (some (.int .u8 0), 1, 1) := by kernel_rfl
theorem cv_any {P : Program} {w : World} (src e dst : TypeId) (hs : P.underlying src = some (.slice e)) (he : P.underlying e = some (.int .u8)) (hd : P.underlying dst = some .string) {p : Option Addr} {n : Nat} {zs : List Int} (hrd : Rd w p zs) (cap : Nat) (hn : zs.length = n) :
    Sem.run P (convert src dst (.slice p n cap)) w = .ok (.string (strOfNums zs)) w := by
  rcases hrd with rfl | ⟨g, o, rfl, hc⟩
  · simp at hn
    subst hn
    cases p with
    | none => exact run_convert_bytes_nil (P := P) (w := w) src e hs he 0 cap dst hd
    | some a =>
      rw [run_convert_bytes_string w src dst e _ _ _ hs he hd, run_bytesToString w a 0 cap [] (by simp [loadCells, loadCellsFrom])]
      rfl
  · exact run_convert_bytes_arg (P := P) (w := w) src e hs he g o n cap zs hn (fun i hi => hc i (by omega)) dst hd
/-- Bytes with others in their midst. -/
def splice (bs : List Int) (at_ : Nat) (zs : List Int) : List Int := bs.take at_ ++ zs ++ bs.drop (at_ + zs.length)
theorem splice_length {bs zs : List Int} {i : Nat} (h : i + zs.length ≤ bs.length) : (splice bs i zs).length = bs.length := by
  simp [splice]; omega
theorem splice_nil (bs : List Int) (i : Nat) : splice bs i [] = bs := by simp [splice]
theorem splice_splice {bs zs ys : List Int} {i : Nat} (h : i + zs.length + ys.length ≤ bs.length) : splice (splice bs i zs) (i + zs.length) ys = splice bs i (zs ++ ys) := by
  obtain ⟨A, hA⟩ : ∃ A, bs.take i ++ zs = A := ⟨_, rfl⟩
  have e1 : A.length = i + zs.length := by rw [← hA]; simp; omega
  have e2 : splice bs i zs = A ++ bs.drop (i + zs.length) := by unfold splice; rw [hA]
  have e3 : splice bs i (zs ++ ys) = A ++ ys ++ bs.drop (i + zs.length + ys.length) := by
    unfold splice
    rw [← hA, List.length_append]
    simp [Nat.add_assoc]
  rw [e2, e3]
  unfold splice
  rw [← e1, List.take_left, ← List.drop_drop, List.drop_left, List.drop_drop]
theorem bv_toList (zs : List Int) : (bv zs).toArray.toList = bv zs := by simp
section
variable {P : Program} {w : World}
/-- copy into the midst of a block. -/
theorem run_copyS (T ty : TypeId) (E : TypeId) (B : TypeId) (ht : P.underlying T = some (.slice E)) (hI : (P.info? E).map (fun i => (i.zero, i.size, i.bytes)) = some (some (.int .u8 0), 1, 1))
    (dp : Option Addr) (dn dc : Nat) (g off : Nat) (bs : List Int) (hg : w.heap[g]? = some (.cells (bv bs).toArray B (0, 0))) (hdp : 0 < dn → dp = some ⟨g, off, none⟩) (hdn : off + dn ≤ bs.length)
    (p : Option Addr) (c : Nat) (ns : List Int) (hrd : Rd w p ns) (k : Nat) (hk : k = min ns.length dn) :
    ∃ w', (Builtin.copy_ #[T, T] ty #[.slice dp dn dc, .slice p ns.length c]).run P w = .ok (.int .i64 (k : Int)) w' ∧ w'.heap[g]? = some (.cells (bv (splice bs off (ns.take k))).toArray B (0, 0)) ∧ Frm [g] w w' := by
  obtain ⟨i, hi, hz, h1, h2⟩ := info_parts hI
  have hsz : (P.info? E).map (·.size) = some 1 := by simp [hi, h1]
  by_cases hn : k = 0
  · have hrun := run_copy_none (P := P) w T T ty E dp p dn dc ns.length c ht hsz (by show min ns.length dn = 0; omega)
    refine ⟨w, by rw [hn]; exact hrun, by rw [hn]; simpa [splice] using hg, Frm.refl _ _⟩
  · have hne : ns ≠ [] := by intro e; subst e; simp at hk; omega
    obtain ⟨ad, rfl, hnews⟩ := bytes_at hrd hne
    have hdn0 : 0 < dn := by omega
    have hkl : k ≤ ns.length ∧ k ≤ dn := by omega
    have hl : (bv (ns.take k)).length = k := by simp [bv]; omega
    obtain rfl := hdp hdn0
    have hrun := run_copy_row (P := P) w T T ty E g off dn dc ad ns.length c _ B (bv (ns.take k)) ht hsz hg (by rw [hl]; exact hk) (by
      intro j v hj
      have hjn : j < k := by have := (List.getElem?_eq_some_iff.1 hj).1; omega
      refine hnews j v ?_
      rw [bv_take, List.getElem?_take, if_pos hjn] at hj
      exact hj) (by rw [hl]; simp [bv]; omega) bv_one
    rw [hl] at hrun
    refine ⟨_, hrun, ?_, ⟨rfl, rfl, rfl, by simp, fun j _ hj => setRow_other w g j _ (by simpa using hj)⟩⟩
    rw [setRow_heap w g _ _ B _ hg]
    congr 2
    apply Array.ext'
    have e1 : (ns.take k).length = k := by simp; omega
    unfold splice
    rw [e1]
    simp [bv, List.map_take, List.map_drop]
theorem wpList_copyS {ops : Array Oper} {rest : List Oper} {o : Oper} {a : Act} {Q : Exit → Act → World → Prop} (hgd : o.guard = none) (d s : Operand) (T : TypeId)
    (ho : o.op = .call { callee := .builtin .copy, args := #[d, s], argTypes := #[T, T] })
    (E B : TypeId) (ht : P.underlying T = some (.slice E)) (hI : (P.info? E).map (fun i => (i.zero, i.size, i.bytes)) = some (some (.int .u8 0), 1, 1))
    (dp : Option Addr) (dn dc : Nat) (hd : a.eval d = .slice dp dn dc) (g off : Nat) (bs : List Int) (hg : w.heap[g]? = some (.cells (bv bs).toArray B (0, 0))) (hdp : 0 < dn → dp = some ⟨g, off, none⟩) (hdn : off + dn ≤ bs.length)
    (p : Option Addr) (m c : Nat) (ns : List Int) (hx : a.eval s = .slice p m c) (hm : m = ns.length) (hrd : Rd w p ns)
    (h : ∀ w' k, Hid (k = min m dn) → Hid (w'.heap[g]? = some (.cells (bv (splice bs off (ns.take k))).toArray B (0, 0))) → Hid (Frm [g] w w') → wpList P ops Q rest (a.put o.dst (.int .i64 (k : Int))) w') :
    wpList P ops Q (o :: rest) a w := by
  refine wpList_plain hgd fun K hK => ?_
  subst hm
  obtain ⟨w', hrun, h1, h2⟩ := run_copyS (P := P) (w := w) T o.type E B ht hI dp dn dc g off bs hg hdp hdn p c ns hrd _ rfl
  unfold Oper.wp
  simp only [execOp, ho, resolve, invoke, builtin, Sem.run_bind, Sem.run_pure, Result.andThen_ok, List.map_toArray, List.map_cons, List.map_nil, hd, hx, hrun]
  exact hK _ _ (h w' _ rfl h1 h2)
theorem step_copyS {ops : Array Oper} {o : Oper} {a : Act} {K : Act → World → Prop} {Q : Exit → Act → World → Prop} {Z : Prop} (hgd : o.guard = none) (d s : Operand) (T : TypeId)
    (ho : o.op = .call { callee := .builtin .copy, args := #[d, s], argTypes := #[T, T] })
    (E B : TypeId) (ht : P.underlying T = some (.slice E)) (hI : (P.info? E).map (fun i => (i.zero, i.size, i.bytes)) = some (some (.int .u8 0), 1, 1))
    (dp : Option Addr) (dn dc : Nat) (hd : a.eval d = .slice dp dn dc) (g off : Nat) (bs : List Int) (hg : w.heap[g]? = some (.cells (bv bs).toArray B (0, 0))) (hdp : 0 < dn → dp = some ⟨g, off, none⟩) (hdn : off + dn ≤ bs.length)
    (p : Option Addr) (m c : Nat) (ns : List Int) (hx : a.eval s = .slice p m c) (hm : m = ns.length) (hrd : Rd w p ns)
    (h : ∀ w' k, Hid (k = min m dn) → Hid (w'.heap[g]? = some (.cells (bv (splice bs off (ns.take k))).toArray B (0, 0))) → Hid (Frm [g] w w') → K (a.put o.dst (.int .i64 (k : Int))) w') :
    if Region.wanted o (yielded ops a.tmps) = true then Oper.wp P o a w K Q else Z := by
  have hw : Region.wanted o (yielded ops a.tmps) = true := by simp [Region.wanted, hgd]
  rw [if_pos hw]
  subst hm
  obtain ⟨w', hrun, h1, h2⟩ := run_copyS (P := P) (w := w) T o.type E B ht hI dp dn dc g off bs hg hdp hdn p c ns hrd _ rfl
  unfold Oper.wp
  simp only [execOp, ho, resolve, invoke, builtin, Sem.run_bind, Sem.run_pure, Result.andThen_ok, List.map_toArray, List.map_cons, List.map_nil, hd, hx, hrun]
  exact h w' _ rfl h1 h2
end
theorem Own.lows {w : World} {E : TypeId} {p : Option Addr} {n c : Nat} {zs : List Int} (h : Own w E (.slice p n c) zs) : ∀ k ∈ blk p, k < w.heap.size := by
  obtain ⟨p', c', he, _, _, hh, _⟩ := h.shape
  simp only [Value.slice.injEq] at he
  obtain ⟨rfl, _, rfl⟩ := he
  intro k hk
  cases p with
  | none => simp [blk] at hk
  | some a => simp [blk] at hk; subst hk; exact (hh a rfl).2.2
theorem Rd.lows {w : World} {p : Option Addr} {zs : List Int} (h : Rd w p zs) (hne : zs ≠ []) : ∀ k ∈ blk p, k < w.heap.size := by
  rcases h with h | ⟨g, o, rfl, hc⟩
  · exact absurd h hne
  · intro k hk
    simp [blk] at hk
    subst hk
    exact World.block_lt_of_cell? w _ (hc 0 (by cases zs with | nil => exact absurd rfl hne | cons _ _ => simp))
/-- Bytes stand where they stood, if none of their blocks was touched that was there. -/
theorem Rd.keptS {S : List Nat} {w w' : World} {p : Option Addr} {zs : List Int} (h : Rd w p zs) (hf : Frm S w w') (hS : ∀ k ∈ blk p, k < w.heap.size → k ∉ S) : Rd w' p zs := by
  by_cases hne : zs = []
  · exact Or.inl hne
  · exact h.kept hf (fun k hk => hS k hk (h.lows hne k hk))
theorem Own.setAt {w : World} {E : TypeId} {p : Option Addr} {n c i : Nat} {ys : List Int} (h : Own w E (.slice p n c) ys) (hn : ys.length = n) (hi : i < n) :
    ∃ g, p = some ⟨g, 0, none⟩ ∧ g < w.heap.size ∧ w.cell? ⟨g, i, none⟩ = some (.int .u8 (ys.getD i 0)) ∧ w.frozen? ⟨g, i, none⟩ = false ∧ ∀ z, Own (w.setCell ⟨g, i, none⟩ (.int .u8 z)) E (.slice p n c) (ys.set i z) := by
  subst hn
  obtain ⟨p', c', he, _, hnn, hh, _⟩ := h.shape
  simp only [Value.slice.injEq, true_and] at he
  obtain ⟨rfl, rfl⟩ := he
  cases p with
  | none => obtain ⟨h0, _⟩ := hnn rfl; subst h0; simp at hi
  | some a =>
    obtain ⟨h1, h2, h3⟩ := hh a rfl
    obtain ⟨g, o, sp⟩ := a
    simp only at h1 h2 h3
    subst h1 h2
    refine ⟨g, rfl, h3, ?_, World.ownsRow.frozenAt h i, fun z => ?_⟩
    · rw [World.ownsRow.cellAt h i (by omega), bv_get hi]
    · have := (World.ownsRow.stored h i (.int .u8 z)).1
      unfold Own
      rw [List.length_set]
      simpa [bv, List.map_set] using this
theorem boolE {a c : Bool} (h : a = c) : Ending.returned (.bool a) = Ending.returned (.bool c) := by rw [h]
theorem intE {a c : Int} (h : a = c) : Ending.returned (.int .i64 a) = Ending.returned (.int .i64 c) := by rw [h]
theorem heap_alloc_to (w : World) (o : Obj) {k : Nat} (h : w.heap.size = k) : (w.alloc o).heap[k]? = some o := by subst h; exact heap_alloc_new _ _
end
section
open Go.RowKit Go.Lib
set_option maxRecDepth 100000
section
variable {P : Program} {w : World}

/-- A part of a list that can be read. -/
theorem Rv.dropV {p : Option Addr} {ns : List Value} {k : Nat} (h : Rv w p ns) : Rv w (p.map (·.add k)) (ns.drop k) := by
  rcases h with rfl | ⟨g, o, rfl, hc⟩
  · exact Or.inl (by simp)
  · refine Or.inr ⟨g, o + k, by simp [Addr.add], fun i u hu => ?_⟩
    rw [List.getElem?_drop] at hu
    have := hc (k + i) u hu
    rwa [Nat.add_assoc]
theorem Rv.takeV {p : Option Addr} {ns : List Value} {k : Nat} (h : Rv w p ns) : Rv w p (ns.take k) := by
  rcases h with rfl | ⟨g, o, rfl, hc⟩
  · exact Or.inl (by simp)
  · refine Or.inr ⟨g, o, rfl, fun i u hu => hc i u ?_⟩
    rw [List.getElem?_take] at hu
    split at hu
    · exact hu
    · cases hu
section
variable {t e : TypeId} (ht : P.underlying t = some (.slice e)) {z : Value} {sz bytes : Nat} (hI : (P.info? e).map (fun i => (i.zero, i.size, i.bytes)) = some (some z, sz, bytes))
include ht hI
omit ht in
theorem sizeOf_sl (w : World) : (sizeOf e).run P w = .ok sz w := by
  obtain ⟨i, hi, hz, h1, h2⟩ := info_parts hI
  simp [sizeOf, typeInfo, hi, h1, Result.andThen]
/-- s[:hi] -/
theorem sl_h (p : Option Addr) (n c hi : Nat) (hc : hi ≤ c) (w : World) : (Instr.slice t (.slice p n c) none (some (.int .i64 (hi : Int))) none).run P w = .ok (.slice p hi c) w := by
  have he : P.elem t = e := by simp [Program.elem, ht]
  rw [run_slice_h w t _ _ _ (by rw [he]; exact ht) .i64 (hi : Int) (by omega) (by omega), he, sizeOf_sl hI]
  simp only [Result.andThen, sliced, Int.toNat_natCast]
  cases p <;> simp [Addr.add]
/-- s[:hi:m] -/
theorem sl_hm (p : Option Addr) (n c hi m : Nat) (h1 : hi ≤ m) (hc : m ≤ c) (w : World) : (Instr.slice t (.slice p n c) none (some (.int .i64 (hi : Int))) (some (.int .i64 (m : Int)))).run P w = .ok (.slice p hi m) w := by
  have he : P.elem t = e := by simp [Program.elem, ht]
  rw [run_slice_hm w t _ _ _ (by rw [he]; exact ht) .i64 .i64 (hi : Int) (m : Int) (by omega) (by omega) (by omega), he, sizeOf_sl hI]
  simp only [Result.andThen, sliced, Int.toNat_natCast]
  cases p <;> simp [Addr.add]
/-- Where a part begins. -/
def partAt (p : Option Addr) (c lo sz : Nat) : Option Addr := if c = lo then p else p.map (·.add (lo * sz))
/-- s[lo:] -/
theorem sl_l (p : Option Addr) (n c lo : Nat) (hl : lo ≤ n) (w : World) : (Instr.slice t (.slice p n c) (some (.int .i64 (lo : Int))) none none).run P w = .ok (.slice (partAt p c lo sz) (n - lo) (c - lo)) w := by
  have he : P.elem t = e := by simp [Program.elem, ht]
  rw [run_slice_l w t _ _ _ (by rw [he]; exact ht) .i64 (lo : Int) (by omega) (by omega), he, sizeOf_sl hI]
  simp only [Result.andThen, sliced, Int.toNat_natCast, partAt]
/-- s[lo:hi] -/
theorem sl_lh (p : Option Addr) (n c lo hi : Nat) (hl : lo ≤ hi) (hc : hi ≤ c) (w : World) : (Instr.slice t (.slice p n c) (some (.int .i64 (lo : Int))) (some (.int .i64 (hi : Int))) none).run P w = .ok (.slice (partAt p c lo sz) (hi - lo) (c - lo)) w := by
  have he : P.elem t = e := by simp [Program.elem, ht]
  rw [run_slice_lh w t _ _ _ (by rw [he]; exact ht) .i64 .i64 (lo : Int) (hi : Int) (by omega) (by omega) (by omega), he, sizeOf_sl hI]
  simp only [Result.andThen, sliced, Int.toNat_natCast, partAt]
/-- s[lo:hi:m] -/
theorem sl_lhm (p : Option Addr) (n c lo hi m : Nat) (hl : lo ≤ hi) (hm : hi ≤ m) (hc : m ≤ c) (w : World) : (Instr.slice t (.slice p n c) (some (.int .i64 (lo : Int))) (some (.int .i64 (hi : Int))) (some (.int .i64 (m : Int)))).run P w = .ok (.slice (partAt p m lo sz) (hi - lo) (m - lo)) w := by
  have he : P.elem t = e := by simp [Program.elem, ht]
  rw [run_slice_lhm w t _ _ _ (by rw [he]; exact ht) .i64 .i64 .i64 (lo : Int) (hi : Int) (m : Int) (by omega) (by omega) (by omega) (by omega), he, sizeOf_sl hI]
  simp only [Result.andThen, sliced, Int.toNat_natCast, partAt]
omit ht hI in
theorem partAt_rv (p : Option Addr) (c lo : Nat) (ns : List Value) (n : Nat) (hn : ns.length = n * sz) (hl : lo ≤ n) (hc : n ≤ c) (h : Rv w p ns) : Rv w (partAt p c lo sz) (ns.drop (lo * sz)) := by
  unfold partAt
  split
  · rw [List.drop_eq_nil_of_le (by rw [hn]; exact Nat.mul_le_mul_right _ (by omega))]
    exact Or.inl rfl
  · exact Rv.dropV h
/-- clear of a tail of a block. -/
theorem run_clearG (hzs : z.cells.size = sz) (hsz : 0 < sz) (hone : ∀ v ∈ z.cells.toList, v.oneCell' = true) (g k n c : Nat) (pp : Option Addr) (C : List Value) (B : TypeId) (hg : w.heap[g]? = some (.cells C.toArray B (0, 0))) (hpp : 0 < n → pp = some ⟨g, k * sz, none⟩) (hk : (k + n) * sz ≤ C.length) :
    ∃ w', (∀ ty, (Builtin.clear_ #[t] ty #[.slice pp n c]).run P w = .ok (.tuple #[]) w') ∧ (∃ C' : List Value, w'.heap[g]? = some (.cells C'.toArray B (0, 0)) ∧ C'.length = C.length ∧ C'.take (k * sz) = C.take (k * sz)) ∧ Frm [g] w w' := by
  rcases Nat.eq_zero_or_pos n with rfl | hn
  · refine ⟨w, fun ty => ?_, ⟨C, hg, rfl, rfl⟩, Frm.refl _ _⟩
    cases pp <;> simp [Builtin.clear_, run_underlying ht]
  · obtain rfl := hpp hn
    obtain ⟨i, hi, hz, h1, h2⟩ := info_parts hI
    obtain ⟨zs, hzs'⟩ : ∃ zs, (Builtin.zeroCells z.cells n).toList = zs := ⟨_, rfl⟩
    have hzl : zs.length = n * sz := by rw [← hzs', Array.length_toList, Builtin.zeroCells]; simp [hzs]
    have hone' : ∀ v ∈ zs, v.oneCell' = true := fun v hv => by
      refine hone v ?_
      rw [← hzs'] at hv
      simp only [Builtin.zeroCells, Array.toList_map, List.mem_map] at hv
      obtain ⟨j, hj, rfl⟩ := hv
      have hlt : j % z.cells.size < z.cells.size := Nat.mod_lt _ (by omega)
      rw [getElem!_pos z.cells _ hlt]
      simp
    rw [Nat.add_mul] at hk
    have hst := run_storeCells_at P g (k * sz) B zs 0 C.toArray w hg (by rw [hzl]; simp; omega) hone'
    simp only [Nat.add_zero] at hst
    obtain ⟨C', hC'⟩ : ∃ C', C.take (k * sz) ++ zs ++ C.drop (k * sz + zs.length) = C' := ⟨_, rfl⟩
    have hst' : (storeCells ⟨g, k * sz, none⟩ zs).run P w = .ok () (w.setRow g C'.toArray) := by rw [← hC']; exact hst
    clear hst
    refine ⟨w.setRow g C'.toArray, fun ty => ?_, ⟨C', setRow_heap w g _ _ _ _ hg, ?_, ?_⟩, ⟨rfl, rfl, rfl, by simp, fun j _ hj => setRow_other w g j _ (by simpa using hj)⟩⟩
    · obtain ⟨m, rfl⟩ : ∃ m, n = m + 1 := ⟨n - 1, by omega⟩
      have hzv : (zeroValue e).run P w = .ok z w := by simp [zeroValue, typeInfo, hi, hz, Result.andThen]
      simp [Builtin.clear_, run_underlying ht, hzv, hzs', hst']
    · rw [← hC']; simp [hzl]; omega
    · rw [← hC', List.append_assoc, List.take_append_of_le_length (by simp; omega), List.take_take]
      simp
/-- copy of structs into the midst of a block. -/
theorem run_copyG (ty : TypeId) (hsz : 0 < sz) (dp : Option Addr) (dn dc g off : Nat) (C : List Value) (B : TypeId) (hg : w.heap[g]? = some (.cells C.toArray B (0, 0))) (hdp : 0 < dn → dp = some ⟨g, off, none⟩) (hdn : off + dn * sz ≤ C.length)
    (p : Option Addr) (m c k : Nat) (ns : List Value) (hk : k = min m dn) (hnl : ns.length = k * sz) (hrd : Rv w p ns) (h1 : ∀ u ∈ ns, u.oneCell' = true) :
    ∃ w', (Builtin.copy_ #[t, t] ty #[.slice dp dn dc, .slice p m c]).run P w = .ok (.int .i64 (k : Int)) w' ∧ w'.heap[g]? = some (.cells (C.take off ++ ns ++ C.drop (off + k * sz)).toArray B (0, 0)) ∧ Frm [g] w w' := by
  obtain ⟨i, hi, hz, hs, h2⟩ := info_parts hI
  by_cases hk0 : k = 0
  · have hm0 : Nat.min m dn = 0 := by show min m dn = 0; omega
    have hl : ∀ (x : Addr), (loadCells x 0).run P w = .ok #[] w := fun x => by simpa using run_loadCells_list (P := P) w x [] (by simp)
    have hn0 : ns = [] := List.eq_nil_of_length_eq_zero (by rw [hnl, hk0, Nat.zero_mul])
    refine ⟨w, ?_, by rw [hk0, hn0]; simpa using hg, Frm.refl _ _⟩
    rw [hk0]
    cases dp <;> cases p <;> simp [Builtin.copy_, run_underlying ht, Builtin.lenOf, Builtin.firstCells, sizeOf, typeInfo, hi, hm0, storeCells, hl] <;> rfl
  · have hmn : k ≤ m ∧ k ≤ dn := by omega
    have hne : ns ≠ [] := by
      intro e0; rw [e0] at hnl
      have : 0 < k * sz := Nat.mul_pos (by omega) hsz
      simp at hnl; omega
    obtain ⟨g0, o0, rfl, hc0⟩ : ∃ g o, p = some ⟨g, o, none⟩ ∧ ∀ i u, ns[i]? = some u → w.cell? ⟨g, o + i, none⟩ = some u := by
      rcases hrd with h | h
      · exact absurd h hne
      · exact h
    obtain rfl := hdp (by omega)
    have hkd : k * sz ≤ dn * sz := Nat.mul_le_mul_right _ hmn.2
    have hf := run_firstCells_some (P := P) w sz k ⟨g0, o0, none⟩ m c ns hnl (fun j u hu => by
      rw [show (⟨g0, o0, none⟩ : Addr).add j = ⟨g0, o0 + j, none⟩ by cases j <;> simp [Addr.add]]; exact hc0 j u hu)
    have hst := run_storeCells_at P g off B ns 0 C.toArray w hg (by simp; omega) h1
    simp only [Nat.add_zero] at hst
    have hmin : Nat.min m dn = k := hk.symm
    refine ⟨w.setRow g (C.take off ++ ns ++ C.drop (off + ns.length)).toArray, ?_, ?_, ⟨rfl, rfl, rfl, by simp, fun j _ hj => setRow_other w g j _ (by simpa using hj)⟩⟩
    · simp [Builtin.copy_, run_underlying ht, Builtin.lenOf, sizeOf, typeInfo, hi, hs, hmin, hf]
      simp at hst
      simp [hst]
      rfl
    · rw [setRow_heap w g _ _ B _ hg, hnl]
end
end
end
section
open Go.RowKit Go.Lib
set_option maxRecDepth 100000

theorem fold_set (cs : List Value) : ∀ (k : Nat) (Z : Array Value), k + cs.length ≤ Z.size → ((cs.zipIdx k).foldl (fun a x => a.setIfInBounds x.2 x.1) Z).toList = Z.toList.take k ++ cs ++ Z.toList.drop (k + cs.length) := by
  induction cs with
  | nil => intro k Z h; simp
  | cons c cs ih =>
    intro k Z h
    simp only [List.zipIdx_cons, List.foldl_cons]
    simp only [List.length_cons] at h
    rw [ih (k + 1) _ (by simp; omega)]
    simp only [Array.toList_setIfInBounds, List.length_cons]
    have hk : k < Z.toList.length := by simp; omega
    rw [List.take_set, List.drop_set_of_lt (by omega), List.take_succ_eq_append_getElem hk, List.set_append_right _ _ (by simp; omega), List.length_take, Nat.min_eq_left (by omega), Nat.sub_self, List.set_cons_zero, show k + 1 + cs.length = k + (cs.length + 1) by omega]
    simp
section
variable {P : Program} {w : World}
theorem fill_one (sz : Nat) (Z : Array Value) (cs : List Value) (hl : cs.length = sz) (hZ : Z.size = sz) : Instr.fill (fun i => some (i * sz, sz)) Z [(0, .agg cs.toArray)] = some cs.toArray := by
  have h := fold_set cs 0 Z (by omega)
  simp only [List.take_zero, List.nil_append, Nat.zero_add] at h
  rw [List.drop_of_length_le (by simp; omega), List.append_nil] at h
  have hc : (Value.agg cs.toArray).cells = cs.toArray := rfl
  unfold Instr.fill
  simp only [hc]
  have hb : (decide (cs.toArray.size ≠ sz) || decide (0 * sz + cs.toArray.size > Z.size)) = false := by simp; omega
  simp only [hb, Bool.false_eq_true, if_false]
  unfold Instr.fill
  congr 1
  apply Array.ext'
  refine Eq.trans ?_ h
  congr 1
  simp
theorem run_buildSlice1 (T E : TypeId) (sz bytes : Nat) (z : Value) (ht : P.underlying T = some (.slice E)) (hI : (P.info? E).map (fun i => (i.zero, i.size, i.bytes)) = some (some z, sz, bytes)) (hs0 : 0 < sz) (hs1 : sz ≤ 16777216) (cs : List Value) (hl : cs.length = sz) :
    (Instr.buildSlice T 1 #[(0, .agg cs.toArray)]).run P w = .ok (.slice (some ⟨w.heap.size, 0, none⟩) 1 1) (w.alloc (.cells cs.toArray E)) := by
  obtain ⟨i, hi, hz, h1, h2⟩ := info_parts hI
  have hf := fill_one sz ((Array.range (1 * sz)).map (z.cells[· % z.cells.size]!)) cs hl (by simp)
  rw [Nat.one_mul] at hf
  have hn : ¬ (16777216 < sz) := by omega
  have hn0 : ¬ sz = 0 := by omega
  simp [Instr.buildSlice, run_underlying ht, sizeOf, typeInfo, zeroValue, hi, h1, hz, hn, hn0, hf, newRow, Result.andThen]
theorem step_buildSlice1 {ops : Array Oper} {o : Oper} {a : Act} {K : Act → World → Prop} {Q : Exit → Act → World → Prop} {Zz : Prop} (hgd : o.guard = none) (x : Operand) (T : TypeId) (ho : o.op = .buildSlice T 1 #[(0, x)])
    (E : TypeId) (sz bytes : Nat) (z : Value) (ht : P.underlying T = some (.slice E)) (hI : (P.info? E).map (fun i => (i.zero, i.size, i.bytes)) = some (some z, sz, bytes)) (hs0 : 0 < sz) (hs1 : sz ≤ 16777216) (cs : List Value) (hx : a.eval x = .agg cs.toArray) (hl : cs.length = sz)
    (h : K (a.put o.dst (.slice (some ⟨w.heap.size, 0, none⟩) 1 1)) (w.alloc (.cells cs.toArray E))) : if Region.wanted o (yielded ops a.tmps) = true then Oper.wp P o a w K Q else Zz := by
  have hw : Region.wanted o (yielded ops a.tmps) = true := by simp [Region.wanted, hgd]
  rw [if_pos hw]
  have hr := run_buildSlice1 (P := P) (w := w) T E sz bytes z ht hI hs0 hs1 cs hl
  unfold Oper.wp
  simp [execOp, ho, hx, hr, Result.andThen]
  exact h
theorem step_appV {ops : Array Oper} {o : Oper} {a : Act} {K : Act → World → Prop} {Q : Exit → Act → World → Prop} {Zz : Prop} (hgd : o.guard = none) (s x : Operand) (t : TypeId)
    (ho : o.op = .call { callee := .builtin .append, args := #[s, x], argTypes := #[t, t] })
    (E : TypeId) (sz bytes : Nat) (z : Value) (ht : P.underlying t = some (.slice E)) (hI : (P.info? E).map (fun i => (i.zero, i.size, i.bytes)) = some (some z, sz, bytes)) (hzs : z.cells.size = sz) (hsz : 0 < sz)
    (p0 : Option Addr) (n c0 : Nat) (xs : List Value) (hs : a.eval s = .slice p0 n c0) (hown : w.ownsRow 0 E sz (.slice p0 n c0) n xs)
    (p : Option Addr) (m c : Nat) (ns : List Value) (hx : a.eval x = .slice p m c) (hnl : ns.length = m * sz) (hp : m = 0 → p = none → c = 0) (hrd : Rv w p ns) (h1 : ∀ u ∈ ns, u.oneCell' = true)
    (hmax : n + m ≤ maxLen) (hb : (n + m) * bytes ≤ 140737488355328)
    (h : ∀ p2 c2 w', Hid (w'.ownsRow 0 E sz (.slice p2 (n + m) c2) (n + m) (xs ++ ns)) → Hid (Frm (blk p0) w w') → Hid (∀ k ∈ blk p2, k ∈ blk p0 ∨ w.heap.size ≤ k) → K (a.put o.dst (.slice p2 (n + m) c2)) w') :
    if Region.wanted o (yielded ops a.tmps) = true then Oper.wp P o a w K Q else Zz := by
  have hw : Region.wanted o (yielded ops a.tmps) = true := by simp [Region.wanted, hgd]
  rw [if_pos hw]
  obtain ⟨v', w', hrun, h2, h3, h4⟩ := run_appV (P := P) (w := w) t o.type E sz bytes z ht hI hzs hsz _ n xs hown p m c ns hnl hp hrd h1 hmax hb
  obtain ⟨p2, c2, rfl⟩ := ownsRow_shape h2
  rw [own_blk] at h4
  rw [own_blk] at h3 h4
  unfold Oper.wp
  simp [execOp, ho, resolve, invoke, builtin, hs, hx, hrun, Result.andThen]
  exact h p2 c2 w' h2 h3 h4
end
end
end Go.Proofs.Ytkolbijhekbelaa
