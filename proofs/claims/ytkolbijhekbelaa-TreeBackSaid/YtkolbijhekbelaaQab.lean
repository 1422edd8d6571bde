/- Laws of no program: slices of structs: a part of one, copy, clear, append where there is room, append of noughts. A slice of one long element is built; speaks of no program. Contracts of package code's writer: what each call does to the world. Contracts of package code's writer's methods. A pointer's nine numbers, and what Check answers. -/
import Derived.Test.YtkolbijhekbelaaQaa
import Derived.Lib.AppendZerosOnto
import Derived.Lib.Overlaps
import Derived.Laws.MakeOwn
import Derived.Test.YtkolbijhekbelaaRows
import Derived.Deep.QuietTactic
import Derived.BigQuiet
import Derived.Deep.RegionHeld3
namespace Go.Proofs.Ytkolbijhekbelaa
section
open Go.RowKit Go.Lib
set_option maxRecDepth 100000
section
variable {P : Program} {w : World}

/-- A part of a list that can be read. -/
theorem Rv.dropV {p : Option Addr} {ns : List Value} {k : Nat} (h : Rv w p ns) : Rv w (p.map (·.add k)) (ns.drop k) := by
  rcases h with rfl | ⟨g, o, rfl, hc⟩
  · exact Or.inl (by simp)
  · refine Or.inr ⟨g, o + k, by simp [Addr.add], fun i u hu => ?_⟩
    rw [List.getElem?_drop] at hu
    have := hc (k + i) u hu
    rwa [Nat.add_assoc]
theorem Rv.takeV {p : Option Addr} {ns : List Value} {k : Nat} (h : Rv w p ns) : Rv w p (ns.take k) := by
  rcases h with rfl | ⟨g, o, rfl, hc⟩
  · exact Or.inl (by simp)
  · refine Or.inr ⟨g, o, rfl, fun i u hu => hc i u ?_⟩
    rw [List.getElem?_take] at hu
    split at hu
    · exact hu
    · cases hu
section
variable {t e : TypeId} (ht : P.underlying t = some (.slice e)) {z : Value} {sz bytes : Nat} (hI : (P.info? e).map (fun i => (i.zero, i.size, i.bytes)) = some (some z, sz, bytes))
include ht hI
omit ht in
theorem sizeOf_sl (w : World) : (sizeOf e).run P w = .ok sz w := by
  obtain ⟨i, hi, hz, h1, h2⟩ := info_parts hI
  simp [sizeOf, typeInfo, hi, h1, Result.andThen]
/-- s[:hi] -/
theorem sl_h (p : Option Addr) (n c hi : Nat) (hc : hi ≤ c) (w : World) : (Instr.slice t (.slice p n c) none (some (.int .i64 (hi : Int))) none).run P w = .ok (.slice p hi c) w := by
  have he : P.elem t = e := by simp [Program.elem, ht]
  rw [run_slice_h w t _ _ _ (by rw [he]; exact ht) .i64 (hi : Int) (by omega) (by omega), he, sizeOf_sl hI]
  simp only [Result.andThen, sliced, Int.toNat_natCast]
  cases p <;> simp [Addr.add]
/-- s[:hi:m] -/
theorem sl_hm (p : Option Addr) (n c hi m : Nat) (h1 : hi ≤ m) (hc : m ≤ c) (w : World) : (Instr.slice t (.slice p n c) none (some (.int .i64 (hi : Int))) (some (.int .i64 (m : Int)))).run P w = .ok (.slice p hi m) w := by
  have he : P.elem t = e := by simp [Program.elem, ht]
  rw [run_slice_hm w t _ _ _ (by rw [he]; exact ht) .i64 .i64 (hi : Int) (m : Int) (by omega) (by omega) (by omega), he, sizeOf_sl hI]
  simp only [Result.andThen, sliced, Int.toNat_natCast]
  cases p <;> simp [Addr.add]
/-- Where a part begins. -/
def partAt (p : Option Addr) (c lo sz : Nat) : Option Addr := if c = lo then p else p.map (·.add (lo * sz))
/-- s[lo:] -/
theorem sl_l (p : Option Addr) (n c lo : Nat) (hl : lo ≤ n) (w : World) : (Instr.slice t (.slice p n c) (some (.int .i64 (lo : Int))) none none).run P w = .ok (.slice (partAt p c lo sz) (n - lo) (c - lo)) w := by
  have he : P.elem t = e := by simp [Program.elem, ht]
  rw [run_slice_l w t _ _ _ (by rw [he]; exact ht) .i64 (lo : Int) (by omega) (by omega), he, sizeOf_sl hI]
  simp only [Result.andThen, sliced, Int.toNat_natCast, partAt]
/-- s[lo:hi] -/
theorem sl_lh (p : Option Addr) (n c lo hi : Nat) (hl : lo ≤ hi) (hc : hi ≤ c) (w : World) : (Instr.slice t (.slice p n c) (some (.int .i64 (lo : Int))) (some (.int .i64 (hi : Int))) none).run P w = .ok (.slice (partAt p c lo sz) (hi - lo) (c - lo)) w := by
  have he : P.elem t = e := by simp [Program.elem, ht]
  rw [run_slice_lh w t _ _ _ (by rw [he]; exact ht) .i64 .i64 (lo : Int) (hi : Int) (by omega) (by omega) (by omega), he, sizeOf_sl hI]
  simp only [Result.andThen, sliced, Int.toNat_natCast, partAt]
/-- s[lo:hi:m] -/
theorem sl_lhm (p : Option Addr) (n c lo hi m : Nat) (hl : lo ≤ hi) (hm : hi ≤ m) (hc : m ≤ c) (w : World) : (Instr.slice t (.slice p n c) (some (.int .i64 (lo : Int))) (some (.int .i64 (hi : Int))) (some (.int .i64 (m : Int)))).run P w = .ok (.slice (partAt p m lo sz) (hi - lo) (m - lo)) w := by
  have he : P.elem t = e := by simp [Program.elem, ht]
  rw [run_slice_lhm w t _ _ _ (by rw [he]; exact ht) .i64 .i64 .i64 (lo : Int) (hi : Int) (m : Int) (by omega) (by omega) (by omega) (by omega), he, sizeOf_sl hI]
  simp only [Result.andThen, sliced, Int.toNat_natCast, partAt]
omit ht hI in
theorem partAt_rv (p : Option Addr) (c lo : Nat) (ns : List Value) (n : Nat) (hn : ns.length = n * sz) (hl : lo ≤ n) (hc : n ≤ c) (h : Rv w p ns) : Rv w (partAt p c lo sz) (ns.drop (lo * sz)) := by
  unfold partAt
  split
  · rw [List.drop_eq_nil_of_le (by rw [hn]; exact Nat.mul_le_mul_right _ (by omega))]
    exact Or.inl rfl
  · exact Rv.dropV h
/-- clear of a tail of a block. -/
theorem run_clearG (hzs : z.cells.size = sz) (hsz : 0 < sz) (hone : ∀ v ∈ z.cells.toList, v.oneCell' = true) (g k n c : Nat) (pp : Option Addr) (C : List Value) (B : TypeId) (hg : w.heap[g]? = some (.cells C.toArray B (0, 0))) (hpp : 0 < n → pp = some ⟨g, k * sz, none⟩) (hk : (k + n) * sz ≤ C.length) :
    ∃ w', (∀ ty, (Builtin.clear_ #[t] ty #[.slice pp n c]).run P w = .ok (.tuple #[]) w') ∧ (∃ C' : List Value, w'.heap[g]? = some (.cells C'.toArray B (0, 0)) ∧ C'.length = C.length ∧ C'.take (k * sz) = C.take (k * sz)) ∧ Frm [g] w w' := by
  rcases Nat.eq_zero_or_pos n with rfl | hn
  · refine ⟨w, fun ty => ?_, ⟨C, hg, rfl, rfl⟩, Frm.refl _ _⟩
    cases pp <;> simp [Builtin.clear_, run_underlying ht]
  · obtain rfl := hpp hn
    obtain ⟨i, hi, hz, h1, h2⟩ := info_parts hI
    obtain ⟨zs, hzs'⟩ : ∃ zs, (Builtin.zeroCells z.cells n).toList = zs := ⟨_, rfl⟩
    have hzl : zs.length = n * sz := by rw [← hzs', Array.length_toList, Builtin.zeroCells]; simp [hzs]
    have hone' : ∀ v ∈ zs, v.oneCell' = true := fun v hv => by
      refine hone v ?_
      rw [← hzs'] at hv
      simp only [Builtin.zeroCells, Array.toList_map, List.mem_map] at hv
      obtain ⟨j, hj, rfl⟩ := hv
      have hlt : j % z.cells.size < z.cells.size := Nat.mod_lt _ (by omega)
      rw [getElem!_pos z.cells _ hlt]
      simp
    rw [Nat.add_mul] at hk
    have hst := run_storeCells_at P g (k * sz) B zs 0 C.toArray w hg (by rw [hzl]; simp; omega) hone'
    simp only [Nat.add_zero] at hst
    obtain ⟨C', hC'⟩ : ∃ C', C.take (k * sz) ++ zs ++ C.drop (k * sz + zs.length) = C' := ⟨_, rfl⟩
    have hst' : (storeCells ⟨g, k * sz, none⟩ zs).run P w = .ok () (w.setRow g C'.toArray) := by rw [← hC']; exact hst
    clear hst
    refine ⟨w.setRow g C'.toArray, fun ty => ?_, ⟨C', setRow_heap w g _ _ _ _ hg, ?_, ?_⟩, ⟨rfl, rfl, rfl, by simp, fun j _ hj => setRow_other w g j _ (by simpa using hj)⟩⟩
    · obtain ⟨m, rfl⟩ : ∃ m, n = m + 1 := ⟨n - 1, by omega⟩
      have hzv : (zeroValue e).run P w = .ok z w := by simp [zeroValue, typeInfo, hi, hz, Result.andThen]
      simp [Builtin.clear_, run_underlying ht, hzv, hzs', hst']
    · rw [← hC']; simp [hzl]; omega
    · rw [← hC', List.append_assoc, List.take_append_of_le_length (by simp; omega), List.take_take]
      simp
/-- copy of structs into the midst of a block. -/
theorem run_copyG (ty : TypeId) (hsz : 0 < sz) (dp : Option Addr) (dn dc g off : Nat) (C : List Value) (B : TypeId) (hg : w.heap[g]? = some (.cells C.toArray B (0, 0))) (hdp : 0 < dn → dp = some ⟨g, off, none⟩) (hdn : off + dn * sz ≤ C.length)
    (p : Option Addr) (m c k : Nat) (ns : List Value) (hk : k = min m dn) (hnl : ns.length = k * sz) (hrd : Rv w p ns) (h1 : ∀ u ∈ ns, u.oneCell' = true) :
    ∃ w', (Builtin.copy_ #[t, t] ty #[.slice dp dn dc, .slice p m c]).run P w = .ok (.int .i64 (k : Int)) w' ∧ w'.heap[g]? = some (.cells (C.take off ++ ns ++ C.drop (off + k * sz)).toArray B (0, 0)) ∧ Frm [g] w w' := by
  obtain ⟨i, hi, hz, hs, h2⟩ := info_parts hI
  by_cases hk0 : k = 0
  · have hm0 : Nat.min m dn = 0 := by show min m dn = 0; omega
    have hl : ∀ (x : Addr), (loadCells x 0).run P w = .ok #[] w := fun x => by simpa using run_loadCells_list (P := P) w x [] (by simp)
    have hn0 : ns = [] := List.eq_nil_of_length_eq_zero (by rw [hnl, hk0, Nat.zero_mul])
    refine ⟨w, ?_, by rw [hk0, hn0]; simpa using hg, Frm.refl _ _⟩
    rw [hk0]
    cases dp <;> cases p <;> simp [Builtin.copy_, run_underlying ht, Builtin.lenOf, Builtin.firstCells, sizeOf, typeInfo, hi, hm0, storeCells, hl] <;> rfl
  · have hmn : k ≤ m ∧ k ≤ dn := by omega
    have hne : ns ≠ [] := by
      intro e0; rw [e0] at hnl
      have : 0 < k * sz := Nat.mul_pos (by omega) hsz
      simp at hnl; omega
    obtain ⟨g0, o0, rfl, hc0⟩ : ∃ g o, p = some ⟨g, o, none⟩ ∧ ∀ i u, ns[i]? = some u → w.cell? ⟨g, o + i, none⟩ = some u := by
      rcases hrd with h | h
      · exact absurd h hne
      · exact h
    obtain rfl := hdp (by omega)
    have hkd : k * sz ≤ dn * sz := Nat.mul_le_mul_right _ hmn.2
    have hf := run_firstCells_some (P := P) w sz k ⟨g0, o0, none⟩ m c ns hnl (fun j u hu => by
      rw [show (⟨g0, o0, none⟩ : Addr).add j = ⟨g0, o0 + j, none⟩ by cases j <;> simp [Addr.add]]; exact hc0 j u hu)
    have hst := run_storeCells_at P g off B ns 0 C.toArray w hg (by simp; omega) h1
    simp only [Nat.add_zero] at hst
    have hmin : Nat.min m dn = k := hk.symm
    refine ⟨w.setRow g (C.take off ++ ns ++ C.drop (off + ns.length)).toArray, ?_, ?_, ⟨rfl, rfl, rfl, by simp, fun j _ hj => setRow_other w g j _ (by simpa using hj)⟩⟩
    · simp [Builtin.copy_, run_underlying ht, Builtin.lenOf, sizeOf, typeInfo, hi, hs, hmin, hf]
      simp at hst
      simp [hst]
      rfl
    · rw [setRow_heap w g _ _ B _ hg, hnl]
end
end
end
section
open Go.RowKit Go.Lib
set_option maxRecDepth 100000

theorem fold_set (cs : List Value) : ∀ (k : Nat) (Z : Array Value), k + cs.length ≤ Z.size → ((cs.zipIdx k).foldl (fun a x => a.setIfInBounds x.2 x.1) Z).toList = Z.toList.take k ++ cs ++ Z.toList.drop (k + cs.length) := by
  induction cs with
  | nil => intro k Z h; simp
  | cons c cs ih =>
    intro k Z h
    simp only [List.zipIdx_cons, List.foldl_cons]
    simp only [List.length_cons] at h
    rw [ih (k + 1) _ (by simp; omega)]
    simp only [Array.toList_setIfInBounds, List.length_cons]
    have hk : k < Z.toList.length := by simp; omega
    rw [List.take_set, List.drop_set_of_lt (by omega), List.take_succ_eq_append_getElem hk, List.set_append_right _ _ (by simp; omega), List.length_take, Nat.min_eq_left (by omega), Nat.sub_self, List.set_cons_zero, show k + 1 + cs.length = k + (cs.length + 1) by omega]
    simp
section
variable {P : Program} {w : World}
theorem fill_one (sz : Nat) (Z : Array Value) (cs : List Value) (hl : cs.length = sz) (hZ : Z.size = sz) : Instr.fill (fun i => some (i * sz, sz)) Z [(0, .agg cs.toArray)] = some cs.toArray := by
  have h := fold_set cs 0 Z (by omega)
  simp only [List.take_zero, List.nil_append, Nat.zero_add] at h
  rw [List.drop_of_length_le (by simp; omega), List.append_nil] at h
  have hc : (Value.agg cs.toArray).cells = cs.toArray := rfl
  unfold Instr.fill
  simp only [hc]
  have hb : (decide (cs.toArray.size ≠ sz) || decide (0 * sz + cs.toArray.size > Z.size)) = false := by simp; omega
  simp only [hb, Bool.false_eq_true, if_false]
  unfold Instr.fill
  congr 1
  apply Array.ext'
  refine Eq.trans ?_ h
  congr 1
  simp
theorem run_buildSlice1 (T E : TypeId) (sz bytes : Nat) (z : Value) (ht : P.underlying T = some (.slice E)) (hI : (P.info? E).map (fun i => (i.zero, i.size, i.bytes)) = some (some z, sz, bytes)) (hs0 : 0 < sz) (hs1 : sz ≤ 16777216) (cs : List Value) (hl : cs.length = sz) :
    (Instr.buildSlice T 1 #[(0, .agg cs.toArray)]).run P w = .ok (.slice (some ⟨w.heap.size, 0, none⟩) 1 1) (w.alloc (.cells cs.toArray E)) := by
  obtain ⟨i, hi, hz, h1, h2⟩ := info_parts hI
  have hf := fill_one sz ((Array.range (1 * sz)).map (z.cells[· % z.cells.size]!)) cs hl (by simp)
  rw [Nat.one_mul] at hf
  have hn : ¬ (16777216 < sz) := by omega
  have hn0 : ¬ sz = 0 := by omega
  simp [Instr.buildSlice, run_underlying ht, sizeOf, typeInfo, zeroValue, hi, h1, hz, hn, hn0, hf, newRow, Result.andThen]
theorem step_buildSlice1 {ops : Array Oper} {o : Oper} {a : Act} {K : Act → World → Prop} {Q : Exit → Act → World → Prop} {Zz : Prop} (hgd : o.guard = none) (x : Operand) (T : TypeId) (ho : o.op = .buildSlice T 1 #[(0, x)])
    (E : TypeId) (sz bytes : Nat) (z : Value) (ht : P.underlying T = some (.slice E)) (hI : (P.info? E).map (fun i => (i.zero, i.size, i.bytes)) = some (some z, sz, bytes)) (hs0 : 0 < sz) (hs1 : sz ≤ 16777216) (cs : List Value) (hx : a.eval x = .agg cs.toArray) (hl : cs.length = sz)
    (h : K (a.put o.dst (.slice (some ⟨w.heap.size, 0, none⟩) 1 1)) (w.alloc (.cells cs.toArray E))) : if Region.wanted o (yielded ops a.tmps) = true then Oper.wp P o a w K Q else Zz := by
  have hw : Region.wanted o (yielded ops a.tmps) = true := by simp [Region.wanted, hgd]
  rw [if_pos hw]
  have hr := run_buildSlice1 (P := P) (w := w) T E sz bytes z ht hI hs0 hs1 cs hl
  unfold Oper.wp
  simp [execOp, ho, hx, hr, Result.andThen]
  exact h
theorem step_appV {ops : Array Oper} {o : Oper} {a : Act} {K : Act → World → Prop} {Q : Exit → Act → World → Prop} {Zz : Prop} (hgd : o.guard = none) (s x : Operand) (t : TypeId)
    (ho : o.op = .call { callee := .builtin .append, args := #[s, x], argTypes := #[t, t] })
    (E : TypeId) (sz bytes : Nat) (z : Value) (ht : P.underlying t = some (.slice E)) (hI : (P.info? E).map (fun i => (i.zero, i.size, i.bytes)) = some (some z, sz, bytes)) (hzs : z.cells.size = sz) (hsz : 0 < sz)
    (p0 : Option Addr) (n c0 : Nat) (xs : List Value) (hs : a.eval s = .slice p0 n c0) (hown : w.ownsRow 0 E sz (.slice p0 n c0) n xs)
    (p : Option Addr) (m c : Nat) (ns : List Value) (hx : a.eval x = .slice p m c) (hnl : ns.length = m * sz) (hp : m = 0 → p = none → c = 0) (hrd : Rv w p ns) (h1 : ∀ u ∈ ns, u.oneCell' = true)
    (hmax : n + m ≤ maxLen) (hb : (n + m) * bytes ≤ 140737488355328)
    (h : ∀ p2 c2 w', Hid (w'.ownsRow 0 E sz (.slice p2 (n + m) c2) (n + m) (xs ++ ns)) → Hid (Frm (blk p0) w w') → Hid (∀ k ∈ blk p2, k ∈ blk p0 ∨ w.heap.size ≤ k) → K (a.put o.dst (.slice p2 (n + m) c2)) w') :
    if Region.wanted o (yielded ops a.tmps) = true then Oper.wp P o a w K Q else Zz := by
  have hw : Region.wanted o (yielded ops a.tmps) = true := by simp [Region.wanted, hgd]
  rw [if_pos hw]
  obtain ⟨v', w', hrun, h2, h3, h4⟩ := run_appV (P := P) (w := w) t o.type E sz bytes z ht hI hzs hsz _ n xs hown p m c ns hnl hp hrd h1 hmax hb
  obtain ⟨p2, c2, rfl⟩ := ownsRow_shape h2
  rw [own_blk] at h4
  rw [own_blk] at h3 h4
  unfold Oper.wp
  simp [execOp, ho, resolve, invoke, builtin, hs, hx, hrun, Result.andThen]
  exact h p2 c2 w' h2 h3 h4
end
end
section
open Go.RowKit
set_option maxRecDepth 100000

theorem infoE : (Try.prog.info? 5).map (fun i => (i.zero, i.size, i.bytes)) = some (some (.int .u8 0), 1, 1) := by kernel_rfl

/-- A writer at block b: its room, what was laid down, its error; fp: the blocks that are its own. -/
def IsW (w : World) (b : Nat) (fp : List Nat) (room : Int) (zs : List Int) (err : Int) : Prop :=
  ∃ p c, w.heap[b]? = some (.cells #[.int .i64 room, .slice p zs.length c, .int .i64 err] 104 (0, 0)) ∧ Own w 5 (.slice p zs.length c) zs ∧ fp = b :: blk p ∧ b ∉ blk p

theorem IsW.kept {w w' : World} {b : Nat} {fp S : List Nat} {room err : Int} {zs : List Int} (h : IsW w b fp room zs err) (hf : Frm S w w') (hn : ∀ k ∈ fp, k ∉ S) : IsW w' b fp room zs err := by
  obtain ⟨p, c, h1, h2, rfl, h4⟩ := h
  exact ⟨p, c, hf.heap h1 (hn b (by simp)), h2.kept hf (fun k hk => hn k (by rw [own_blk] at hk; simp [hk])), rfl, h4⟩
theorem IsW.lt {w : World} {b : Nat} {fp : List Nat} {room err : Int} {zs : List Int} (h : IsW w b fp room zs err) : ∀ k ∈ fp, k < w.heap.size := by
  obtain ⟨p, c, h1, h2, rfl, h4⟩ := h
  intro k hk
  simp at hk
  rcases hk with rfl | hk
  · exact lt_of_heap h1
  · exact (h2.lt k (by cases p <;> simp_all [blk, Value.ownBlock])).2

/-- What room a writer gets. -/
def roomOf (a : Int) : Int := if a < 0 then 0 else if 2147483647 < a then 2147483647 else a
set_option maxHeartbeats 400000 in
theorem newWriter_any (a : Int) (w : World) :
    Calls Try.prog 60 #[.int .i64 a] w fun e w' => e = .returned (.pointer (some ⟨w.heap.size, 0, none⟩)) ∧ IsW w' w.heap.size [w.heap.size] (roomOf a) [] 0 ∧ Frm [] w w' ∧ w'.heap.size = w.heap.size + 1 := by
  have fin : ∀ r : Int, roomOf a = r → (∀ W, W = w.alloc (.cells #[.int .i64 r, .slice none 0 0, .int .i64 0] 104) → IsW W w.heap.size [w.heap.size] (roomOf a) [] 0 ∧ Frm [] w W ∧ W.heap.size = w.heap.size + 1) := by
    intro r hr W hW; subst hW; subst hr
    exact ⟨⟨none, 0, heap_alloc_new _ _, Own.nil _ _, rfl, by simp [blk]⟩, (Frm.refl _ _).alloc _, by simp⟩
  go_enter Try.func60, Try.ntmps60
  by_cases h0 : a < 0
  · go_wp2
    go_ret
    exact ⟨rfl, fin 0 (by unfold roomOf; rw [if_pos h0]) _ rfl⟩
  · by_cases h1 : 2147483647 < a
    · go_wp2
      go_ret
      exact ⟨rfl, fin _ (by unfold roomOf; rw [if_neg (by omega), if_pos h1]) _ rfl⟩
    · go_wp2
      go_ret
      exact ⟨rfl, fin _ (by unfold roomOf; rw [if_neg (by omega), if_neg (by omega)]) _ rfl⟩

set_option maxHeartbeats 400000 in
theorem number_any (n : Int) (k : Nat) (_hn : 0 ≤ n) (_hn2 : n < 18446744073709551616) (hk : k ≤ 8) (w : World) :
    Calls Try.prog 73 #[.int .u64 n, .int .i64 k] w fun e w' => e = .returned (.slice (some ⟨w.heap.size, 0, none⟩) k k) ∧ w'.heap[w.heap.size]? = some (.cells (bv (le n k)).toArray 5 (0, 0)) ∧ Frm [] w w' := by
  have hmk := run_make_row' (P := Try.prog) 22 5 (.int .u8 0) 1 Try.underlying22 infoE rfl .i64 .i64 k (by omega) (by omega)
  go_enter Try.func73, Try.ntmps73
  go_wp2
  go_loopw [11] (fun i wr => ∃ j : Nat, j ≤ k ∧ i = .int .i64 j ∧ Hid (wr.heap[w.heap.size]? = some (.cells (bv (le n j) ++ List.replicate (k - j) (Value.int .u8 0)).toArray 5 (0, 0))) ∧ Hid (Frm [] w wr)) (fun i _ => k - (intOf i).toNat)
  case atStart =>
    refine ⟨0, Nat.zero_le _, rfl, ?_, (Frm.refl _ _).alloc _⟩
    show _ = _
    rw [heap_alloc_new]
    congr 2
    apply Array.ext'
    simp [toList_madeCells_one, bv, le]
  case round =>
    obtain ⟨j, hj, rfl, hcur, hfr⟩ := hrel
    by_cases hlt : j < k
    · have hc : wr.cell? ⟨w.heap.size, j, none⟩ = some (.int .u8 0) := by
        rw [cell_of_row wr _ j _ _ (0,0) hcur.out]
        have h := get_mid (bv (le n j)) (k - j) (Value.int .u8 0) (by omega)
        rw [bv_length, le_length] at h
        simpa using h
      have hf := frozen_of_row wr w.heap.size j _ _ hcur.out
      go_wp2
      go_roundw
      case rel =>
        refine ⟨j + 1, by omega, by go_num, ?_, hfr.out.setCell _ _ (by simp)⟩
        show _ = _
        rw [heap_setCell_same wr w.heap.size j _ _ _ hcur.out]
        congr 2
        apply Array.ext'
        have e1 : k - j = (k - (j + 1)) + 1 := by omega
        have h := set_mid (bv (le n j)) (k - (j + 1)) (Value.int .u8 0) (Value.int .u8 (n / 2 ^ (8 * j) % 256))
        rw [bv_length, le_length, ← e1] at h
        rw [le_succ, bv_append]
        simpa [bv] using h
      case measure => simp [intOf]; omega
    · obtain rfl : j = k := by omega
      go_wp2
      go_ret
      exact ⟨rfl, by simpa using hcur.out, hfr.out⟩

theorem IsW.cells {w : World} {b : Nat} {fp : List Nat} {room err : Int} {zs : List Int} (h : IsW w b fp room zs err) : ∃ p c, b < w.heap.size ∧ fp = b :: blk p ∧ b ∉ blk p ∧ Own w 5 (.slice p zs.length c) zs ∧
    w.cell? ⟨b, 0, none⟩ = some (.int .i64 room) ∧ w.cell? ⟨b, 1, none⟩ = some (.slice p zs.length c) ∧ w.cell? ⟨b, 2, none⟩ = some (.int .i64 err) ∧
    w.frozen? ⟨b, 1, none⟩ = false ∧ w.frozen? ⟨b, 2, none⟩ = false ∧ Hid (w.heap[b]? = some (.cells #[.int .i64 room, .slice p zs.length c, .int .i64 err] 104 (0, 0))) := by
  obtain ⟨p, c, h1, h2, h3, h4⟩ := h
  exact ⟨p, c, lt_of_heap h1, h3, h4, h2, by rw [cell_of_row w _ _ _ _ _ h1]; rfl, by rw [cell_of_row w _ _ _ _ _ h1]; rfl, by rw [cell_of_row w _ _ _ _ _ h1]; rfl, frozen_of_row w b 1 _ _ h1, frozen_of_row w b 2 _ _ h1, h1⟩
/-- What a writer is behind a call. -/
def NowW (w : World) (b : Nat) (fp : List Nat) (room : Int) (zs : List Int) (err : Int) (w' : World) : Prop :=
  ∃ fp', IsW w' b fp' room zs err ∧ Frm fp w w' ∧ ∀ k ∈ fp', k ∈ fp ∨ w.heap.size ≤ k
/-- What a form gives: an error, or bytes. -/
def Gives (ns : List Int) (ev : Int) (w : World) (e : Ending) (w1 : World) : Prop :=
  ∃ p n c, e = .returned (.tuple #[.slice p n c, .int .i64 ev]) ∧ Frm [] w w1 ∧ (ev = 0 → n = ns.length ∧ (ns = [] → p = none → c = 0) ∧ Rd w1 p ns)

theorem NowW.same {w w' : World} {b : Nat} {fp : List Nat} {room err : Int} {zs : List Int} (h : IsW w b fp room zs err) (hf : Frm [] w w') : NowW w b fp room zs err w' :=
  ⟨fp, h.kept hf (by simp), hf.mono (by simp), fun _ hk => Or.inl hk⟩
theorem NowW.err {w w1 : World} {b : Nat} {fp : List Nat} {room err : Int} {zs : List Int} (h : IsW w b fp room zs err) (hf : Frm [] w w1) (ev : Int) : NowW w b fp room zs ev (w1.setCell ⟨b, 2, none⟩ (.int .i64 ev)) := by
  obtain ⟨p, c, h1, h2, rfl, h4⟩ := h
  have g := hf.heap h1 (by simp)
  have hF : Frm [b] w1 (w1.setCell ⟨b, 2, none⟩ (.int .i64 ev)) := (Frm.refl _ _).setCell _ _ (by simp)
  refine ⟨_, ⟨p, c, ?_, (h2.kept hf (by simp)).kept hF (by rw [own_blk]; intro k hk; simp; rintro rfl; exact h4 hk), rfl, h4⟩, (hf.mono (by simp)).trans hF (by simp), fun _ hk => Or.inl hk⟩
  rw [heap_setCell_same w1 b 2 _ _ _ g]; rfl

theorem NowW.app {w w1 w2 : World} {b : Nat} {fp : List Nat} {room : Int} {zs xs : List Int} {p p2 : Option Addr} {c c2 : Nat} (hh : w.heap[b]? = some (.cells #[.int .i64 room, .slice p zs.length c, .int .i64 0] 104 (0, 0)))
    (hfp : fp = b :: blk p) (hnb : b ∉ blk p) (hF : Frm [] w w1) (ho : Own w2 5 (.slice p2 xs.length c2) xs) (hF2 : Frm (blk p) w1 w2) (hfr : ∀ k ∈ blk p2, k ∈ blk p ∨ w1.heap.size ≤ k) :
    NowW w b fp room xs 0 (w2.setCell ⟨b, 1, none⟩ (.slice p2 xs.length c2)) := by
  subst hfp
  have hb := lt_of_heap hh
  have hb1 := Nat.lt_of_lt_of_le hb hF.size
  have g := hF2.heap (hF.heap hh (by simp)) hnb
  have hnb2 : b ∉ blk p2 := fun h => by rcases hfr b h with h | h; exact hnb h; omega
  have hF3 : Frm [b] w2 (w2.setCell ⟨b, 1, none⟩ (.slice p2 xs.length c2)) := (Frm.refl _ _).setCell _ _ (by simp)
  refine ⟨b :: blk p2, ⟨p2, c2, ?_, ho.kept hF3 (by rw [own_blk]; intro k hk; simp; rintro rfl; exact hnb2 hk), rfl, hnb2⟩, ?_, ?_⟩
  · rw [heap_setCell_same w2 b 1 _ _ _ g]; rfl
  · exact ((hF.mono (T := b :: blk p) (by simp)).trans hF2 (by intro i hi _; simp [hi])).trans hF3 (by simp)
  · intro k hk
    simp at hk ⊢
    rcases hk with rfl | hk
    · exact Or.inl (Or.inl rfl)
    · rcases hfr k hk with h | h
      · exact Or.inl (Or.inr h)
      · exact Or.inr (Nat.le_trans hF.size h)
section
variable (b : Nat) (fp : List Nat) (room err : Int) (zs ns : List Int) (ev : Int) (f : FuncId) (cap : Array Value) (w : World)
set_option maxHeartbeats 400000 in
theorem lay_stop (fn : Fn) (hw : IsW w b fp room zs err) (he : err ≠ 0) :
    Calls Try.prog 70 #[.pointer (some ⟨b, 0, none⟩), .func fn #[] cap] w fun e w' => e = .returned (.tuple #[]) ∧ NowW w b fp room zs err w' := by
  obtain ⟨p, c, _, _, _, _, c0, c1, c2, f1, f2, _⟩ := hw.cells
  have HE : Hid (err ≠ 0) := he
  have HW : Hid (IsW w b fp room zs err) := hw
  have hb : (err != 0) = true := by simpa using he
  clear he hw
  go_enter Try.func70, Try.ntmps70
  go_wp2_with fail
  go_returns
  exact ⟨rfl, NowW.same HW.out (Frm.refl _ _)⟩
set_option maxHeartbeats 400000 in
theorem lay_err (hw : IsW w b fp room zs 0) (he : ev ≠ 0) (hcf : ∀ w, Sem.run Try.prog (callFunc f cap) w = .ok (.enter f cap) w)
    (hform : Calls Try.prog f cap w (Gives ns ev w)) :
    Calls Try.prog 70 #[.pointer (some ⟨b, 0, none⟩), .func (.func f) #[] cap] w fun e w' => e = .returned (.tuple #[]) ∧ NowW w b fp room zs ev w' := by
  obtain ⟨p, c, hlt, _, _, _, c0, c1, c2, f1, f2, _⟩ := hw.cells
  have HW : Hid (IsW w b fp room zs 0) := hw
  have hb : (ev != 0) = true := by simpa using he
  have hb2 : (ev == 0) = false := by simpa using he
  clear hw he
  go_enter Try.func70, Try.ntmps70
  go_wp2_with fail
  refine hform.mono ?_
  rintro e w1 ⟨p', n', c', rfl, hF, _⟩
  have k0 := (hF.cell (p := ⟨b, 0, none⟩) hlt (by simp)).trans c0
  have k1 := (hF.cell (p := ⟨b, 1, none⟩) hlt (by simp)).trans c1
  have k2 := (hF.cell (p := ⟨b, 2, none⟩) hlt (by simp)).trans c2
  have q2 := (hF.frozen (p := ⟨b, 2, none⟩) hlt (by simp)).trans f2
  go_wp2_with fail
  go_quiet (fail)
  go_wp2_with fail
  go_returns
  exact ⟨rfl, NowW.err HW.out (hF.drewN nq) ev⟩
set_option maxHeartbeats 400000 in
theorem lay_full (hw : IsW w b fp room zs 0) (_hr0 : 0 ≤ room) (_hr1 : room ≤ 2147483647) (hz : (zs.length : Int) ≤ room) (hfull : room - zs.length < ns.length) (hm : ns.length ≤ 140737488355328) (hcf : ∀ w, Sem.run Try.prog (callFunc f cap) w = .ok (.enter f cap) w)
    (hform : Calls Try.prog f cap w (Gives ns 0 w)) :
    Calls Try.prog 70 #[.pointer (some ⟨b, 0, none⟩), .func (.func f) #[] cap] w fun e w' => e = .returned (.tuple #[]) ∧ NowW w b fp room zs 12 w' := by
  obtain ⟨p, c, hlt, _, _, _, c0, c1, c2, f1, f2, _⟩ := hw.cells
  have HW : Hid (IsW w b fp room zs 0) := hw
  clear hw
  go_enter Try.func70, Try.ntmps70
  go_wp2_with fail
  refine hform.mono ?_
  rintro e w1 ⟨p', n', c', rfl, hF, hG⟩
  obtain ⟨rfl, _, _⟩ := hG rfl
  have k0 := (hF.cell (p := ⟨b, 0, none⟩) hlt (by simp)).trans c0
  have k1 := (hF.cell (p := ⟨b, 1, none⟩) hlt (by simp)).trans c1
  have k2 := (hF.cell (p := ⟨b, 2, none⟩) hlt (by simp)).trans c2
  have q2 := (hF.frozen (p := ⟨b, 2, none⟩) hlt (by simp)).trans f2
  clear hG
  go_wp2_with fail
  go_quiet (fail)
  go_wp2_with fail
  go_returns
  exact ⟨rfl, NowW.err HW.out (hF.drewN nq) 12⟩
set_option maxHeartbeats 400000 in
theorem lay_ok (hw : IsW w b fp room zs 0) (hr0 : 0 ≤ room) (hr1 : room ≤ 2147483647) (hz : (zs.length : Int) ≤ room) (hfull : ns.length ≤ room - zs.length) (hcf : ∀ w, Sem.run Try.prog (callFunc f cap) w = .ok (.enter f cap) w)
    (hform : Calls Try.prog f cap w (Gives ns 0 w)) :
    Calls Try.prog 70 #[.pointer (some ⟨b, 0, none⟩), .func (.func f) #[] cap] w fun e w' => e = .returned (.tuple #[]) ∧ NowW w b fp room (zs ++ ns) 0 w' := by
  obtain ⟨p, c, hlt, hfp, hnb, hown, c0, c1, c2, f1, f2, hh⟩ := hw.cells
  have HF : Hid (fp = b :: blk p) := hfp
  clear hw hfp
  go_enter Try.func70, Try.ntmps70
  go_wp2_with fail
  refine hform.mono ?_
  rintro e w1 ⟨p', n', c', rfl, hF, hG⟩
  obtain ⟨rfl, hpc, hrd⟩ := hG rfl
  have k0 := (hF.cell (p := ⟨b, 0, none⟩) hlt (by simp)).trans c0
  have k1 := (hF.cell (p := ⟨b, 1, none⟩) hlt (by simp)).trans c1
  have k2 := (hF.cell (p := ⟨b, 2, none⟩) hlt (by simp)).trans c2
  have hown1 := hown.kept hF (by simp)
  have hlt1 := Nat.lt_of_lt_of_le hlt hF.size
  clear hG
  go_wp2_with fail
  go_quiet (fail)
  have HP : Hid (ns = [] → p' = none → c' = 0) := hpc
  clear hpc
  go_wp2_with (at_builtin; refine wpList_appB rfl _ _ 22 rfl 5 Try.underlying22 infoE p _ c zs rfl rfl (hown1.kept ((Frm.refl [] _).drewN nq) (by simp)) p' ns.length c' ns rfl rfl HP.out (hrd.drewN nq) (by omega) ?_)
  intro xs p2 c2' w2 hxs ho hF2 hfresh
  have m1 := (hF2.out.cell (p := ⟨b, 1, none⟩) hlt1 hnb).trans k1
  have q1 := (hF2.out.frozen (p := ⟨b, 1, none⟩) hlt1 hnb).trans ((hF.frozen (p := ⟨b, 1, none⟩) hlt (by simp)).trans f1)
  have HR := hid (NowW.app hh.out HF.out hnb (hF.drewN nq) ho.out hF2.out hfresh.out)
  go_wp2_with fail
  go_returns
  have := HR.out
  rw [hxs.out] at this
  exact ⟨rfl, by rw [hxs.out]; exact this⟩
end

/-- What a call makes of a writer's state: what was laid down, and its error. -/
def stepW (room : Int) (s : List Int × Int) (g : List Int × Int) : List Int × Int :=
  if s.2 ≠ 0 then s else if g.2 ≠ 0 then (s.1, g.2) else if room - s.1.length < g.1.length then (s.1, 12) else (s.1 ++ g.1, 0)
theorem lay_any (b : Nat) (fp : List Nat) (room : Int) (s g : List Int × Int) (f : FuncId) (cap : Array Value) (w : World) (hw : IsW w b fp room s.1 s.2) (hr0 : 0 ≤ room) (hr1 : room ≤ 2147483647) (hz : (s.1.length : Int) ≤ room) (hm : g.1.length ≤ 140737488355328)
    (hcf : ∀ w, Sem.run Try.prog (callFunc f cap) w = .ok (.enter f cap) w) (hform : Calls Try.prog f cap w (Gives g.1 g.2 w)) :
    Calls Try.prog 70 #[.pointer (some ⟨b, 0, none⟩), .func (.func f) #[] cap] w fun e w' => e = .returned (.tuple #[]) ∧ NowW w b fp room (stepW room s g).1 (stepW room s g).2 w' := by
  obtain ⟨zs, err⟩ := s
  obtain ⟨ns, ev⟩ := g
  unfold stepW
  by_cases he : err = 0
  · subst he
    by_cases hev : ev = 0
    · subst hev
      by_cases hf : room - zs.length < ns.length
      · simp only [ne_eq, not_true, if_false, if_pos hf]
        exact lay_full b fp room zs ns f cap w hw hr0 hr1 hz hf hm hcf hform
      · simp only [ne_eq, not_true, if_false, if_neg hf]
        exact lay_ok b fp room zs ns f cap w hw hr0 hr1 hz (by omega) hcf hform
    · simp only [ne_eq, not_true, if_false, hev, not_false_eq_true, if_true]
      exact lay_err b fp room zs ns ev f cap w hw hev hcf hform
  · simp only [ne_eq, he, not_false_eq_true, if_true]
    exact lay_stop b fp room err zs cap w (.func f) hw he
theorem NowW.after {w w0 w' : World} {b : Nat} {fp : List Nat} {room err : Int} {zs : List Int} (hf : Frm [] w w0) (h : NowW w0 b fp room zs err w') : NowW w b fp room zs err w' := by
  obtain ⟨fp', h1, h2, h3⟩ := h
  exact ⟨fp', h1, (hf.mono (by simp)).trans h2 (fun i hi _ => hi), fun k hk => (h3 k hk).imp id (fun h => Nat.le_trans hf.size h)⟩
end
section
open Go.RowKit
set_option maxRecDepth 100000

/-- A number's form, or its error. -/
def numF (n k : Int) : List Int × Int := if k < 1 ∨ 8 < k then ([], 1) else if k < 8 ∧ n / 2 ^ (8 * k.toNat) ≠ 0 then ([], 11) else (le n k.toNat, 0)

theorem callable {P : Program} {f : FuncId} {fn : Func} (h : P.funcs[f]? = some fn) (h1 : (fn.name == "runtime.NumGoroutine") = false) (h2 : fn.body.isNone = false) (cap : Array Value) (w : World) : Sem.run P (callFunc f cap) w = .ok (.enter f cap) w := by
  have e1 : ¬ (fn.name = "runtime.NumGoroutine") := by simpa using h1
  have e2 : ¬ fn.body = none := by intro h; simp [h] at h2
  simp [callFunc, h, e1, e2]
theorem gives_err {w w1 : World} {p : Option Addr} {n c : Nat} {ev : Int} (hf : Frm [] w w1) (hne : ev ≠ 0) : Gives [] ev w (.returned (.tuple #[.slice p n c, .int .i64 ev])) w1 := ⟨p, n, c, rfl, hf, fun h => absurd h hne⟩
theorem gives_ok {w w1 : World} {p : Option Addr} {n c : Nat} {ns : List Int} (hf : Frm [] w w1) (hn : n = ns.length) (hc : ns = [] → p = none → c = 0) (hrd : Rd w1 p ns) : Gives ns 0 w (.returned (.tuple #[.slice p n c, .int .i64 0])) w1 := ⟨p, n, c, rfl, hf, fun _ => ⟨hn, hc, hrd⟩⟩
set_option maxHeartbeats 400000 in
theorem num1_any (x y : Nat) (n k : Int) (hn : 0 ≤ n) (hn2 : n < 18446744073709551616) (hk : -9223372036854775808 ≤ k) (hk2 : k ≤ 9223372036854775807) (w : World) (hx : w.cell? ⟨x, 0, none⟩ = some (.int .i64 k)) (hy : w.cell? ⟨y, 0, none⟩ = some (.int .u64 n)) :
    Calls Try.prog 72 #[.pointer (some ⟨x, 0, none⟩), .pointer (some ⟨y, 0, none⟩)] w (Gives (numF n k).1 (numF n k).2 w) := by
  by_cases h1 : k < 1 ∨ 8 < k
  · rw [show numF n k = ([], 1) by simp [numF, h1]]
    by_cases h2 : k < 1
    · go_enter Try.func72, Try.ntmps72
      go_wp2_with fail
      go_returns
      exact gives_err (Frm.refl _ _) (by decide)
    · go_enter Try.func72, Try.ntmps72
      go_wp2_with fail
      go_returns
      exact gives_err (Frm.refl _ _) (by decide)
  · obtain ⟨j, rfl⟩ : ∃ j : Nat, k = (j : Int) := ⟨k.toNat, by omega⟩
    have hj1 : 1 ≤ j := by omega
    have hj8 : j ≤ 8 := by omega
    have HN := hid (number_any n j hn hn2 hj8)
    clear hk hk2
    have hfin : ∀ w1 : World, w1.heap[w.heap.size]? = some (.cells (bv (le n j)).toArray 5 (0, 0)) → Frm [] w w1 → Gives (le n j) 0 w (.returned (.tuple #[.slice (some ⟨w.heap.size, 0, none⟩) j j, .int .i64 0])) w1 := by
      intro w1 hb hf
      have ho := own_of_block (zs := le n j) hb (by rw [le_length]; unfold maxLen; omega)
      exact gives_ok hf (le_length n j).symm (by simp) ho.rd
    have HFIN := hid hfin
    clear hfin
    by_cases h2 : j < 8
    · by_cases h3 : n / 2 ^ (8 * j) = 0
      · rw [show numF n j = (le n j, 0) by simp [numF, h1, h3]]
        have H3 : (n / 2 ^ (8 * j) != 0) = false := by simp [h3]
        have H4 : (n / 2 ^ (8 * j) == 0) = true := by simp [h3]
        clear h1 h3
        go_enter Try.func72, Try.ntmps72
        go_wp2_with fail
        refine (HN.out _).mono ?_
        rintro e w1 ⟨rfl, hb, hf⟩
        have HB := hid hb
        clear hb
        go_wp2_with fail
        go_returns
        exact HFIN.out w1 HB.out hf
      · rw [show numF n j = ([], 11) by simp [numF, h1, h3]; omega]
        have H3 : (n / 2 ^ (8 * j) != 0) = true := by simp [h3]
        have H4 : (n / 2 ^ (8 * j) == 0) = false := by simp [h3]
        clear h1 h3
        go_enter Try.func72, Try.ntmps72
        go_wp2_with fail
        go_returns
        exact gives_err (Frm.refl _ _) (by decide)
    · rw [show numF n j = (le n j, 0) by simp [numF, h1]; omega]
      clear h1
      go_enter Try.func72, Try.ntmps72
      go_wp2_with fail
      refine (HN.out _).mono ?_
      rintro e w1 ⟨rfl, hb, hf⟩
      have HB := hid hb
      clear hb
      go_wp2_with fail
      go_returns
      exact HFIN.out w1 HB.out hf
set_option maxHeartbeats 400000 in
theorem num_any (b : Nat) (fp : List Nat) (room : Int) (s : List Int × Int) (n k : Int) (w : World) (hw : IsW w b fp room s.1 s.2) (hr0 : 0 ≤ room) (hr1 : room ≤ 2147483647) (hz : (s.1.length : Int) ≤ room)
    (hn : 0 ≤ n) (hn2 : n < 18446744073709551616) (hk : -9223372036854775808 ≤ k) (hk2 : k ≤ 9223372036854775807) :
    Calls Try.prog 63 #[.pointer (some ⟨b, 0, none⟩), .int .u64 n, .int .i64 k] w fun e w' => e = .returned (.tuple #[]) ∧ NowW w b fp room (stepW room s (numF n k)).1 (stepW room s (numF n k)).2 w' := by
  have hl : (numF n k).1.length ≤ 140737488355328 := by unfold numF; split; simp; split; simp; simp only [le_length]; omega
  have HW := hid hw
  go_enter Try.func63, Try.ntmps63
  go_wp2_with fail
  have hF : Frm [] w ((w.alloc (Obj.cells #[Value.int IntKind.u64 n] 36)).alloc (Obj.cells #[Value.int IntKind.i64 k] 3)) := ((Frm.refl _ _).alloc _).alloc _
  refine (lay_any b fp room s (numF n k) 72 _ _ (HW.out.kept hF (by simp)) hr0 hr1 hz hl (callable Try.func72 (by kernel_rfl) (by kernel_rfl) _) (num1_any _ _ n k hn hn2 hk hk2 _ (by simp) (by simp))).mono ?_
  rintro e w' ⟨rfl, hq⟩
  have HQ := hid (hq.after hF)
  clear hq
  go_wp2_with fail
  go_returns
  exact ⟨rfl, HQ.out⟩
def textF (s : ByteArray) : List Int × Int := if 65535 < s.size then ([], 11) else (le s.size 2 ++ tx s, 0)
def padF (room len to : Int) : List Int × Int := if to < len then ([], 11) else if room < to then ([], 12) else (List.replicate (to - len).toNat 0, 0)
set_option maxHeartbeats 400000 in
theorem pad1_any (x y b : Nat) (fp : List Nat) (room err : Int) (zs : List Int) (to : Int) (w : World) (hw : IsW w b fp room zs err) (hr0 : 0 ≤ room) (hr1 : room ≤ 2147483647)
    (hx : w.cell? ⟨x, 0, none⟩ = some (.int .i64 to)) (hy : w.cell? ⟨y, 0, none⟩ = some (.pointer (some ⟨b, 0, none⟩))) :
    Calls Try.prog 71 #[.pointer (some ⟨x, 0, none⟩), .pointer (some ⟨y, 0, none⟩)] w (Gives (padF room zs.length to).1 (padF room zs.length to).2 w) := by
  obtain ⟨p, c, hlt, hfp, hnb, hown, c0, c1, c2, f1, f2, hh⟩ := hw.cells
  clear hw hfp hown hnb hh
  by_cases h1 : to < zs.length
  · rw [show padF room zs.length to = ([], 11) by unfold padF; rw [if_pos h1]]
    go_enter Try.func71, Try.ntmps71
    go_wp2_with fail
    go_quiet (fail)
    go_wp2_with fail
    go_returns
    exact gives_err ((Frm.refl _ _).drewN _) (by decide)
  · by_cases h2 : room < to
    · rw [show padF room zs.length to = ([], 12) by unfold padF; rw [if_neg h1, if_pos h2]]
      go_enter Try.func71, Try.ntmps71
      go_wp2_with fail
      go_quiet (fail)
      go_wp2_with fail
      go_quiet (fail)
      go_wp2_with fail
      go_returns
      exact gives_err (((Frm.refl _ _).drewN _).drewN _) (by decide)
    · rw [show padF room zs.length to = (List.replicate (to - zs.length).toNat 0, 0) by unfold padF; rw [if_neg h1, if_neg h2]]
      obtain ⟨m, hm⟩ : ∃ m : Nat, (to - zs.length).toNat = m := ⟨_, rfl⟩
      have hmk := run_make_row' (P := Try.prog) 22 5 (.int .u8 0) 1 Try.underlying22 infoE rfl .i64 .i64 m (by omega) (by omega)
      rw [show ((m : Nat) : Int) = IntKind.i64.wrap (to - zs.length) by rw [IntWalk.i64_in _ (by omega)]; omega] at hmk
      rw [hm]
      have HM := hid hm
      clear hm
      go_enter Try.func71, Try.ntmps71
      go_wp2_with fail
      go_quiet (fail)
      go_wp2_with fail
      go_quiet (fail)
      go_wp2_with fail
      go_region_held3 (fun w' => w'.cell? ⟨x, 0, none⟩ = some (.int .i64 to) ∧ w'.cell? ⟨y, 0, none⟩ = some (.pointer (some ⟨b, 0, none⟩)) ∧ w'.cell? ⟨b, 1, none⟩ = some (.slice p zs.length c)) (go_keep) (fail)
      go_wp2_with fail
      go_returns
      refine gives_ok (((Frm.refl _ _).drewN _).alloc _) (by simp) (by simp) ?_
      refine (own_of_block (E := 5) (zs := List.replicate m 0) ?_ (by rw [List.length_replicate]; have := HM.out; unfold maxLen; omega)).rd
      rw [show w.heap.size = (w.drewN (_ : Nat)).heap.size from rfl, heap_alloc_new]
      congr 2
      apply Array.ext'
      simp [toList_madeCells_one, bv]
set_option maxHeartbeats 400000 in
theorem pad_any (b : Nat) (fp : List Nat) (room : Int) (s : List Int × Int) (to : Int) (w : World) (hw : IsW w b fp room s.1 s.2) (hr0 : 0 ≤ room) (hr1 : room ≤ 2147483647) (hz : (s.1.length : Int) ≤ room) :
    Calls Try.prog 61 #[.pointer (some ⟨b, 0, none⟩), .int .i64 to] w fun e w' => e = .returned (.tuple #[]) ∧ NowW w b fp room (stepW room s (padF room s.1.length to)).1 (stepW room s (padF room s.1.length to)).2 w' := by
  have hl : (padF room s.1.length to).1.length ≤ 140737488355328 := by unfold padF; split; simp; split; simp; simp; omega
  have HW := hid hw
  go_enter Try.func61, Try.ntmps61
  go_wp2_with fail
  have hF : Frm [] w ((w.alloc (Obj.cells #[Value.pointer (some ⟨b, 0, none⟩)] 92)).alloc (Obj.cells #[Value.int IntKind.i64 to] 3)) := ((Frm.refl _ _).alloc _).alloc _
  refine (lay_any b fp room s (padF room s.1.length to) 71 _ _ (HW.out.kept hF (by simp)) hr0 hr1 hz hl (callable Try.func71 (by kernel_rfl) (by kernel_rfl) _) (pad1_any _ _ b fp room s.2 s.1 to _ (HW.out.kept hF (by simp)) hr0 hr1 (by simp) (by simp))).mono ?_
  rintro e w' ⟨rfl, hq⟩
  have HQ := hid (hq.after hF)
  clear hq
  go_wp2_with fail
  go_returns
  exact ⟨rfl, HQ.out⟩
set_option maxHeartbeats 400000 in
theorem doneW_err (b : Nat) (fp : List Nat) (room err : Int) (zs : List Int) (w : World) (hw : IsW w b fp room zs err) (he : err ≠ 0) :
    Calls Try.prog 62 #[.pointer (some ⟨b, 0, none⟩)] w fun e w' => e = .returned (.tuple #[.slice none 0 0, .int .i64 err]) ∧ Frm [] w w' := by
  obtain ⟨p, c, hlt, hfp, hnb, hown, c0, c1, c2, f1, f2, hh⟩ := hw.cells
  have hb : (err != 0) = true := by simpa using he
  clear hw hfp hown hnb hh he
  go_enter Try.func62, Try.ntmps62
  go_wp2_with fail
  go_quiet (fail)
  go_wp2_with fail
  go_returns
  exact ⟨rfl, (Frm.refl _ _).drewN _⟩
set_option maxHeartbeats 400000 in
theorem doneW_ok (b : Nat) (fp : List Nat) (room : Int) (zs : List Int) (w : World) (hw : IsW w b fp room zs 0) (hr1 : room ≤ 2147483647) (hz : (zs.length : Int) ≤ room) :
    Calls Try.prog 62 #[.pointer (some ⟨b, 0, none⟩)] w fun e w' => ∃ g, e = .returned (.tuple #[.slice (some ⟨g, 0, none⟩) zs.length zs.length, .int .i64 0]) ∧ w'.heap[g]? = some (.cells (bv zs).toArray 5 (0, 0)) ∧ Frm [] w w' ∧ w.heap.size ≤ g := by
  obtain ⟨p, c, hlt, hfp, hnb, hown, c0, c1, c2, f1, f2, hh⟩ := hw.cells
  have hmk := run_make_row' (P := Try.prog) 22 5 (.int .u8 0) 1 Try.underlying22 infoE rfl .i64 .i64 zs.length (by omega) (by omega)
  clear hw hfp hnb hh
  go_enter Try.func62, Try.ntmps62
  go_wp2_with (refine wpList_copyB rfl _ _ 22 rfl 5 Try.underlying22 infoE w.heap.size zs.length zs.length _ rfl (heap_alloc_new _ _) (size_madeCells _ _) p zs.length c zs rfl rfl (hown.rd.alloc _) (Nat.le_refl _) ?_)
  intro w' hb hf
  go_wp2_with fail
  go_returns
  refine ⟨w.heap.size, rfl, ?_, ?_, Nat.le_refl _⟩
  · simpa using hb
  · exact ((Frm.refl [] w).alloc _).trans hf (by simp)
end
section
open Go.RowKit
set_option maxRecDepth 100000

/-- A pointer's nine numbers. -/
structure P9 where
  top : Int
  at_ : Int
  bytes : Int
  birth : Int
  kind : Int
  sa : Int
  sb : Int
  sc : Int
  sd : Int
def P9.arr (p : P9) : Array Value := #[.int .i64 p.top, .int .i64 p.at_, .int .i64 p.bytes, .int .u64 p.birth, .int .i64 p.kind, .int .u64 p.sa, .int .u64 p.sb, .int .u64 p.sc, .int .u64 p.sd]
def P9.zero (p : P9) : Prop := p.top = 0 ∧ p.at_ = 0 ∧ p.bytes = 0 ∧ p.birth = 0 ∧ p.kind = 0 ∧ p.sa = 0 ∧ p.sb = 0 ∧ p.sc = 0 ∧ p.sd = 0
def P9.good (p : P9) : Prop := 0 ≤ p.top ∧ p.top < 4 ∧ 0 ≤ p.at_ ∧ p.at_ < 40960 ∧ 1 ≤ p.bytes ∧ p.bytes ≤ 1024 ∧ 1 ≤ p.birth ∧ p.birth ≤ 281474976710656 ∧ (p.kind = 1 ∨ p.kind = 2)
instance (p : P9) : Decidable p.zero := by unfold P9.zero; infer_instance
instance (p : P9) : Decidable p.good := by unfold P9.good; infer_instance
/-- What Check answers. -/
def checkP (p : P9) : Int := if p.zero then 0 else if p.good then 0 else 40
theorem checkP_cases (p : P9) : (p.zero ∧ checkP p = 0) ∨ (¬ p.zero ∧ p.good ∧ checkP p = 0) ∨ (¬ p.zero ∧ ¬ p.good ∧ checkP p = 40) := by
  unfold checkP
  by_cases h1 : p.zero
  · exact Or.inl ⟨h1, if_pos h1⟩
  · by_cases h2 : p.good
    · exact Or.inr (Or.inl ⟨h1, h2, by rw [if_neg h1, if_pos h2]⟩)
    · exact Or.inr (Or.inr ⟨h1, h2, by rw [if_neg h1, if_neg h2]⟩)
end
end Go.Proofs.Ytkolbijhekbelaa
