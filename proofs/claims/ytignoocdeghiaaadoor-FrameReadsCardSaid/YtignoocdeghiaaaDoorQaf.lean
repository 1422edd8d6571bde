/- Bytes in a slice of one's own that lies anywhere in its block, and is appended to. Speaks of no program. Laws of bytes for all packages: conversion to text, a copy into the midst of a block, one's own bytes set. A slice of one long element is built; speaks of no program. Lists of blocks of bytes of one's own. (Written by a script from the texts of layer 12.) -/
import Derived.Test.YtignoocdeghiaaaDoorQae
import Derived.Deep.AppendSrc
import Derived.Deep.MidRow
import Derived.Laws.AppendOwn
import Derived.Test.YtignoocdeghiaaaDoorRows
import Derived.Laws.OwnMore
import Derived.Deep.QuietTactic
import Derived.BigQuiet
import Derived.Deep.RegionHeld3
import Derived.Laws.MakeOwn
import Derived.Laws.Tables
namespace Go.Proofs.YtignoocdeghiaaaDoor
section
open Go.RowKit Go.Lib
set_option maxRecDepth 100000

/-- The blocks that such a slice may be written in. -/
def ft (p : Option Addr) (c : Nat) : List Nat := if 0 < c then blk p else []
structure Wt (w : World) (p : Option Addr) (n c : Nat) (zs : List Int) : Prop where
  ln : zs.length = n
  le : n ≤ c
  mx : c ≤ maxLen
  none_ : p = none → c = 0
  it : c = 0 ∨ ∃ g o, p = some ⟨g, o, none⟩ ∧ (∀ j, j < n → w.cell? ⟨g, o + j, none⟩ = some (.int .u8 (zs.getD j 0))) ∧ ∀ j, j < c → (w.cell? ⟨g, o + j, none⟩).isSome = true ∧ w.frozen? ⟨g, o + j, none⟩ = false
section
variable {w w' : World} {p : Option Addr} {n c : Nat} {zs : List Int}
theorem Wt.nil (w : World) : Wt w none 0 0 [] := ⟨rfl, Nat.le_refl _, Nat.zero_le _, fun _ => rfl, Or.inl rfl⟩
theorem Wt.rd (h : Wt w p n c zs) : Rd w p zs := by
  rcases h.it with h0 | ⟨g, o, hp, h1, _⟩
  · have := h.ln; have := h.le
    exact Or.inl (List.eq_nil_of_length_eq_zero (by omega))
  · exact Or.inr ⟨g, o, hp, fun i hi => h1 i (by rw [← h.ln]; exact hi)⟩
theorem ft_mem {k : Nat} : k ∈ ft p c ↔ 0 < c ∧ k ∈ blk p := by unfold ft; split <;> simp_all
theorem Wt.low (h : Wt w p n c zs) : ∀ k ∈ ft p c, k < w.heap.size := by
  intro k hk
  obtain ⟨hc, hk⟩ := ft_mem.1 hk
  rcases h.it with h0 | ⟨g, o, hp, _, h2⟩
  · omega
  · rw [hp] at hk
    simp [blk] at hk
    subst hk
    obtain ⟨u, hu⟩ := Option.isSome_iff_exists.1 (h2 0 hc).1
    exact World.block_lt_of_cell? w _ hu
theorem Wt.kept {S : List Nat} (h : Wt w p n c zs) (hf : Frm S w w') (hn : ∀ k ∈ ft p c, k ∉ S) : Wt w' p n c zs := by
  refine ⟨h.ln, h.le, h.mx, h.none_, ?_⟩
  rcases Nat.eq_zero_or_pos c with h0 | h0
  · exact Or.inl h0
  · rcases h.it with h1 | ⟨g, o, hp, h1, h2⟩
    · omega
    · have hm : g ∈ ft p c := ft_mem.2 ⟨h0, by rw [hp]; simp [blk]⟩
      have hg : g < w.heap.size := h.low g hm
      have hgS : g ∉ S := hn g hm
      exact Or.inr ⟨g, o, hp, fun j hj => (hf.cell (p := ⟨g, o + j, none⟩) hg hgS).trans (h1 j hj), fun j hj => by rw [hf.cell (p := ⟨g, o + j, none⟩) hg hgS, hf.frozen (p := ⟨g, o + j, none⟩) hg hgS]; exact h2 j hj⟩
/-- What is left behind a bound. -/
theorem Wt.drop (h : Wt w p n c zs) (k : Nat) (hk : k ≤ n) : Wt w (if c = k then p else p.map (·.add k)) (n - k) (c - k) (zs.drop k) := by
  have hle := h.le
  refine ⟨by rw [List.length_drop, h.ln], by omega, by have := h.mx; omega, fun hp => ?_, ?_⟩
  · split at hp
    · omega
    · have : p = none := by simpa using hp
      have := h.none_ this
      omega
  · rcases h.it with h0 | ⟨g, o, hp, h1, h2⟩
    · exact Or.inl (by omega)
    · by_cases hck : c = k
      · exact Or.inl (by omega)
      · rw [if_neg hck, hp]
        refine Or.inr ⟨g, o + k, by first | (simp [Addr.add]; done) | (simp [Addr.add]; split <;> simp_all), fun j hj => ?_, fun j hj => ?_⟩
        · rw [Nat.add_assoc, h1 (k + j) (by omega)]
          simp [List.getD_eq_getElem?_getD]
        · rw [Nat.add_assoc]; exact h2 (k + j) (by omega)
theorem blk_drop (p : Option Addr) (c k : Nat) : blk (if c = k then p else p.map (·.add k)) = blk p := by
  split
  · rfl
  · cases p with
    | none => rfl
    | some a => simp [blk, Addr.add]; split <;> rfl
theorem ft_drop (p : Option Addr) (c k : Nat) : ∀ i ∈ ft (if c = k then p else p.map (·.add k)) (c - k), i ∈ ft p c := by
  intro i hi
  obtain ⟨h1, h2⟩ := ft_mem.1 hi
  rw [blk_drop] at h2
  exact ft_mem.2 ⟨by omega, h2⟩
theorem Frm.setCells (g : Nat) : ∀ (vs : List Value) (o : Nat) (w : World), Frm [g] w (w.setCells g o vs)
  | [], _, w => Frm.refl _ _
  | v :: r, o, w => by
    rw [World.setCells]
    exact ((Frm.refl [g] w).setCell ⟨g, o, none⟩ v (by simp)).trans (Frm.setCells g r (o + 1) _) (fun i hi _ => hi)
end
section
variable {P : Program} {w : World}
theorem Wt.run_app (t ty E : TypeId) (ht : P.underlying t = some (.slice E)) (hI : (P.info? E).map (fun i => (i.zero, i.size, i.bytes)) = some (some (.int .u8 0), 1, 1))
    {p : Option Addr} {n c : Nat} {zs : List Int} (h : Wt w p n c zs) (q : Option Addr) (m d : Nat) (ns : List Int) (hm : ns.length = m) (hq : q = none → m = 0) (hrd : Rd w q ns) (hmax : n + m ≤ 140737488355328) :
    ∃ p2 c2 w', (Builtin.append_ #[t, t] ty #[.slice p n c, .slice q m d]).run P w = .ok (.slice p2 (n + m) c2) w' ∧ Wt w' p2 (n + m) c2 (zs ++ ns) ∧ Frm (ft p c) w w' ∧ (∀ k ∈ ft p2 c2, k ∈ ft p c ∨ w.heap.size ≤ k) := by
  obtain ⟨i, hi, hz, h1, h2⟩ := info_parts hI
  have hln := h.ln
  have hle := h.le
  have hnb : (bv ns).length = m * i.size := by rw [bv_length, hm, h1, Nat.mul_one]
  have hs : Src P i.size t (.slice q m d) m (bv ns) w := by
    rcases hrd with h0 | ⟨g, o, rfl, hc⟩
    · have hm0 : m = 0 := by rw [← hm, h0]; rfl
      subst hm0
      subst h0
      cases q with
      | none => exact Src.ofNil w ht d
      | some a => exact Src.ofSlice w ht a 0 d _ (by simpa using hnb) (by simp [bv]) (by simp [bv])
    · refine Src.ofSlice w ht _ m d _ hnb (fun j u hu => ?_) bv_one
      have hj : j < ns.length := by have := (List.getElem?_eq_some_iff.1 hu).1; rw [bv_length] at this; exact this
      rw [show (⟨g, o, none⟩ : Addr).add j = ⟨g, o + j, none⟩ by unfold Addr.add; split <;> simp_all, hc j hj]
      rw [bv_get hj] at hu
      exact hu
  have hgd : ∀ j, j < n + m → n ≤ j → (zs ++ ns).getD j 0 = ns.getD (j - n) 0 := fun j _ hj2 => by
    rw [List.getD_eq_getElem?_getD, List.getD_eq_getElem?_getD, List.getElem?_append_right (by omega), hln]
  have hgl : ∀ j, j < n → (zs ++ ns).getD j 0 = zs.getD j 0 := fun j hj => by
    rw [List.getD_eq_getElem?_getD, List.getD_eq_getElem?_getD, List.getElem?_append_left (by omega)]
  by_cases hroom : n + m ≤ c
  · by_cases hc0 : c = 0
    · have hm0 : m = 0 := by omega
      have hn0 : n = 0 := by omega
      have hz0 : zs = [] := List.eq_nil_of_length_eq_zero (by omega)
      have hn00 : ns = [] := List.eq_nil_of_length_eq_zero (by omega)
      subst hm0 hn0 hc0 hz0 hn00
      refine ⟨p, 0, w, ?_, h, Frm.refl _ _, fun k hk => Or.inl hk⟩
      cases p <;> simp [Builtin.append_, run_underlying ht, sizeOf, typeInfo, hi, hs.len, hs.cells, storeCells, bv]
    · rcases h.it with h0 | ⟨g, o, rfl, hc1, hc2⟩
      · exact absurd h0 hc0
      · have hrun := run_append_room_src (P := P) w t t ty E i ht hi g o n c (.slice q m d) m (bv ns) hs hroom (fun j hj => by
          rw [h1, Nat.mul_one, Nat.add_assoc]; rw [bv_length] at hj; exact (hc2 (n + j) (by omega)).1) (fun j hj => by
          rw [h1, Nat.mul_one, Nat.add_assoc]; rw [bv_length] at hj; exact (hc2 (n + j) (by omega)).2)
        rw [h1, Nat.mul_one] at hrun
        refine ⟨_, c, _, hrun, ⟨by rw [List.length_append, hln, hm], hroom, h.mx, fun h => (by cases h), Or.inr ⟨g, o, rfl, fun j hj => ?_, fun j hj => ?_⟩⟩, by rw [show ft (some ⟨g, o, none⟩) c = [g] by unfold ft; rw [if_pos (by omega)]; rfl]; exact Frm.setCells g _ _ _, fun k hk => Or.inl hk⟩
        · by_cases hj2 : j < n
          · rw [World.cell?_setCells_out g _ _ _ _ (fun _ _ => Or.inl (by show o + j < o + n; omega)), hc1 j hj2, hgl j hj2]
          · have hin := World.cell?_setCells_in g (bv ns) (o + n) w (fun j hj => by rw [bv_length] at hj; rw [Nat.add_assoc]; exact (hc2 (n + j) (by omega)).1) (j - n) (by rw [bv_length]; omega)
            rw [show o + n + (j - n) = o + j by omega] at hin
            rw [hin, hgd j hj (by omega), ← List.getElem?_eq_getElem, bv_get (by omega)]
        · refine ⟨World.isSome_setCells g _ _ _ _ (hc2 j hj).1, by rw [World.frozen?_setCells]; exact (hc2 j hj).2⟩
  · have hold : (Builtin.firstCells i.size n (.slice p n c)).run P w.drew = .ok (bv zs).toArray w.drew := by
      rcases Nat.eq_zero_or_pos n with hn0 | hn0
      · have hz0 : zs = [] := List.eq_nil_of_length_eq_zero (by omega)
        subst hz0
        subst hn0
        cases p with
        | none => exact run_firstCells_none w.drew i.size 0 0 c
        | some a => exact run_firstCells_some w.drew i.size 0 a 0 c _ (by simp [bv]) (by simp [bv])
      · rcases h.it with h0 | ⟨g, o, rfl, hc1, hc2⟩
        · omega
        · refine run_firstCells_some w.drew i.size n _ n c _ (by rw [bv_length, hln, h1, Nat.mul_one]) (fun j u hu => ?_)
          have hj : j < zs.length := by have := (List.getElem?_eq_some_iff.1 hu).1; rw [bv_length] at this; exact this
          rw [show (⟨g, o, none⟩ : Addr).add j = ⟨g, o + j, none⟩ by unfold Addr.add; split <;> simp_all]
          rw [bv_get hj] at hu
          exact (hc1 j (by omega)).trans hu
    have hrun := run_append_grow_src (P := P) w t t ty E i _ ht hi hz p n c (bv zs) hold (.slice q m d) m (bv ns) hs (by omega) (by omega) (growslice_fits (by omega) (by rw [h2]; omega))
    have hge := grownCap_ge w (n + m) c E
    have hcm := grownCap_le_maxLen w (n + m) c E (by unfold maxLen; omega)
    have hlb : (bv zs ++ bv ns).length = n + m := by rw [List.length_append, bv_length, bv_length, hln, hm]
    have hbb : bv zs ++ bv ns = bv (zs ++ ns) := by unfold bv; rw [List.map_append]
    refine ⟨_, _, _, hrun, ⟨by rw [List.length_append, hln, hm], hge, hcm, fun h => (by cases h), Or.inr ⟨w.heap.size, 0, rfl, fun j hj => ?_, fun j hj => ⟨?_, ?_⟩⟩⟩, ((Frm.refl _ _).drew.alloc _), fun k hk => Or.inr (by have h2 := (ft_mem.1 hk).2; simp [blk] at h2; omega)⟩
    · rw [Nat.zero_add]
      have e1 : (w.drew.alloc (.cells ((bv zs ++ bv ns).toArray ++ Builtin.zeroCells (Value.int .u8 0).cells (grownCap w (n + m) c E - (n + m))) E)).cell? ⟨w.heap.size, j, none⟩ = _ := World.cell?_alloc_new w.drew _ _ j
      rw [e1, Array.getElem?_append_left (by simp only [List.size_toArray]; rw [hlb]; exact hj), List.getElem?_toArray, hbb, bv_get (by rw [List.length_append, hln, hm]; exact hj)]
    · rw [Nat.zero_add]
      have e1 : (w.drew.alloc (.cells ((bv zs ++ bv ns).toArray ++ Builtin.zeroCells (Value.int .u8 0).cells (grownCap w (n + m) c E - (n + m))) E)).cell? ⟨w.heap.size, j, none⟩ = _ := World.cell?_alloc_new w.drew _ _ j
      rw [e1]
      have hsz : ((bv zs ++ bv ns).toArray ++ Builtin.zeroCells (Value.int .u8 0).cells (grownCap w (n + m) c E - (n + m))).size = grownCap w (n + m) c E := by
        rw [Array.size_append, List.size_toArray, hlb, size_zeroCells, show (Value.int .u8 0).cells.size = 1 from rfl]; omega
      rw [Array.getElem?_eq_getElem (by rw [hsz]; exact hj)]
      rfl
    · exact World.frozen?_alloc_new w.drew _ _ _
theorem wpList_appT {ops : Array Oper} {rest : List Oper} {o : Oper} {a : Act} {Q : Exit → Act → World → Prop} (hgd : o.guard = none) (s x : Operand) (t : TypeId)
    (ho : o.op = .call { callee := .builtin .append, args := #[s, x], argTypes := #[t, t] })
    (E : TypeId) (ht : P.underlying t = some (.slice E)) (hI : (P.info? E).map (fun i => (i.zero, i.size, i.bytes)) = some (some (.int .u8 0), 1, 1))
    (p : Option Addr) (n c : Nat) (zs : List Int) (hs : a.eval s = .slice p n c) (hw : Wt w p n c zs) (q : Option Addr) (m d : Nat) (ns : List Int) (hx : a.eval x = .slice q m d) (hm : ns.length = m) (hq : q = none → m = 0) (hrd : Rd w q ns) (hmax : n + m ≤ 140737488355328)
    (h : ∀ p2 c2 w', Hid (Wt w' p2 (n + m) c2 (zs ++ ns)) → Hid (Frm (ft p c) w w') → Hid (∀ k ∈ ft p2 c2, k ∈ ft p c ∨ w.heap.size ≤ k) → wpList P ops Q rest (a.put o.dst (.slice p2 (n + m) c2)) w') :
    wpList P ops Q (o :: rest) a w := by
  refine wpList_plain hgd fun K hK => ?_
  obtain ⟨p2, c2, w', hrun, h1, h2, h3⟩ := hw.run_app (P := P) t o.type E ht hI q m d ns hm hq hrd hmax
  unfold Oper.wp
  simp [execOp, ho, resolve, invoke, builtin, hs, hx, hrun, Result.andThen]
  exact hK _ _ (h p2 c2 w' h1 h2 h3)
end
end
section
open Go.RowKit Go.Lib
set_option maxRecDepth 100000

theorem infoB : (Tryd.prog.info? 5).map (fun i => (i.zero, i.size, i.bytes)) = some (some (.int .u8 0), 1, 1) := by kernel_rfl
theorem cv_any {P : Program} {w : World} (src e dst : TypeId) (hs : P.underlying src = some (.slice e)) (he : P.underlying e = some (.int .u8)) (hd : P.underlying dst = some .string) {p : Option Addr} {n : Nat} {zs : List Int} (hrd : Rd w p zs) (cap : Nat) (hn : zs.length = n) :
    Sem.run P (convert src dst (.slice p n cap)) w = .ok (.string (strOfNums zs)) w := by
  rcases hrd with rfl | ⟨g, o, rfl, hc⟩
  · simp at hn
    subst hn
    cases p with
    | none => exact run_convert_bytes_nil (P := P) (w := w) src e hs he 0 cap dst hd
    | some a =>
      rw [run_convert_bytes_string w src dst e _ _ _ hs he hd, run_bytesToString w a 0 cap [] (by simp [loadCells, loadCellsFrom])]
      rfl
  · exact run_convert_bytes_arg (P := P) (w := w) src e hs he g o n cap zs hn (fun i hi => hc i (by omega)) dst hd
/-- Bytes with others in their midst. -/
def splice (bs : List Int) (at_ : Nat) (zs : List Int) : List Int := bs.take at_ ++ zs ++ bs.drop (at_ + zs.length)
theorem splice_length {bs zs : List Int} {i : Nat} (h : i + zs.length ≤ bs.length) : (splice bs i zs).length = bs.length := by
  simp [splice]; omega
theorem splice_nil (bs : List Int) (i : Nat) : splice bs i [] = bs := by simp [splice]
theorem splice_splice {bs zs ys : List Int} {i : Nat} (h : i + zs.length + ys.length ≤ bs.length) : splice (splice bs i zs) (i + zs.length) ys = splice bs i (zs ++ ys) := by
  obtain ⟨A, hA⟩ : ∃ A, bs.take i ++ zs = A := ⟨_, rfl⟩
  have e1 : A.length = i + zs.length := by rw [← hA]; simp; omega
  have e2 : splice bs i zs = A ++ bs.drop (i + zs.length) := by unfold splice; rw [hA]
  have e3 : splice bs i (zs ++ ys) = A ++ ys ++ bs.drop (i + zs.length + ys.length) := by
    unfold splice
    rw [← hA, List.length_append]
    simp [Nat.add_assoc]
  rw [e2, e3]
  unfold splice
  rw [← e1, List.take_left, ← List.drop_drop, List.drop_left, List.drop_drop]
theorem bv_toList (zs : List Int) : (bv zs).toArray.toList = bv zs := by simp
section
variable {P : Program} {w : World}
/-- copy into the midst of a block. -/
theorem run_copyS (T ty : TypeId) (E : TypeId) (B : TypeId) (ht : P.underlying T = some (.slice E)) (hI : (P.info? E).map (fun i => (i.zero, i.size, i.bytes)) = some (some (.int .u8 0), 1, 1))
    (dp : Option Addr) (dn dc : Nat) (g off : Nat) (bs : List Int) (hg : w.heap[g]? = some (.cells (bv bs).toArray B (0, 0))) (hdp : 0 < dn → dp = some ⟨g, off, none⟩) (hdn : off + dn ≤ bs.length)
    (p : Option Addr) (c : Nat) (ns : List Int) (hrd : Rd w p ns) (k : Nat) (hk : k = min ns.length dn) :
    ∃ w', (Builtin.copy_ #[T, T] ty #[.slice dp dn dc, .slice p ns.length c]).run P w = .ok (.int .i64 (k : Int)) w' ∧ w'.heap[g]? = some (.cells (bv (splice bs off (ns.take k))).toArray B (0, 0)) ∧ Frm [g] w w' := by
  obtain ⟨i, hi, hz, h1, h2⟩ := info_parts hI
  have hsz : (P.info? E).map (·.size) = some 1 := by simp [hi, h1]
  by_cases hn : k = 0
  · have hrun := run_copy_none (P := P) w T T ty E dp p dn dc ns.length c ht hsz (by show min ns.length dn = 0; omega)
    refine ⟨w, by rw [hn]; exact hrun, by rw [hn]; simpa [splice] using hg, Frm.refl _ _⟩
  · have hne : ns ≠ [] := by intro e; subst e; simp at hk; omega
    obtain ⟨ad, rfl, hnews⟩ := bytes_at hrd hne
    have hdn0 : 0 < dn := by omega
    have hkl : k ≤ ns.length ∧ k ≤ dn := by omega
    have hl : (bv (ns.take k)).length = k := by simp [bv]; omega
    obtain rfl := hdp hdn0
    have hrun := run_copy_row (P := P) w T T ty E g off dn dc ad ns.length c _ B (bv (ns.take k)) ht hsz hg (by rw [hl]; exact hk) (by
      intro j v hj
      have hjn : j < k := by have := (List.getElem?_eq_some_iff.1 hj).1; omega
      refine hnews j v ?_
      rw [bv_take, List.getElem?_take, if_pos hjn] at hj
      exact hj) (by rw [hl]; simp [bv]; omega) bv_one
    rw [hl] at hrun
    refine ⟨_, hrun, ?_, ⟨rfl, rfl, rfl, by simp, fun j _ hj => setRow_other w g j _ (by simpa using hj)⟩⟩
    rw [setRow_heap w g _ _ B _ hg]
    congr 2
    apply Array.ext'
    have e1 : (ns.take k).length = k := by simp; omega
    unfold splice
    rw [e1]
    simp [bv, List.map_take, List.map_drop]
theorem wpList_copyS {ops : Array Oper} {rest : List Oper} {o : Oper} {a : Act} {Q : Exit → Act → World → Prop} (hgd : o.guard = none) (d s : Operand) (T : TypeId)
    (ho : o.op = .call { callee := .builtin .copy, args := #[d, s], argTypes := #[T, T] })
    (E B : TypeId) (ht : P.underlying T = some (.slice E)) (hI : (P.info? E).map (fun i => (i.zero, i.size, i.bytes)) = some (some (.int .u8 0), 1, 1))
    (dp : Option Addr) (dn dc : Nat) (hd : a.eval d = .slice dp dn dc) (g off : Nat) (bs : List Int) (hg : w.heap[g]? = some (.cells (bv bs).toArray B (0, 0))) (hdp : 0 < dn → dp = some ⟨g, off, none⟩) (hdn : off + dn ≤ bs.length)
    (p : Option Addr) (m c : Nat) (ns : List Int) (hx : a.eval s = .slice p m c) (hm : m = ns.length) (hrd : Rd w p ns)
    (h : ∀ w' k, Hid (k = min m dn) → Hid (w'.heap[g]? = some (.cells (bv (splice bs off (ns.take k))).toArray B (0, 0))) → Hid (Frm [g] w w') → wpList P ops Q rest (a.put o.dst (.int .i64 (k : Int))) w') :
    wpList P ops Q (o :: rest) a w := by
  refine wpList_plain hgd fun K hK => ?_
  subst hm
  obtain ⟨w', hrun, h1, h2⟩ := run_copyS (P := P) (w := w) T o.type E B ht hI dp dn dc g off bs hg hdp hdn p c ns hrd _ rfl
  unfold Oper.wp
  simp only [execOp, ho, resolve, invoke, builtin, Sem.run_bind, Sem.run_pure, Result.andThen_ok, List.map_toArray, List.map_cons, List.map_nil, hd, hx, hrun]
  exact hK _ _ (h w' _ rfl h1 h2)
theorem step_copyS {ops : Array Oper} {o : Oper} {a : Act} {K : Act → World → Prop} {Q : Exit → Act → World → Prop} {Z : Prop} (hgd : o.guard = none) (d s : Operand) (T : TypeId)
    (ho : o.op = .call { callee := .builtin .copy, args := #[d, s], argTypes := #[T, T] })
    (E B : TypeId) (ht : P.underlying T = some (.slice E)) (hI : (P.info? E).map (fun i => (i.zero, i.size, i.bytes)) = some (some (.int .u8 0), 1, 1))
    (dp : Option Addr) (dn dc : Nat) (hd : a.eval d = .slice dp dn dc) (g off : Nat) (bs : List Int) (hg : w.heap[g]? = some (.cells (bv bs).toArray B (0, 0))) (hdp : 0 < dn → dp = some ⟨g, off, none⟩) (hdn : off + dn ≤ bs.length)
    (p : Option Addr) (m c : Nat) (ns : List Int) (hx : a.eval s = .slice p m c) (hm : m = ns.length) (hrd : Rd w p ns)
    (h : ∀ w' k, Hid (k = min m dn) → Hid (w'.heap[g]? = some (.cells (bv (splice bs off (ns.take k))).toArray B (0, 0))) → Hid (Frm [g] w w') → K (a.put o.dst (.int .i64 (k : Int))) w') :
    if Region.wanted o (yielded ops a.tmps) = true then Oper.wp P o a w K Q else Z := by
  have hw : Region.wanted o (yielded ops a.tmps) = true := by simp [Region.wanted, hgd]
  rw [if_pos hw]
  subst hm
  obtain ⟨w', hrun, h1, h2⟩ := run_copyS (P := P) (w := w) T o.type E B ht hI dp dn dc g off bs hg hdp hdn p c ns hrd _ rfl
  unfold Oper.wp
  simp only [execOp, ho, resolve, invoke, builtin, Sem.run_bind, Sem.run_pure, Result.andThen_ok, List.map_toArray, List.map_cons, List.map_nil, hd, hx, hrun]
  exact h w' _ rfl h1 h2
end
theorem Own.lows {w : World} {E : TypeId} {p : Option Addr} {n c : Nat} {zs : List Int} (h : Own w E (.slice p n c) zs) : ∀ k ∈ blk p, k < w.heap.size := by
  obtain ⟨p', c', he, _, _, hh, _⟩ := h.shape
  simp only [Value.slice.injEq] at he
  obtain ⟨rfl, _, rfl⟩ := he
  intro k hk
  cases p with
  | none => simp [blk] at hk
  | some a => simp [blk] at hk; subst hk; exact (hh a rfl).2.2
theorem Rd.lows {w : World} {p : Option Addr} {zs : List Int} (h : Rd w p zs) (hne : zs ≠ []) : ∀ k ∈ blk p, k < w.heap.size := by
  rcases h with h | ⟨g, o, rfl, hc⟩
  · exact absurd h hne
  · intro k hk
    simp [blk] at hk
    subst hk
    exact World.block_lt_of_cell? w _ (hc 0 (by cases zs with | nil => exact absurd rfl hne | cons _ _ => simp))
/-- Bytes stand where they stood, if none of their blocks was touched that was there. -/
theorem Rd.keptS {S : List Nat} {w w' : World} {p : Option Addr} {zs : List Int} (h : Rd w p zs) (hf : Frm S w w') (hS : ∀ k ∈ blk p, k < w.heap.size → k ∉ S) : Rd w' p zs := by
  by_cases hne : zs = []
  · exact Or.inl hne
  · exact h.kept hf (fun k hk => hS k hk (h.lows hne k hk))
theorem Own.setAt {w : World} {E : TypeId} {p : Option Addr} {n c i : Nat} {ys : List Int} (h : Own w E (.slice p n c) ys) (hn : ys.length = n) (hi : i < n) :
    ∃ g, p = some ⟨g, 0, none⟩ ∧ g < w.heap.size ∧ w.cell? ⟨g, i, none⟩ = some (.int .u8 (ys.getD i 0)) ∧ w.frozen? ⟨g, i, none⟩ = false ∧ ∀ z, Own (w.setCell ⟨g, i, none⟩ (.int .u8 z)) E (.slice p n c) (ys.set i z) := by
  subst hn
  obtain ⟨p', c', he, _, hnn, hh, _⟩ := h.shape
  simp only [Value.slice.injEq, true_and] at he
  obtain ⟨rfl, rfl⟩ := he
  cases p with
  | none => obtain ⟨h0, _⟩ := hnn rfl; subst h0; simp at hi
  | some a =>
    obtain ⟨h1, h2, h3⟩ := hh a rfl
    obtain ⟨g, o, sp⟩ := a
    simp only at h1 h2 h3
    subst h1 h2
    refine ⟨g, rfl, h3, ?_, World.ownsRow.frozenAt h i, fun z => ?_⟩
    · rw [World.ownsRow.cellAt h i (by omega), bv_get hi]
    · have := (World.ownsRow.stored h i (.int .u8 z)).1
      unfold Own
      rw [List.length_set]
      simpa [bv, List.map_set] using this
theorem boolE {a c : Bool} (h : a = c) : Ending.returned (.bool a) = Ending.returned (.bool c) := by rw [h]
theorem intE {a c : Int} (h : a = c) : Ending.returned (.int .i64 a) = Ending.returned (.int .i64 c) := by rw [h]
theorem heap_alloc_to (w : World) (o : Obj) {k : Nat} (h : w.heap.size = k) : (w.alloc o).heap[k]? = some o := by subst h; exact heap_alloc_new _ _
end
section
open Go.RowKit Go.Lib
set_option maxRecDepth 100000

theorem fold_set (cs : List Value) : ∀ (k : Nat) (Z : Array Value), k + cs.length ≤ Z.size → ((cs.zipIdx k).foldl (fun a x => a.setIfInBounds x.2 x.1) Z).toList = Z.toList.take k ++ cs ++ Z.toList.drop (k + cs.length) := by
  induction cs with
  | nil => intro k Z h; simp
  | cons c cs ih =>
    intro k Z h
    simp only [List.zipIdx_cons, List.foldl_cons]
    simp only [List.length_cons] at h
    rw [ih (k + 1) _ (by simp; omega)]
    simp only [Array.toList_setIfInBounds, List.length_cons]
    have hk : k < Z.toList.length := by simp; omega
    rw [List.take_set, List.drop_set_of_lt (by omega), List.take_succ_eq_append_getElem hk, List.set_append_right _ _ (by simp; omega), List.length_take, Nat.min_eq_left (by omega), Nat.sub_self, List.set_cons_zero, show k + 1 + cs.length = k + (cs.length + 1) by omega]
    simp
section
variable {P : Program} {w : World}
theorem fill_one (sz : Nat) (Z : Array Value) (cs : List Value) (hl : cs.length = sz) (hZ : Z.size = sz) : Instr.fill (fun i => some (i * sz, sz)) Z [(0, .agg cs.toArray)] = some cs.toArray := by
  have h := fold_set cs 0 Z (by omega)
  simp only [List.take_zero, List.nil_append, Nat.zero_add] at h
  rw [List.drop_of_length_le (by simp; omega), List.append_nil] at h
  have hc : (Value.agg cs.toArray).cells = cs.toArray := rfl
  unfold Instr.fill
  simp only [hc]
  have hb : (decide (cs.toArray.size ≠ sz) || decide (0 * sz + cs.toArray.size > Z.size)) = false := by simp; omega
  simp only [hb, Bool.false_eq_true, if_false]
  unfold Instr.fill
  congr 1
  apply Array.ext'
  refine Eq.trans ?_ h
  congr 1
  simp
theorem run_buildSlice1 (T E : TypeId) (sz bytes : Nat) (z : Value) (ht : P.underlying T = some (.slice E)) (hI : (P.info? E).map (fun i => (i.zero, i.size, i.bytes)) = some (some z, sz, bytes)) (hs0 : 0 < sz) (hs1 : sz ≤ 16777216) (cs : List Value) (hl : cs.length = sz) :
    (Instr.buildSlice T 1 #[(0, .agg cs.toArray)]).run P w = .ok (.slice (some ⟨w.heap.size, 0, none⟩) 1 1) (w.alloc (.cells cs.toArray E)) := by
  obtain ⟨i, hi, hz, h1, h2⟩ := info_parts hI
  have hf := fill_one sz ((Array.range (1 * sz)).map (z.cells[· % z.cells.size]!)) cs hl (by simp)
  rw [Nat.one_mul] at hf
  have hn : ¬ (16777216 < sz) := by omega
  have hn0 : ¬ sz = 0 := by omega
  simp [Instr.buildSlice, run_underlying ht, sizeOf, typeInfo, zeroValue, hi, h1, hz, hn, hn0, hf, newRow, Result.andThen]
theorem step_buildSlice1 {ops : Array Oper} {o : Oper} {a : Act} {K : Act → World → Prop} {Q : Exit → Act → World → Prop} {Zz : Prop} (hgd : o.guard = none) (x : Operand) (T : TypeId) (ho : o.op = .buildSlice T 1 #[(0, x)])
    (E : TypeId) (sz bytes : Nat) (z : Value) (ht : P.underlying T = some (.slice E)) (hI : (P.info? E).map (fun i => (i.zero, i.size, i.bytes)) = some (some z, sz, bytes)) (hs0 : 0 < sz) (hs1 : sz ≤ 16777216) (cs : List Value) (hx : a.eval x = .agg cs.toArray) (hl : cs.length = sz)
    (h : K (a.put o.dst (.slice (some ⟨w.heap.size, 0, none⟩) 1 1)) (w.alloc (.cells cs.toArray E))) : if Region.wanted o (yielded ops a.tmps) = true then Oper.wp P o a w K Q else Zz := by
  have hw : Region.wanted o (yielded ops a.tmps) = true := by simp [Region.wanted, hgd]
  rw [if_pos hw]
  have hr := run_buildSlice1 (P := P) (w := w) T E sz bytes z ht hI hs0 hs1 cs hl
  unfold Oper.wp
  simp [execOp, ho, hx, hr, Result.andThen]
  exact h
theorem step_appV {ops : Array Oper} {o : Oper} {a : Act} {K : Act → World → Prop} {Q : Exit → Act → World → Prop} {Zz : Prop} (hgd : o.guard = none) (s x : Operand) (t : TypeId)
    (ho : o.op = .call { callee := .builtin .append, args := #[s, x], argTypes := #[t, t] })
    (E : TypeId) (sz bytes : Nat) (z : Value) (ht : P.underlying t = some (.slice E)) (hI : (P.info? E).map (fun i => (i.zero, i.size, i.bytes)) = some (some z, sz, bytes)) (hzs : z.cells.size = sz) (hsz : 0 < sz)
    (p0 : Option Addr) (n c0 : Nat) (xs : List Value) (hs : a.eval s = .slice p0 n c0) (hown : w.ownsRow 0 E sz (.slice p0 n c0) n xs)
    (p : Option Addr) (m c : Nat) (ns : List Value) (hx : a.eval x = .slice p m c) (hnl : ns.length = m * sz) (hp : m = 0 → p = none → c = 0) (hrd : Rv w p ns) (h1 : ∀ u ∈ ns, u.oneCell' = true)
    (hmax : n + m ≤ maxLen) (hb : (n + m) * bytes ≤ 140737488355328)
    (h : ∀ p2 c2 w', Hid (w'.ownsRow 0 E sz (.slice p2 (n + m) c2) (n + m) (xs ++ ns)) → Hid (Frm (blk p0) w w') → Hid (∀ k ∈ blk p2, k ∈ blk p0 ∨ w.heap.size ≤ k) → K (a.put o.dst (.slice p2 (n + m) c2)) w') :
    if Region.wanted o (yielded ops a.tmps) = true then Oper.wp P o a w K Q else Zz := by
  have hw : Region.wanted o (yielded ops a.tmps) = true := by simp [Region.wanted, hgd]
  rw [if_pos hw]
  obtain ⟨v', w', hrun, h2, h3, h4⟩ := run_appV (P := P) (w := w) t o.type E sz bytes z ht hI hzs hsz _ n xs hown p m c ns hnl hp hrd h1 hmax hb
  obtain ⟨p2, c2, rfl⟩ := ownsRow_shape h2
  rw [own_blk] at h4
  rw [own_blk] at h3 h4
  unfold Oper.wp
  simp [execOp, ho, resolve, invoke, builtin, hs, hx, hrun, Result.andThen]
  exact h p2 c2 w' h2 h3 h4
end
end
section
open Go.RowKit Go.Lib
set_option maxRecDepth 100000

/-- A block of bytes: where it lies, its room, its bytes. -/
structure Bk where
  p : Option Addr
  c : Nat
  bs : List Int
def Bk.v (x : Bk) : Value := .slice x.p x.bs.length x.c
def rowsK (ls : List Bk) : List Value := ls.map Bk.v
theorem rowsK_len (ls : List Bk) : (rowsK ls).length = ls.length := by simp [rowsK]
theorem rowsK_app (a b : List Bk) : rowsK (a ++ b) = rowsK a ++ rowsK b := by simp [rowsK]
theorem rowsK_get {ls : List Bk} {i : Nat} {x : Bk} (h : ls[i]? = some x) : (rowsK ls)[i]? = some x.v := by simp [rowsK, h]
theorem infoK : (Tryd.prog.info? 22).map (fun i => (i.zero, i.size, i.bytes)) = some (some (.slice none 0 0), 1, 24) := by kernel_rfl
theorem infoU8 : (Tryd.prog.info? 5).map (fun i => (i.zero, i.size, i.bytes)) = some (some (.int .u8 0), 1, 1) := by kernel_rfl
/-- A block that may be written, with these bytes at its beginning. -/
structure BkOk (w : World) (x : Bk) : Prop where
  it : x.bs = [] ∨ ∃ g cur, x.p = some ⟨g, 0, none⟩ ∧ w.heap[g]? = some (.cells cur 5 (0, 0)) ∧ cur.toList.take x.bs.length = bv x.bs
  lo : ∀ k ∈ blk x.p, k < w.heap.size
  cp : x.bs.length ≤ x.c ∧ x.c ≤ 9223372036854775807
theorem BkOk.kept {w w' : World} {x : Bk} {S : List Nat} (h : BkOk w x) (hf : Frm S w w') (hn : ∀ k ∈ blk x.p, k ∉ S) : BkOk w' x := by
  refine ⟨h.it.imp (fun h => h) (fun ⟨g, cur, h1, h2, h3⟩ => ⟨g, cur, h1, hf.heap h2 (hn g (by rw [h1]; simp [blk])), h3⟩), fun k hk => Nat.lt_of_lt_of_le (h.lo k hk) hf.size, h.cp⟩
theorem BkOk.of_own {w : World} {x : Bk} (h : Own w 5 x.v x.bs) : BkOk w x := by
  refine ⟨?_, ownsRow_low (show w.ownsRow 0 5 1 (.slice x.p x.bs.length x.c) x.bs.length (bv x.bs) from h), ?_⟩
  · rcases h.2 with ⟨_, h0⟩ | ⟨g, c', cur, he, _, hg, hc, _, hs, ht⟩
    · exact Or.inl (List.eq_nil_of_length_eq_zero h0)
    · unfold Bk.v at he
      simp only [Value.slice.injEq] at he
      exact Or.inr ⟨g, cur, he.1, hg, by simpa using ht⟩
  · rcases h.2 with ⟨he, h0⟩ | ⟨g, c', cur, he, _, hg, hc, hm, hs, ht⟩
    · unfold Bk.v at he
      simp only [Value.slice.injEq] at he
      omega
    · unfold Bk.v at he
      simp only [Value.slice.injEq] at he
      unfold maxLen at hm
      omega
theorem BkOk.at {w : World} {x : Bk} (h : BkOk w x) {i : Nat} {z : Int} (hz : x.bs[i]? = some z) : ∃ g cur, x.p = some ⟨g, 0, none⟩ ∧ w.heap[g]? = some (.cells cur 5 (0, 0)) ∧ w.cell? ⟨g, i, none⟩ = some (.int .u8 z) := by
  rcases h.it with h0 | ⟨g, cur, h1, h2, h3⟩
  · rw [h0] at hz; simp at hz
  · refine ⟨g, cur, h1, h2, ?_⟩
    rw [cell_of_row _ _ _ _ _ _ h2]
    have hi := (List.getElem?_eq_some_iff.1 hz).1
    have h4 : (bv x.bs)[i]? = some (.int .u8 z) := by unfold bv; rw [List.getElem?_map, hz]; rfl
    rw [← h3, List.getElem?_take, if_pos hi] at h4
    simpa using h4
theorem BkOk.rd {w : World} {x : Bk} (h : BkOk w x) : Rd w x.p x.bs := by
  rcases h.it with h0 | ⟨g, cur, h1, _⟩
  · exact Or.inl h0
  · refine Or.inr ⟨g, 0, h1, fun i hi => ?_⟩
    obtain ⟨g', cur', e1, _, e3⟩ := h.at (List.getElem?_eq_getElem hi)
    rw [h1] at e1
    simp only [Option.some.injEq, Addr.mk.injEq, and_true] at e1
    subst e1
    rw [Nat.zero_add, e3, List.getD_eq_getElem?_getD, List.getElem?_eq_getElem hi]; rfl
/-- A list of blocks of one's own, all apart. -/
structure OwnK (w : World) (q : Option Addr) (n c : Nat) (ls : List Bk) : Prop where
  ow : w.ownsRow 0 22 1 (.slice q n c) n (rowsK ls)
  ln : ls.length = n
  it : ∀ x ∈ ls, BkOk w x ∧ ∀ k ∈ blk x.p, k ∉ blk q
  ap : ∀ (i j : Nat) (x y : Bk), i ≠ j → ls[i]? = some x → ls[j]? = some y → ∀ k ∈ blk x.p, k ∉ blk y.p
def NewK (N : Nat) (q : Option Addr) (ls : List Bk) : Prop := (∀ k ∈ blk q, N ≤ k) ∧ ∀ x ∈ ls, ∀ k ∈ blk x.p, N ≤ k
theorem OwnK.nil (w : World) : OwnK w none 0 0 [] := ⟨⟨rfl, Or.inl ⟨rfl, rfl⟩⟩, rfl, by simp, fun i j x y _ h => by simp at h⟩
theorem OwnK.kept {w w' : World} {q : Option Addr} {n c : Nat} {ls : List Bk} {S : List Nat} (h : OwnK w q n c ls) (hf : Frm S w w') (h1 : ∀ k ∈ blk q, k ∉ S) (h2 : ∀ x ∈ ls, ∀ k ∈ blk x.p, k ∉ S) : OwnK w' q n c ls :=
  ⟨ownsRow_kept h.ow hf h1, h.ln, fun x hx => ⟨(h.it x hx).1.kept hf (h2 x hx), (h.it x hx).2⟩, h.ap⟩
theorem OwnK.k0 {w w' : World} {q : Option Addr} {n c : Nat} {ls : List Bk} (h : OwnK w q n c ls) (hf : Frm [] w w') : OwnK w' q n c ls := h.kept hf (by simp) (by simp)
/-- A block more. -/
theorem OwnK.app {w wa w' : World} {q q' : Option Addr} {n c c' : Nat} {ls : List Bk} {x : Bk} (h : OwnK w q n c ls) (hx : BkOk w x) (hxq : ∀ k ∈ blk x.p, k ∉ blk q) (hxl : ∀ y ∈ ls, ∀ k ∈ blk x.p, k ∉ blk y.p) (hA : Frm [] w wa) (ho : w'.ownsRow 0 22 1 (.slice q' (n + 1) c') (n + 1) (rowsK ls ++ [x.v])) (hf : Frm (blk q) wa w') (hb : ∀ k ∈ blk q', k ∈ blk q ∨ wa.heap.size ≤ k) :
    OwnK w' q' (n + 1) c' (ls ++ [x]) := by
  have hz := hA.size
  have hF : Frm (blk q) w w' := (hA.mono (by simp)).trans hf (fun k hk _ => hk)
  have hq : ∀ (y : Bk), BkOk w y → (∀ k ∈ blk y.p, k ∉ blk q) → ∀ k ∈ blk y.p, k ∉ blk q' := fun y hy hyq k hk hm => by
    rcases hb k hm with h1 | h1
    · exact hyq k hk h1
    · have := hy.lo k hk; omega
  refine ⟨by rw [rowsK_app]; exact ho, by rw [List.length_append, h.ln]; rfl, fun y hy => ?_, fun i j y z hij hy hz k hk hkz => ?_⟩
  · rcases List.mem_append.1 hy with hy | hy
    · exact ⟨(h.it y hy).1.kept hF (h.it y hy).2, hq y (h.it y hy).1 (h.it y hy).2⟩
    · rw [List.mem_singleton] at hy
      subst hy
      exact ⟨hx.kept hF hxq, hq y hx hxq⟩
  · have hla : ∀ (a : Nat) (u : Bk), (ls ++ [x])[a]? = some u → (a < ls.length ∧ ls[a]? = some u) ∨ (a = ls.length ∧ u = x) := fun a u hu => by
      rcases Nat.lt_or_ge a ls.length with h1 | h1
      · rw [List.getElem?_append_left h1] at hu; exact Or.inl ⟨h1, hu⟩
      · rw [List.getElem?_append_right h1] at hu
        have h2 := (List.getElem?_eq_some_iff.1 hu).1
        simp only [List.length_singleton] at h2
        have h3 : a = ls.length := by omega
        subst h3
        simp at hu
        exact Or.inr ⟨rfl, hu.symm⟩
    rcases hla i y hy with ⟨_, hy'⟩ | ⟨hi, rfl⟩
    · rcases hla j z hz with ⟨_, hz'⟩ | ⟨_, rfl⟩
      · exact h.ap i j y z hij hy' hz' k hk hkz
      · exact hxl y (List.mem_of_getElem? hy') k hkz hk
    · rcases hla j z hz with ⟨_, hz'⟩ | ⟨hj, rfl⟩
      · exact hxl z (List.mem_of_getElem? hz') k hk hkz
      · omega
/-- A block of the list, as a cell. -/
theorem OwnK.at {w : World} {q : Option Addr} {n c : Nat} {ls : List Bk} (h : OwnK w q n c ls) {i : Nat} {x : Bk} (hx : ls[i]? = some x) : ∃ g cur, q = some ⟨g, 0, none⟩ ∧ w.heap[g]? = some (.cells cur 22 (0, 0)) ∧ w.cell? ⟨g, i, none⟩ = some (.slice x.p x.bs.length x.c) := by
  have hlt : i < n := by rw [← h.ln]; exact (List.getElem?_eq_some_iff.1 hx).1
  rcases h.ow.2 with ⟨_, h0⟩ | ⟨g, c', cur, he, _, hg, _⟩
  · omega
  · simp only [Value.slice.injEq] at he
    obtain ⟨rfl, _, _⟩ := he
    refine ⟨g, cur, rfl, hg, ?_⟩
    rw [World.ownsRow.cellAt h.ow i (by omega)]
    exact rowsK_get hx
theorem owns_cap {w : World} {T : TypeId} {sz : Nat} {p : Option Addr} {n c : Nat} {xs : List Value} (h : w.ownsRow 0 T sz (.slice p n c) n xs) : n ≤ c ∧ c ≤ maxLen := by
  rcases h.2 with ⟨he, h0⟩ | ⟨g, c', cur, he, _, _, hc, hm, _⟩
  · simp only [Value.slice.injEq] at he
    unfold maxLen; omega
  · simp only [Value.slice.injEq] at he
    obtain ⟨_, _, rfl⟩ := he
    exact ⟨hc, hm⟩
theorem bkNil (w : World) : BkOk w ⟨none, 0, []⟩ := ⟨Or.inl rfl, by simp [blk], by simp⟩
/-- While blocks come together: t of the wanted ones are there. -/
structure BlkS (w wr : World) (Z : List (List Int)) (t : Nat) (q : Option Addr) (cq : Nat) (ls : List Bk) : Prop where
  fr : Frm [] w wr
  ow : OwnK wr q t cq ls
  bs : ls.map Bk.bs = Z.take t
  nw : NewK w.heap.size q ls
theorem BlkS.nil (w : World) (Z : List (List Int)) : BlkS w w Z 0 none 0 [] := ⟨Frm.refl _ _, OwnK.nil _, rfl, by simp [blk], by simp⟩
theorem BlkS.k0 {w wr w' : World} {Z : List (List Int)} {t : Nat} {q : Option Addr} {cq : Nat} {ls : List Bk} (h : BlkS w wr Z t q cq ls) (hf : Frm [] wr w') : BlkS w w' Z t q cq ls := ⟨h.fr.trans hf (by simp), h.ow.k0 hf, h.bs, h.nw⟩
theorem BlkS.next {w wr wx wa w' : World} {Z : List (List Int)} {t : Nat} {q q' : Option Addr} {cq cq' : Nat} {ls : List Bk} {x : Bk} (h : BlkS w wr Z t q cq ls) (hfx : Frm [] wr wx) (hA : Frm [] wx wa) (hz : Z[t]? = some x.bs) (hx : BkOk wx x) (hxn : ∀ k ∈ blk x.p, wr.heap.size ≤ k) (ho : w'.ownsRow 0 22 1 (.slice q' (t + 1) cq') (t + 1) (rowsK ls ++ [x.v])) (hf : Frm (blk q) wa w') (hb : ∀ k ∈ blk q', k ∈ blk q ∨ wa.heap.size ≤ k) : BlkS w w' Z (t + 1) q' cq' (ls ++ [x]) := by
  obtain ⟨a1, a2, a3, a4⟩ := h
  have hz1 := a1.size
  have hz2 := hfx.size
  have hz3 := hA.size
  have hlow := ownsRow_low a2.ow
  refine ⟨((a1.trans hfx (by simp)).trans hA (by simp)).trans hf (fun i hi hl => by have := a4.1 i hi; omega), (a2.k0 hfx).app hx (fun i hi hq => by have := hxn i hi; have := hlow i hq; omega) (fun y hy i hi hq => by have := hxn i hi; have := (a2.it y hy).1.lo i hq; omega) hA ho hf hb, ?_, fun i hi => ?_, fun y hy i hi => ?_⟩
  · rw [List.map_append, a3, List.take_add_one, hz]; rfl
  · rcases hb i hi with h | h
    · exact a4.1 i h
    · omega
  · rcases List.mem_append.1 hy with hy | hy
    · exact a4.2 y hy i hi
    · rw [List.mem_singleton] at hy; subst hy; have := hxn i hi; omega
/-- Lists of blocks that are read again and again. -/
theorem OwnK.read {w wr : World} {q : Option Addr} {n c t : Nat} {ls : List Bk} {x : Bk} (h : OwnK w q n c ls) (hf : Frm [] w wr) (hx : ls[t]? = some x) : ∃ g, q = some ⟨g, 0, none⟩ ∧ wr.cell? ⟨g, t, none⟩ = some (.slice x.p x.bs.length x.c) ∧ Rd wr x.p x.bs ∧ x.bs.length ≤ x.c ∧ x.c ≤ 9223372036854775807 := by
  obtain ⟨g, cur, hg, _, hc⟩ := (h.k0 hf).at hx
  have h2 := ((h.k0 hf).it x (List.mem_of_getElem? hx)).1
  exact ⟨g, hg, hc, h2.rd, h2.cp.1, h2.cp.2⟩
end
end Go.Proofs.YtignoocdeghiaaaDoor
