/- Contracts of package ptr: what is taken up of a label. Contracts of package ptr: Decode of an uberblock. Contracts of package ptr: DecodeUber. Contracts of package ptr: Decode of a label. Contracts of package ptr: DecodeLabel. Contracts of package ptr: what is laid down of a label. Contracts of package ptr: a label's form. Plain facts: pointers, labels and uberblocks there and back. Contracts of the document's writer (layer 1). -/
import Derived.Test.YtkolbijhekbelaaQae
import Derived.Test.YtkolbijhekbelaaQab
namespace Go.Proofs.Ytkolbijhekbelaa
section
open Go.RowKit Go.Lib
set_option maxRecDepth 100000

def spT (ts : List T3) : List Value := ts.flatMap fun t => [.int .i64 t.kind, .int .i64 t.leaves, .int .i64 t.sectors]
theorem spT_length (ts : List T3) : (spT ts).length = ts.length * 3 := by
  induction ts with
  | nil => rfl
  | cons t ts ih =>
    rw [show spT (t :: ts) = [.int .i64 t.kind, .int .i64 t.leaves, .int .i64 t.sectors] ++ spT ts from rfl, List.length_append, ih]
    simp only [List.length_cons, List.length_nil]
    omega
def rdTop (bs : List Int) (i : Nat) : T3 := ⟨valAt bs (15 + 6 * i) 1, valAt bs (15 + 6 * i + 1) 1, valAt bs (15 + 6 * i + 2) 4⟩
def topsAt (bs : List Int) (n : Nat) : List T3 := (List.range n).map (rdTop bs)
theorem topsAt_length (bs : List Int) (n : Nat) : (topsAt bs n).length = n := by simp [topsAt]
theorem topsAt_succ (bs : List Int) (n : Nat) : topsAt bs (n + 1) = topsAt bs n ++ [rdTop bs n] := by simp [topsAt, List.range_succ]
theorem spT_succ (bs : List Int) (n : Nat) : spT (topsAt bs (n + 1)) = spT (topsAt bs n) ++ [.int .i64 (rdTop bs n).kind, .int .i64 (rdTop bs n).leaves, .int .i64 (rdTop bs n).sectors] := by
  rw [topsAt_succ]
  simp [spT]
def lettersL (bs : List Int) : Bool := decide (bs.take 4 = [85, 67, 76, 66])
def manyL (bs : List Int) : Nat := (valAt bs 14 1).toNat
def okL (bs : List Int) : Bool := lettersL bs && decide (manyL bs ≤ 4)
end
section
open Go.RowKit
set_option maxRecDepth 100000

def zero12 : U12 := ⟨0, 0, 0, zero9⟩
/-- What a body of 96 bytes is taken for. -/
def decBU (bs : List Int) : U12 × Int :=
  if lettersU bs = false then (zero12, 45) else if (bs.drop 76).all (· == 0) = false then (zero12, 45) else if checkU (rdU bs) = 0 then (rdU bs, 0) else (zero12, checkU (rdU bs))
/-- An uberblock is stored. -/
def st12 (w : World) (b : Nat) (u : U12) : World :=
  ((((((((((((w.setCell ⟨b, 0, none⟩ (.int .u64 u.pool)).setCell ⟨b, 1, none⟩ (.int .u64 u.txg)).setCell ⟨b, 2, none⟩ (.int .u64 u.note)).setCell ⟨b, 3, none⟩ (.int .i64 u.root.top)).setCell ⟨b, 4, none⟩ (.int .i64 u.root.at_)).setCell ⟨b, 5, none⟩ (.int .i64 u.root.bytes)).setCell ⟨b, 6, none⟩ (.int .u64 u.root.birth)).setCell ⟨b, 7, none⟩ (.int .i64 u.root.kind)).setCell ⟨b, 8, none⟩ (.int .u64 u.root.sa)).setCell ⟨b, 9, none⟩ (.int .u64 u.root.sb)).setCell ⟨b, 10, none⟩ (.int .u64 u.root.sc)).setCell ⟨b, 11, none⟩ (.int .u64 u.root.sd))
theorem st12_row {w : World} {b : Nat} {T : TypeId} (u q : U12) (h : w.heap[b]? = some (.cells q.arr T (0, 0))) : (st12 w b u).heap[b]? = some (.cells u.arr T (0, 0)) ∧ Frm [b] w (st12 w b u) := by
  have h4 := sets_row b T [(0, .int .u64 u.pool), (1, .int .u64 u.txg), (2, .int .u64 u.note), (3, .int .i64 u.root.top), (4, .int .i64 u.root.at_), (5, .int .i64 u.root.bytes), (6, .int .u64 u.root.birth), (7, .int .i64 u.root.kind), (8, .int .u64 u.root.sa), (9, .int .u64 u.root.sb), (10, .int .u64 u.root.sc), (11, .int .u64 u.root.sd)] w q.arr h
  unfold U12.arr at h4 ⊢
  simp only [List.foldl, List.setIfInBounds_toArray, List.set_cons_zero, List.set_cons_succ] at h4
  exact h4
theorem ub_row {W : World} {pb : Nat} {u : U12} {T : TypeId} (h : W.heap[pb]? = some (.cells u.arr T (0, 0))) :
    W.cell? ⟨pb, 0, none⟩ = some (.int .u64 u.pool) ∧ W.cell? ⟨pb, 1, none⟩ = some (.int .u64 u.txg) ∧ W.cell? ⟨pb, 2, none⟩ = some (.int .u64 u.note) ∧ W.cell? ⟨pb, 3, none⟩ = some (.int .i64 u.root.top) ∧ W.cell? ⟨pb, 4, none⟩ = some (.int .i64 u.root.at_) ∧ W.cell? ⟨pb, 5, none⟩ = some (.int .i64 u.root.bytes) ∧ W.cell? ⟨pb, 6, none⟩ = some (.int .u64 u.root.birth) ∧ W.cell? ⟨pb, 7, none⟩ = some (.int .i64 u.root.kind) ∧ W.cell? ⟨pb, 8, none⟩ = some (.int .u64 u.root.sa) ∧ W.cell? ⟨pb, 9, none⟩ = some (.int .u64 u.root.sb) ∧ W.cell? ⟨pb, 10, none⟩ = some (.int .u64 u.root.sc) ∧ W.cell? ⟨pb, 11, none⟩ = some (.int .u64 u.root.sd) := by
  refine ⟨?_, ?_, ?_, ?_, ?_, ?_, ?_, ?_, ?_, ?_, ?_, ?_⟩ <;> (rw [cell_of_row W _ _ _ _ _ h]; rfl)
theorem ub_froz {W : World} {pb : Nat} {u : U12} {T : TypeId} (h : W.heap[pb]? = some (.cells u.arr T (0, 0))) :
    W.frozen? ⟨pb, 0, none⟩ = false ∧ W.frozen? ⟨pb, 1, none⟩ = false ∧ W.frozen? ⟨pb, 2, none⟩ = false ∧ W.frozen? ⟨pb, 3, none⟩ = false ∧ W.frozen? ⟨pb, 4, none⟩ = false ∧ W.frozen? ⟨pb, 5, none⟩ = false ∧ W.frozen? ⟨pb, 6, none⟩ = false ∧ W.frozen? ⟨pb, 7, none⟩ = false ∧ W.frozen? ⟨pb, 8, none⟩ = false ∧ W.frozen? ⟨pb, 9, none⟩ = false ∧ W.frozen? ⟨pb, 10, none⟩ = false ∧ W.frozen? ⟨pb, 11, none⟩ = false :=
  ⟨frozen_of_row W pb 0 _ _ h, frozen_of_row W pb 1 _ _ h, frozen_of_row W pb 2 _ _ h, frozen_of_row W pb 3 _ _ h, frozen_of_row W pb 4 _ _ h, frozen_of_row W pb 5 _ _ h, frozen_of_row W pb 6 _ _ h, frozen_of_row W pb 7 _ _ h, frozen_of_row W pb 8 _ _ h, frozen_of_row W pb 9 _ _ h, frozen_of_row W pb 10 _ _ h, frozen_of_row W pb 11 _ _ h⟩
theorem GP2.bornA {T : TypeId} (w : World) (z : Array Value) : ((w.alloc (.cells z T)).alloc (.cells z T)).heap[w.heap.size]? = some (.cells z T (0, 0)) ∧ ((w.alloc (.cells z T)).alloc (.cells z T)).heap[w.heap.size + 1]? = some (.cells z T (0, 0)) ∧ Frm [] w ((w.alloc (.cells z T)).alloc (.cells z T)) := by
  have h2 : Frm [] (w.alloc (.cells z T)) ((w.alloc (.cells z T)).alloc (.cells z T)) := (Frm.refl _ _).alloc _
  exact ⟨h2.heap (heap_alloc_new _ _) (by simp), heap_alloc_to _ _ (by simp), ((Frm.refl _ _).alloc _).trans h2 (by simp)⟩
end
section
open Go.RowKit
set_option maxRecDepth 100000

/-- What DecodeUber answers. -/
def decU (bs : List Int) : U12 × Int := if bs.length ≠ 128 then (zero12, 45) else if sumOk bs = false then (zero12, 45) else decBU (bs.take 96)
end
section
open Go.RowKit
set_option maxRecDepth 100000

def zeroL : LabV := ⟨0, none, 0, 0, 0, 0, []⟩
/-- A label's block. -/
def labAt (bs : List Int) (p : Option Addr) (c : Nat) : LabV := ⟨valAt bs 4 8, p, manyL bs, c, valAt bs 12 1, valAt bs 13 1, topsAt bs (manyL bs)⟩
/-- What a body of 96 bytes is taken for. -/
def decBL (bs : List Int) : LabV × Int :=
  if okL bs = false then (zeroL, 43) else if (bs.drop (15 + 6 * manyL bs)).all (· == 0) = false then (zeroL, 43) else if checkL (labAt bs none 0) = 0 then (labAt bs none 0, 0) else (zeroL, checkL (labAt bs none 0))
/-- The same label, whatever its list's place. -/
def LabV.same (a b : LabV) : Prop := a.pool = b.pool ∧ a.n = b.n ∧ a.top = b.top ∧ a.place = b.place ∧ a.ts = b.ts
/-- What a label's decoding answers. -/
def DecA (w : World) (R : LabV × Int) (e : Ending) (w' : World) : Prop :=
  ∃ l : LabV, e = .returned (.tuple #[.agg l.arr, .int .i64 R.2]) ∧ l.ok w' ∧ l.same R.1 ∧ (∀ k ∈ blk l.p, w.heap.size ≤ k) ∧ Frm [] w w'
theorem zeroL_ok (w : World) : zeroL.ok w := ⟨rfl, Or.inl rfl, Nat.le_refl _, by show (0 : Nat) ≤ 9223372036854775807; omega, by show (0 : Int) ≤ 0 ∧ (0 : Int) < 18446744073709551616; omega, by show (-9223372036854775808 : Int) ≤ 0 ∧ (0 : Int) ≤ 9223372036854775807; omega⟩
theorem spT_get (ts : List T3) : ∀ i, i < ts.length → (spT ts)[i * 3]? = some (.int .i64 (ts.getD i default).kind) ∧ (spT ts)[i * 3 + 1]? = some (.int .i64 (ts.getD i default).leaves) ∧ (spT ts)[i * 3 + 2]? = some (.int .i64 (ts.getD i default).sectors) := by
  induction ts with
  | nil => intro i hi; simp at hi
  | cons t ts ih =>
    intro i hi
    have he : spT (t :: ts) = [.int .i64 t.kind, .int .i64 t.leaves, .int .i64 t.sectors] ++ spT ts := rfl
    cases i with
    | zero => rw [he]; exact ⟨rfl, rfl, rfl⟩
    | succ i =>
      obtain ⟨h0, h1, h2⟩ := ih i (by simpa using hi)
      rw [he, show (i + 1) * 3 = 3 + i * 3 by omega]
      refine ⟨?_, ?_, ?_⟩
      · rw [List.getElem?_append_right (by simp)]; simpa using h0
      · rw [show 3 + i * 3 + 1 = 3 + (i * 3 + 1) by omega, List.getElem?_append_right (by simp)]; simpa using h1
      · rw [show 3 + i * 3 + 2 = 3 + (i * 3 + 2) by omega, List.getElem?_append_right (by simp)]; simpa using h2
/-- A label is stored. -/
def st4 (w : World) (b : Nat) (l : LabV) : World :=
  ((((w.setCell ⟨b, 0, none⟩ (.int .u64 l.pool)).setCell ⟨b, 1, none⟩ (.slice l.p l.n l.c)).setCell ⟨b, 2, none⟩ (.int .i64 l.top)).setCell ⟨b, 3, none⟩ (.int .i64 l.place))
theorem st4_row {w : World} {b : Nat} {T : TypeId} (l q : LabV) (h : w.heap[b]? = some (.cells q.arr T (0, 0))) : (st4 w b l).heap[b]? = some (.cells l.arr T (0, 0)) ∧ Frm [b] w (st4 w b l) := by
  have h4 := sets_row b T [(0, .int .u64 l.pool), (1, .slice l.p l.n l.c), (2, .int .i64 l.top), (3, .int .i64 l.place)] w q.arr h
  unfold LabV.arr at h4 ⊢
  simp only [List.foldl, List.setIfInBounds_toArray, List.set_cons_zero, List.set_cons_succ] at h4
  exact h4
theorem lb_row {W : World} {pb : Nat} {l : LabV} {T : TypeId} (h : W.heap[pb]? = some (.cells l.arr T (0, 0))) :
    W.cell? ⟨pb, 0, none⟩ = some (.int .u64 l.pool) ∧ W.cell? ⟨pb, 1, none⟩ = some (.slice l.p l.n l.c) ∧ W.cell? ⟨pb, 2, none⟩ = some (.int .i64 l.top) ∧ W.cell? ⟨pb, 3, none⟩ = some (.int .i64 l.place) := by
  refine ⟨?_, ?_, ?_, ?_⟩ <;> (rw [cell_of_row W _ _ _ _ _ h]; rfl)
theorem lb_froz {W : World} {pb : Nat} {l : LabV} {T : TypeId} (h : W.heap[pb]? = some (.cells l.arr T (0, 0))) :
    W.frozen? ⟨pb, 0, none⟩ = false ∧ W.frozen? ⟨pb, 1, none⟩ = false ∧ W.frozen? ⟨pb, 2, none⟩ = false ∧ W.frozen? ⟨pb, 3, none⟩ = false :=
  ⟨frozen_of_row W pb 0 _ _ h, frozen_of_row W pb 1 _ _ h, frozen_of_row W pb 2 _ _ h, frozen_of_row W pb 3 _ _ h⟩
end
section
open Go.RowKit
set_option maxRecDepth 100000

/-- What DecodeLabel answers. -/
def decL (bs : List Int) : LabV × Int := if bs.length ≠ 128 then (zeroL, 43) else if sumOk bs = false then (zeroL, 43) else decBL (bs.take 96)
end
section
open Go.RowKit
set_option maxRecDepth 100000

/-- What a label's numbers must be to be laid down. -/
structure LabV.fits (l : LabV) : Prop where
  n : l.n ≤ 4
  top : 0 ≤ l.top ∧ l.top < 256
  place : 0 ≤ l.place ∧ l.place < 256
  each : ∀ j, j < l.n → (0 ≤ (l.ts.getD j default).kind ∧ (l.ts.getD j default).kind < 256) ∧ (0 ≤ (l.ts.getD j default).leaves ∧ (l.ts.getD j default).leaves < 256) ∧ (0 ≤ (l.ts.getD j default).sectors ∧ (l.ts.getD j default).sectors < 4294967296)
theorem checkL_ok {l : LabV} {w : World} (hl : l.ok w) (h : checkL l = 0) : l.fits := by
  unfold checkL at h
  split at h
  · cases h
  rename_i h1
  split at h
  · cases h
  rename_i h2
  split at h
  · cases h
  rename_i h3
  have hall : ∀ j, j < l.n → (l.ts.getD j default).may := fun j hj => by
    have h4 : l.ts.all (fun t => decide t.may) = true := by simpa using h2
    rw [List.all_eq_true] at h4
    have h5 := h4 (l.ts.getD j default) (by
      rw [List.getD_eq_getElem?_getD, List.getElem?_eq_getElem (by rw [hl.len]; exact hj)]
      exact List.getElem_mem _)
    exact of_decide_eq_true h5
  have hb : ∀ t : T3, t.may → (0 ≤ t.kind ∧ t.kind < 256) ∧ (0 ≤ t.leaves ∧ t.leaves < 256) ∧ (0 ≤ t.sectors ∧ t.sectors < 4294967296) := fun t ht => by
    unfold T3.may at ht
    omega
  have ht := hb _ (hall l.top.toNat (by omega))
  exact ⟨by omega, by omega, by omega, fun j hj => hb _ (hall j hj)⟩
/-- The bytes of so many tops. -/
def topsT (ts : List T3) : Nat → List Int
  | 0 => []
  | j + 1 => topsT ts j ++ (le (ts.getD j default).kind 1 ++ le (ts.getD j default).leaves 1 ++ le (ts.getD j default).sectors 4)
theorem topsT_length (ts : List T3) (j : Nat) : (topsT ts j).length = 6 * j := by
  induction j with
  | zero => rfl
  | succ j ih => simp only [topsT, List.length_append, ih, le_length]; omega
def headL (l : LabV) : List Int := [85, 67, 76, 66] ++ le l.pool 8 ++ le l.top 1 ++ le l.place 1 ++ le (l.n : Int) 1
theorem headL_length (l : LabV) : (headL l).length = 15 := by simp [headL, le_length]
def bodyL (l : LabV) : List Int := headL l ++ topsT l.ts l.n
theorem bodyL_length (l : LabV) : (bodyL l).length = 15 + 6 * l.n := by rw [bodyL, List.length_append, headL_length, topsT_length]
end
section
open Go.RowKit
set_option maxRecDepth 100000

/-- A label's body. -/
def labB (l : LabV) : List Int := bodyL l ++ List.replicate (81 - 6 * l.n) 0
theorem labB_length {l : LabV} (h : l.n ≤ 4) : (labB l).length = 96 := by rw [labB, List.length_append, bodyL_length, List.length_replicate]; omega
theorem topsT_byte (ts : List T3) (j : Nat) : ∀ z ∈ topsT ts j, 0 ≤ z ∧ z < 256 := by
  induction j with
  | zero => simp [topsT]
  | succ j ih => exact app_byte ih (app_byte (app_byte (le_byte _ _) (le_byte _ _)) (le_byte _ _))
theorem labB_byte (l : LabV) : ∀ z ∈ labB l, 0 ≤ z ∧ z < 256 := app_byte (app_byte (app_byte (app_byte (app_byte (app_byte (by simp) (le_byte _ _)) (le_byte _ _)) (le_byte _ _)) (le_byte _ _)) (topsT_byte _ _)) (rep_byte _)
end
section
open Go.RowKit
set_option maxRecDepth 100000

theorem vA_left {a b : List Int} {pos k : Nat} (h : pos + k ≤ a.length) : valAt (a ++ b) pos k = valAt a pos k := by
  unfold valAt
  rw [List.drop_append_of_le_length (by omega), List.take_append_of_le_length (by rw [List.length_drop]; omega)]
theorem vA_right {a b : List Int} {pos q k : Nat} (h : pos = a.length + q) : valAt (a ++ b) pos k = valAt b q k := by
  unfold valAt
  rw [h, List.drop_append]
  congr 2
  rw [List.drop_eq_nil_of_le (by omega), List.nil_append]
  congr 1
  omega
theorem vA_le {v : Int} {k : Nat} (h : 0 ≤ v ∧ v < 2 ^ (8 * k)) : valAt (le v k) 0 k = v := by
  unfold valAt
  rw [List.drop_zero, List.take_of_length_le (by rw [le_length]; omega)]
  exact leV_fit v k h.1 (Int.ediv_eq_zero_of_lt h.1 h.2)
theorem vA_end {a : List Int} {v : Int} {pos k : Nat} (hp : pos = a.length) (h : 0 ≤ v ∧ v < 2 ^ (8 * k)) : valAt (a ++ le v k) pos k = v := by
  rw [vA_right (q := 0) (by omega), vA_le h]
theorem sumL_at {s0 s1 s2 s3 : Int} (h0 : 0 ≤ s0 ∧ s0 < 18446744073709551616) (h1 : 0 ≤ s1 ∧ s1 < 18446744073709551616) (h2 : 0 ≤ s2 ∧ s2 < 18446744073709551616) (h3 : 0 ≤ s3 ∧ s3 < 18446744073709551616) :
    valAt (sumL s0 s1 s2 s3) 0 8 = s0 ∧ valAt (sumL s0 s1 s2 s3) 8 8 = s1 ∧ valAt (sumL s0 s1 s2 s3) 16 8 = s2 ∧ valAt (sumL s0 s1 s2 s3) 24 8 = s3 := by
  unfold sumL
  refine ⟨?_, ?_, ?_, ?_⟩
  · rw [vA_left (by simp [le_length]), vA_left (by simp [le_length]), vA_left (by simp [le_length]), vA_le h0]
  · rw [vA_left (by simp [le_length]), vA_left (by simp [le_length]), vA_end (by simp [le_length]) h1]
  · rw [vA_left (by simp [le_length]), vA_end (by simp [le_length]) h2]
  · rw [vA_end (by simp [le_length]) h3]
theorem rdP_body (a b : List Int) (p : P9) (h : p.fits) (pos : Nat) (hp : pos = a.length) : rdP (a ++ (bodyP p ++ b)) pos = p := by
  obtain ⟨t0, t1, t2, t3, t4, t5, t6, t7, t8⟩ := h
  have hb := bodyP_length p
  obtain ⟨s0, s1, s2, s3⟩ := sumL_at t5 t6 t7 t8
  have key : ∀ q k, q + k ≤ 48 → valAt (a ++ (bodyP p ++ b)) (pos + q) k = valAt (bodyP p) q k := fun q k hq => by
    rw [vA_right (q := q) (by omega), vA_left (by omega)]
  have k0 := key 0 1 (by omega)
  rw [Nat.add_zero] at k0
  have hl : (le p.top 1 ++ le p.kind 1 ++ le p.bytes 2 ++ le p.at_ 4 ++ le p.birth 8).length = 16 := by simp [le_length]
  have f0 : valAt (bodyP p) 0 1 = p.top := by
    unfold bodyP
    rw [vA_left (by rw [hl]; omega), vA_left (by simp [le_length]), vA_left (by simp [le_length]), vA_left (by simp [le_length]), vA_left (by simp [le_length]), vA_le (by simpa using t0)]
  have f1 : valAt (bodyP p) 1 1 = p.kind := by
    unfold bodyP
    rw [vA_left (by rw [hl]; omega), vA_left (by simp [le_length]), vA_left (by simp [le_length]), vA_left (by simp [le_length]), vA_end (by simp [le_length]) (by simpa using t4)]
  have f2 : valAt (bodyP p) 2 2 = p.bytes := by
    unfold bodyP
    rw [vA_left (by rw [hl]; omega), vA_left (by simp [le_length]), vA_left (by simp [le_length]), vA_end (by simp [le_length]) (by simpa using t2)]
  have f4 : valAt (bodyP p) 4 4 = p.at_ := by
    unfold bodyP
    rw [vA_left (by rw [hl]; omega), vA_left (by simp [le_length]), vA_end (by simp [le_length]) (by simpa using t1)]
  have f8 : valAt (bodyP p) 8 8 = p.birth := by
    unfold bodyP
    rw [vA_left (by rw [hl]; omega), vA_end (by simp [le_length]) (by simpa using t3)]
  have g0 : valAt (bodyP p) 16 8 = p.sa := by unfold bodyP; rw [vA_right (q := 0) (by rw [hl]), s0]
  have g1 : valAt (bodyP p) 24 8 = p.sb := by unfold bodyP; rw [vA_right (q := 8) (by rw [hl]), s1]
  have g2 : valAt (bodyP p) 32 8 = p.sc := by unfold bodyP; rw [vA_right (q := 16) (by rw [hl]), s2]
  have g3 : valAt (bodyP p) 40 8 = p.sd := by unfold bodyP; rw [vA_right (q := 24) (by rw [hl]), s3]
  unfold rdP
  rw [k0, key 4 4 (by omega), key 2 2 (by omega), key 8 8 (by omega), key 1 1 (by omega), key 16 8 (by omega), key 24 8 (by omega), key 32 8 (by omega), key 40 8 (by omega), f0, f1, f2, f4, f8, g0, g1, g2, g3]
theorem all_rep (n : Nat) : (List.replicate n (0 : Int)).all (· == 0) = true := by
  rw [List.all_eq_true]
  intro x hx
  rw [List.eq_of_mem_replicate hx]
  rfl
theorem rep_of_all {l : List Int} {n : Nat} (h : l.all (· == 0) = true) (hl : l.length = n) : l = List.replicate n 0 := by
  rw [List.eq_replicate_iff]
  refine ⟨hl, fun b hb => ?_⟩
  rw [List.all_eq_true] at h
  simpa using h b hb
theorem decP_ptrB (p : P9) (hp : p.ok) (h : checkP p = 0) : decP (ptrB p) = (p, 0) := by
  have hr : rdP (ptrB p) 0 = p := rdP_body [] (List.replicate 16 0) p (fits_of_check hp h) 0 rfl
  have hd : (ptrB p).drop 48 = List.replicate 16 0 := by
    unfold ptrB
    rw [List.drop_append, List.drop_eq_nil_of_le (by rw [bodyP_length]; omega), List.nil_append, bodyP_length]
    rfl
  unfold decP
  rw [if_neg (by rw [ptrB_length]; simp), if_neg (by rw [hd, all_rep]; simp), hr, if_pos h]
theorem rdU_uberB (u : U12) (hu : u.ok) (hf : u.root.fits) : rdU (uberB u) = u := by
  have hl : ([85, 67, 85, 66] ++ le u.pool 8 ++ le u.txg 8 ++ le u.note 8 : List Int).length = 28 := by simp [le_length]
  have e : uberB u = ([85, 67, 85, 66] ++ le u.pool 8 ++ le u.txg 8 ++ le u.note 8) ++ (bodyP u.root ++ List.replicate 20 0) := by
    unfold uberB bodyU
    simp only [List.append_assoc]
  have f0 : valAt (uberB u) 4 8 = u.pool := by
    rw [e, vA_left (by rw [hl]; omega), vA_left (by simp [le_length]), vA_left (by simp [le_length]), vA_end (by simp) (by simpa using hu.pool)]
  have f1 : valAt (uberB u) 12 8 = u.txg := by
    rw [e, vA_left (by rw [hl]; omega), vA_left (by simp [le_length]), vA_end (by simp [le_length]) (by simpa using hu.txg)]
  have f2 : valAt (uberB u) 20 8 = u.note := by
    rw [e, vA_left (by rw [hl]; omega), vA_end (by simp [le_length]) (by simpa using hu.note)]
  have f3 : rdP (uberB u) 28 = u.root := by rw [e]; exact rdP_body _ _ _ hf 28 hl.symm
  unfold rdU
  rw [f0, f1, f2, f3]
theorem seal_take {zs : List Int} (h : zs.length = 96) : (sealB zs).take 96 = zs := by
  unfold sealB
  rw [List.take_append_of_le_length (by omega), List.take_of_length_le (by omega)]
theorem seal_sum {zs : List Int} (h : zs.length = 96) : sumOk (sealB zs) = true := by
  rw [sumOk_iff, seal_take h]
  obtain ⟨h0, h1, h2, h3⟩ := fletch_ok zs
  obtain ⟨s0, s1, s2, s3⟩ := sumL_at h0 h1 h2 h3
  unfold sumAt sealB
  rw [vA_right (q := 0) (by omega), vA_right (q := 8) (by omega), vA_right (q := 16) (by omega), vA_right (q := 24) (by omega), s0, s1, s2, s3]
theorem decU_sealB (u : U12) (hu : u.ok) (h : checkU u = 0) : decU (sealB (uberB u)) = (u, 0) := by
  have hf : u.root.fits := fits_of_check hu.root (checkU_root h)
  have hd : (uberB u).drop 76 = List.replicate 20 0 := by
    unfold uberB
    rw [List.drop_append, List.drop_eq_nil_of_le (by rw [bodyU_length]; omega), List.nil_append, bodyU_length]
    rfl
  have ht : lettersU (uberB u) = true := by
    unfold lettersU
    rw [show (uberB u).take 4 = [85, 67, 85, 66] from by unfold uberB bodyU; simp]
    rfl
  unfold decU
  rw [if_neg (by rw [sealB_length, uberB_length]; simp), if_neg (by rw [seal_sum (uberB_length u)]; simp), seal_take (uberB_length u)]
  unfold decBU
  rw [if_neg (by rw [ht]; simp), if_neg (by rw [hd, all_rep]; simp), rdU_uberB u hu hf, if_pos h]
/-- Bytes that were taken up, laid down. -/
theorem le_leP (zs : List Int) (h : ∀ z ∈ zs, 0 ≤ z ∧ z < 256) : le (leV zs) zs.length = zs := by
  induction zs with
  | nil => rfl
  | cons z zs ih =>
    have hz := h z (by simp)
    have ih := ih (fun y hy => h y (by simp [hy]))
    have hb := leV_bd zs (fun y hy => h y (by simp [hy]))
    rw [leV, List.length_cons, le, List.range_succ_eq_map, List.map_cons, List.map_map]
    congr 1
    · simp; omega
    · conv => rhs; rw [← ih]
      unfold le
      apply List.map_congr_left
      intro i _
      have e : (2 : Int) ^ (8 * (i + 1)) = 256 * 2 ^ (8 * i) := by rw [Nat.mul_add, Int.pow_add, Int.mul_comm]; rfl
      simp only [Function.comp, Nat.succ_eq_add_one]
      rw [e, ← Int.ediv_ediv_of_nonneg (by decide)]
      congr 2
      omega
theorem le_valAt {bs : List Int} (hb : ∀ z ∈ bs, 0 ≤ z ∧ z < 256) (pos k : Nat) (h : pos + k ≤ bs.length) : le (valAt bs pos k) k = (bs.drop pos).take k := by
  have hl : ((bs.drop pos).take k).length = k := by rw [List.length_take, List.length_drop]; omega
  have h1 := le_leP ((bs.drop pos).take k) (fun z hz => hb z (List.mem_of_mem_drop (List.mem_of_mem_take hz)))
  rw [hl] at h1
  exact h1
theorem tk (bs : List Int) (pos q a b c : Nat) (hq : q = pos + a) (hc : c = a + b) : (bs.drop pos).take a ++ (bs.drop q).take b = (bs.drop pos).take c := by
  subst hq hc
  rw [List.take_add, List.drop_drop]
theorem sumL_rd {bs : List Int} (hb : ∀ z ∈ bs, 0 ≤ z ∧ z < 256) (pos : Nat) (h : pos + 32 ≤ bs.length) : sumL (valAt bs pos 8) (valAt bs (pos + 8) 8) (valAt bs (pos + 16) 8) (valAt bs (pos + 24) 8) = (bs.drop pos).take 32 := by
  unfold sumL
  rw [le_valAt hb pos 8 (by omega), le_valAt hb (pos + 8) 8 (by omega), le_valAt hb (pos + 16) 8 (by omega), le_valAt hb (pos + 24) 8 (by omega), tk bs pos (pos + 8) 8 8 16 rfl rfl, tk bs pos (pos + 16) 16 8 24 rfl rfl, tk bs pos (pos + 24) 24 8 32 rfl rfl]
theorem bodyP_rd {bs : List Int} (hb : ∀ z ∈ bs, 0 ≤ z ∧ z < 256) (pos : Nat) (h : pos + 48 ≤ bs.length) : bodyP (rdP bs pos) = (bs.drop pos).take 48 := by
  have hs := sumL_rd hb (pos + 16) (by omega)
  rw [Nat.add_assoc, Nat.add_assoc, Nat.add_assoc] at hs
  unfold bodyP rdP
  dsimp only
  rw [hs, le_valAt hb pos 1 (by omega), le_valAt hb (pos + 1) 1 (by omega), le_valAt hb (pos + 2) 2 (by omega), le_valAt hb (pos + 4) 4 (by omega), le_valAt hb (pos + 8) 8 (by omega), tk bs pos (pos + 1) 1 1 2 rfl rfl, tk bs pos (pos + 2) 2 2 4 rfl rfl, tk bs pos (pos + 4) 4 4 8 rfl rfl, tk bs pos (pos + 8) 8 8 16 rfl rfl, tk bs pos (pos + 16) 16 32 48 rfl rfl]
theorem rdP_ok {bs : List Int} (hb : ∀ z ∈ bs, 0 ≤ z ∧ z < 256) (pos : Nat) (h : pos + 48 ≤ bs.length) : (rdP bs pos).ok := by
  have hv : ∀ q, q + 8 ≤ bs.length → 0 ≤ valAt bs q 8 ∧ valAt bs q 8 < 18446744073709551616 := fun q hq => by simpa using valAt_bd hb q 8 hq
  exact ⟨hv _ (by omega), hv _ (by omega), hv _ (by omega), hv _ (by omega), hv _ (by omega)⟩
theorem ptrB_decP {bs : List Int} (hb : ∀ z ∈ bs, 0 ≤ z ∧ z < 256) (h : (decP bs).2 = 0) : (decP bs).1.ok ∧ checkP (decP bs).1 = 0 ∧ ptrB (decP bs).1 = bs := by
  unfold decP at h ⊢
  split at h
  · cases h
  rename_i h1
  rw [if_neg h1]
  split at h
  · cases h
  rename_i h2
  rw [if_neg h2]
  split at h
  · rename_i h3
    rw [if_pos h3]
    have hl : bs.length = 64 := by omega
    refine ⟨rdP_ok hb 0 (by omega), h3, ?_⟩
    unfold ptrB
    rw [bodyP_rd hb 0 (by omega), List.drop_zero]
    have h4 : bs.drop 48 = List.replicate 16 0 := rep_of_all (by simpa using h2) (by rw [List.length_drop]; omega)
    rw [← h4, List.take_append_drop]
  · rename_i h3
    exact absurd h h3
theorem sealB_decU {bs : List Int} (hb : ∀ z ∈ bs, 0 ≤ z ∧ z < 256) (h : (decU bs).2 = 0) : (decU bs).1.ok ∧ checkU (decU bs).1 = 0 ∧ sealB (uberB (decU bs).1) = bs := by
  unfold decU at h ⊢
  split at h
  · cases h
  rename_i h1
  rw [if_neg h1]
  split at h
  · cases h
  rename_i h2
  rw [if_neg h2]
  have hl : bs.length = 128 := by omega
  have hs : fletch (bs.take 96) = sumAt bs 96 := (sumOk_iff bs).1 (by simpa using h2)
  have hcb : ∀ z ∈ bs.take 96, 0 ≤ z ∧ z < 256 := fun z hz => hb z (List.mem_of_mem_take hz)
  have hcl : (bs.take 96).length = 96 := by rw [List.length_take]; omega
  have hsm : sumL (fletch (bs.take 96)).a (fletch (bs.take 96)).b (fletch (bs.take 96)).c (fletch (bs.take 96)).d = bs.drop 96 := by
    rw [hs]
    unfold sumAt
    dsimp only
    rw [sumL_rd hb 96 (by omega), List.take_of_length_le (by rw [List.length_drop]; omega)]
  obtain ⟨cs, hcs⟩ : ∃ cs, bs.take 96 = cs := ⟨_, rfl⟩
  have hbs : cs ++ bs.drop 96 = bs := by rw [← hcs, List.take_append_drop]
  rw [hcs] at h hcb hcl hsm ⊢
  unfold decBU at h ⊢
  split at h
  · cases h
  rename_i h3
  rw [if_neg h3]
  split at h
  · cases h
  rename_i h4
  rw [if_neg h4]
  split at h
  · rename_i h5
    rw [if_pos h5]
    have hv : ∀ q, q + 8 ≤ cs.length → 0 ≤ valAt cs q 8 ∧ valAt cs q 8 < 18446744073709551616 := fun q hq => by simpa using valAt_bd hcb q 8 hq
    refine ⟨⟨hv _ (by omega), hv _ (by omega), hv _ (by omega), rdP_ok hcb 28 (by omega)⟩, h5, ?_⟩
    have h6 : cs.drop 76 = List.replicate 20 0 := rep_of_all (by simpa using h4) (by rw [List.length_drop]; omega)
    have h7 : cs.take 4 = [85, 67, 85, 66] := by
      have h8 : lettersU cs = true := by simpa using h3
      exact of_decide_eq_true h8
    have he : uberB (rdU cs) = cs := by
      unfold uberB bodyU rdU
      dsimp only
      have t0 := tk cs 0 4 4 8 12 rfl rfl
      rw [List.drop_zero] at t0
      rw [bodyP_rd hcb 28 (by omega), le_valAt hcb 4 8 (by omega), le_valAt hcb 12 8 (by omega), le_valAt hcb 20 8 (by omega), ← h7, ← h6, t0]
      have t1 := tk cs 0 12 12 8 20 rfl rfl
      have t2 := tk cs 0 20 20 8 28 rfl rfl
      have t3 := tk cs 0 28 28 48 76 rfl rfl
      rw [List.drop_zero] at t1 t2 t3
      rw [t1, t2, t3, List.take_append_drop]
    unfold sealB
    rw [he, hsm, hbs]
  · rename_i h5
    exact absurd h h5
/-- A label's tops, read again. -/
theorem rdTop_tops (hd : List Int) (ts : List T3) (hh : hd.length = 15) : ∀ (j : Nat) (b : List Int), (∀ i, i < j → (0 ≤ (ts.getD i default).kind ∧ (ts.getD i default).kind < 256) ∧ (0 ≤ (ts.getD i default).leaves ∧ (ts.getD i default).leaves < 256) ∧ (0 ≤ (ts.getD i default).sectors ∧ (ts.getD i default).sectors < 4294967296)) → ∀ i, i < j → rdTop (hd ++ (topsT ts j ++ b)) i = ts.getD i default := by
  intro j
  induction j with
  | zero => intro b _ i hi; omega
  | succ j ih =>
    intro b hw i hi
    by_cases hij : i < j
    · have h := ih ((le (ts.getD j default).kind 1 ++ le (ts.getD j default).leaves 1 ++ le (ts.getD j default).sectors 4) ++ b) (fun k hk => hw k (by omega)) i hij
      rw [topsT, List.append_assoc (topsT ts j)]
      exact h
    · obtain rfl : i = j := by omega
      obtain ⟨w0, w1, w2⟩ := hw i (by omega)
      obtain ⟨t, ht⟩ : ∃ t, ts.getD i default = t := ⟨_, rfl⟩
      rw [ht] at w0 w1 w2
      have e : hd ++ (topsT ts (i + 1) ++ b) = (hd ++ topsT ts i) ++ ((le t.kind 1 ++ le t.leaves 1 ++ le t.sectors 4) ++ b) := by
        rw [topsT, ht]
        simp only [List.append_assoc]
      have hl : (hd ++ topsT ts i).length = 15 + 6 * i := by rw [List.length_append, hh, topsT_length]
      obtain ⟨B, hB⟩ : ∃ B, le t.kind 1 ++ le t.leaves 1 ++ le t.sectors 4 = B := ⟨_, rfl⟩
      have hBl : B.length = 6 := by rw [← hB]; simp [le_length]
      have k0 : valAt B 0 1 = t.kind := by rw [← hB, vA_left (by simp [le_length]), vA_left (by simp [le_length]), vA_le (by simpa using w0)]
      have k1 : valAt B 1 1 = t.leaves := by rw [← hB, vA_left (by simp [le_length]), vA_end (by simp [le_length]) (by simpa using w1)]
      have k2 : valAt B 2 4 = t.sectors := by rw [← hB, vA_end (by simp [le_length]) (by simpa using w2)]
      rw [e, ht, hB]
      unfold rdTop
      have e0 : valAt (hd ++ topsT ts i ++ (B ++ b)) (15 + 6 * i) 1 = t.kind := by rw [vA_right (q := 0) (by omega), vA_left (by omega), k0]
      have e1 : valAt (hd ++ topsT ts i ++ (B ++ b)) (15 + 6 * i + 1) 1 = t.leaves := by rw [vA_right (q := 1) (by omega), vA_left (by omega), k1]
      have e2 : valAt (hd ++ topsT ts i ++ (B ++ b)) (15 + 6 * i + 2) 4 = t.sectors := by rw [vA_right (q := 2) (by omega), vA_left (by omega), k2]
      rw [e0, e1, e2]
theorem checkL_same {a b : LabV} (h : a.same b) : checkL a = checkL b := by
  obtain ⟨_, h1, h2, h3, h4⟩ := h
  unfold checkL
  rw [h1, h2, h3, h4]
theorem decL_sealB (l : LabV) (w : World) (hl : l.ok w) (h : checkL l = 0) : (decL (sealB (labB l))).2 = 0 ∧ (decL (sealB (labB l))).1.same l := by
  have hf := checkL_ok hl h
  have hlen := labB_length hf.n
  have hn := hf.n
  have hhl := headL_length l
  have e : labB l = headL l ++ (topsT l.ts l.n ++ List.replicate (81 - 6 * l.n) 0) := by unfold labB bodyL; rw [List.append_assoc]
  have f0 : valAt (labB l) 4 8 = l.pool := by
    rw [e, vA_left (by omega)]
    unfold headL
    rw [vA_left (by simp [le_length]), vA_left (by simp [le_length]), vA_left (by simp [le_length]), vA_end (by simp) (by simpa using hl.pool)]
  have f1 : valAt (labB l) 12 1 = l.top := by
    rw [e, vA_left (by omega)]
    unfold headL
    rw [vA_left (by simp [le_length]), vA_left (by simp [le_length]), vA_end (by simp [le_length]) (by simpa using hf.top)]
  have f2 : valAt (labB l) 13 1 = l.place := by
    rw [e, vA_left (by omega)]
    unfold headL
    rw [vA_left (by simp [le_length]), vA_end (by simp [le_length]) (by simpa using hf.place)]
  have f3 : valAt (labB l) 14 1 = (l.n : Int) := by
    rw [e, vA_left (by omega)]
    unfold headL
    rw [vA_end (by simp [le_length]) (by simp; omega)]
  have hmany : manyL (labB l) = l.n := by unfold manyL; rw [f3]; omega
  have hok : okL (labB l) = true := by
    unfold okL lettersL
    rw [hmany, show (labB l).take 4 = [85, 67, 76, 66] from by unfold labB bodyL headL; simp]
    simp
    omega
  have hts : topsAt (labB l) l.n = l.ts := by
    apply List.ext_getElem?
    intro i
    unfold topsAt
    by_cases hi : i < l.n
    · rw [List.getElem?_map, List.getElem?_range hi]
      rw [List.getElem?_eq_getElem (by rw [hl.len]; exact hi)]
      have h1 := rdTop_tops (headL l) l.ts hhl l.n (List.replicate (81 - 6 * l.n) 0) (fun k hk => hf.each k hk) i hi
      rw [← e, List.getD_eq_getElem?_getD, List.getElem?_eq_getElem (by rw [hl.len]; exact hi)] at h1
      simpa using h1
    · rw [List.getElem?_eq_none (by simp; omega), List.getElem?_eq_none (by rw [hl.len]; omega)]
  have hdr : (labB l).drop (15 + 6 * manyL (labB l)) = List.replicate (81 - 6 * l.n) 0 := by
    rw [hmany]
    unfold labB
    rw [List.drop_append, List.drop_eq_nil_of_le (by rw [bodyL_length]; omega), List.nil_append, bodyL_length, Nat.sub_self, List.drop_zero]
  have hsame : (labAt (labB l) none 0).same l := ⟨f0, hmany, f1, f2, by show topsAt (labB l) (manyL (labB l)) = l.ts; rw [hmany, hts]⟩
  unfold decL
  rw [if_neg (by rw [sealB_length, hlen]; simp), if_neg (by rw [seal_sum hlen]; simp), seal_take hlen]
  unfold decBL
  rw [if_neg (by rw [hok]; simp), if_neg (by rw [hdr, all_rep]; simp), if_pos (by rw [checkL_same hsame]; exact h)]
  exact ⟨rfl, hsame⟩
end
section
open Go.RowKit
set_option maxRecDepth 100000

set_option maxHeartbeats 400000 in
theorem form_any (n : Int) (k : Nat) (hn : 0 ≤ n) (hn2 : n < 18446744073709551616) (hk : k ≤ 8) (w : World) :
    Calls Try.prog 41 #[.int .u64 n, .int .i64 k] w fun e w' => ∃ p c ok, e = .returned (.tuple #[.slice p k c, .bool ok]) ∧ Own w' 5 (.slice p k c) (le n k) ∧ (ok = true ↔ n / 2 ^ (8 * k) = 0) ∧ Frm [] w w' ∧ ∀ i ∈ blk p, w.heap.size ≤ i := by
  go_enter Try.func41, Try.ntmps41
  go_wp2_with fail
  go_loopw [0, 6, 7] (fun v b i wr => ∃ (j : Nat) (p : Option Addr) (c : Nat), j ≤ k ∧ i = .int .i64 j ∧ v = .int .u64 (n / 2 ^ (8 * j)) ∧ b = .slice p j c ∧ Hid (Own wr 5 (.slice p j c) (le n j)) ∧ Hid (Frm [] w wr) ∧ Hid (∀ i ∈ blk p, w.heap.size ≤ i)) (fun _ _ i _ => k - (intOf i).toNat)
  case atStart => exact ⟨0, none, 0, Nat.zero_le _, rfl, by simp, rfl, Own.nil _ _, Frm.refl _ _, by simp [Hid, blk]⟩
  case round =>
    obtain ⟨j, p, c, hj, rfl, rfl, rfl, ho, hf, hfr⟩ := hrel
    have hq : 0 ≤ n / 2 ^ (8 * j) ∧ n / 2 ^ (8 * j) < 18446744073709551616 := by
      refine ⟨Int.ediv_nonneg hn (Int.pow_nonneg (by decide)), ?_⟩
      exact Int.lt_of_le_of_lt (Int.ediv_le_self _ hn) hn2
    have hsucc : n / 2 ^ (8 * (j + 1)) = n / 2 ^ (8 * j) / 256 := by
      rw [Int.ediv_ediv_of_nonneg (Int.pow_nonneg (by decide)), Nat.mul_add, Int.pow_add]; rfl
    have HS := hid hsucc
    have hle := le_succ n j
    have HLE := hid hle
    have HL := hid (le_length n j)
    clear hsucc hle
    obtain ⟨q, hqq⟩ : ∃ q, n / 2 ^ (8 * j) = q := ⟨_, rfl⟩
    rw [hqq] at hq HS HLE ⊢
    have HQ := hid hqq
    clear hqq
    obtain ⟨hq0, hq1⟩ := hq
    by_cases hlt : j < k
    · have hrd : Rd (wr.alloc (.cells #[.int .u8 (q % 256)] 5)) (some ⟨wr.heap.size, 0, none⟩) [q % 256] :=
        (own_of_block (E := 5) (zs := [q % 256]) (heap_alloc_new wr _) (by simp [maxLen])).rd
      have HRD := hid hrd
      have HO := hid (ho.out.kept ((Frm.refl [] wr).alloc (.cells #[.int .u8 (q % 256)] 5)) (by simp))
      clear hrd
      go_wp2_with (at_builtin; refine wpList_appB rfl _ _ 22 rfl 5 Try.underlying22 infoE p _ c (le n j) rfl HL.out.symm (by rw [HL.out]; exact HO.out) (some ⟨wr.heap.size, 0, none⟩) 1 1 [q % 256] rfl rfl (by simp) HRD.out (by rw [HL.out]; simp; omega) ?_)
      intro xs p2 c2 w2 hxs ho2 hf2 hfr2
      have hxl : xs.length = j + 1 := by rw [hxs.out, ← HLE.out, le_length]
      rw [hxl]
      have HXL := hid hxl
      clear hxl
      go_wp2_with fail
      go_roundw
      case rel =>
        refine ⟨j + 1, p2, c2, by omega, by go_num, by rw [HS.out], rfl, ?_, ?_, ?_⟩
        · have := ho2.out
          rw [HXL.out] at this
          rw [HLE.out, ← hxs.out]
          exact this
        · exact (hf.out.alloc _).trans hf2.out (by intro i hi hlt; have := hfr.out i hi; omega)
        · intro i hi
          rcases hfr2.out i hi with h | h
          · exact hfr.out i h
          · have := hf.out.size; omega
      case measure => simp [intOf]; omega
    · obtain rfl : j = k := by omega
      go_wp2_with fail
      go_returns
      exact ⟨p, c, _, rfl, ho.out, by rw [HQ.out]; simp, hf.out, hfr.out⟩

theorem World.cell_of_heap {w : World} {b : Nat} {cs : Array Value} {T : TypeId} (h : w.heap[b]? = some (.cells cs T (0, 0))) (i : Nat) : w.cell? ⟨b, i, none⟩ = cs[i]? := cell_of_row w b i cs T (0, 0) h
end
end Go.Proofs.Ytkolbijhekbelaa
