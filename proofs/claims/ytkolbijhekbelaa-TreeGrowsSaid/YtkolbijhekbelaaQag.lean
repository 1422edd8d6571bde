/- Contracts of package ptr: Decode of a pointer; open. Contracts of package ptr: open. Contracts of package ptr: what is taken up of an uberblock. Contracts of package ptr: a label's Check. Contracts of package ptr: what is taken up of a label. Contracts of package ptr: Decode of an uberblock. Contracts of package ptr: DecodeUber. Contracts of package ptr: Decode of a label. Contracts of package ptr: DecodeLabel. Contracts of package ptr: what is laid down of a label. Contracts of package ptr: a label's form. -/
import Derived.Test.YtkolbijhekbelaaQaf
import Derived.BigQuiet
import Derived.Test.YtkolbijhekbelaaQad
import Derived.Lib.Bytes
namespace Go.Proofs.Ytkolbijhekbelaa
section
open Go.RowKit
set_option maxRecDepth 100000

set_option maxHeartbeats 1600000 in
theorem decode_any (ad : Option Addr) (n c : Nat) (bs : List Int) (w : World) (hn : bs.length = n) (hl : n ≤ 140737488355328) (hrd : Rd w ad bs) (hb : ∀ z ∈ bs, 0 ≤ z ∧ z < 256) :
    Calls Try.prog 36 #[.slice ad n c] w fun e w' => e = .returned (.tuple #[.agg (decP bs).1.arr, .int .i64 (decP bs).2]) ∧ Frm [] w w' := by
  have hT := fun W (h : Rd W ad bs) => takePtr_any ad n c bs W hn hl h hb
  obtain ⟨R, hR⟩ : ∃ R, decP bs = R := ⟨_, rfl⟩
  rw [hR] at hT ⊢
  obtain ⟨p, err⟩ := R
  unfold P9.arr at hT ⊢
  dsimp only at hT ⊢
  have HT := hid hT
  have HRD := hid hrd
  have HROW := hid (heap_alloc_new w (.cells #[.int .i64 0, .int .i64 0, .int .i64 0, .int .u64 0, .int .i64 0, .int .u64 0, .int .u64 0, .int .u64 0, .int .u64 0] 40))
  have HFA : Hid (Frm [] w (w.alloc (.cells #[.int .i64 0, .int .i64 0, .int .i64 0, .int .u64 0, .int .i64 0, .int .u64 0, .int .u64 0, .int .u64 0, .int .u64 0] 40))) := hid ((Frm.refl _ _).alloc _)
  clear hT hR hrd hn hb
  go_enter Try.func36, Try.ntmps36
  go_wp2_with fail
  obtain ⟨rb, hrb⟩ : ∃ rb, w.heap.size = rb := ⟨_, rfl⟩
  obtain ⟨wa, hwa⟩ : ∃ wa, w.alloc (.cells #[.int .i64 0, .int .i64 0, .int .i64 0, .int .u64 0, .int .i64 0, .int .u64 0, .int .u64 0, .int .u64 0, .int .u64 0] 40) = wa := ⟨_, rfl⟩
  rw [hwa] at HFA
  rw [hwa, hrb] at HROW
  rw [hwa, hrb]
  have HRB := hid hrb
  clear hwa hrb
  refine (HT.out wa (HRD.out.kept HFA.out (by simp))).mono ?_
  rintro e w1 ⟨rfl, hf1⟩
  have HR1 := hid (hf1.heap HROW.out (by simp))
  have HF1 := hid (HFA.out.trans hf1 (by simp))
  obtain ⟨y0, y1, y2, y3, y4, y5, y6, y7, y8⟩ := ptr_row (p := zero9) HR1.out
  obtain ⟨z0, z1, z2, z3, z4, z5, z6, z7, z8⟩ := ptr_froz (p := zero9) HR1.out
  clear hf1 HROW HFA
  go_wp2_with fail
  show bodyPost _ _ _ _ _ (st9 w1 rb p)
  obtain ⟨h9, f9⟩ := st9_row p zero9 HR1.out
  obtain ⟨wz, hwz⟩ : ∃ wz, st9 w1 rb p = wz := ⟨_, rfl⟩
  rw [hwz] at h9 f9 ⊢
  obtain ⟨g0, g1, g2, g3, g4, g5, g6, g7, g8⟩ := ptr_row (p := p) h9
  clear hwz
  exact bodyPost_ret (v := .tuple #[.agg #[.int .i64 p.top, .int .i64 p.at_, .int .i64 p.bytes, .int .u64 p.birth, .int .i64 p.kind, .int .u64 p.sa, .int .u64 p.sb, .int .u64 p.sc, .int .u64 p.sd], .int .i64 err]) (by simp [results, Try.results36, go_sem, g0, g1, g2, g3, g4, g5, g6, g7, g8]) rfl ⟨rfl, HF1.out.trans f9 (fun i hi hl => by simp at hi; have := HRB.out; omega)⟩
end
section
open Go.RowKit
set_option maxRecDepth 100000

theorem valAt_drop (bs : List Int) (a q k : Nat) : valAt (bs.drop a) q k = valAt bs (a + q) k := by unfold valAt; rw [List.drop_drop]
theorem valAt_take (bs : List Int) (a q k : Nat) (h : q + k ≤ a) : valAt (bs.take a) q k = valAt bs q k := by
  unfold valAt
  rw [List.drop_take, List.take_take, Nat.min_eq_left (by omega)]
/-- The sum that stands at a place. -/
def sumAt (bs : List Int) (pos : Nat) : S4 := ⟨valAt bs pos 8, valAt bs (pos + 8) 8, valAt bs (pos + 16) 8, valAt bs (pos + 24) 8⟩
/-- Is the sum behind a body right? -/
def sumOk (bs : List Int) : Bool := decide ((fletch (bs.take 96)).a = (sumAt bs 96).a) && (decide ((fletch (bs.take 96)).b = (sumAt bs 96).b) && (decide ((fletch (bs.take 96)).c = (sumAt bs 96).c) && decide ((fletch (bs.take 96)).d = (sumAt bs 96).d)))
theorem sumOk_iff (bs : List Int) : sumOk bs = true ↔ fletch (bs.take 96) = sumAt bs 96 := by
  unfold sumOk
  constructor
  · intro h
    simp only [Bool.and_eq_true, decide_eq_true_eq] at h
    obtain ⟨h1, h2, h3, h4⟩ := h
    calc fletch (bs.take 96) = ⟨(fletch (bs.take 96)).a, (fletch (bs.take 96)).b, (fletch (bs.take 96)).c, (fletch (bs.take 96)).d⟩ := rfl
      _ = sumAt bs 96 := by rw [h1, h2, h3, h4]
  · intro h
    rw [h]
    simp
end
section
open Go.RowKit Go.Lib
set_option maxRecDepth 100000

/-- The uberblock that stands in a body. -/
def rdU (bs : List Int) : U12 := ⟨valAt bs 4 8, valAt bs 12 8, valAt bs 20 8, rdP bs 28⟩
def lettersU (bs : List Int) : Bool := decide (bs.take 4 = [85, 67, 85, 66])
theorem letters_eq {zs : List Int} (hz : ∀ z ∈ zs, 0 ≤ z ∧ z < 256) (ks : List Int) (cs : List UInt8) (hk : ∀ z ∈ ks, 0 ≤ z ∧ z < 256) (hc : ks.map (fun n => UInt8.ofNat n.toNat) = cs) : ((strOfNums zs).toList == cs) = decide (zs = ks) := by
  have key : ∀ zs : List Int, (∀ z ∈ zs, 0 ≤ z ∧ z < 256) → (zs.map fun n => UInt8.ofNat n.toNat).map (fun b => (b.toNat : Int)) = zs := by
    intro zs hz
    rw [List.map_map]
    conv => rhs; rw [← List.map_id zs]
    apply List.map_congr_left
    intro z hm
    have := hz z hm
    simp
    omega
  rw [strOfNums_toList, ← hc]
  show (zs.map _ == _) = _
  by_cases h : zs = ks
  · rw [h]; simp
  · rw [decide_eq_false h]
    refine beq_eq_false_iff_ne.2 (fun h2 => h ?_)
    rw [← key zs hz, ← key ks hk, h2]
end
section
open Go.RowKit
set_option maxRecDepth 100000

/-- A top's three numbers. -/
structure T3 where
  kind : Int
  leaves : Int
  sectors : Int
instance : Inhabited T3 := ⟨⟨0, 0, 0⟩⟩
/-- May a top be? -/
def T3.may (t : T3) : Prop := 324 ≤ t.sectors ∧ t.sectors ≤ 8192 ∧ ((t.kind = 1 ∧ t.leaves = 1) ∨ (t.kind = 2 ∧ 2 ≤ t.leaves ∧ t.leaves ≤ 5) ∨ (t.kind = 3 ∧ 3 ≤ t.leaves ∧ t.leaves ≤ 5))
instance (t : T3) : Decidable t.may := by unfold T3.may; infer_instance
/-- A list of tops that can be read. -/
def RdT (w : World) (p : Option Addr) (ts : List T3) : Prop := ts = [] ∨ ∃ g o, p = some ⟨g, o, none⟩ ∧ ∀ i, i < ts.length → w.cell? ⟨g, o + i * 3, none⟩ = some (.int .i64 (ts.getD i default).kind) ∧ w.cell? ⟨g, o + i * 3 + 1, none⟩ = some (.int .i64 (ts.getD i default).leaves) ∧ w.cell? ⟨g, o + i * 3 + 2, none⟩ = some (.int .i64 (ts.getD i default).sectors)
theorem RdT.kept {S : List Nat} {w w' : World} {p : Option Addr} {ts : List T3} (h : RdT w p ts) (hf : Frm S w w') (hn : ∀ k ∈ blk p, k ∉ S) : RdT w' p ts := by
  rcases h with h | ⟨g, o, rfl, h⟩
  · exact Or.inl h
  · refine Or.inr ⟨g, o, rfl, fun i hi => ?_⟩
    obtain ⟨h0, h1, h2⟩ := h i hi
    have hl := World.block_lt_of_cell? w _ h0
    have hg : g ∉ S := hn g (by simp [blk])
    exact ⟨(hf.cell (p := ⟨g, o + i * 3, none⟩) hl hg).trans h0, (hf.cell (p := ⟨g, o + i * 3 + 1, none⟩) hl hg).trans h1, (hf.cell (p := ⟨g, o + i * 3 + 2, none⟩) hl hg).trans h2⟩
/-- A label's numbers. -/
structure LabV where
  pool : Int
  p : Option Addr
  n : Nat
  c : Nat
  top : Int
  place : Int
  ts : List T3
def LabV.arr (l : LabV) : Array Value := #[.int .u64 l.pool, .slice l.p l.n l.c, .int .i64 l.top, .int .i64 l.place]
/-- What CheckLabel answers. -/
def checkL (l : LabV) : Int :=
  if l.n < 1 ∨ 4 < l.n ∨ l.top < 0 ∨ (l.n : Int) ≤ l.top then 42
  else if ¬ l.ts.all (fun t => decide t.may) = true then 42
  else if l.place < 0 ∨ (l.ts.getD l.top.toNat default).leaves ≤ l.place then 42 else 0
/-- What is known of a label that came in. -/
structure LabV.ok (w : World) (l : LabV) : Prop where
  len : l.ts.length = l.n
  rd : RdT w l.p l.ts
  le : l.n ≤ l.c
  mx : l.c ≤ 9223372036854775807
  pool : 0 ≤ l.pool ∧ l.pool < 18446744073709551616
  top : -9223372036854775808 ≤ l.top ∧ l.top ≤ 9223372036854775807
theorem LabV.ok.kept {w w' : World} {l : LabV} (h : l.ok w) (hf : Frm [] w w') : l.ok w' := ⟨h.len, h.rd.kept hf (by simp), h.le, h.mx, h.pool, h.top⟩
end
section
open Go.RowKit Go.Lib
set_option maxRecDepth 100000

def spT (ts : List T3) : List Value := ts.flatMap fun t => [.int .i64 t.kind, .int .i64 t.leaves, .int .i64 t.sectors]
theorem spT_length (ts : List T3) : (spT ts).length = ts.length * 3 := by
  induction ts with
  | nil => rfl
  | cons t ts ih =>
    rw [show spT (t :: ts) = [.int .i64 t.kind, .int .i64 t.leaves, .int .i64 t.sectors] ++ spT ts from rfl, List.length_append, ih]
    simp only [List.length_cons, List.length_nil]
    omega
def rdTop (bs : List Int) (i : Nat) : T3 := ⟨valAt bs (15 + 6 * i) 1, valAt bs (15 + 6 * i + 1) 1, valAt bs (15 + 6 * i + 2) 4⟩
def topsAt (bs : List Int) (n : Nat) : List T3 := (List.range n).map (rdTop bs)
theorem topsAt_length (bs : List Int) (n : Nat) : (topsAt bs n).length = n := by simp [topsAt]
theorem topsAt_succ (bs : List Int) (n : Nat) : topsAt bs (n + 1) = topsAt bs n ++ [rdTop bs n] := by simp [topsAt, List.range_succ]
theorem spT_succ (bs : List Int) (n : Nat) : spT (topsAt bs (n + 1)) = spT (topsAt bs n) ++ [.int .i64 (rdTop bs n).kind, .int .i64 (rdTop bs n).leaves, .int .i64 (rdTop bs n).sectors] := by
  rw [topsAt_succ]
  simp [spT]
def lettersL (bs : List Int) : Bool := decide (bs.take 4 = [85, 67, 76, 66])
def manyL (bs : List Int) : Nat := (valAt bs 14 1).toNat
def okL (bs : List Int) : Bool := lettersL bs && decide (manyL bs ≤ 4)
end
section
open Go.RowKit
set_option maxRecDepth 100000

def zero12 : U12 := ⟨0, 0, 0, zero9⟩
/-- What a body of 96 bytes is taken for. -/
def decBU (bs : List Int) : U12 × Int :=
  if lettersU bs = false then (zero12, 45) else if (bs.drop 76).all (· == 0) = false then (zero12, 45) else if checkU (rdU bs) = 0 then (rdU bs, 0) else (zero12, checkU (rdU bs))
/-- An uberblock is stored. -/
def st12 (w : World) (b : Nat) (u : U12) : World :=
  ((((((((((((w.setCell ⟨b, 0, none⟩ (.int .u64 u.pool)).setCell ⟨b, 1, none⟩ (.int .u64 u.txg)).setCell ⟨b, 2, none⟩ (.int .u64 u.note)).setCell ⟨b, 3, none⟩ (.int .i64 u.root.top)).setCell ⟨b, 4, none⟩ (.int .i64 u.root.at_)).setCell ⟨b, 5, none⟩ (.int .i64 u.root.bytes)).setCell ⟨b, 6, none⟩ (.int .u64 u.root.birth)).setCell ⟨b, 7, none⟩ (.int .i64 u.root.kind)).setCell ⟨b, 8, none⟩ (.int .u64 u.root.sa)).setCell ⟨b, 9, none⟩ (.int .u64 u.root.sb)).setCell ⟨b, 10, none⟩ (.int .u64 u.root.sc)).setCell ⟨b, 11, none⟩ (.int .u64 u.root.sd))
theorem st12_row {w : World} {b : Nat} {T : TypeId} (u q : U12) (h : w.heap[b]? = some (.cells q.arr T (0, 0))) : (st12 w b u).heap[b]? = some (.cells u.arr T (0, 0)) ∧ Frm [b] w (st12 w b u) := by
  have h4 := sets_row b T [(0, .int .u64 u.pool), (1, .int .u64 u.txg), (2, .int .u64 u.note), (3, .int .i64 u.root.top), (4, .int .i64 u.root.at_), (5, .int .i64 u.root.bytes), (6, .int .u64 u.root.birth), (7, .int .i64 u.root.kind), (8, .int .u64 u.root.sa), (9, .int .u64 u.root.sb), (10, .int .u64 u.root.sc), (11, .int .u64 u.root.sd)] w q.arr h
  unfold U12.arr at h4 ⊢
  simp only [List.foldl, List.setIfInBounds_toArray, List.set_cons_zero, List.set_cons_succ] at h4
  exact h4
theorem ub_row {W : World} {pb : Nat} {u : U12} {T : TypeId} (h : W.heap[pb]? = some (.cells u.arr T (0, 0))) :
    W.cell? ⟨pb, 0, none⟩ = some (.int .u64 u.pool) ∧ W.cell? ⟨pb, 1, none⟩ = some (.int .u64 u.txg) ∧ W.cell? ⟨pb, 2, none⟩ = some (.int .u64 u.note) ∧ W.cell? ⟨pb, 3, none⟩ = some (.int .i64 u.root.top) ∧ W.cell? ⟨pb, 4, none⟩ = some (.int .i64 u.root.at_) ∧ W.cell? ⟨pb, 5, none⟩ = some (.int .i64 u.root.bytes) ∧ W.cell? ⟨pb, 6, none⟩ = some (.int .u64 u.root.birth) ∧ W.cell? ⟨pb, 7, none⟩ = some (.int .i64 u.root.kind) ∧ W.cell? ⟨pb, 8, none⟩ = some (.int .u64 u.root.sa) ∧ W.cell? ⟨pb, 9, none⟩ = some (.int .u64 u.root.sb) ∧ W.cell? ⟨pb, 10, none⟩ = some (.int .u64 u.root.sc) ∧ W.cell? ⟨pb, 11, none⟩ = some (.int .u64 u.root.sd) := by
  refine ⟨?_, ?_, ?_, ?_, ?_, ?_, ?_, ?_, ?_, ?_, ?_, ?_⟩ <;> (rw [cell_of_row W _ _ _ _ _ h]; rfl)
theorem ub_froz {W : World} {pb : Nat} {u : U12} {T : TypeId} (h : W.heap[pb]? = some (.cells u.arr T (0, 0))) :
    W.frozen? ⟨pb, 0, none⟩ = false ∧ W.frozen? ⟨pb, 1, none⟩ = false ∧ W.frozen? ⟨pb, 2, none⟩ = false ∧ W.frozen? ⟨pb, 3, none⟩ = false ∧ W.frozen? ⟨pb, 4, none⟩ = false ∧ W.frozen? ⟨pb, 5, none⟩ = false ∧ W.frozen? ⟨pb, 6, none⟩ = false ∧ W.frozen? ⟨pb, 7, none⟩ = false ∧ W.frozen? ⟨pb, 8, none⟩ = false ∧ W.frozen? ⟨pb, 9, none⟩ = false ∧ W.frozen? ⟨pb, 10, none⟩ = false ∧ W.frozen? ⟨pb, 11, none⟩ = false :=
  ⟨frozen_of_row W pb 0 _ _ h, frozen_of_row W pb 1 _ _ h, frozen_of_row W pb 2 _ _ h, frozen_of_row W pb 3 _ _ h, frozen_of_row W pb 4 _ _ h, frozen_of_row W pb 5 _ _ h, frozen_of_row W pb 6 _ _ h, frozen_of_row W pb 7 _ _ h, frozen_of_row W pb 8 _ _ h, frozen_of_row W pb 9 _ _ h, frozen_of_row W pb 10 _ _ h, frozen_of_row W pb 11 _ _ h⟩
theorem GP2.bornA {T : TypeId} (w : World) (z : Array Value) : ((w.alloc (.cells z T)).alloc (.cells z T)).heap[w.heap.size]? = some (.cells z T (0, 0)) ∧ ((w.alloc (.cells z T)).alloc (.cells z T)).heap[w.heap.size + 1]? = some (.cells z T (0, 0)) ∧ Frm [] w ((w.alloc (.cells z T)).alloc (.cells z T)) := by
  have h2 : Frm [] (w.alloc (.cells z T)) ((w.alloc (.cells z T)).alloc (.cells z T)) := (Frm.refl _ _).alloc _
  exact ⟨h2.heap (heap_alloc_new _ _) (by simp), heap_alloc_to _ _ (by simp), ((Frm.refl _ _).alloc _).trans h2 (by simp)⟩
end
section
open Go.RowKit
set_option maxRecDepth 100000

/-- What DecodeUber answers. -/
def decU (bs : List Int) : U12 × Int := if bs.length ≠ 128 then (zero12, 45) else if sumOk bs = false then (zero12, 45) else decBU (bs.take 96)
end
section
open Go.RowKit
set_option maxRecDepth 100000

def zeroL : LabV := ⟨0, none, 0, 0, 0, 0, []⟩
/-- A label's block. -/
def labAt (bs : List Int) (p : Option Addr) (c : Nat) : LabV := ⟨valAt bs 4 8, p, manyL bs, c, valAt bs 12 1, valAt bs 13 1, topsAt bs (manyL bs)⟩
/-- What a body of 96 bytes is taken for. -/
def decBL (bs : List Int) : LabV × Int :=
  if okL bs = false then (zeroL, 43) else if (bs.drop (15 + 6 * manyL bs)).all (· == 0) = false then (zeroL, 43) else if checkL (labAt bs none 0) = 0 then (labAt bs none 0, 0) else (zeroL, checkL (labAt bs none 0))
/-- The same label, whatever its list's place. -/
def LabV.same (a b : LabV) : Prop := a.pool = b.pool ∧ a.n = b.n ∧ a.top = b.top ∧ a.place = b.place ∧ a.ts = b.ts
/-- What a label's decoding answers. -/
def DecA (w : World) (R : LabV × Int) (e : Ending) (w' : World) : Prop :=
  ∃ l : LabV, e = .returned (.tuple #[.agg l.arr, .int .i64 R.2]) ∧ l.ok w' ∧ l.same R.1 ∧ (∀ k ∈ blk l.p, w.heap.size ≤ k) ∧ Frm [] w w'
theorem zeroL_ok (w : World) : zeroL.ok w := ⟨rfl, Or.inl rfl, Nat.le_refl _, by show (0 : Nat) ≤ 9223372036854775807; omega, by show (0 : Int) ≤ 0 ∧ (0 : Int) < 18446744073709551616; omega, by show (-9223372036854775808 : Int) ≤ 0 ∧ (0 : Int) ≤ 9223372036854775807; omega⟩
theorem spT_get (ts : List T3) : ∀ i, i < ts.length → (spT ts)[i * 3]? = some (.int .i64 (ts.getD i default).kind) ∧ (spT ts)[i * 3 + 1]? = some (.int .i64 (ts.getD i default).leaves) ∧ (spT ts)[i * 3 + 2]? = some (.int .i64 (ts.getD i default).sectors) := by
  induction ts with
  | nil => intro i hi; simp at hi
  | cons t ts ih =>
    intro i hi
    have he : spT (t :: ts) = [.int .i64 t.kind, .int .i64 t.leaves, .int .i64 t.sectors] ++ spT ts := rfl
    cases i with
    | zero => rw [he]; exact ⟨rfl, rfl, rfl⟩
    | succ i =>
      obtain ⟨h0, h1, h2⟩ := ih i (by simpa using hi)
      rw [he, show (i + 1) * 3 = 3 + i * 3 by omega]
      refine ⟨?_, ?_, ?_⟩
      · rw [List.getElem?_append_right (by simp)]; simpa using h0
      · rw [show 3 + i * 3 + 1 = 3 + (i * 3 + 1) by omega, List.getElem?_append_right (by simp)]; simpa using h1
      · rw [show 3 + i * 3 + 2 = 3 + (i * 3 + 2) by omega, List.getElem?_append_right (by simp)]; simpa using h2
/-- A label is stored. -/
def st4 (w : World) (b : Nat) (l : LabV) : World :=
  ((((w.setCell ⟨b, 0, none⟩ (.int .u64 l.pool)).setCell ⟨b, 1, none⟩ (.slice l.p l.n l.c)).setCell ⟨b, 2, none⟩ (.int .i64 l.top)).setCell ⟨b, 3, none⟩ (.int .i64 l.place))
theorem st4_row {w : World} {b : Nat} {T : TypeId} (l q : LabV) (h : w.heap[b]? = some (.cells q.arr T (0, 0))) : (st4 w b l).heap[b]? = some (.cells l.arr T (0, 0)) ∧ Frm [b] w (st4 w b l) := by
  have h4 := sets_row b T [(0, .int .u64 l.pool), (1, .slice l.p l.n l.c), (2, .int .i64 l.top), (3, .int .i64 l.place)] w q.arr h
  unfold LabV.arr at h4 ⊢
  simp only [List.foldl, List.setIfInBounds_toArray, List.set_cons_zero, List.set_cons_succ] at h4
  exact h4
theorem lb_row {W : World} {pb : Nat} {l : LabV} {T : TypeId} (h : W.heap[pb]? = some (.cells l.arr T (0, 0))) :
    W.cell? ⟨pb, 0, none⟩ = some (.int .u64 l.pool) ∧ W.cell? ⟨pb, 1, none⟩ = some (.slice l.p l.n l.c) ∧ W.cell? ⟨pb, 2, none⟩ = some (.int .i64 l.top) ∧ W.cell? ⟨pb, 3, none⟩ = some (.int .i64 l.place) := by
  refine ⟨?_, ?_, ?_, ?_⟩ <;> (rw [cell_of_row W _ _ _ _ _ h]; rfl)
theorem lb_froz {W : World} {pb : Nat} {l : LabV} {T : TypeId} (h : W.heap[pb]? = some (.cells l.arr T (0, 0))) :
    W.frozen? ⟨pb, 0, none⟩ = false ∧ W.frozen? ⟨pb, 1, none⟩ = false ∧ W.frozen? ⟨pb, 2, none⟩ = false ∧ W.frozen? ⟨pb, 3, none⟩ = false :=
  ⟨frozen_of_row W pb 0 _ _ h, frozen_of_row W pb 1 _ _ h, frozen_of_row W pb 2 _ _ h, frozen_of_row W pb 3 _ _ h⟩
end
section
open Go.RowKit
set_option maxRecDepth 100000

/-- What DecodeLabel answers. -/
def decL (bs : List Int) : LabV × Int := if bs.length ≠ 128 then (zeroL, 43) else if sumOk bs = false then (zeroL, 43) else decBL (bs.take 96)
end
section
open Go.RowKit
set_option maxRecDepth 100000

/-- What a label's numbers must be to be laid down. -/
structure LabV.fits (l : LabV) : Prop where
  n : l.n ≤ 4
  top : 0 ≤ l.top ∧ l.top < 256
  place : 0 ≤ l.place ∧ l.place < 256
  each : ∀ j, j < l.n → (0 ≤ (l.ts.getD j default).kind ∧ (l.ts.getD j default).kind < 256) ∧ (0 ≤ (l.ts.getD j default).leaves ∧ (l.ts.getD j default).leaves < 256) ∧ (0 ≤ (l.ts.getD j default).sectors ∧ (l.ts.getD j default).sectors < 4294967296)
theorem checkL_ok {l : LabV} {w : World} (hl : l.ok w) (h : checkL l = 0) : l.fits := by
  unfold checkL at h
  split at h
  · cases h
  rename_i h1
  split at h
  · cases h
  rename_i h2
  split at h
  · cases h
  rename_i h3
  have hall : ∀ j, j < l.n → (l.ts.getD j default).may := fun j hj => by
    have h4 : l.ts.all (fun t => decide t.may) = true := by simpa using h2
    rw [List.all_eq_true] at h4
    have h5 := h4 (l.ts.getD j default) (by
      rw [List.getD_eq_getElem?_getD, List.getElem?_eq_getElem (by rw [hl.len]; exact hj)]
      exact List.getElem_mem _)
    exact of_decide_eq_true h5
  have hb : ∀ t : T3, t.may → (0 ≤ t.kind ∧ t.kind < 256) ∧ (0 ≤ t.leaves ∧ t.leaves < 256) ∧ (0 ≤ t.sectors ∧ t.sectors < 4294967296) := fun t ht => by
    unfold T3.may at ht
    omega
  have ht := hb _ (hall l.top.toNat (by omega))
  exact ⟨by omega, by omega, by omega, fun j hj => hb _ (hall j hj)⟩
/-- The bytes of so many tops. -/
def topsT (ts : List T3) : Nat → List Int
  | 0 => []
  | j + 1 => topsT ts j ++ (le (ts.getD j default).kind 1 ++ le (ts.getD j default).leaves 1 ++ le (ts.getD j default).sectors 4)
theorem topsT_length (ts : List T3) (j : Nat) : (topsT ts j).length = 6 * j := by
  induction j with
  | zero => rfl
  | succ j ih => simp only [topsT, List.length_append, ih, le_length]; omega
def headL (l : LabV) : List Int := [85, 67, 76, 66] ++ le l.pool 8 ++ le l.top 1 ++ le l.place 1 ++ le (l.n : Int) 1
theorem headL_length (l : LabV) : (headL l).length = 15 := by simp [headL, le_length]
def bodyL (l : LabV) : List Int := headL l ++ topsT l.ts l.n
theorem bodyL_length (l : LabV) : (bodyL l).length = 15 + 6 * l.n := by rw [bodyL, List.length_append, headL_length, topsT_length]
end
section
open Go.RowKit
set_option maxRecDepth 100000

/-- A label's body. -/
def labB (l : LabV) : List Int := bodyL l ++ List.replicate (81 - 6 * l.n) 0
theorem labB_length {l : LabV} (h : l.n ≤ 4) : (labB l).length = 96 := by rw [labB, List.length_append, bodyL_length, List.length_replicate]; omega
theorem topsT_byte (ts : List T3) (j : Nat) : ∀ z ∈ topsT ts j, 0 ≤ z ∧ z < 256 := by
  induction j with
  | zero => simp [topsT]
  | succ j ih => exact app_byte ih (app_byte (app_byte (le_byte _ _) (le_byte _ _)) (le_byte _ _))
theorem labB_byte (l : LabV) : ∀ z ∈ labB l, 0 ≤ z ∧ z < 256 := app_byte (app_byte (app_byte (app_byte (app_byte (app_byte (by simp) (le_byte _ _)) (le_byte _ _)) (le_byte _ _)) (le_byte _ _)) (topsT_byte _ _)) (rep_byte _)
end
end Go.Proofs.Ytkolbijhekbelaa
