/- Replies as cells, and a session's table. -/
import Derived.Test.YtbgochkmplacaaaSsA
import Derived.Test.YtbgochkmplacaaaSlA
import Derived.Test.YtbgochkmplacaaaHeldT
import Derived.StillTailTactics
import Derived.BigRegion
namespace Go.Proofs.Ytbgochkmplacaaa
open Go.RowKit Go.Lib
set_option maxRecDepth 100000

/-- What a reply says. -/
structure Rs where
  s : Int
  id : Int
  er : Int
  nu : Int
  tx : ByteArray
  ss : List ByteArray
  ds : List Int
/-- A reply: what it says, and where its lists lie. -/
structure Rp where
  x : Rs
  lp : Option Addr
  lc : Nat
  dp : Option Addr
  dc : Nat
def rs0 : Rs := ⟨0, 0, 0, 0, ByteArray.empty, [], []⟩
def rp0 : Rp := ⟨rs0, none, 0, none, 0⟩
def Rp.row (v : Rp) : List Value := [.int .i64 v.x.s, .int .i64 v.x.id, .int .i64 v.x.er, .int .i64 v.x.nu, .string v.x.tx, .slice v.lp v.x.ss.length v.lc, .slice v.dp v.x.ds.length v.dc]
def Rp.agg (v : Rp) : Value := .agg #[.int .i64 v.x.s, .int .i64 v.x.id, .int .i64 v.x.er, .int .i64 v.x.nu, .string v.x.tx, .slice v.lp v.x.ss.length v.lc, .slice v.dp v.x.ds.length v.dc]
def Rp.B (v : Rp) : List Nat := blk v.lp ++ blk v.dp
def strs (ss : List ByteArray) : List Value := ss.map Value.string
/-- Its lists can be read. -/
structure RpOk (w : World) (v : Rp) : Prop where
  l : Rv w v.lp (strs v.x.ss)
  d : Rd w v.dp v.x.ds
  ln : v.x.ss = [] → v.lp = none → v.lc = 0
  dn : v.x.ds = [] → v.dp = none → v.dc = 0
  lb : v.x.ss.length * 16 ≤ 140737488351232
  db : v.x.ds.length ≤ 140737488351232
theorem RpOk.kept {w w' : World} {v : Rp} {S : List Nat} (h : RpOk w v) (hf : Frm S w w') (hn : ∀ k ∈ v.B, k ∉ S) : RpOk w' v :=
  ⟨h.l.kept hf (fun k hk => hn k (by simp [Rp.B, hk])), h.d.kept hf (fun k hk => hn k (by simp [Rp.B, hk])), h.ln, h.dn, h.lb, h.db⟩
theorem rp0_ok (w : World) : RpOk w rp0 := ⟨Or.inl rfl, Or.inl rfl, fun _ _ => rfl, fun _ _ => rfl, by simp [rp0, rs0], by simp [rp0, rs0]⟩
def rowsR : List Rp → List Value
  | [] => []
  | v :: l => v.row ++ rowsR l
theorem rowsR_len : ∀ l : List Rp, (rowsR l).length = l.length * 7
  | [] => rfl
  | v :: l => by simp only [rowsR, List.length_append, rowsR_len l, List.length_cons]; show 7 + _ = _; omega
theorem rowsR_get : ∀ (l : List Rp) (i : Nat) (v : Rp), l[i]? = some v → ∀ (j : Nat) (u : Value), v.row[j]? = some u → (rowsR l)[i * 7 + j]? = some u
  | [], i, v, h, _, _, _ => by simp at h
  | x :: l, 0, v, h, j, u, hu => by
    simp at h; subst h
    have hj : j < 7 := (List.getElem?_eq_some_iff.1 hu).1
    rw [rowsR, List.getElem?_append_left (by show _ < 7; omega), Nat.zero_mul, Nat.zero_add]
    exact hu
  | x :: l, i + 1, v, h, j, u, hu => by
    simp only [List.getElem?_cons_succ] at h
    have h1 := rowsR_get l i v h j u hu
    rw [rowsR, List.getElem?_append_right (by show 7 ≤ _; omega)]
    show (rowsR l)[(i + 1) * 7 + j - 7]? = some u
    rw [show (i + 1) * 7 + j - 7 = i * 7 + j by omega]
    exact h1
def zeros9 : List Rp := List.replicate 9 rp0
theorem infoRp : (Try.prog.info? 61).map (fun i => (i.zero, i.size, i.bytes)) = some (some (.agg #[.int .i64 0, .int .i64 0, .int .i64 0, .int .i64 0, .string ByteArray.empty, .slice none 0 0, .slice none 0 0]), 7, 96) := by kernel_rfl
theorem make9 (w : World) : (Instr.makeSlice 52 (.int .i64 9) (.int .i64 9)).run Try.prog w = .ok (.slice (some ⟨w.heap.size, 0, none⟩) 9 9) (w.alloc (.cells (rowsR zeros9).toArray 61)) := by
  obtain ⟨i, hi, hz, h1, h2⟩ := info_parts infoRp
  have hr := run_make (P := Try.prog) w 52 61 i _ Try.underlying52 hi hz .i64 .i64 9 9 (by omega) (by omega) (by rw [h2]; omega) (by omega)
  rw [h1] at hr
  have e : madeCells (Value.agg #[.int .i64 0, .int .i64 0, .int .i64 0, .int .i64 0, .string ByteArray.empty, .slice none 0 0, .slice none 0 0]).cells ((9 : Int).toNat * 7) = (rowsR zeros9).toArray := by kernel_rfl
  rw [e] at hr
  exact hr
theorem frm_drew {S : List Nat} {w w' : World} (h : Frm S w w') : Frm S w w'.drew := h.drew
set_option maxHeartbeats 3200000 in
theorem clos24 (b : Nat) (pl : Addr) (cs : Array Value) (w : World) (hp : w.cell? pl = some (.pointer (some ⟨b, 0, none⟩))) (hb : w.heap[b]? = some (.cells cs 101 (0, 0))) (h3 : 3 < cs.size) :
    Calls Try.prog 70 #[.pointer (some pl)] w fun e w' => e = .returned (.tuple #[]) ∧ Frm [b] w w' ∧ w'.heap[w.heap.size]? = some (.cells (rowsR zeros9).toArray 61 (0, 0)) ∧ w'.heap[b]? = some (.cells (cs.setIfInBounds 3 (.slice (some ⟨w.heap.size, 0, none⟩) 9 9)) 101 (0, 0)) := by
  obtain ⟨PO, hPO⟩ : ∃ PO : Ending → World → Prop, (fun e w' => e = .returned (.tuple #[]) ∧ Frm [b] w w' ∧ w'.heap[w.heap.size]? = some (.cells (rowsR zeros9).toArray 61 (0, 0)) ∧ w'.heap[b]? = some (.cells (cs.setIfInBounds 3 (.slice (some ⟨w.heap.size, 0, none⟩) 9 9)) 101 (0, 0))) = PO := ⟨_, rfl⟩
  rw [hPO]
  have hlt := lt_of_heap hb
  have hne : w.heap.size ≠ b := by omega
  obtain ⟨Z, hZ⟩ : ∃ q, Obj.cells (rowsR zeros9).toArray 61 (0, 0) = q := ⟨_, rfl⟩
  have hmk := make9
  rw [show (Obj.cells (rowsR zeros9).toArray 61) = Z from hZ] at hmk
  have ha : (w.alloc Z).heap[b]? = some (.cells cs 101 (0, 0)) := ((Frm.refl [] w).alloc Z).heap hb (by simp)
  have hs := heap_setCell_same w b 3 cs _ (.slice (some ⟨w.heap.size, 0, none⟩) 9 9) (by simpa using hb)
  have hsz : (w.setCell ⟨b, 3, none⟩ (.slice (some ⟨w.heap.size, 0, none⟩) 9 9)).heap.size = w.heap.size := by simp [World.setCell]
  have HP : Hid (PO (.returned (.tuple #[])) ((w.setCell ⟨b, 3, none⟩ (.slice (some ⟨w.heap.size, 0, none⟩) 9 9)).alloc Z).drew) := hid (by
    rw [← hPO]
    refine ⟨rfl, (((Frm.refl [b] w).setCell _ _ (by simp)).alloc Z).drew, ?_, ?_⟩
    · show ((w.setCell ⟨b, 3, none⟩ (.slice (some ⟨w.heap.size, 0, none⟩) 9 9)).alloc Z).heap[w.heap.size]? = _
      rw [hZ]
      exact heap_alloc_to _ _ hsz
    · show ((w.setCell ⟨b, 3, none⟩ (.slice (some ⟨w.heap.size, 0, none⟩) 9 9)).alloc Z).heap[b]? = _
      exact ((Frm.refl [] _).alloc Z).heap (by simpa using hs) (by simp))
  have c0 : w.drew.cell? pl = some (.pointer (some ⟨b, 0, none⟩)) := hp
  have c1 : (w.alloc Z).drew.cell? pl = some (.pointer (some ⟨b, 0, none⟩)) := (((Frm.refl [] w).alloc Z).cell (World.block_lt_of_cell? w _ hp) (by simp)).trans hp
  have c3 : w.cell? ⟨b, 3, none⟩ = some cs[3] := by rw [cell_of_row _ _ _ _ _ _ hb]; simp
  have c4 : (w.alloc Z).drew.cell? ⟨b, 3, none⟩ = some cs[3] := by
    show (w.alloc Z).cell? ⟨b, 3, none⟩ = _
    rw [cell_of_row _ _ _ _ _ _ ha]; simp
  have f1 : (w.alloc Z).drew.frozen? ⟨b, 3, none⟩ = false := frozen_of_row _ _ _ _ _ ha
  clear hb ha hs hZ hPO hp hsz
  go_enter Try.func70, Try.ntmps70
  go_region
  go_end0
  exact HP.out
end Go.Proofs.Ytbgochkmplacaaa
