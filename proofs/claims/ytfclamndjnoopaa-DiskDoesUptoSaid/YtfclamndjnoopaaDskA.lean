/- Disks and their power: what stands in the world; the smallest calls. -/
import Derived.Test.YtfclamndjnoopaaGen
namespace Go.Proofs.Ytfclamndjnoopaa
open Go.RowKit Go.Lib
set_option maxRecDepth 100000

/-- A write of a sector that waits. -/
structure Wt where
  disk : Nat
  at_ : Nat
  bytes : List Int
def Wt.row (x : Wt) : List Value := .pointer (some ⟨x.disk, 0, none⟩) :: .int .i64 (x.at_ : Int) :: bv x.bytes
def rowsW (l : List Wt) : List Value := l.flatMap Wt.row
/-- A power: is it out, is it bounded, how many writes are left, how many there were, what waits. -/
structure PSt where
  out : Bool
  bounded : Bool
  left : Int
  writes : Int
  ws : List Wt
/-- A disk: its block, its platter's, the block of what is seen; how many sectors. -/
structure DSt where
  db : Nat
  gp : Nat
  gs : Nat
  n : Nat
  failed : Bool
  plat : List Int
  seen : List Int
theorem row_length {x : Wt} (h : x.bytes.length = 128) : x.row.length = 130 := by simp [Wt.row, bv, h]
theorem rowsW_length : ∀ {l : List Wt}, (∀ x ∈ l, x.bytes.length = 128) → (rowsW l).length = l.length * 130 := by
  intro l
  induction l with
  | nil => intro _; rfl
  | cons x l ih =>
    intro h
    rw [show rowsW (x :: l) = x.row ++ rowsW l from rfl, List.length_append, row_length (h x (by simp)), ih (fun y hy => h y (by simp [hy]))]
    simp only [List.length_cons]
    omega
theorem rowsW_app (a b : List Wt) : rowsW (a ++ b) = rowsW a ++ rowsW b := by simp [rowsW]
/-- A power's block and its list of what waits. -/
structure IsPow (w : World) (pb : Nat) (S : PSt) (q : Option Addr) (c : Nat) : Prop where
  row : w.heap[pb]? = some (.cells #[.bool S.out, .bool S.bounded, .int .i64 S.left, .int .i64 S.writes, .slice q S.ws.length c] 59 (0, 0))
  own : w.ownsRow 0 65 130 (.slice q S.ws.length c) S.ws.length (rowsW S.ws)
  len : ∀ x ∈ S.ws, x.bytes.length = 128
  lb : -9223372036854775808 ≤ S.left ∧ S.left ≤ 9223372036854775807
  wb : 0 ≤ S.writes ∧ S.writes + S.ws.length ≤ 500000000000
  apart : pb ∉ blk q
/-- A disk's three blocks. -/
structure IsDisk (w : World) (pb : Nat) (D : DSt) : Prop where
  row : w.heap[D.db]? = some (.cells #[.pointer (some ⟨pb, 0, none⟩), .int .i64 (D.n : Int), .bool D.failed, .slice (some ⟨D.gp, 0, none⟩) (D.n * 128) (D.n * 128), .slice (some ⟨D.gs, 0, none⟩) (D.n * 128) (D.n * 128)] 61 (0, 0))
  pl : w.heap[D.gp]? = some (.cells (bv D.plat).toArray 5 (0, 0))
  se : w.heap[D.gs]? = some (.cells (bv D.seen).toArray 5 (0, 0))
  pn : D.plat.length = D.n * 128
  sn : D.seen.length = D.n * 128
  pz : ∀ z ∈ D.plat, 0 ≤ z ∧ z < 256
  sz : ∀ z ∈ D.seen, 0 ≤ z ∧ z < 256
  n1 : 1 ≤ D.n
  n2 : D.n ≤ 8192
  a1 : D.gp ≠ D.gs
  a2 : D.db ≠ D.gp
  a3 : D.db ≠ D.gs
theorem IsPow.kept {w w' : World} {pb : Nat} {S : PSt} {q : Option Addr} {c : Nat} {T : List Nat} (h : IsPow w pb S q c) (hf : Frm T w w') (h1 : pb ∉ T) (h2 : ∀ k ∈ blk q, k ∉ T) : IsPow w' pb S q c :=
  ⟨hf.heap h.row h1, ownsRow_kept h.own hf h2, h.len, h.lb, h.wb, h.apart⟩
theorem IsDisk.kept {w w' : World} {pb : Nat} {D : DSt} {T : List Nat} (h : IsDisk w pb D) (hf : Frm T w w') (h1 : D.db ∉ T) (h2 : D.gp ∉ T) (h3 : D.gs ∉ T) : IsDisk w' pb D :=
  ⟨hf.heap h.row h1, hf.heap h.pl h2, hf.heap h.se h3, h.pn, h.sn, h.pz, h.sz, h.n1, h.n2, h.a1, h.a2, h.a3⟩
theorem IsPow.cells {w : World} {pb : Nat} {S : PSt} {q : Option Addr} {c : Nat} (h : IsPow w pb S q c) :
    w.cell? ⟨pb, 0, none⟩ = some (.bool S.out) ∧ w.cell? ⟨pb, 1, none⟩ = some (.bool S.bounded) ∧ w.cell? ⟨pb, 2, none⟩ = some (.int .i64 S.left) ∧ w.cell? ⟨pb, 3, none⟩ = some (.int .i64 S.writes) ∧ w.cell? ⟨pb, 4, none⟩ = some (.slice q S.ws.length c) := by
  refine ⟨?_, ?_, ?_, ?_, ?_⟩ <;> (rw [cell_of_row w _ _ _ _ _ h.row]; rfl)
theorem IsPow.froz {w : World} {pb : Nat} {S : PSt} {q : Option Addr} {c : Nat} (h : IsPow w pb S q c) (k : Nat) : w.frozen? ⟨pb, k, none⟩ = false := frozen_of_row w pb k _ _ h.row
theorem IsDisk.cells {w : World} {pb : Nat} {D : DSt} (h : IsDisk w pb D) :
    w.cell? ⟨D.db, 0, none⟩ = some (.pointer (some ⟨pb, 0, none⟩)) ∧ w.cell? ⟨D.db, 1, none⟩ = some (.int .i64 (D.n : Int)) ∧ w.cell? ⟨D.db, 2, none⟩ = some (.bool D.failed) ∧ w.cell? ⟨D.db, 3, none⟩ = some (.slice (some ⟨D.gp, 0, none⟩) (D.n * 128) (D.n * 128)) ∧ w.cell? ⟨D.db, 4, none⟩ = some (.slice (some ⟨D.gs, 0, none⟩) (D.n * 128) (D.n * 128)) := by
  refine ⟨?_, ?_, ?_, ?_, ?_⟩ <;> (rw [cell_of_row w _ _ _ _ _ h.row]; rfl)
def sets (w : World) (b : Nat) (l : List (Nat × Value)) : World := l.foldl (fun w x => w.setCell ⟨b, x.1, none⟩ x.2) w
theorem sets_row (b : Nat) (T : TypeId) : ∀ (l : List (Nat × Value)) (w : World) (row : Array Value), w.heap[b]? = some (.cells row T (0, 0)) → (sets w b l).heap[b]? = some (.cells (l.foldl (fun r x => r.setIfInBounds x.1 x.2) row) T (0, 0)) ∧ Frm [b] w (sets w b l) := by
  intro l
  induction l with
  | nil => intro w row h; exact ⟨h, Frm.refl _ _⟩
  | cons x l ih =>
    intro w row h
    have h1 := ih (w.setCell ⟨b, x.1, none⟩ x.2) (row.setIfInBounds x.1 x.2) (heap_setCell_same w b x.1 _ _ _ h)
    exact ⟨h1.1, ((Frm.refl [b] w).setCell _ _ (by simp)).trans h1.2 (fun i hi _ => hi)⟩
/-- Nothing waits, nothing is out. -/
def PSt.new : PSt := ⟨false, false, 0, 0, []⟩
set_option maxHeartbeats 800000 in
theorem newPower_any (w : World) :
    Calls Try.prog 8 #[] w fun e w' => ∃ pb, e = .returned (.pointer (some ⟨pb, 0, none⟩)) ∧ IsPow w' pb PSt.new none 0 ∧ Frm [] w w' ∧ w.heap.size ≤ pb := by
  go_enter Try.func8, Try.ntmps8
  go_wp2_with fail
  go_returns
  refine ⟨w.heap.size, rfl, ⟨heap_alloc_new _ _, ⟨rfl, Or.inl ⟨rfl, rfl⟩⟩, by simp [PSt.new], by simp [PSt.new], by simp [PSt.new], by simp [blk]⟩, (Frm.refl _ _).alloc _, Nat.le_refl _⟩
/-- The power is told when to go out. -/
def PSt.cut (S : PSt) (after : Int) : PSt := { S with bounded := decide (0 ≤ after), left := after }
set_option maxHeartbeats 800000 in
theorem cut_any (pb : Nat) (S : PSt) (q : Option Addr) (c : Nat) (after : Int) (ha : -9223372036854775808 ≤ after ∧ after ≤ 9223372036854775807) (w : World) (hp : IsPow w pb S q c) :
    Calls Try.prog 10 #[.pointer (some ⟨pb, 0, none⟩), .int .i64 after] w fun e w' => e = .returned (.tuple #[]) ∧ IsPow w' pb (S.cut after) q c ∧ Frm [pb] w w' := by
  have HP := hid hp
  obtain ⟨c0, c1, c2, c3, c4⟩ := hp.cells
  have z1 := hp.froz 1
  have z2 := hp.froz 2
  clear hp
  go_enter Try.func10, Try.ntmps10
  go_wp2_with fail
  go_returns
  obtain ⟨h1, h2⟩ := sets_row pb 59 [(1, .bool (decide (0 ≤ after))), (2, .int .i64 after)] w _ HP.out.row
  exact ⟨rfl, ⟨h1, ownsRow_kept HP.out.own h2 (fun k hk hm => by simp at hm; subst hm; exact HP.out.apart hk), HP.out.len, ha, HP.out.wb, HP.out.apart⟩, h2⟩
end Go.Proofs.Ytfclamndjnoopaa
