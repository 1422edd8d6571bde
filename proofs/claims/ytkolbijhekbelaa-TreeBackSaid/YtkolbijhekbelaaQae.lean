/- Contracts of package ptr: what is taken up of a sum and of a pointer. Contracts of package ptr: what is taken up of a pointer. Contracts of package ptr: Decode of a pointer. Contracts of package ptr: Decode of a pointer; open. Contracts of package ptr: open. Contracts of package ptr: what is taken up of an uberblock. Contracts of package ptr: a label's Check. -/
import Derived.Test.YtkolbijhekbelaaQad
import Derived.BigQuiet
import Derived.Test.YtkolbijhekbelaaQac
import Derived.Lib.Bytes
namespace Go.Proofs.Ytkolbijhekbelaa
section
open Go.RowKit
set_option maxRecDepth 100000

/-- The number of k bytes at a place. -/
def valAt (bs : List Int) (pos k : Nat) : Int := leV ((bs.drop pos).take k)
theorem valAt_bd {bs : List Int} (hb : ∀ z ∈ bs, 0 ≤ z ∧ z < 256) (pos k : Nat) (h : pos + k ≤ bs.length) : 0 ≤ valAt bs pos k ∧ valAt bs pos k < 2 ^ (8 * k) := by
  have h1 := leV_bd ((bs.drop pos).take k) (fun z hz => hb z (List.mem_of_mem_drop (List.mem_of_mem_take hz)))
  rw [List.length_take, List.length_drop, Nat.min_eq_left (by omega)] at h1
  exact h1
theorem num_take (b g pos : Nat) (bs : List Int) (hb : ∀ z ∈ bs, 0 ≤ z ∧ z < 256) (k : Nat) (w : World) (hw : IsR w b g bs pos 0) (hk1 : 1 ≤ k) (hk8 : k ≤ 8) (hp : pos + k ≤ bs.length) :
    Calls Try.prog 68 #[.pointer (some ⟨b, 0, none⟩), .int .i64 (k : Int)] w fun e w' => e = .returned (.int .u64 (valAt bs pos k)) ∧ IsR w' b g bs (pos + k) 0 ∧ Frm [b] w w' := by
  have h := numR_any b g pos bs hb 0 (k : Int) w hw (by omega) (by omega)
  have e : numT (bs.drop pos) (k : Int) = (valAt bs pos k, k, 0) := by
    unfold numT
    rw [if_neg (by omega), if_neg (by rw [List.length_drop]; omega), Int.toNat_natCast]
    rfl
  rw [e, readS_ok] at h
  simpa using h
/-- A reader, a variable of one's own that is filled, and the result's block. -/
structure GP (w0 W : World) (T : TypeId) (b g : Nat) (bs : List Int) (pos rb pb : Nat) (zero row : Array Value) : Prop where
  rd : IsR W b g bs pos 0
  pr : W.heap[pb]? = some (.cells row T (0, 0))
  rr : W.heap[rb]? = some (.cells zero T (0, 0))
  fr : Frm [b] w0 W
  hr : w0.heap.size ≤ rb
  hp : rb < pb
  hb : b < w0.heap.size
  hg : g < w0.heap.size
theorem GP.call {w0 W W' : World} {T : TypeId} {b g : Nat} {bs : List Int} {pos pos' rb pb : Nat} {zero row : Array Value} (h : GP w0 W T b g bs pos rb pb zero row) (hr : IsR W' b g bs pos' 0) (hf : Frm [b] W W') : GP w0 W' T b g bs pos' rb pb zero row :=
  ⟨hr, hf.heap h.pr (by simp; have := h.hp; have := h.hr; have := h.hb; omega), hf.heap h.rr (by simp; have := h.hr; have := h.hb; omega), h.fr.trans hf (fun i hi _ => hi), h.hr, h.hp, h.hb, h.hg⟩
theorem GP.set {w0 W : World} {T : TypeId} {b g : Nat} {bs : List Int} {pos rb pb : Nat} {zero row row' : Array Value} (h : GP w0 W T b g bs pos rb pb zero row) (k : Nat) (v : Value) (hrow : row.setIfInBounds k v = row') : GP w0 (W.setCell ⟨pb, k, none⟩ v) T b g bs pos rb pb zero row' := by
  have hf : Frm [pb] W (W.setCell ⟨pb, k, none⟩ v) := (Frm.refl _ _).setCell _ _ (by simp)
  have h1 := h.hp
  have h2 := h.hr
  have h3 := h.hb
  have h4 := h.hg
  exact ⟨h.rd.kept hf (by simp; omega) (by simp; omega), by rw [heap_setCell_same W pb k _ _ _ h.pr, hrow], hf.heap h.rr (by simp; omega), h.fr.trans hf (fun i hi hl => by simp at hi; omega), h.hr, h.hp, h.hb, h.hg⟩
theorem GP.cell {w0 W : World} {T : TypeId} {b g : Nat} {bs : List Int} {pos rb pb : Nat} {zero row : Array Value} (h : GP w0 W T b g bs pos rb pb zero row) (k : Nat) : W.cell? ⟨pb, k, none⟩ = row[k]? := by rw [cell_of_row W _ _ _ _ _ h.pr]
theorem GP.cellR {w0 W : World} {T : TypeId} {b g : Nat} {bs : List Int} {pos rb pb : Nat} {zero row : Array Value} (h : GP w0 W T b g bs pos rb pb zero row) (k : Nat) : W.cell? ⟨rb, k, none⟩ = zero[k]? := by rw [cell_of_row W _ _ _ _ _ h.rr]
theorem GP.froz {w0 W : World} {T : TypeId} {b g : Nat} {bs : List Int} {pos rb pb : Nat} {zero row : Array Value} (h : GP w0 W T b g bs pos rb pb zero row) (k : Nat) : W.frozen? ⟨pb, k, none⟩ = false := frozen_of_row W _ k _ _ h.pr
theorem GP.frozR {w0 W : World} {T : TypeId} {b g : Nat} {bs : List Int} {pos rb pb : Nat} {zero row : Array Value} (h : GP w0 W T b g bs pos rb pb zero row) (k : Nat) : W.frozen? ⟨rb, k, none⟩ = false := frozen_of_row W _ k _ _ h.rr
/-- The beginning: the result's block, then the variable's. -/
theorem GP.born {w : World} {T : TypeId} {b g : Nat} {bs : List Int} {pos : Nat} (zero : Array Value) (h : IsR w b g bs pos 0) : GP w ((w.alloc (.cells zero T)).alloc (.cells zero T)) T b g bs pos w.heap.size (w.heap.size + 1) zero zero := by
  have h1 : Frm [] w (w.alloc (.cells zero T)) := (Frm.refl _ _).alloc _
  have h2 : Frm [] (w.alloc (.cells zero T)) ((w.alloc (.cells zero T)).alloc (.cells zero T)) := (Frm.refl _ _).alloc _
  have h3 := h1.trans h2 (by simp)
  obtain ⟨hl, hg, _⟩ := h.cells
  exact ⟨h.kept h3 (by simp) (by simp), heap_alloc_to _ _ (by simp), h2.heap (heap_alloc_new _ _) (by simp), h3.mono (by simp), Nat.le_refl _, by omega, hl, hg⟩
/-- Stores into one block, one after another. -/
def sets (w : World) (b : Nat) : List (Nat × Value) → World
  | [] => w
  | p :: t => sets (w.setCell ⟨b, p.1, none⟩ p.2) b t
theorem sets_row (b : Nat) (T : TypeId) (l : List (Nat × Value)) : ∀ (w : World) (row : Array Value), w.heap[b]? = some (.cells row T (0, 0)) → (sets w b l).heap[b]? = some (.cells (l.foldl (fun r p => r.setIfInBounds p.1 p.2) row) T (0, 0)) ∧ Frm [b] w (sets w b l) := by
  induction l with
  | nil => intro w row h; exact ⟨h, Frm.refl _ _⟩
  | cons p t ih =>
    intro w row h
    have h1 : (w.setCell ⟨b, p.1, none⟩ p.2).heap[b]? = some (.cells (row.setIfInBounds p.1 p.2) T (0, 0)) := heap_setCell_same _ _ _ _ _ _ h
    obtain ⟨h2, f2⟩ := ih _ _ h1
    exact ⟨h2, ((Frm.refl _ w).setCell _ _ (by simp)).trans f2 (fun i hi _ => hi)⟩
set_option maxHeartbeats 1600000 in
theorem getSum_any (b g pos : Nat) (bs : List Int) (hb : ∀ z ∈ bs, 0 ≤ z ∧ z < 256) (w : World) (hw : IsR w b g bs pos 0) (hp : pos + 32 ≤ bs.length) :
    Calls Try.prog 69 #[.pointer (some ⟨b, 0, none⟩)] w fun e w' => e = .returned (.agg #[.int .u64 (valAt bs pos 8), .int .u64 (valAt bs (pos + 8) 8), .int .u64 (valAt bs (pos + 16) 8), .int .u64 (valAt bs (pos + 24) 8)]) ∧ IsR w' b g bs (pos + 32) 0 ∧ Frm [b] w w' := by
  have HN := hid (fun q W (h : IsR W b g bs q 0) (hq : q + 8 ≤ bs.length) => num_take b g q bs hb 8 W h (by omega) (by omega) hq)
  have HG := hid (GP.born (T := 38) #[.int .u64 0, .int .u64 0, .int .u64 0, .int .u64 0] hw)
  clear hw hb
  obtain ⟨v0, e0⟩ : ∃ v, valAt bs pos 8 = v := ⟨_, rfl⟩
  obtain ⟨v1, e1⟩ : ∃ v, valAt bs (pos + 8) 8 = v := ⟨_, rfl⟩
  obtain ⟨v2, e2⟩ : ∃ v, valAt bs (pos + 16) 8 = v := ⟨_, rfl⟩
  obtain ⟨v3, e3⟩ : ∃ v, valAt bs (pos + 24) 8 = v := ⟨_, rfl⟩
  have E0 := hid e0
  have E1 := hid e1
  have E2 := hid e2
  have E3 := hid e3
  rw [e0, e1, e2, e3]
  clear e0 e1 e2 e3
  go_enter Try.func69, Try.ntmps69
  go_wp2_with fail
  obtain ⟨rb, hrb⟩ : ∃ rb, w.heap.size = rb := ⟨_, rfl⟩
  obtain ⟨wa, hwa⟩ : ∃ wa, (w.alloc (.cells #[.int .u64 0, .int .u64 0, .int .u64 0, .int .u64 0] 38)).alloc (.cells #[.int .u64 0, .int .u64 0, .int .u64 0, .int .u64 0] 38) = wa := ⟨_, rfl⟩
  rw [hwa, hrb] at HG
  rw [hwa, hrb]
  clear hwa hrb
  have h0 := HN.out pos wa HG.out.rd (by omega)
  rw [E0.out] at h0
  refine h0.mono ?_
  rintro e w1 ⟨rfl, hr1, hf1⟩
  have G1 := hid (HG.out.call hr1 hf1)
  clear h0 hr1 hf1 HG
  go_wp2_with fail
  have h1 := HN.out (pos + 8) w1 G1.out.rd (by omega)
  rw [E1.out] at h1
  refine h1.mono ?_
  rintro e w2 ⟨rfl, hr2, hf2⟩
  have G2 := hid (G1.out.call hr2 hf2)
  clear h1 hr2 hf2 G1
  go_wp2_with fail
  have h2 := HN.out (pos + 16) w2 G2.out.rd (by omega)
  rw [E2.out] at h2
  refine h2.mono ?_
  rintro e w3 ⟨rfl, hr3, hf3⟩
  have G3 := hid (G2.out.call hr3 hf3)
  clear h2 hr3 hf3 G2
  go_wp2_with fail
  have h3 := HN.out (pos + 24) w3 G3.out.rd (by omega)
  rw [E3.out] at h3
  refine h3.mono ?_
  rintro e w4 ⟨rfl, hr4, hf4⟩
  have G4 := G3.out.call hr4 hf4
  have q0 : w4.cell? ⟨rb + 1, 0, none⟩ = some (.int .u64 0) := G4.cell 0
  have q1 : w4.cell? ⟨rb + 1, 1, none⟩ = some (.int .u64 0) := G4.cell 1
  have q2 : w4.cell? ⟨rb + 1, 2, none⟩ = some (.int .u64 0) := G4.cell 2
  have q3 : w4.cell? ⟨rb + 1, 3, none⟩ = some (.int .u64 0) := G4.cell 3
  have z0 := G4.froz 0
  have z1 := G4.froz 1
  have z2 := G4.froz 2
  have z3 := G4.froz 3
  have r0 : w4.cell? ⟨rb, 0, none⟩ = some (.int .u64 0) := G4.cellR 0
  have r1 : w4.cell? ⟨rb, 1, none⟩ = some (.int .u64 0) := G4.cellR 1
  have r2 : w4.cell? ⟨rb, 2, none⟩ = some (.int .u64 0) := G4.cellR 2
  have r3 : w4.cell? ⟨rb, 3, none⟩ = some (.int .u64 0) := G4.cellR 3
  have y0 := G4.frozR 0
  have y1 := G4.frozR 1
  have y2 := G4.frozR 2
  have y3 := G4.frozR 3
  have G5 := hid ((((G4.set 0 (.int .u64 v0) rfl).set 1 (.int .u64 v1) rfl).set 2 (.int .u64 v2) rfl).set 3 (.int .u64 v3) rfl)
  clear h3 hr4 hf4 G3 G4
  go_wp2_with fail
  obtain ⟨w5, hw5⟩ : ∃ w5, (((w4.setCell ⟨rb + 1, 0, none⟩ (.int .u64 v0)).setCell ⟨rb + 1, 1, none⟩ (.int .u64 v1)).setCell ⟨rb + 1, 2, none⟩ (.int .u64 v2)).setCell ⟨rb + 1, 3, none⟩ (.int .u64 v3) = w5 := ⟨_, rfl⟩
  rw [hw5] at G5
  obtain ⟨h4, f4⟩ := sets_row rb 38 [(0, .int .u64 v0), (1, .int .u64 v1), (2, .int .u64 v2), (3, .int .u64 v3)] w5 _ G5.out.rr
  obtain ⟨wz, hwz⟩ : ∃ wz, sets w5 rb [(0, .int .u64 v0), (1, .int .u64 v1), (2, .int .u64 v2), (3, .int .u64 v3)] = wz := ⟨_, rfl⟩
  rw [hw5]
  rw [hwz] at h4 f4
  have hwz' : (((w5.setCell ⟨rb, 0, none⟩ (.int .u64 v0)).setCell ⟨rb, 1, none⟩ (.int .u64 v1)).setCell ⟨rb, 2, none⟩ (.int .u64 v2)).setCell ⟨rb, 3, none⟩ (.int .u64 v3) = wz := hwz
  rw [hwz']
  have g0 : wz.cell? ⟨rb, 0, none⟩ = some (.int .u64 v0) := by rw [cell_of_row wz _ _ _ _ _ h4]; rfl
  have g1 : wz.cell? ⟨rb, 1, none⟩ = some (.int .u64 v1) := by rw [cell_of_row wz _ _ _ _ _ h4]; rfl
  have g2 : wz.cell? ⟨rb, 2, none⟩ = some (.int .u64 v2) := by rw [cell_of_row wz _ _ _ _ _ h4]; rfl
  have g3 : wz.cell? ⟨rb, 3, none⟩ = some (.int .u64 v3) := by rw [cell_of_row wz _ _ _ _ _ h4]; rfl
  have gb := G5.out.hb
  have gg := G5.out.hg
  have gr := G5.out.hr
  refine bodyPost_ret (v := .agg #[.int .u64 v0, .int .u64 v1, .int .u64 v2, .int .u64 v3]) (by simp [results, Try.results69, go_sem, g0, g1, g2, g3]) rfl ⟨rfl, G5.out.rd.kept f4 (by simp; omega) (by simp; omega), G5.out.fr.trans f4 (fun i hi hl => by simp at hi; omega)⟩
end
section
open Go.RowKit
set_option maxRecDepth 100000

/-- The pointer that stands at a place. -/
def rdP (bs : List Int) (pos : Nat) : P9 := ⟨valAt bs pos 1, valAt bs (pos + 4) 4, valAt bs (pos + 2) 2, valAt bs (pos + 8) 8, valAt bs (pos + 1) 1, valAt bs (pos + 16) 8, valAt bs (pos + 24) 8, valAt bs (pos + 32) 8, valAt bs (pos + 40) 8⟩
def zeroP : Array Value := #[.int .i64 0, .int .i64 0, .int .i64 0, .int .u64 0, .int .i64 0, .int .u64 0, .int .u64 0, .int .u64 0, .int .u64 0]
set_option maxHeartbeats 3200000 in
theorem getPtr_any (b g pos : Nat) (bs : List Int) (hb : ∀ z ∈ bs, 0 ≤ z ∧ z < 256) (w : World) (hw : IsR w b g bs pos 0) (hp : pos + 48 ≤ bs.length) :
    Calls Try.prog 53 #[.pointer (some ⟨b, 0, none⟩)] w fun e w' => e = .returned (.tuple #[.agg (rdP bs pos).arr, .bool true]) ∧ IsR w' b g bs (pos + 48) 0 ∧ Frm [b] w w' := by
  have HN := hid (fun q k W (h : IsR W b g bs q 0) (h1 : 1 ≤ k) (h8 : k ≤ 8) (hq : q + k ≤ bs.length) => num_take b g q bs hb k W h h1 h8 hq)
  have HS := hid (fun q W (h : IsR W b g bs q 0) (hq : q + 32 ≤ bs.length) => getSum_any b g q bs hb W h hq)
  have HG := hid (GP.born (T := 40) zeroP hw)
  clear hw
  have hsum : ∀ (q : Nat), ∃ v, valAt bs q 8 = v := fun q => ⟨_, rfl⟩
  unfold rdP P9.arr
  obtain ⟨v0, e0⟩ : ∃ v, valAt bs pos 1 = v := ⟨_, rfl⟩
  have E0 := hid e0
  obtain ⟨l0, u0⟩ := valAt_bd hb pos 1 (by omega)
  rw [e0] at l0 u0 ⊢
  simp only [Nat.reduceMul, Int.reducePow] at u0
  clear e0
  obtain ⟨v1, e1⟩ : ∃ v, valAt bs (pos + 1) 1 = v := ⟨_, rfl⟩
  have E1 := hid e1
  obtain ⟨l1, u1⟩ := valAt_bd hb (pos + 1) 1 (by omega)
  rw [e1] at l1 u1 ⊢
  simp only [Nat.reduceMul, Int.reducePow] at u1
  clear e1
  obtain ⟨v2, e2⟩ : ∃ v, valAt bs (pos + 2) 2 = v := ⟨_, rfl⟩
  have E2 := hid e2
  obtain ⟨l2, u2⟩ := valAt_bd hb (pos + 2) 2 (by omega)
  rw [e2] at l2 u2 ⊢
  simp only [Nat.reduceMul, Int.reducePow] at u2
  clear e2
  obtain ⟨v3, e3⟩ : ∃ v, valAt bs (pos + 4) 4 = v := ⟨_, rfl⟩
  have E3 := hid e3
  obtain ⟨l3, u3⟩ := valAt_bd hb (pos + 4) 4 (by omega)
  rw [e3] at l3 u3 ⊢
  simp only [Nat.reduceMul, Int.reducePow] at u3
  clear e3
  obtain ⟨v4, e4⟩ : ∃ v, valAt bs (pos + 8) 8 = v := ⟨_, rfl⟩
  have E4 := hid e4
  obtain ⟨l4, u4⟩ := valAt_bd hb (pos + 8) 8 (by omega)
  rw [e4] at l4 u4 ⊢
  simp only [Nat.reduceMul, Int.reducePow] at u4
  clear e4
  obtain ⟨s0, d0⟩ : ∃ v, valAt bs (pos + 16) 8 = v := ⟨_, rfl⟩
  rw [d0]
  have D0 := hid d0
  clear d0
  obtain ⟨s1, d1⟩ : ∃ v, valAt bs (pos + 24) 8 = v := ⟨_, rfl⟩
  rw [d1]
  have D1 := hid d1
  clear d1
  obtain ⟨s2, d2⟩ : ∃ v, valAt bs (pos + 32) 8 = v := ⟨_, rfl⟩
  rw [d2]
  have D2 := hid d2
  clear d2
  obtain ⟨s3, d3⟩ : ∃ v, valAt bs (pos + 40) 8 = v := ⟨_, rfl⟩
  rw [d3]
  have D3 := hid d3
  clear d3
  clear hb hsum
  go_enter Try.func53, Try.ntmps53
  go_wp2_with fail
  unfold zeroP at HG
  obtain ⟨rb, hrb⟩ : ∃ rb, w.heap.size = rb := ⟨_, rfl⟩
  obtain ⟨wa, hwa⟩ : ∃ wa, (w.alloc (.cells #[.int .i64 0, .int .i64 0, .int .i64 0, .int .u64 0, .int .i64 0, .int .u64 0, .int .u64 0, .int .u64 0, .int .u64 0] 40)).alloc (.cells #[.int .i64 0, .int .i64 0, .int .i64 0, .int .u64 0, .int .i64 0, .int .u64 0, .int .u64 0, .int .u64 0, .int .u64 0] 40) = wa := ⟨_, rfl⟩
  rw [hwa, hrb] at HG
  rw [hwa, hrb]
  clear hwa hrb
  have h0 := HN.out pos 1 _ HG.out.rd (by omega) (by omega) (by omega)
  rw [E0.out] at h0
  refine h0.mono ?_
  rintro e w0 ⟨rfl, hr, hf⟩
  have A0 := HG.out.call hr hf
  have q0 : w0.cell? ⟨rb + 1, 0, none⟩ = some (.int .i64 0) := A0.cell 0
  have z0 := A0.froz 0
  have G0 := hid (A0.set 0 (.int .i64 v0) rfl)
  clear h0 hr hf A0 HG
  go_wp2_with fail
  clear q0 z0
  have h1 := HN.out (pos + 1) 1 _ G0.out.rd (by omega) (by omega) (by omega)
  rw [E1.out] at h1
  refine h1.mono ?_
  rintro e w1 ⟨rfl, hr, hf⟩
  have A1 := G0.out.call hr hf
  have q1 : w1.cell? ⟨rb + 1, 4, none⟩ = some (.int .i64 0) := A1.cell 4
  have z1 := A1.froz 4
  have G1 := hid (A1.set 4 (.int .i64 v1) rfl)
  clear h1 hr hf A1 G0
  go_wp2_with fail
  clear q1 z1
  have h2 := HN.out (pos + 2) 2 _ G1.out.rd (by omega) (by omega) (by omega)
  rw [E2.out] at h2
  refine h2.mono ?_
  rintro e w2 ⟨rfl, hr, hf⟩
  have A2 := G1.out.call hr hf
  have q2 : w2.cell? ⟨rb + 1, 2, none⟩ = some (.int .i64 0) := A2.cell 2
  have z2 := A2.froz 2
  have G2 := hid (A2.set 2 (.int .i64 v2) rfl)
  clear h2 hr hf A2 G1
  go_wp2_with fail
  clear q2 z2
  have h3 := HN.out (pos + 4) 4 _ G2.out.rd (by omega) (by omega) (by omega)
  rw [E3.out] at h3
  refine h3.mono ?_
  rintro e w3 ⟨rfl, hr, hf⟩
  have A3 := G2.out.call hr hf
  have q3 : w3.cell? ⟨rb + 1, 1, none⟩ = some (.int .i64 0) := A3.cell 1
  have z3 := A3.froz 1
  have G3 := hid (A3.set 1 (.int .i64 v3) rfl)
  clear h3 hr hf A3 G2
  go_wp2_with fail
  clear q3 z3
  have h4 := HN.out (pos + 8) 8 _ G3.out.rd (by omega) (by omega) (by omega)
  rw [E4.out] at h4
  refine h4.mono ?_
  rintro e w4 ⟨rfl, hr, hf⟩
  have A4 := G3.out.call hr hf
  have q4 : w4.cell? ⟨rb + 1, 3, none⟩ = some (.int .u64 0) := A4.cell 3
  have z4 := A4.froz 3
  have G4 := hid (A4.set 3 (.int .u64 v4) rfl)
  clear h4 hr hf A4 G3
  go_wp2_with fail
  clear q4 z4
  have h5 := HS.out (pos + 16) _ G4.out.rd (by omega)
  rw [D0.out, show pos + 16 + 8 = pos + 24 by omega, show pos + 16 + 16 = pos + 32 by omega, show pos + 16 + 24 = pos + 40 by omega, D1.out, D2.out, D3.out] at h5
  refine h5.mono ?_
  rintro e w5 ⟨rfl, hr, hf⟩
  have A5 := G4.out.call hr hf
  have p0 : w5.cell? ⟨rb + 1, 0, none⟩ = some (.int .i64 v0) := A5.cell 0
  have z0 := A5.froz 0
  have r0 : w5.cell? ⟨rb, 0, none⟩ = some (.int .i64 0) := A5.cellR 0
  have y0 := A5.frozR 0
  have p1 : w5.cell? ⟨rb + 1, 1, none⟩ = some (.int .i64 v3) := A5.cell 1
  have z1 := A5.froz 1
  have r1 : w5.cell? ⟨rb, 1, none⟩ = some (.int .i64 0) := A5.cellR 1
  have y1 := A5.frozR 1
  have p2 : w5.cell? ⟨rb + 1, 2, none⟩ = some (.int .i64 v2) := A5.cell 2
  have z2 := A5.froz 2
  have r2 : w5.cell? ⟨rb, 2, none⟩ = some (.int .i64 0) := A5.cellR 2
  have y2 := A5.frozR 2
  have p3 : w5.cell? ⟨rb + 1, 3, none⟩ = some (.int .u64 v4) := A5.cell 3
  have z3 := A5.froz 3
  have r3 : w5.cell? ⟨rb, 3, none⟩ = some (.int .u64 0) := A5.cellR 3
  have y3 := A5.frozR 3
  have p4 : w5.cell? ⟨rb + 1, 4, none⟩ = some (.int .i64 v1) := A5.cell 4
  have z4 := A5.froz 4
  have r4 : w5.cell? ⟨rb, 4, none⟩ = some (.int .i64 0) := A5.cellR 4
  have y4 := A5.frozR 4
  have p5 : w5.cell? ⟨rb + 1, 5, none⟩ = some (.int .u64 0) := A5.cell 5
  have z5 := A5.froz 5
  have r5 : w5.cell? ⟨rb, 5, none⟩ = some (.int .u64 0) := A5.cellR 5
  have y5 := A5.frozR 5
  have p6 : w5.cell? ⟨rb + 1, 6, none⟩ = some (.int .u64 0) := A5.cell 6
  have z6 := A5.froz 6
  have r6 : w5.cell? ⟨rb, 6, none⟩ = some (.int .u64 0) := A5.cellR 6
  have y6 := A5.frozR 6
  have p7 : w5.cell? ⟨rb + 1, 7, none⟩ = some (.int .u64 0) := A5.cell 7
  have z7 := A5.froz 7
  have r7 : w5.cell? ⟨rb, 7, none⟩ = some (.int .u64 0) := A5.cellR 7
  have y7 := A5.frozR 7
  have p8 : w5.cell? ⟨rb + 1, 8, none⟩ = some (.int .u64 0) := A5.cell 8
  have z8 := A5.froz 8
  have r8 : w5.cell? ⟨rb, 8, none⟩ = some (.int .u64 0) := A5.cellR 8
  have y8 := A5.frozR 8
  have G5 := hid ((((A5.set 5 (.int .u64 s0) rfl).set 6 (.int .u64 s1) rfl).set 7 (.int .u64 s2) rfl).set 8 (.int .u64 s3) rfl)
  clear h5 hr hf A5 G4
  go_wp2_with fail
  obtain ⟨w6, hw6⟩ : ∃ w6, (((w5.setCell ⟨rb + 1, 5, none⟩ (.int .u64 s0)).setCell ⟨rb + 1, 6, none⟩ (.int .u64 s1)).setCell ⟨rb + 1, 7, none⟩ (.int .u64 s2)).setCell ⟨rb + 1, 8, none⟩ (.int .u64 s3) = w6 := ⟨_, rfl⟩
  rw [hw6] at G5 ⊢
  obtain ⟨h4, f4⟩ := sets_row rb 40 [(0, .int .i64 v0), (1, .int .i64 v3), (2, .int .i64 v2), (3, .int .u64 v4), (4, .int .i64 v1), (5, .int .u64 s0), (6, .int .u64 s1), (7, .int .u64 s2), (8, .int .u64 s3)] w6 _ G5.out.rr
  obtain ⟨wz, hwz⟩ : ∃ wz, sets w6 rb [(0, .int .i64 v0), (1, .int .i64 v3), (2, .int .i64 v2), (3, .int .u64 v4), (4, .int .i64 v1), (5, .int .u64 s0), (6, .int .u64 s1), (7, .int .u64 s2), (8, .int .u64 s3)] = wz := ⟨_, rfl⟩
  rw [hwz] at h4 f4
  simp only [List.foldl, List.setIfInBounds_toArray, List.set_cons_zero, List.set_cons_succ] at h4
  have hwz' : ((((((((w6.setCell ⟨rb, 0, none⟩ (.int .i64 v0)).setCell ⟨rb, 1, none⟩ (.int .i64 v3)).setCell ⟨rb, 2, none⟩ (.int .i64 v2)).setCell ⟨rb, 3, none⟩ (.int .u64 v4)).setCell ⟨rb, 4, none⟩ (.int .i64 v1)).setCell ⟨rb, 5, none⟩ (.int .u64 s0)).setCell ⟨rb, 6, none⟩ (.int .u64 s1)).setCell ⟨rb, 7, none⟩ (.int .u64 s2)).setCell ⟨rb, 8, none⟩ (.int .u64 s3) = wz := hwz
  rw [hwz']
  have g0 : wz.cell? ⟨rb, 0, none⟩ = some (.int .i64 v0) := by rw [cell_of_row wz _ _ _ _ _ h4]; rfl
  have g1 : wz.cell? ⟨rb, 1, none⟩ = some (.int .i64 v3) := by rw [cell_of_row wz _ _ _ _ _ h4]; rfl
  have g2 : wz.cell? ⟨rb, 2, none⟩ = some (.int .i64 v2) := by rw [cell_of_row wz _ _ _ _ _ h4]; rfl
  have g3 : wz.cell? ⟨rb, 3, none⟩ = some (.int .u64 v4) := by rw [cell_of_row wz _ _ _ _ _ h4]; rfl
  have g4 : wz.cell? ⟨rb, 4, none⟩ = some (.int .i64 v1) := by rw [cell_of_row wz _ _ _ _ _ h4]; rfl
  have g5 : wz.cell? ⟨rb, 5, none⟩ = some (.int .u64 s0) := by rw [cell_of_row wz _ _ _ _ _ h4]; rfl
  have g6 : wz.cell? ⟨rb, 6, none⟩ = some (.int .u64 s1) := by rw [cell_of_row wz _ _ _ _ _ h4]; rfl
  have g7 : wz.cell? ⟨rb, 7, none⟩ = some (.int .u64 s2) := by rw [cell_of_row wz _ _ _ _ _ h4]; rfl
  have g8 : wz.cell? ⟨rb, 8, none⟩ = some (.int .u64 s3) := by rw [cell_of_row wz _ _ _ _ _ h4]; rfl
  have gb := G5.out.hb
  have gg := G5.out.hg
  have gr := G5.out.hr
  refine bodyPost_ret (v := .tuple #[.agg #[.int .i64 v0, .int .i64 v3, .int .i64 v2, .int .u64 v4, .int .i64 v1, .int .u64 s0, .int .u64 s1, .int .u64 s2, .int .u64 s3], .bool true]) (by simp [results, Try.results53, go_sem, g0, g1, g2, g3, g4, g5, g6, g7, g8]) rfl ⟨rfl, G5.out.rd.kept f4 (by simp; omega) (by simp; omega), G5.out.fr.trans f4 (fun i hi hl => by simp at hi; omega)⟩
end
section
open Go.RowKit
set_option maxRecDepth 100000

def zero9 : P9 := ⟨0, 0, 0, 0, 0, 0, 0, 0, 0⟩
/-- Noughts to the end, taken up. -/
theorem pad_end (bs : List Int) (q L : Nat) (hL : bs.length = L) (hq : q ≤ L) :
    readS () q 0 (padT (bs.drop q) q (L : Int)) = if (bs.drop q).all (· == 0) then ((), L, 0) else ((), q, 14) := by
  have hlen : (bs.drop q).length = L - q := by rw [List.length_drop, hL]
  rw [readS_ok]
  unfold padT
  rw [if_neg (by omega), if_neg (by rw [hlen]; omega), show ((L : Int) - q).toNat = L - q by omega, List.take_of_length_le (by omega)]
  by_cases h : (bs.drop q).all (· == 0) = true
  · rw [if_neg (by rw [h]; simp), if_pos h]
    simp
    omega
  · rw [if_pos (by simpa using h), if_neg h]
    simp
/-- What Decode answers. -/
def decP (bs : List Int) : P9 × Int :=
  if bs.length ≠ 64 then (zero9, 41) else if (bs.drop 48).all (· == 0) = false then (zero9, 41) else if checkP (rdP bs 0) = 0 then (rdP bs 0, 0) else (zero9, checkP (rdP bs 0))
/-- A pointer is stored. -/
def st9 (w : World) (b : Nat) (p : P9) : World :=
  ((((((((w.setCell ⟨b, 0, none⟩ (.int .i64 p.top)).setCell ⟨b, 1, none⟩ (.int .i64 p.at_)).setCell ⟨b, 2, none⟩ (.int .i64 p.bytes)).setCell ⟨b, 3, none⟩ (.int .u64 p.birth)).setCell ⟨b, 4, none⟩ (.int .i64 p.kind)).setCell ⟨b, 5, none⟩ (.int .u64 p.sa)).setCell ⟨b, 6, none⟩ (.int .u64 p.sb)).setCell ⟨b, 7, none⟩ (.int .u64 p.sc)).setCell ⟨b, 8, none⟩ (.int .u64 p.sd)
theorem st9_row {w : World} {b : Nat} {T : TypeId} (p q : P9) (h : w.heap[b]? = some (.cells q.arr T (0, 0))) : (st9 w b p).heap[b]? = some (.cells p.arr T (0, 0)) ∧ Frm [b] w (st9 w b p) := by
  have h4 := sets_row b T [(0, .int .i64 p.top), (1, .int .i64 p.at_), (2, .int .i64 p.bytes), (3, .int .u64 p.birth), (4, .int .i64 p.kind), (5, .int .u64 p.sa), (6, .int .u64 p.sb), (7, .int .u64 p.sc), (8, .int .u64 p.sd)] w q.arr h
  unfold P9.arr at h4 ⊢
  simp only [List.foldl, List.setIfInBounds_toArray, List.set_cons_zero, List.set_cons_succ] at h4
  exact h4
theorem ptr_row {W : World} {pb : Nat} {p : P9} {T : TypeId} (h : W.heap[pb]? = some (.cells p.arr T (0, 0))) :
    W.cell? ⟨pb, 0, none⟩ = some (.int .i64 p.top) ∧ W.cell? ⟨pb, 1, none⟩ = some (.int .i64 p.at_) ∧ W.cell? ⟨pb, 2, none⟩ = some (.int .i64 p.bytes) ∧ W.cell? ⟨pb, 3, none⟩ = some (.int .u64 p.birth) ∧ W.cell? ⟨pb, 4, none⟩ = some (.int .i64 p.kind) ∧ W.cell? ⟨pb, 5, none⟩ = some (.int .u64 p.sa) ∧ W.cell? ⟨pb, 6, none⟩ = some (.int .u64 p.sb) ∧ W.cell? ⟨pb, 7, none⟩ = some (.int .u64 p.sc) ∧ W.cell? ⟨pb, 8, none⟩ = some (.int .u64 p.sd) := by
  refine ⟨?_, ?_, ?_, ?_, ?_, ?_, ?_, ?_, ?_⟩ <;> (rw [cell_of_row W _ _ _ _ _ h]; rfl)
theorem ptr_froz {W : World} {pb : Nat} {p : P9} {T : TypeId} (h : W.heap[pb]? = some (.cells p.arr T (0, 0))) :
    W.frozen? ⟨pb, 0, none⟩ = false ∧ W.frozen? ⟨pb, 1, none⟩ = false ∧ W.frozen? ⟨pb, 2, none⟩ = false ∧ W.frozen? ⟨pb, 3, none⟩ = false ∧ W.frozen? ⟨pb, 4, none⟩ = false ∧ W.frozen? ⟨pb, 5, none⟩ = false ∧ W.frozen? ⟨pb, 6, none⟩ = false ∧ W.frozen? ⟨pb, 7, none⟩ = false ∧ W.frozen? ⟨pb, 8, none⟩ = false :=
  ⟨frozen_of_row W pb 0 _ _ h, frozen_of_row W pb 1 _ _ h, frozen_of_row W pb 2 _ _ h, frozen_of_row W pb 3 _ _ h, frozen_of_row W pb 4 _ _ h, frozen_of_row W pb 5 _ _ h, frozen_of_row W pb 6 _ _ h, frozen_of_row W pb 7 _ _ h, frozen_of_row W pb 8 _ _ h⟩
/-- A result's block, a nought's, and the thing's. -/
structure TK (w0 W : World) (T : TypeId) (z p : Array Value) (rb tb : Nat) : Prop where
  rr : W.heap[rb]? = some (.cells z T (0, 0))
  nr : W.heap[rb + 1]? = some (.cells z T (0, 0))
  tr : W.heap[tb]? = some (.cells p T (0, 0))
  fr : Frm [] w0 W
  hr : w0.heap.size ≤ rb
theorem TK.call {w0 W W' : World} {T : TypeId} {z p : Array Value} {rb tb : Nat} {S : List Nat} (h : TK w0 W T z p rb tb) (hf : Frm S W W') (h1 : rb ∉ S) (h2 : rb + 1 ∉ S) (h3 : tb ∉ S) (h4 : ∀ i ∈ S, w0.heap.size ≤ i) : TK w0 W' T z p rb tb :=
  ⟨hf.heap h.rr h1, hf.heap h.nr h2, hf.heap h.tr h3, h.fr.trans hf (fun i hi hl => by have := h4 i hi; omega), h.hr⟩
/-- Two new blocks of one kind. -/
theorem GP2.born {T : TypeId} (w : World) (z : P9) : ((w.alloc (.cells z.arr T)).alloc (.cells z.arr T)).heap[w.heap.size]? = some (.cells z.arr T (0, 0)) ∧ ((w.alloc (.cells z.arr T)).alloc (.cells z.arr T)).heap[w.heap.size + 1]? = some (.cells z.arr T (0, 0)) ∧ Frm [] w ((w.alloc (.cells z.arr T)).alloc (.cells z.arr T)) := by
  have h2 : Frm [] (w.alloc (.cells z.arr T)) ((w.alloc (.cells z.arr T)).alloc (.cells z.arr T)) := (Frm.refl _ _).alloc _
  exact ⟨h2.heap (heap_alloc_new _ _) (by simp), heap_alloc_to _ _ (by simp), ((Frm.refl _ _).alloc _).trans h2 (by simp)⟩
set_option maxHeartbeats 3200000 in
theorem takePtr_any (ad : Option Addr) (n c : Nat) (bs : List Int) (w : World) (hn : bs.length = n) (hl : n ≤ 140737488355328) (hrd : Rd w ad bs) (hb : ∀ z ∈ bs, 0 ≤ z ∧ z < 256) :
    Calls Try.prog 52 #[.slice ad n c, .int .i64 64, .func (.func 53) #[] #[], .int .i64 41, .func (.func 46) #[] #[]] w fun e w' => e = .returned (.tuple #[.agg (decP bs).1.arr, .int .i64 (decP bs).2]) ∧ Frm [] w w' := by
  have HRD := hid hrd
  have HB := hid hb
  have HN := hid hn
  clear hrd hb hn
  have hZ : zero9.arr = #[.int .i64 0, .int .i64 0, .int .i64 0, .int .u64 0, .int .i64 0, .int .u64 0, .int .u64 0, .int .u64 0, .int .u64 0] := rfl
  have HZ := hid hZ
  have hcf0 := fun b W => callable (P := Try.prog) Try.func53 (by kernel_rfl) (by kernel_rfl) #[.pointer (some ⟨b, 0, none⟩)] W
  by_cases h64 : n = 64
  case neg =>
    have hne : ((n : Int) != 64) = true := by simp; omega
    have hd : decP bs = (zero9, 41) := by unfold decP; rw [if_pos (by rw [HN.out]; exact h64)]
    rw [hd]
    dsimp only
    rw [hZ]
    clear hZ hd
    go_enter Try.func52, Try.ntmps52
    go_wp2_with fail
    go_returns
    exact ⟨rfl, (((Frm.refl [] w).alloc _).trans ((Frm.refl [] _).alloc _) (by simp))⟩
  subst h64
  obtain ⟨p, hp⟩ : ∃ p, rdP bs 0 = p := ⟨_, rfl⟩
  obtain ⟨R, hR⟩ : ∃ R, decP bs = R := ⟨_, rfl⟩
  obtain ⟨C, hC⟩ : ∃ C, checkP p = C := ⟨_, rfl⟩
  have hR1 : (bs.drop 48).all (· == 0) = false → R = (zero9, 41) := fun h => by rw [← hR]; unfold decP; rw [if_neg (by rw [HN.out]; omega), if_pos h]
  have hR2 : (bs.drop 48).all (· == 0) = true → C = 0 → R = (p, 0) := fun h h0 => by rw [← hR]; unfold decP; rw [if_neg (by rw [HN.out]; omega), if_neg (by rw [h]; simp), hp, hC, if_pos h0]
  have hR3 : (bs.drop 48).all (· == 0) = true → C ≠ 0 → R = (zero9, C) := fun h h0 => by rw [← hR]; unfold decP; rw [if_neg (by rw [HN.out]; omega), if_neg (by rw [h]; simp), hp, hC, if_neg h0]
  have HR1 := hid hR1
  have HR2 := hid hR2
  have HR3 := hid hR3
  have HG := hid (fun b g W (h : IsR W b g bs 0 0) => getPtr_any b g 0 bs HB.out W h (by rw [HN.out]; omega))
  have HCK := hid (fun W => check9_any p W)
  have HBN := hid (GP2.born (T := 40) w zero9)
  rw [hp] at HG
  rw [hC] at HCK
  rw [hR]
  rw [hZ] at HBN
  unfold P9.arr at HG HCK
  clear hp hZ hR1 hR2 hR3 hC hR
  go_enter Try.func52, Try.ntmps52
  go_wp2_with fail
  obtain ⟨rb, hrb⟩ : ∃ rb, w.heap.size = rb := ⟨_, rfl⟩
  obtain ⟨wa, hwa⟩ : ∃ wa, (w.alloc (.cells #[.int .i64 0, .int .i64 0, .int .i64 0, .int .u64 0, .int .i64 0, .int .u64 0, .int .u64 0, .int .u64 0, .int .u64 0] 40)).alloc (.cells #[.int .i64 0, .int .i64 0, .int .i64 0, .int .u64 0, .int .i64 0, .int .u64 0, .int .u64 0, .int .u64 0, .int .u64 0] 40) = wa := ⟨_, rfl⟩
  rw [hwa, hrb] at HBN
  rw [hwa, hrb]
  have HRB := hid hrb
  clear hwa hrb
  have h1 := newReader_any ad c bs wa (HRD.out.kept HBN.out.2.2 (by simp)) (by rw [HN.out]; omega)
  rw [HN.out] at h1
  refine h1.mono ?_
  rintro e w1 ⟨b, g, rfl, hr, hf, hb1, hg1⟩
  have HBN1 := hid (And.intro (hf.heap HBN.out.1 (by simp)) (And.intro (hf.heap HBN.out.2.1 (by simp)) (HBN.out.2.2.trans hf (by simp))))
  have HRR := hid hr
  have hlt := lt_of_heap HBN.out.2.1
  have HBG : Hid (rb + 1 < b ∧ rb + 1 < g) := hid ⟨by omega, by omega⟩
  clear h1 hr hf hb1 hg1 HBN hlt
  go_wp2_with fail
  refine (HG.out b g w1 HRR.out).mono ?_
  rintro e w2 ⟨rfl, hr2, hf2⟩
  have HR2' := hid hr2
  have HBN2 := hid (And.intro (hf2.heap HBN1.out.1 (by simp; have := HBG.out; omega)) (And.intro (hf2.heap HBN1.out.2.1 (by simp; have := HBG.out; omega)) (HBN1.out.2.2.trans hf2 (fun i hi hl => by simp at hi; have := HBG.out; have := HRB.out; omega))))
  have HLT := hid (And.intro (lt_of_heap hr2.1) (lt_of_heap hr2.2.1))
  clear hr2 hf2 HBN1 HRR
  go_wp2_with fail
  obtain ⟨tb, htb⟩ : ∃ tb, w2.heap.size = tb := ⟨_, rfl⟩
  have hfa : Frm [] w2 (w2.alloc (.cells #[.int .i64 p.top, .int .i64 p.at_, .int .i64 p.bytes, .int .u64 p.birth, .int .i64 p.kind, .int .u64 p.sa, .int .u64 p.sb, .int .u64 p.sc, .int .u64 p.sd] 40)) := (Frm.refl _ _).alloc _
  have htr := heap_alloc_new w2 (.cells #[.int .i64 p.top, .int .i64 p.at_, .int .i64 p.bytes, .int .u64 p.birth, .int .i64 p.kind, .int .u64 p.sa, .int .u64 p.sb, .int .u64 p.sc, .int .u64 p.sd] 40)
  obtain ⟨w3, hw3⟩ : ∃ w3, w2.alloc (.cells #[.int .i64 p.top, .int .i64 p.at_, .int .i64 p.bytes, .int .u64 p.birth, .int .i64 p.kind, .int .u64 p.sa, .int .u64 p.sb, .int .u64 p.sc, .int .u64 p.sd] 40) = w3 := ⟨_, rfl⟩
  rw [hw3] at hfa
  rw [hw3, htb] at htr
  have HLT2 : Hid (b < tb ∧ g < tb) := hid (by rw [← htb]; exact HLT.out)
  rw [hw3, htb]
  have HT : Hid (TK w w3 40 #[.int .i64 0, .int .i64 0, .int .i64 0, .int .u64 0, .int .i64 0, .int .u64 0, .int .u64 0, .int .u64 0, .int .u64 0] #[.int .i64 p.top, .int .i64 p.at_, .int .i64 p.bytes, .int .u64 p.birth, .int .i64 p.kind, .int .u64 p.sa, .int .u64 p.sb, .int .u64 p.sc, .int .u64 p.sd] rb tb) := hid ⟨hfa.heap HBN2.out.1 (by simp), hfa.heap HBN2.out.2.1 (by simp), htr, HBN2.out.2.2.trans hfa (by simp), by rw [HRB.out]; exact Nat.le_refl _⟩
  have HR3' := hid (HR2'.out.kept hfa (by simp) (by simp))
  clear hfa htr hw3 htb HBN2 HLT HR2'
  have hpe : readS () 48 0 (padT (bs.drop 48) 48 64) = if (bs.drop 48).all (· == 0) then ((), 64, 0) else ((), 48, 14) := pad_end bs 48 64 HN.out (by omega)
  have h4 := padR_any b g 48 bs 0 64 w3 HR3'.out (by omega) (by omega)
  rw [hpe] at h4
  refine h4.mono ?_
  clear h4 hpe HR3'
  rintro e w4 ⟨rfl, hr4, hf4⟩
  have HT4 := hid (HT.out.call hf4 (by simp; have := HBG.out; omega) (by simp; have := HBG.out; omega) (by simp; have := HLT2.out; omega) (fun i hi => by simp at hi; have := HBG.out; have := HRB.out; omega))
  clear hf4 HT
  by_cases hall : (bs.drop 48).all (· == 0) = true
  · rw [if_pos hall] at hr4
    have HR4 := hid hr4
    have HA := hid hall
    clear hr4 hall
    go_wp2_with fail
    have h5 := doneR_any b g 64 bs 0 w4 HR4.out
    rw [show doneS bs.length 64 0 = 0 by unfold doneS; rw [if_neg (by rw [HN.out]; omega)]] at h5
    refine h5.mono ?_
    clear h5
    rintro e w5 ⟨rfl, nq, hq⟩
    have hf5 : Frm [] w4 w5 := by rw [hq]; exact (Frm.refl _ _).drewN _
    have HT5 := hid (HT4.out.call hf5 (by simp) (by simp) (by simp) (by simp))
    clear hq hf5 HT4 HR4
    obtain ⟨q0, q1, q2, q3, q4, q5, q6, q7, q8⟩ := ptr_row (p := p) HT5.out.tr
    go_wp2_with fail
    refine (HCK.out w5).mono ?_
    rintro e w6 ⟨rfl, hf6⟩
    have HT6 := hid (HT5.out.call hf6 (by simp) (by simp) (by simp) (by simp))
    clear hf6 HT5 q0 q1 q2 q3 q4 q5 q6 q7 q8
    by_cases hC0 : C = 0
    · subst hC0
      obtain ⟨q0, q1, q2, q3, q4, q5, q6, q7, q8⟩ := ptr_row (p := p) HT6.out.tr
      obtain ⟨y0, y1, y2, y3, y4, y5, y6, y7, y8⟩ := ptr_row (p := zero9) HT6.out.rr
      obtain ⟨z0, z1, z2, z3, z4, z5, z6, z7, z8⟩ := ptr_froz (p := zero9) HT6.out.rr
      go_wp2_with fail
      show bodyPost _ _ _ _ _ (st9 w6 rb p)
      obtain ⟨h9, f9⟩ := st9_row p zero9 HT6.out.rr
      obtain ⟨wz, hwz⟩ : ∃ wz, st9 w6 rb p = wz := ⟨_, rfl⟩
      rw [hwz] at h9 f9 ⊢
      obtain ⟨g0, g1, g2, g3, g4, g5, g6, g7, g8⟩ := ptr_row (p := p) h9
      clear hwz
      exact bodyPost_ret (v := .tuple #[.agg #[.int .i64 p.top, .int .i64 p.at_, .int .i64 p.bytes, .int .u64 p.birth, .int .i64 p.kind, .int .u64 p.sa, .int .u64 p.sb, .int .u64 p.sc, .int .u64 p.sd], .int .i64 0]) (by simp [results, Try.results52, go_sem, g0, g1, g2, g3, g4, g5, g6, g7, g8]) rfl ⟨by rw [HR2.out HA.out trivial]; rfl, HT6.out.fr.trans f9 (fun i hi hl => by simp at hi; have := HT6.out.hr; omega)⟩
    · have hb : (C != 0) = true := by simpa using hC0
      obtain ⟨q0, q1, q2, q3, q4, q5, q6, q7, q8⟩ := ptr_row (p := zero9) HT6.out.nr
      obtain ⟨y0, y1, y2, y3, y4, y5, y6, y7, y8⟩ := ptr_row (p := zero9) HT6.out.rr
      obtain ⟨z0, z1, z2, z3, z4, z5, z6, z7, z8⟩ := ptr_froz (p := zero9) HT6.out.rr
      go_wp2_with fail
      show bodyPost _ _ _ _ _ (st9 w6 rb zero9)
      obtain ⟨h9, f9⟩ := st9_row zero9 zero9 HT6.out.rr
      obtain ⟨wz, hwz⟩ : ∃ wz, st9 w6 rb zero9 = wz := ⟨_, rfl⟩
      rw [hwz] at h9 f9 ⊢
      obtain ⟨g0, g1, g2, g3, g4, g5, g6, g7, g8⟩ := ptr_row (p := zero9) h9
      unfold zero9 at g0 g1 g2 g3 g4 g5 g6 g7 g8
      exact bodyPost_ret (v := .tuple #[.agg #[.int .i64 0, .int .i64 0, .int .i64 0, .int .u64 0, .int .i64 0, .int .u64 0, .int .u64 0, .int .u64 0, .int .u64 0], .int .i64 C]) (by simp [results, Try.results52, go_sem, g0, g1, g2, g3, g4, g5, g6, g7, g8]) rfl ⟨by rw [HR3.out HA.out hC0]; rfl, HT6.out.fr.trans f9 (fun i hi hl => by simp at hi; have := HT6.out.hr; omega)⟩
  · rw [if_neg hall] at hr4
    have HR4 := hid hr4
    have HAN := hid (HR1.out (by simpa using hall))
    clear hr4 hall
    go_wp2_with fail
    have h5 := doneR_any b g 48 bs 14 w4 HR4.out
    rw [show doneS bs.length 48 14 = 14 by unfold doneS; rw [if_neg (by omega)]] at h5
    refine h5.mono ?_
    clear h5
    rintro e w5 ⟨rfl, nq, hq⟩
    have hf5 : Frm [] w4 w5 := by rw [hq]; exact (Frm.refl _ _).drewN _
    have HT6 := hid (HT4.out.call hf5 (by simp) (by simp) (by simp) (by simp))
    clear hq hf5 HT4 HR4
    obtain ⟨q0, q1, q2, q3, q4, q5, q6, q7, q8⟩ := ptr_row (p := zero9) HT6.out.nr
    obtain ⟨y0, y1, y2, y3, y4, y5, y6, y7, y8⟩ := ptr_row (p := zero9) HT6.out.rr
    obtain ⟨z0, z1, z2, z3, z4, z5, z6, z7, z8⟩ := ptr_froz (p := zero9) HT6.out.rr
    go_wp2_with fail
    show bodyPost _ _ _ _ _ (st9 w5 rb zero9)
    obtain ⟨h9, f9⟩ := st9_row zero9 zero9 HT6.out.rr
    obtain ⟨wz, hwz⟩ : ∃ wz, st9 w5 rb zero9 = wz := ⟨_, rfl⟩
    rw [hwz] at h9 f9 ⊢
    obtain ⟨g0, g1, g2, g3, g4, g5, g6, g7, g8⟩ := ptr_row (p := zero9) h9
    unfold zero9 at g0 g1 g2 g3 g4 g5 g6 g7 g8
    exact bodyPost_ret (v := .tuple #[.agg #[.int .i64 0, .int .i64 0, .int .i64 0, .int .u64 0, .int .i64 0, .int .u64 0, .int .u64 0, .int .u64 0, .int .u64 0], .int .i64 41]) (by simp [results, Try.results52, go_sem, g0, g1, g2, g3, g4, g5, g6, g7, g8]) rfl ⟨by rw [HAN.out]; rfl, HT6.out.fr.trans f9 (fun i hi hl => by simp at hi; have := HT6.out.hr; omega)⟩
end
section
open Go.RowKit
set_option maxRecDepth 100000

set_option maxHeartbeats 1600000 in
theorem decode_any (ad : Option Addr) (n c : Nat) (bs : List Int) (w : World) (hn : bs.length = n) (hl : n ≤ 140737488355328) (hrd : Rd w ad bs) (hb : ∀ z ∈ bs, 0 ≤ z ∧ z < 256) :
    Calls Try.prog 36 #[.slice ad n c] w fun e w' => e = .returned (.tuple #[.agg (decP bs).1.arr, .int .i64 (decP bs).2]) ∧ Frm [] w w' := by
  have hT := fun W (h : Rd W ad bs) => takePtr_any ad n c bs W hn hl h hb
  obtain ⟨R, hR⟩ : ∃ R, decP bs = R := ⟨_, rfl⟩
  rw [hR] at hT ⊢
  obtain ⟨p, err⟩ := R
  unfold P9.arr at hT ⊢
  dsimp only at hT ⊢
  have HT := hid hT
  have HRD := hid hrd
  have HROW := hid (heap_alloc_new w (.cells #[.int .i64 0, .int .i64 0, .int .i64 0, .int .u64 0, .int .i64 0, .int .u64 0, .int .u64 0, .int .u64 0, .int .u64 0] 40))
  have HFA : Hid (Frm [] w (w.alloc (.cells #[.int .i64 0, .int .i64 0, .int .i64 0, .int .u64 0, .int .i64 0, .int .u64 0, .int .u64 0, .int .u64 0, .int .u64 0] 40))) := hid ((Frm.refl _ _).alloc _)
  clear hT hR hrd hn hb
  go_enter Try.func36, Try.ntmps36
  go_wp2_with fail
  obtain ⟨rb, hrb⟩ : ∃ rb, w.heap.size = rb := ⟨_, rfl⟩
  obtain ⟨wa, hwa⟩ : ∃ wa, w.alloc (.cells #[.int .i64 0, .int .i64 0, .int .i64 0, .int .u64 0, .int .i64 0, .int .u64 0, .int .u64 0, .int .u64 0, .int .u64 0] 40) = wa := ⟨_, rfl⟩
  rw [hwa] at HFA
  rw [hwa, hrb] at HROW
  rw [hwa, hrb]
  have HRB := hid hrb
  clear hwa hrb
  refine (HT.out wa (HRD.out.kept HFA.out (by simp))).mono ?_
  rintro e w1 ⟨rfl, hf1⟩
  have HR1 := hid (hf1.heap HROW.out (by simp))
  have HF1 := hid (HFA.out.trans hf1 (by simp))
  obtain ⟨y0, y1, y2, y3, y4, y5, y6, y7, y8⟩ := ptr_row (p := zero9) HR1.out
  obtain ⟨z0, z1, z2, z3, z4, z5, z6, z7, z8⟩ := ptr_froz (p := zero9) HR1.out
  clear hf1 HROW HFA
  go_wp2_with fail
  show bodyPost _ _ _ _ _ (st9 w1 rb p)
  obtain ⟨h9, f9⟩ := st9_row p zero9 HR1.out
  obtain ⟨wz, hwz⟩ : ∃ wz, st9 w1 rb p = wz := ⟨_, rfl⟩
  rw [hwz] at h9 f9 ⊢
  obtain ⟨g0, g1, g2, g3, g4, g5, g6, g7, g8⟩ := ptr_row (p := p) h9
  clear hwz
  exact bodyPost_ret (v := .tuple #[.agg #[.int .i64 p.top, .int .i64 p.at_, .int .i64 p.bytes, .int .u64 p.birth, .int .i64 p.kind, .int .u64 p.sa, .int .u64 p.sb, .int .u64 p.sc, .int .u64 p.sd], .int .i64 err]) (by simp [results, Try.results36, go_sem, g0, g1, g2, g3, g4, g5, g6, g7, g8]) rfl ⟨rfl, HF1.out.trans f9 (fun i hi hl => by simp at hi; have := HRB.out; omega)⟩
end
section
open Go.RowKit
set_option maxRecDepth 100000

theorem valAt_drop (bs : List Int) (a q k : Nat) : valAt (bs.drop a) q k = valAt bs (a + q) k := by unfold valAt; rw [List.drop_drop]
theorem valAt_take (bs : List Int) (a q k : Nat) (h : q + k ≤ a) : valAt (bs.take a) q k = valAt bs q k := by
  unfold valAt
  rw [List.drop_take, List.take_take, Nat.min_eq_left (by omega)]
/-- The sum that stands at a place. -/
def sumAt (bs : List Int) (pos : Nat) : S4 := ⟨valAt bs pos 8, valAt bs (pos + 8) 8, valAt bs (pos + 16) 8, valAt bs (pos + 24) 8⟩
/-- Is the sum behind a body right? -/
def sumOk (bs : List Int) : Bool := decide ((fletch (bs.take 96)).a = (sumAt bs 96).a) && (decide ((fletch (bs.take 96)).b = (sumAt bs 96).b) && (decide ((fletch (bs.take 96)).c = (sumAt bs 96).c) && decide ((fletch (bs.take 96)).d = (sumAt bs 96).d)))
theorem sumOk_iff (bs : List Int) : sumOk bs = true ↔ fletch (bs.take 96) = sumAt bs 96 := by
  unfold sumOk
  constructor
  · intro h
    simp only [Bool.and_eq_true, decide_eq_true_eq] at h
    obtain ⟨h1, h2, h3, h4⟩ := h
    calc fletch (bs.take 96) = ⟨(fletch (bs.take 96)).a, (fletch (bs.take 96)).b, (fletch (bs.take 96)).c, (fletch (bs.take 96)).d⟩ := rfl
      _ = sumAt bs 96 := by rw [h1, h2, h3, h4]
  · intro h
    rw [h]
    simp
end
section
open Go.RowKit Go.Lib
set_option maxRecDepth 100000

/-- The uberblock that stands in a body. -/
def rdU (bs : List Int) : U12 := ⟨valAt bs 4 8, valAt bs 12 8, valAt bs 20 8, rdP bs 28⟩
def lettersU (bs : List Int) : Bool := decide (bs.take 4 = [85, 67, 85, 66])
theorem letters_eq {zs : List Int} (hz : ∀ z ∈ zs, 0 ≤ z ∧ z < 256) (ks : List Int) (cs : List UInt8) (hk : ∀ z ∈ ks, 0 ≤ z ∧ z < 256) (hc : ks.map (fun n => UInt8.ofNat n.toNat) = cs) : ((strOfNums zs).toList == cs) = decide (zs = ks) := by
  have key : ∀ zs : List Int, (∀ z ∈ zs, 0 ≤ z ∧ z < 256) → (zs.map fun n => UInt8.ofNat n.toNat).map (fun b => (b.toNat : Int)) = zs := by
    intro zs hz
    rw [List.map_map]
    conv => rhs; rw [← List.map_id zs]
    apply List.map_congr_left
    intro z hm
    have := hz z hm
    simp
    omega
  rw [strOfNums_toList, ← hc]
  show (zs.map _ == _) = _
  by_cases h : zs = ks
  · rw [h]; simp
  · rw [decide_eq_false h]
    refine beq_eq_false_iff_ne.2 (fun h2 => h ?_)
    rw [← key zs hz, ← key ks hk, h2]
end
section
open Go.RowKit
set_option maxRecDepth 100000

/-- A top's three numbers. -/
structure T3 where
  kind : Int
  leaves : Int
  sectors : Int
instance : Inhabited T3 := ⟨⟨0, 0, 0⟩⟩
/-- May a top be? -/
def T3.may (t : T3) : Prop := 324 ≤ t.sectors ∧ t.sectors ≤ 8192 ∧ ((t.kind = 1 ∧ t.leaves = 1) ∨ (t.kind = 2 ∧ 2 ≤ t.leaves ∧ t.leaves ≤ 5) ∨ (t.kind = 3 ∧ 3 ≤ t.leaves ∧ t.leaves ≤ 5))
instance (t : T3) : Decidable t.may := by unfold T3.may; infer_instance
/-- A list of tops that can be read. -/
def RdT (w : World) (p : Option Addr) (ts : List T3) : Prop := ts = [] ∨ ∃ g o, p = some ⟨g, o, none⟩ ∧ ∀ i, i < ts.length → w.cell? ⟨g, o + i * 3, none⟩ = some (.int .i64 (ts.getD i default).kind) ∧ w.cell? ⟨g, o + i * 3 + 1, none⟩ = some (.int .i64 (ts.getD i default).leaves) ∧ w.cell? ⟨g, o + i * 3 + 2, none⟩ = some (.int .i64 (ts.getD i default).sectors)
theorem RdT.kept {S : List Nat} {w w' : World} {p : Option Addr} {ts : List T3} (h : RdT w p ts) (hf : Frm S w w') (hn : ∀ k ∈ blk p, k ∉ S) : RdT w' p ts := by
  rcases h with h | ⟨g, o, rfl, h⟩
  · exact Or.inl h
  · refine Or.inr ⟨g, o, rfl, fun i hi => ?_⟩
    obtain ⟨h0, h1, h2⟩ := h i hi
    have hl := World.block_lt_of_cell? w _ h0
    have hg : g ∉ S := hn g (by simp [blk])
    exact ⟨(hf.cell (p := ⟨g, o + i * 3, none⟩) hl hg).trans h0, (hf.cell (p := ⟨g, o + i * 3 + 1, none⟩) hl hg).trans h1, (hf.cell (p := ⟨g, o + i * 3 + 2, none⟩) hl hg).trans h2⟩
/-- A label's numbers. -/
structure LabV where
  pool : Int
  p : Option Addr
  n : Nat
  c : Nat
  top : Int
  place : Int
  ts : List T3
def LabV.arr (l : LabV) : Array Value := #[.int .u64 l.pool, .slice l.p l.n l.c, .int .i64 l.top, .int .i64 l.place]
/-- What CheckLabel answers. -/
def checkL (l : LabV) : Int :=
  if l.n < 1 ∨ 4 < l.n ∨ l.top < 0 ∨ (l.n : Int) ≤ l.top then 42
  else if ¬ l.ts.all (fun t => decide t.may) = true then 42
  else if l.place < 0 ∨ (l.ts.getD l.top.toNat default).leaves ≤ l.place then 42 else 0
/-- What is known of a label that came in. -/
structure LabV.ok (w : World) (l : LabV) : Prop where
  len : l.ts.length = l.n
  rd : RdT w l.p l.ts
  le : l.n ≤ l.c
  mx : l.c ≤ 9223372036854775807
  pool : 0 ≤ l.pool ∧ l.pool < 18446744073709551616
  top : -9223372036854775808 ≤ l.top ∧ l.top ≤ 9223372036854775807
theorem LabV.ok.kept {w w' : World} {l : LabV} (h : l.ok w) (hf : Frm [] w w') : l.ok w' := ⟨h.len, h.rd.kept hf (by simp), h.le, h.mx, h.pool, h.top⟩
end
end Go.Proofs.Ytkolbijhekbelaa
