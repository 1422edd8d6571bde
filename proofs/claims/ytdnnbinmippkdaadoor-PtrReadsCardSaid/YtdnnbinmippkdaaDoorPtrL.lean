/- Contracts of package ptr: what is taken up of a sum and of a pointer. -/
import Derived.Test.YtdnnbinmippkdaaDoorPtrH
namespace Go.Proofs.YtdnnbinmippkdaaDoor
open Go.RowKit
set_option maxRecDepth 100000

/-- The number of k bytes at a place. -/
def valAt (bs : List Int) (pos k : Nat) : Int := leV ((bs.drop pos).take k)
theorem valAt_bd {bs : List Int} (hb : ∀ z ∈ bs, 0 ≤ z ∧ z < 256) (pos k : Nat) (h : pos + k ≤ bs.length) : 0 ≤ valAt bs pos k ∧ valAt bs pos k < 2 ^ (8 * k) := by
  have h1 := leV_bd ((bs.drop pos).take k) (fun z hz => hb z (List.mem_of_mem_drop (List.mem_of_mem_take hz)))
  rw [List.length_take, List.length_drop, Nat.min_eq_left (by omega)] at h1
  exact h1
theorem num_take (b g pos : Nat) (bs : List Int) (hb : ∀ z ∈ bs, 0 ≤ z ∧ z < 256) (k : Nat) (w : World) (hw : IsR w b g bs pos 0) (hk1 : 1 ≤ k) (hk8 : k ≤ 8) (hp : pos + k ≤ bs.length) :
    Calls Tryd.prog 66 #[.pointer (some ⟨b, 0, none⟩), .int .i64 (k : Int)] w fun e w' => e = .returned (.int .u64 (valAt bs pos k)) ∧ IsR w' b g bs (pos + k) 0 ∧ Frm [b] w w' := by
  have h := numR_any b g pos bs hb 0 (k : Int) w hw (by omega) (by omega)
  have e : numT (bs.drop pos) (k : Int) = (valAt bs pos k, k, 0) := by
    unfold numT
    rw [if_neg (by omega), if_neg (by rw [List.length_drop]; omega), Int.toNat_natCast]
    rfl
  rw [e, readS_ok] at h
  simpa using h
/-- A reader, a variable of one's own that is filled, and the result's block. -/
structure GP (w0 W : World) (T : TypeId) (b g : Nat) (bs : List Int) (pos rb pb : Nat) (zero row : Array Value) : Prop where
  rd : IsR W b g bs pos 0
  pr : W.heap[pb]? = some (.cells row T (0, 0))
  rr : W.heap[rb]? = some (.cells zero T (0, 0))
  fr : Frm [b] w0 W
  hr : w0.heap.size ≤ rb
  hp : rb < pb
  hb : b < w0.heap.size
  hg : g < w0.heap.size
theorem GP.call {w0 W W' : World} {T : TypeId} {b g : Nat} {bs : List Int} {pos pos' rb pb : Nat} {zero row : Array Value} (h : GP w0 W T b g bs pos rb pb zero row) (hr : IsR W' b g bs pos' 0) (hf : Frm [b] W W') : GP w0 W' T b g bs pos' rb pb zero row :=
  ⟨hr, hf.heap h.pr (by simp; have := h.hp; have := h.hr; have := h.hb; omega), hf.heap h.rr (by simp; have := h.hr; have := h.hb; omega), h.fr.trans hf (fun i hi _ => hi), h.hr, h.hp, h.hb, h.hg⟩
theorem GP.set {w0 W : World} {T : TypeId} {b g : Nat} {bs : List Int} {pos rb pb : Nat} {zero row row' : Array Value} (h : GP w0 W T b g bs pos rb pb zero row) (k : Nat) (v : Value) (hrow : row.setIfInBounds k v = row') : GP w0 (W.setCell ⟨pb, k, none⟩ v) T b g bs pos rb pb zero row' := by
  have hf : Frm [pb] W (W.setCell ⟨pb, k, none⟩ v) := (Frm.refl _ _).setCell _ _ (by simp)
  have h1 := h.hp
  have h2 := h.hr
  have h3 := h.hb
  have h4 := h.hg
  exact ⟨h.rd.kept hf (by simp; omega) (by simp; omega), by rw [heap_setCell_same W pb k _ _ _ h.pr, hrow], hf.heap h.rr (by simp; omega), h.fr.trans hf (fun i hi hl => by simp at hi; omega), h.hr, h.hp, h.hb, h.hg⟩
theorem GP.cell {w0 W : World} {T : TypeId} {b g : Nat} {bs : List Int} {pos rb pb : Nat} {zero row : Array Value} (h : GP w0 W T b g bs pos rb pb zero row) (k : Nat) : W.cell? ⟨pb, k, none⟩ = row[k]? := by rw [cell_of_row W _ _ _ _ _ h.pr]
theorem GP.cellR {w0 W : World} {T : TypeId} {b g : Nat} {bs : List Int} {pos rb pb : Nat} {zero row : Array Value} (h : GP w0 W T b g bs pos rb pb zero row) (k : Nat) : W.cell? ⟨rb, k, none⟩ = zero[k]? := by rw [cell_of_row W _ _ _ _ _ h.rr]
theorem GP.froz {w0 W : World} {T : TypeId} {b g : Nat} {bs : List Int} {pos rb pb : Nat} {zero row : Array Value} (h : GP w0 W T b g bs pos rb pb zero row) (k : Nat) : W.frozen? ⟨pb, k, none⟩ = false := frozen_of_row W _ k _ _ h.pr
theorem GP.frozR {w0 W : World} {T : TypeId} {b g : Nat} {bs : List Int} {pos rb pb : Nat} {zero row : Array Value} (h : GP w0 W T b g bs pos rb pb zero row) (k : Nat) : W.frozen? ⟨rb, k, none⟩ = false := frozen_of_row W _ k _ _ h.rr
/-- The beginning: the result's block, then the variable's. -/
theorem GP.born {w : World} {T : TypeId} {b g : Nat} {bs : List Int} {pos : Nat} (zero : Array Value) (h : IsR w b g bs pos 0) : GP w ((w.alloc (.cells zero T)).alloc (.cells zero T)) T b g bs pos w.heap.size (w.heap.size + 1) zero zero := by
  have h1 : Frm [] w (w.alloc (.cells zero T)) := (Frm.refl _ _).alloc _
  have h2 : Frm [] (w.alloc (.cells zero T)) ((w.alloc (.cells zero T)).alloc (.cells zero T)) := (Frm.refl _ _).alloc _
  have h3 := h1.trans h2 (by simp)
  obtain ⟨hl, hg, _⟩ := h.cells
  exact ⟨h.kept h3 (by simp) (by simp), heap_alloc_to _ _ (by simp), h2.heap (heap_alloc_new _ _) (by simp), h3.mono (by simp), Nat.le_refl _, by omega, hl, hg⟩
/-- Stores into one block, one after another. -/
def sets (w : World) (b : Nat) : List (Nat × Value) → World
  | [] => w
  | p :: t => sets (w.setCell ⟨b, p.1, none⟩ p.2) b t
theorem sets_row (b : Nat) (T : TypeId) (l : List (Nat × Value)) : ∀ (w : World) (row : Array Value), w.heap[b]? = some (.cells row T (0, 0)) → (sets w b l).heap[b]? = some (.cells (l.foldl (fun r p => r.setIfInBounds p.1 p.2) row) T (0, 0)) ∧ Frm [b] w (sets w b l) := by
  induction l with
  | nil => intro w row h; exact ⟨h, Frm.refl _ _⟩
  | cons p t ih =>
    intro w row h
    have h1 : (w.setCell ⟨b, p.1, none⟩ p.2).heap[b]? = some (.cells (row.setIfInBounds p.1 p.2) T (0, 0)) := heap_setCell_same _ _ _ _ _ _ h
    obtain ⟨h2, f2⟩ := ih _ _ h1
    exact ⟨h2, ((Frm.refl _ w).setCell _ _ (by simp)).trans f2 (fun i hi _ => hi)⟩
set_option maxHeartbeats 1600000 in
theorem getSum_any (b g pos : Nat) (bs : List Int) (hb : ∀ z ∈ bs, 0 ≤ z ∧ z < 256) (w : World) (hw : IsR w b g bs pos 0) (hp : pos + 32 ≤ bs.length) :
    Calls Tryd.prog 67 #[.pointer (some ⟨b, 0, none⟩)] w fun e w' => e = .returned (.agg #[.int .u64 (valAt bs pos 8), .int .u64 (valAt bs (pos + 8) 8), .int .u64 (valAt bs (pos + 16) 8), .int .u64 (valAt bs (pos + 24) 8)]) ∧ IsR w' b g bs (pos + 32) 0 ∧ Frm [b] w w' := by
  have HN := hid (fun q W (h : IsR W b g bs q 0) (hq : q + 8 ≤ bs.length) => num_take b g q bs hb 8 W h (by omega) (by omega) hq)
  have HG := hid (GP.born (T := 24) #[.int .u64 0, .int .u64 0, .int .u64 0, .int .u64 0] hw)
  clear hw hb
  obtain ⟨v0, e0⟩ : ∃ v, valAt bs pos 8 = v := ⟨_, rfl⟩
  obtain ⟨v1, e1⟩ : ∃ v, valAt bs (pos + 8) 8 = v := ⟨_, rfl⟩
  obtain ⟨v2, e2⟩ : ∃ v, valAt bs (pos + 16) 8 = v := ⟨_, rfl⟩
  obtain ⟨v3, e3⟩ : ∃ v, valAt bs (pos + 24) 8 = v := ⟨_, rfl⟩
  have E0 := hid e0
  have E1 := hid e1
  have E2 := hid e2
  have E3 := hid e3
  rw [e0, e1, e2, e3]
  clear e0 e1 e2 e3
  go_enter Tryd.func67, Tryd.ntmps67
  go_wp2_with fail
  obtain ⟨rb, hrb⟩ : ∃ rb, w.heap.size = rb := ⟨_, rfl⟩
  obtain ⟨wa, hwa⟩ : ∃ wa, (w.alloc (.cells #[.int .u64 0, .int .u64 0, .int .u64 0, .int .u64 0] 24)).alloc (.cells #[.int .u64 0, .int .u64 0, .int .u64 0, .int .u64 0] 24) = wa := ⟨_, rfl⟩
  rw [hwa, hrb] at HG
  rw [hwa, hrb]
  clear hwa hrb
  have h0 := HN.out pos wa HG.out.rd (by omega)
  rw [E0.out] at h0
  refine h0.mono ?_
  rintro e w1 ⟨rfl, hr1, hf1⟩
  have G1 := hid (HG.out.call hr1 hf1)
  clear h0 hr1 hf1 HG
  go_wp2_with fail
  have h1 := HN.out (pos + 8) w1 G1.out.rd (by omega)
  rw [E1.out] at h1
  refine h1.mono ?_
  rintro e w2 ⟨rfl, hr2, hf2⟩
  have G2 := hid (G1.out.call hr2 hf2)
  clear h1 hr2 hf2 G1
  go_wp2_with fail
  have h2 := HN.out (pos + 16) w2 G2.out.rd (by omega)
  rw [E2.out] at h2
  refine h2.mono ?_
  rintro e w3 ⟨rfl, hr3, hf3⟩
  have G3 := hid (G2.out.call hr3 hf3)
  clear h2 hr3 hf3 G2
  go_wp2_with fail
  have h3 := HN.out (pos + 24) w3 G3.out.rd (by omega)
  rw [E3.out] at h3
  refine h3.mono ?_
  rintro e w4 ⟨rfl, hr4, hf4⟩
  have G4 := G3.out.call hr4 hf4
  have q0 : w4.cell? ⟨rb + 1, 0, none⟩ = some (.int .u64 0) := G4.cell 0
  have q1 : w4.cell? ⟨rb + 1, 1, none⟩ = some (.int .u64 0) := G4.cell 1
  have q2 : w4.cell? ⟨rb + 1, 2, none⟩ = some (.int .u64 0) := G4.cell 2
  have q3 : w4.cell? ⟨rb + 1, 3, none⟩ = some (.int .u64 0) := G4.cell 3
  have z0 := G4.froz 0
  have z1 := G4.froz 1
  have z2 := G4.froz 2
  have z3 := G4.froz 3
  have r0 : w4.cell? ⟨rb, 0, none⟩ = some (.int .u64 0) := G4.cellR 0
  have r1 : w4.cell? ⟨rb, 1, none⟩ = some (.int .u64 0) := G4.cellR 1
  have r2 : w4.cell? ⟨rb, 2, none⟩ = some (.int .u64 0) := G4.cellR 2
  have r3 : w4.cell? ⟨rb, 3, none⟩ = some (.int .u64 0) := G4.cellR 3
  have y0 := G4.frozR 0
  have y1 := G4.frozR 1
  have y2 := G4.frozR 2
  have y3 := G4.frozR 3
  have G5 := hid ((((G4.set 0 (.int .u64 v0) rfl).set 1 (.int .u64 v1) rfl).set 2 (.int .u64 v2) rfl).set 3 (.int .u64 v3) rfl)
  clear h3 hr4 hf4 G3 G4
  go_wp2_with fail
  obtain ⟨w5, hw5⟩ : ∃ w5, (((w4.setCell ⟨rb + 1, 0, none⟩ (.int .u64 v0)).setCell ⟨rb + 1, 1, none⟩ (.int .u64 v1)).setCell ⟨rb + 1, 2, none⟩ (.int .u64 v2)).setCell ⟨rb + 1, 3, none⟩ (.int .u64 v3) = w5 := ⟨_, rfl⟩
  rw [hw5] at G5
  obtain ⟨h4, f4⟩ := sets_row rb 24 [(0, .int .u64 v0), (1, .int .u64 v1), (2, .int .u64 v2), (3, .int .u64 v3)] w5 _ G5.out.rr
  obtain ⟨wz, hwz⟩ : ∃ wz, sets w5 rb [(0, .int .u64 v0), (1, .int .u64 v1), (2, .int .u64 v2), (3, .int .u64 v3)] = wz := ⟨_, rfl⟩
  rw [hw5]
  rw [hwz] at h4 f4
  have hwz' : (((w5.setCell ⟨rb, 0, none⟩ (.int .u64 v0)).setCell ⟨rb, 1, none⟩ (.int .u64 v1)).setCell ⟨rb, 2, none⟩ (.int .u64 v2)).setCell ⟨rb, 3, none⟩ (.int .u64 v3) = wz := hwz
  rw [hwz']
  have g0 : wz.cell? ⟨rb, 0, none⟩ = some (.int .u64 v0) := by rw [cell_of_row wz _ _ _ _ _ h4]; rfl
  have g1 : wz.cell? ⟨rb, 1, none⟩ = some (.int .u64 v1) := by rw [cell_of_row wz _ _ _ _ _ h4]; rfl
  have g2 : wz.cell? ⟨rb, 2, none⟩ = some (.int .u64 v2) := by rw [cell_of_row wz _ _ _ _ _ h4]; rfl
  have g3 : wz.cell? ⟨rb, 3, none⟩ = some (.int .u64 v3) := by rw [cell_of_row wz _ _ _ _ _ h4]; rfl
  have gb := G5.out.hb
  have gg := G5.out.hg
  have gr := G5.out.hr
  refine bodyPost_ret (v := .agg #[.int .u64 v0, .int .u64 v1, .int .u64 v2, .int .u64 v3]) (by simp [results, Tryd.results67, go_sem, g0, g1, g2, g3]) rfl ⟨rfl, G5.out.rd.kept f4 (by simp; omega) (by simp; omega), G5.out.fr.trans f4 (fun i hi hl => by simp at hi; omega)⟩
end Go.Proofs.YtdnnbinmippkdaaDoor
