/- Frames: a request's body is taken up. Rows of cells of any kind: read, and laid behind a row of one's own. Speaks of no program. -/
import Derived.Test.YtignoocdeghiaaaDoorQad
import Derived.Deep.CutBlock
import Derived.Deep.DeepCutAuto
import Derived.Test.YtignoocdeghiaaaDoorQaa
namespace Go.Proofs.YtignoocdeghiaaaDoor
section
open Go.RowKit Go.Lib
set_option maxRecDepth 100000

def setsF (w : World) (b : Nat) : List (Nat × Value) → World
  | [] => w
  | (k, v) :: l => setsF (w.setCell ⟨b, k, none⟩ v) b l
theorem sets_rowF (b : Nat) (T : TypeId) (l : List (Nat × Value)) : ∀ (w : World) (row : Array Value), w.heap[b]? = some (.cells row T (0, 0)) → (setsF w b l).heap[b]? = some (.cells (l.foldl (fun r p => r.setIfInBounds p.1 p.2) row) T (0, 0)) ∧ Frm [b] w (setsF w b l) := by
  induction l with
  | nil => exact fun w row h => ⟨h, Frm.refl _ _⟩
  | cons p l ih =>
    intro w row h
    obtain ⟨h1, h2⟩ := ih (w.setCell ⟨b, p.1, none⟩ p.2) _ (heap_setCell_same w b p.1 row _ p.2 h)
    exact ⟨h1, ((Frm.refl [b] w).setCell _ _ (by simp)).trans h2 (fun i hi _ => hi)⟩
theorem frR_set {w0 w w' : World} {b g bq : Nat} {bs : List Int} {s : Rst} (h : FrR w0 w b g bs s) (hf : Frm [bq] w w') (h1 : ¬ bq = b) (h2 : bq ≠ g) (h3 : w0.heap.size ≤ bq) : FrR w0 w' b g bs s := by
  obtain ⟨a1, a2, a3, a4⟩ := h
  exact ⟨a1.kept hf (by simpa using fun h => h1 h.symm) (by simpa using fun h => h2 h.symm), a2.trans hf (fun i hi hl => by rw [List.mem_singleton] at hi; omega), a3, a4⟩
def q1 (bs : List Int) (s : Rst) := nuS bs s 1
def q2 (bs : List Int) (s : Rst) := nuS bs (q1 bs s).2 4
def q3 (bs : List Int) (s : Rst) := nuS bs (q2 bs s).2 1
def q4 (bs : List Int) (s : Rst) := txS bs (q3 bs s).2
def q5 (bs : List Int) (s : Rst) := txS bs (q4 bs s).2
def q6 (bs : List Int) (s : Rst) := txS bs (q5 bs s).2
def q7 (bs : List Int) (s : Rst) := txS bs (q6 bs s).2
def q8 (bs : List Int) (s : Rst) := nuS bs (q7 bs s).2 6
def q9 (bs : List Int) (s : Rst) := nuS bs (q8 bs s).2 6
def q10 (bs : List Int) (s : Rst) := nuS bs (q9 bs s).2 2
def q11 (bs : List Int) (s : Rst) := byS bs (q10 bs s).2 (q10 bs s).1
/-- A request as it was taken up. -/
def reqT (bs : List Int) (s : Rst) (p : Option Addr) (n c : Nat) : Rq := ⟨(q1 bs s).1, (q2 bs s).1, (q3 bs s).1, strOfNums (q4 bs s).1, strOfNums (q5 bs s).1, strOfNums (q6 bs s).1, strOfNums (q7 bs s).1, (q8 bs s).1, (q9 bs s).1, p, n, c⟩
def TReqA (w0 w : World) (b g : Nat) (bs : List Int) (s : Rst) (e : Ending) (w' : World) : Prop := ∃ p n c, e = .returned (.agg (reqT bs s p n c).arr) ∧ n = (q11 bs s).1.length ∧ Own w' 5 (.slice p n c) (q11 bs s).1 ∧ (∀ k ∈ blk p, w.heap.size ≤ k) ∧ FrR w0 w' b g bs (q11 bs s).2 ∧ Frm [b] w w'
set_option maxHeartbeats 25600000 in
theorem tReq_any (w0 w : World) (b g : Nat) (bs : List Int) (hb : ∀ z ∈ bs, 0 ≤ z ∧ z < 256) (s : Rst) (h : FrR w0 w b g bs s) :
    Calls Tryd.prog 41 #[.agg #[.pointer (some ⟨b, 0, none⟩)]] w (TReqA w0 w b g bs s) := by
  obtain ⟨PO, hPO⟩ : ∃ PO : Ending → World → Prop, TReqA w0 w b g bs s = PO := ⟨_, rfl⟩
  rw [hPO]
  have HP := hid (show ∀ e w', TReqA w0 w b g bs s e w' → PO e w' from fun e w' h => by rw [← hPO]; exact h)
  have HI := hid (fun (k : Int) (hk0 : 0 ≤ k) (hk : k ≤ 7) (t : Rst) W (hW : FrR w0 W b g bs t) => tInt_any w0 W b g bs hb t k hk0 hk hW)
  have HT := hid (fun (t : Rst) W (hW : FrR w0 W b g bs t) => tText_any w0 W b g bs hb t hW)
  have HD := hid (fun (t : Rst) W (hW : FrR w0 W b g bs t) => tData_any w0 W b g bs hb t hW)
  obtain ⟨wa, hwa⟩ : ∃ z, w.alloc (.cells #[.pointer (some ⟨b, 0, none⟩)] 77) = z := ⟨_, rfl⟩
  have hrowa := heap_alloc_new w (.cells #[.pointer (some ⟨b, 0, none⟩)] 77)
  have hfa : Frm [] w wa := by rw [← hwa]; exact (Frm.refl _ _).alloc _
  obtain ⟨bx, hbx⟩ : ∃ z, w.heap.size = z := ⟨_, rfl⟩
  rw [hwa, hbx] at hrowa
  obtain ⟨wq, hwq⟩ : ∃ z, wa.alloc (.cells #[.int .i64 0, .int .i64 0, .int .i64 0, .string ⟨#[]⟩, .string ⟨#[]⟩, .string ⟨#[]⟩, .string ⟨#[]⟩, .int .i64 0, .int .i64 0, .slice none 0 0] 24) = z := ⟨_, rfl⟩
  have hrowq := heap_alloc_new wa (.cells #[.int .i64 0, .int .i64 0, .int .i64 0, .string ⟨#[]⟩, .string ⟨#[]⟩, .string ⟨#[]⟩, .string ⟨#[]⟩, .int .i64 0, .int .i64 0, .slice none 0 0] 24)
  have hfq : Frm [] wa wq := by rw [← hwq]; exact (Frm.refl _ _).alloc _
  obtain ⟨bq, hbq⟩ : ∃ z, wa.heap.size = z := ⟨_, rfl⟩
  rw [hwq, hbq] at hrowq
  have hblt := h.1.cells.1
  have HNE : Hid (bx ≠ b ∧ bq ≠ b ∧ bx ≠ bq ∧ bq ≠ g ∧ w.heap.size ≤ bq ∧ w0.heap.size ≤ bq) := hid (by
    have h1 := hfa.size
    have h2 := lt_of_heap hrowa
    have h3 := h.1.cells.2.1
    have h4 := h.2.1.size
    refine ⟨by omega, by omega, by omega, by omega, by omega, by omega⟩)
  have HF0 : Hid (Frm [b] w wq) := hid ((hfa.trans hfq (by simp)).mono (by simp))
  have HR0 : Hid (FrR w0 wq b g bs s) := hid (FrR.k0 h (hfa.trans hfq (by simp)))
  have HQ0 := hid hrowq
  have HB0 : Hid (wq.cell? ⟨bx, 0, none⟩ = some (.pointer (some ⟨b, 0, none⟩))) := hid (by rw [cell_of_row _ _ _ _ _ _ (hfq.heap hrowa (by simp))]; rfl)
  have HBX := hid hbx
  have HBQ := hid hbq
  have HBQ1 : Hid (bx + 1 = bq) := hid (by rw [← hbq, ← hwa, ← hbx]; simp)
  have HWA := hid hwa
  have HWQ := hid hwq
  clear h hb hrowa hrowq hfa hfq hblt hPO hbx hbq hwa hwq
  go_enter Tryd.func41, Tryd.ntmps41
  go_upto_region 1 with fail
  first | rw [HWA.out] | skip
  first | rw [HBX.out] | skip
  first | rw [HBQ.out] | skip
  first | rw [HBQ1.out] | skip
  first | rw [HWQ.out] | skip
  clear HWA HBX HBQ HBQ1 HWQ
  have hsA : wq.drew.cell? ⟨bx, 0, none⟩ = some (.pointer (some ⟨b, 0, none⟩)) := ((Frm.refl [] wq).drew.cell (World.block_lt_of_cell? _ _ HB0.out) (by simp)).trans HB0.out
  have hrA := FrR.k0 HR0.out (Frm.refl [] wq).drew
  obtain ⟨v0, hv0⟩ : ∃ v, q1 bs s = v := ⟨_, rfl⟩
  have HV0 := hid hv0
  obtain ⟨v1, hv1⟩ : ∃ v, q2 bs s = v := ⟨_, rfl⟩
  have HV1 := hid hv1
  obtain ⟨v2, hv2⟩ : ∃ v, q3 bs s = v := ⟨_, rfl⟩
  have HV2 := hid hv2
  refine wp_region_tail (S := fun W => (W.cell? ⟨bx, 0, none⟩ = some (.pointer (some ⟨b, 0, none⟩)))) 7 12 rfl (by kernel_rfl) (by kernel_rfl) ?_
  refine wpAnyHT_take (i := 0) (oi := _) (v := ?_) (by kernel_rfl) rfl (by kernel_rfl) (by kernel_rfl) (by kernel_rfl) (by kernel_rfl) (fun _ _ _ h => h) (Or.inl ⟨by rfl, ?_⟩) hsA ?_
  rotate_left 1
  · (intro W hSw; obtain s0 := hSw; (try simp only [List.getElem_toArray, List.getElem_cons_zero]); go_simp; try with_reducible rfl)
  try simp only [List.getElem_toArray, List.getElem_cons_zero, Act.put, List.setIfInBounds_toArray, List.set_cons_zero, List.set_cons_succ]
  refine wpAnyHT_take (i := 2) (oi := _) (v := ?_) (by kernel_rfl) rfl (by kernel_rfl) (by kernel_rfl) (by kernel_rfl) (by kernel_rfl) (fun _ _ _ h => h) (Or.inl ⟨by rfl, ?_⟩) hsA ?_
  rotate_left 1
  · (intro W hSw; obtain s0 := hSw; (try simp only [List.getElem_toArray, List.getElem_cons_succ, List.getElem_cons_zero]); go_simp; try with_reducible rfl)
  try simp only [List.getElem_toArray, List.getElem_cons_succ, List.getElem_cons_zero, Act.put, List.setIfInBounds_toArray, List.set_cons_zero, List.set_cons_succ]
  refine wpAnyHT_take (i := 4) (oi := _) (v := ?_) (by kernel_rfl) rfl (by kernel_rfl) (by kernel_rfl) (by kernel_rfl) (by kernel_rfl) (fun _ _ _ h => h) (Or.inl ⟨by rfl, ?_⟩) hsA ?_
  rotate_left 1
  · (intro W hSw; obtain s0 := hSw; (try simp only [List.getElem_toArray, List.getElem_cons_succ, List.getElem_cons_zero]); go_simp; try with_reducible rfl)
  try simp only [List.getElem_toArray, List.getElem_cons_succ, List.getElem_cons_zero, Act.put, List.setIfInBounds_toArray, List.set_cons_zero, List.set_cons_succ]
  refine wpAnyHT_one (i := 1) rfl (by kernel_rfl) (by kernel_rfl) (fun K hK => ?_)
  try simp only [List.getElem_toArray, List.getElem_cons_succ, List.getElem_cons_zero]
  go_simp
  refine (HI.out 1 (by omega) (by omega) _ _ hrA).mono ?_
  rintro e x0 ⟨rfl, r0, f0⟩
  have e0 : nuS bs s 1 = v0 := hv0
  rw [e0] at r0 ⊢
  have hs0 : x0.cell? ⟨bx, 0, none⟩ = some (.pointer (some ⟨b, 0, none⟩)) := (f0.cell (World.block_lt_of_cell? _ _ hsA) (by simpa using HNE.out.1)).trans hsA
  refine hK _ _ hs0 ?_
  clear hK K
  try simp only [List.getElem_toArray, List.getElem_cons_succ, List.getElem_cons_zero, Act.put, List.setIfInBounds_toArray, List.set_cons_zero, List.set_cons_succ]
  refine wpAnyHT_take (i := 6) (oi := _) (v := ?_) (by kernel_rfl) rfl (by kernel_rfl) (by kernel_rfl) (by kernel_rfl) (by kernel_rfl) (fun _ _ _ h => h) (Or.inl ⟨by rfl, ?_⟩) hs0 ?_
  rotate_left 1
  · (intro W hSw; obtain s0 := hSw; (try simp only [List.getElem_toArray, List.getElem_cons_succ, List.getElem_cons_zero]); go_simp; try with_reducible rfl)
  try simp only [List.getElem_toArray, List.getElem_cons_succ, List.getElem_cons_zero, Act.put, List.setIfInBounds_toArray, List.set_cons_zero, List.set_cons_succ]
  refine wpAnyHT_one (i := 3) rfl (by kernel_rfl) (by kernel_rfl) (fun K hK => ?_)
  try simp only [List.getElem_toArray, List.getElem_cons_succ, List.getElem_cons_zero]
  go_simp
  refine (HI.out 4 (by omega) (by omega) _ _ r0).mono ?_
  rintro e x1 ⟨rfl, r1, f1⟩
  have e1 : nuS bs v0.2 4 = v1 := by rw [← HV0.out]; exact hv1
  rw [e1] at r1 ⊢
  have hs1 : x1.cell? ⟨bx, 0, none⟩ = some (.pointer (some ⟨b, 0, none⟩)) := (f1.cell (World.block_lt_of_cell? _ _ hs0) (by simpa using HNE.out.1)).trans hs0
  refine hK _ _ hs1 ?_
  clear hK K
  try simp only [List.getElem_toArray, List.getElem_cons_succ, List.getElem_cons_zero, Act.put, List.setIfInBounds_toArray, List.set_cons_zero, List.set_cons_succ]
  refine wpAnyHT_one (i := 5) rfl (by kernel_rfl) (by kernel_rfl) (fun K hK => ?_)
  try simp only [List.getElem_toArray, List.getElem_cons_succ, List.getElem_cons_zero]
  go_simp
  refine (HI.out 1 (by omega) (by omega) _ _ r1).mono ?_
  rintro e x2 ⟨rfl, r2, f2⟩
  have e2 : nuS bs v1.2 1 = v2 := by rw [← HV1.out]; exact hv2
  rw [e2] at r2 ⊢
  have hs2 : x2.cell? ⟨bx, 0, none⟩ = some (.pointer (some ⟨b, 0, none⟩)) := (f2.cell (World.block_lt_of_cell? _ _ hs1) (by simpa using HNE.out.1)).trans hs1
  refine hK _ _ hs2 ?_
  clear hK K
  try simp only [List.getElem_toArray, List.getElem_cons_succ, List.getElem_cons_zero, Act.put, List.setIfInBounds_toArray, List.set_cons_zero, List.set_cons_succ]
  refine wpAnyHT_end (by kernel_rfl) ?_
  simp only [List.drop_succ_cons, List.drop_zero]
  have HFX : Hid (Frm [b] wq x2) := hid (((((Frm.refl [b] wq).drew).trans f0 (fun i hi _ => hi)).trans f1 (fun i hi _ => hi)).trans f2 (fun i hi _ => hi))
  have hrow := HFX.out.heap HQ0.out (by simpa using HNE.out.2.1)
  have HRX := hid r2
  have HSX := hid hs2
  have z0 : x2.cell? ⟨bq, 0, none⟩ = some (.int .i64 0) := by rw [cell_of_row _ _ _ _ _ _ hrow]; rfl
  have y0 := frozen_of_row x2 bq 0 _ _ hrow
  have z1 : x2.cell? ⟨bq, 1, none⟩ = some (.int .i64 0) := by rw [cell_of_row _ _ _ _ _ _ hrow]; rfl
  have y1 := frozen_of_row x2 bq 1 _ _ hrow
  have z2 : x2.cell? ⟨bq, 2, none⟩ = some (.int .i64 0) := by rw [cell_of_row _ _ _ _ _ _ hrow]; rfl
  have y2 := frozen_of_row x2 bq 2 _ _ hrow
  clear r0 f0 hs0 hv0 e0 r1 f1 hs1 hv1 e1 r2 f2 hs2 hv2 e2 hrA hsA
  go_upto_region 2 with fail
  obtain ⟨h4, f4⟩ := sets_rowF bq 24 [(0, .int .i64 v0.1), (1, .int .i64 v1.1), (2, .int .i64 v2.1)] x2 _ hrow
  simp only [List.foldl, List.setIfInBounds_toArray, List.set_cons_zero, List.set_cons_succ] at h4
  obtain ⟨W1, hW1⟩ : ∃ z, setsF x2 bq [(0, .int .i64 v0.1), (1, .int .i64 v1.1), (2, .int .i64 v2.1)] = z := ⟨_, rfl⟩
  rw [hW1] at h4 f4
  have hwz : (((x2.setCell ⟨bq, 0, none⟩ (.int .i64 v0.1)).setCell ⟨bq, 1, none⟩ (.int .i64 v1.1)).setCell ⟨bq, 2, none⟩ (.int .i64 v2.1)) = W1 := hW1
  rw [hwz]
  have HQ1 := hid h4
  have HF1 : Hid (Frm [b] w W1) := hid ((HF0.out.trans HFX.out (fun i hi _ => hi)).trans f4 (fun i hi hl => by rw [List.mem_singleton] at hi; have := HNE.out.2.2.2.2.1; omega))
  have HB1 : Hid (W1.cell? ⟨bx, 0, none⟩ = some (.pointer (some ⟨b, 0, none⟩))) := hid ((f4.cell (World.block_lt_of_cell? _ _ HSX.out) (by simpa using HNE.out.2.2.1)).trans HSX.out)
  have HR1 : Hid (FrR w0 W1 b g bs v2.2) := hid (frR_set HRX.out f4 (fun h => HNE.out.2.1 h) HNE.out.2.2.2.1 HNE.out.2.2.2.2.2)
  clear h4 f4 hW1 hwz hrow HFX HRX HSX z0 y0 z1 y1 z2 y2 HQ0 HF0 HB0 HR0
  have hsA : W1.drew.cell? ⟨bx, 0, none⟩ = some (.pointer (some ⟨b, 0, none⟩)) := ((Frm.refl [] W1).drew.cell (World.block_lt_of_cell? _ _ HB1.out) (by simp)).trans HB1.out
  have hrA := FrR.k0 HR1.out (Frm.refl [] W1).drew
  obtain ⟨v3, hv3⟩ : ∃ v, q4 bs s = v := ⟨_, rfl⟩
  have HV3 := hid hv3
  obtain ⟨v4, hv4⟩ : ∃ v, q5 bs s = v := ⟨_, rfl⟩
  have HV4 := hid hv4
  obtain ⟨v5, hv5⟩ : ∃ v, q6 bs s = v := ⟨_, rfl⟩
  have HV5 := hid hv5
  obtain ⟨v6, hv6⟩ : ∃ v, q7 bs s = v := ⟨_, rfl⟩
  have HV6 := hid hv6
  refine wp_region_tail (S := fun W => (W.cell? ⟨bx, 0, none⟩ = some (.pointer (some ⟨b, 0, none⟩)))) 9 16 rfl (by kernel_rfl) (by kernel_rfl) ?_
  refine wpAnyHT_take (i := 0) (oi := _) (v := ?_) (by kernel_rfl) rfl (by kernel_rfl) (by kernel_rfl) (by kernel_rfl) (by kernel_rfl) (fun _ _ _ h => h) (Or.inl ⟨by rfl, ?_⟩) hsA ?_
  rotate_left 1
  · (intro W hSw; obtain s0 := hSw; (try simp only [List.getElem_toArray, List.getElem_cons_zero]); go_simp; try with_reducible rfl)
  try simp only [List.getElem_toArray, List.getElem_cons_zero, Act.put, List.setIfInBounds_toArray, List.set_cons_zero, List.set_cons_succ]
  refine wpAnyHT_take (i := 2) (oi := _) (v := ?_) (by kernel_rfl) rfl (by kernel_rfl) (by kernel_rfl) (by kernel_rfl) (by kernel_rfl) (fun _ _ _ h => h) (Or.inl ⟨by rfl, ?_⟩) hsA ?_
  rotate_left 1
  · (intro W hSw; obtain s0 := hSw; (try simp only [List.getElem_toArray, List.getElem_cons_succ, List.getElem_cons_zero]); go_simp; try with_reducible rfl)
  try simp only [List.getElem_toArray, List.getElem_cons_succ, List.getElem_cons_zero, Act.put, List.setIfInBounds_toArray, List.set_cons_zero, List.set_cons_succ]
  refine wpAnyHT_take (i := 4) (oi := _) (v := ?_) (by kernel_rfl) rfl (by kernel_rfl) (by kernel_rfl) (by kernel_rfl) (by kernel_rfl) (fun _ _ _ h => h) (Or.inl ⟨by rfl, ?_⟩) hsA ?_
  rotate_left 1
  · (intro W hSw; obtain s0 := hSw; (try simp only [List.getElem_toArray, List.getElem_cons_succ, List.getElem_cons_zero]); go_simp; try with_reducible rfl)
  try simp only [List.getElem_toArray, List.getElem_cons_succ, List.getElem_cons_zero, Act.put, List.setIfInBounds_toArray, List.set_cons_zero, List.set_cons_succ]
  refine wpAnyHT_take (i := 6) (oi := _) (v := ?_) (by kernel_rfl) rfl (by kernel_rfl) (by kernel_rfl) (by kernel_rfl) (by kernel_rfl) (fun _ _ _ h => h) (Or.inl ⟨by rfl, ?_⟩) hsA ?_
  rotate_left 1
  · (intro W hSw; obtain s0 := hSw; (try simp only [List.getElem_toArray, List.getElem_cons_succ, List.getElem_cons_zero]); go_simp; try with_reducible rfl)
  try simp only [List.getElem_toArray, List.getElem_cons_succ, List.getElem_cons_zero, Act.put, List.setIfInBounds_toArray, List.set_cons_zero, List.set_cons_succ]
  refine wpAnyHT_one (i := 1) rfl (by kernel_rfl) (by kernel_rfl) (fun K hK => ?_)
  try simp only [List.getElem_toArray, List.getElem_cons_succ, List.getElem_cons_zero]
  go_simp
  refine (HT.out _ _ hrA).mono ?_
  rintro e x3 ⟨rfl, r3, f3⟩
  have e3 : txS bs v2.2 = v3 := by rw [← HV2.out]; exact hv3
  rw [e3] at r3 ⊢
  have hs3 : x3.cell? ⟨bx, 0, none⟩ = some (.pointer (some ⟨b, 0, none⟩)) := (f3.cell (World.block_lt_of_cell? _ _ hsA) (by simpa using HNE.out.1)).trans hsA
  refine hK _ _ hs3 ?_
  clear hK K
  try simp only [List.getElem_toArray, List.getElem_cons_succ, List.getElem_cons_zero, Act.put, List.setIfInBounds_toArray, List.set_cons_zero, List.set_cons_succ]
  refine wpAnyHT_take (i := 8) (oi := _) (v := ?_) (by kernel_rfl) rfl (by kernel_rfl) (by kernel_rfl) (by kernel_rfl) (by kernel_rfl) (fun _ _ _ h => h) (Or.inl ⟨by rfl, ?_⟩) hs3 ?_
  rotate_left 1
  · (intro W hSw; obtain s0 := hSw; (try simp only [List.getElem_toArray, List.getElem_cons_succ, List.getElem_cons_zero]); go_simp; try with_reducible rfl)
  try simp only [List.getElem_toArray, List.getElem_cons_succ, List.getElem_cons_zero, Act.put, List.setIfInBounds_toArray, List.set_cons_zero, List.set_cons_succ]
  refine wpAnyHT_one (i := 3) rfl (by kernel_rfl) (by kernel_rfl) (fun K hK => ?_)
  try simp only [List.getElem_toArray, List.getElem_cons_succ, List.getElem_cons_zero]
  go_simp
  refine (HT.out _ _ r3).mono ?_
  rintro e x4 ⟨rfl, r4, f4⟩
  have e4 : txS bs v3.2 = v4 := by rw [← HV3.out]; exact hv4
  rw [e4] at r4 ⊢
  have hs4 : x4.cell? ⟨bx, 0, none⟩ = some (.pointer (some ⟨b, 0, none⟩)) := (f4.cell (World.block_lt_of_cell? _ _ hs3) (by simpa using HNE.out.1)).trans hs3
  refine hK _ _ hs4 ?_
  clear hK K
  try simp only [List.getElem_toArray, List.getElem_cons_succ, List.getElem_cons_zero, Act.put, List.setIfInBounds_toArray, List.set_cons_zero, List.set_cons_succ]
  refine wpAnyHT_one (i := 5) rfl (by kernel_rfl) (by kernel_rfl) (fun K hK => ?_)
  try simp only [List.getElem_toArray, List.getElem_cons_succ, List.getElem_cons_zero]
  go_simp
  refine (HT.out _ _ r4).mono ?_
  rintro e x5 ⟨rfl, r5, f5⟩
  have e5 : txS bs v4.2 = v5 := by rw [← HV4.out]; exact hv5
  rw [e5] at r5 ⊢
  have hs5 : x5.cell? ⟨bx, 0, none⟩ = some (.pointer (some ⟨b, 0, none⟩)) := (f5.cell (World.block_lt_of_cell? _ _ hs4) (by simpa using HNE.out.1)).trans hs4
  refine hK _ _ hs5 ?_
  clear hK K
  try simp only [List.getElem_toArray, List.getElem_cons_succ, List.getElem_cons_zero, Act.put, List.setIfInBounds_toArray, List.set_cons_zero, List.set_cons_succ]
  refine wpAnyHT_one (i := 7) rfl (by kernel_rfl) (by kernel_rfl) (fun K hK => ?_)
  try simp only [List.getElem_toArray, List.getElem_cons_succ, List.getElem_cons_zero]
  go_simp
  refine (HT.out _ _ r5).mono ?_
  rintro e x6 ⟨rfl, r6, f6⟩
  have e6 : txS bs v5.2 = v6 := by rw [← HV5.out]; exact hv6
  rw [e6] at r6 ⊢
  have hs6 : x6.cell? ⟨bx, 0, none⟩ = some (.pointer (some ⟨b, 0, none⟩)) := (f6.cell (World.block_lt_of_cell? _ _ hs5) (by simpa using HNE.out.1)).trans hs5
  refine hK _ _ hs6 ?_
  clear hK K
  try simp only [List.getElem_toArray, List.getElem_cons_succ, List.getElem_cons_zero, Act.put, List.setIfInBounds_toArray, List.set_cons_zero, List.set_cons_succ]
  refine wpAnyHT_end (by kernel_rfl) ?_
  simp only [List.drop_succ_cons, List.drop_zero]
  have HFX : Hid (Frm [b] W1 x6) := hid ((((((Frm.refl [b] W1).drew).trans f3 (fun i hi _ => hi)).trans f4 (fun i hi _ => hi)).trans f5 (fun i hi _ => hi)).trans f6 (fun i hi _ => hi))
  have hrow := HFX.out.heap HQ1.out (by simpa using HNE.out.2.1)
  have HRX := hid r6
  have HSX := hid hs6
  have z3 : x6.cell? ⟨bq, 3, none⟩ = some (.string ⟨#[]⟩) := by rw [cell_of_row _ _ _ _ _ _ hrow]; rfl
  have y3 := frozen_of_row x6 bq 3 _ _ hrow
  have z4 : x6.cell? ⟨bq, 4, none⟩ = some (.string ⟨#[]⟩) := by rw [cell_of_row _ _ _ _ _ _ hrow]; rfl
  have y4 := frozen_of_row x6 bq 4 _ _ hrow
  have z5 : x6.cell? ⟨bq, 5, none⟩ = some (.string ⟨#[]⟩) := by rw [cell_of_row _ _ _ _ _ _ hrow]; rfl
  have y5 := frozen_of_row x6 bq 5 _ _ hrow
  have z6 : x6.cell? ⟨bq, 6, none⟩ = some (.string ⟨#[]⟩) := by rw [cell_of_row _ _ _ _ _ _ hrow]; rfl
  have y6 := frozen_of_row x6 bq 6 _ _ hrow
  clear r3 f3 hs3 hv3 e3 r4 f4 hs4 hv4 e4 r5 f5 hs5 hv5 e5 r6 f6 hs6 hv6 e6 hrA hsA
  go_upto_region 3 with fail
  obtain ⟨h4, f4⟩ := sets_rowF bq 24 [(3, .string (strOfNums v3.1)), (4, .string (strOfNums v4.1)), (5, .string (strOfNums v5.1)), (6, .string (strOfNums v6.1))] x6 _ hrow
  simp only [List.foldl, List.setIfInBounds_toArray, List.set_cons_zero, List.set_cons_succ] at h4
  obtain ⟨W2, hW2⟩ : ∃ z, setsF x6 bq [(3, .string (strOfNums v3.1)), (4, .string (strOfNums v4.1)), (5, .string (strOfNums v5.1)), (6, .string (strOfNums v6.1))] = z := ⟨_, rfl⟩
  rw [hW2] at h4 f4
  have hwz : ((((x6.setCell ⟨bq, 3, none⟩ (.string (strOfNums v3.1))).setCell ⟨bq, 4, none⟩ (.string (strOfNums v4.1))).setCell ⟨bq, 5, none⟩ (.string (strOfNums v5.1))).setCell ⟨bq, 6, none⟩ (.string (strOfNums v6.1))) = W2 := hW2
  rw [hwz]
  have HQ2 := hid h4
  have HF2 : Hid (Frm [b] w W2) := hid ((HF1.out.trans HFX.out (fun i hi _ => hi)).trans f4 (fun i hi hl => by rw [List.mem_singleton] at hi; have := HNE.out.2.2.2.2.1; omega))
  have HB2 : Hid (W2.cell? ⟨bx, 0, none⟩ = some (.pointer (some ⟨b, 0, none⟩))) := hid ((f4.cell (World.block_lt_of_cell? _ _ HSX.out) (by simpa using HNE.out.2.2.1)).trans HSX.out)
  have HR2 : Hid (FrR w0 W2 b g bs v6.2) := hid (frR_set HRX.out f4 (fun h => HNE.out.2.1 h) HNE.out.2.2.2.1 HNE.out.2.2.2.2.2)
  clear h4 f4 hW2 hwz hrow HFX HRX HSX z3 y3 z4 y4 z5 y5 z6 y6 HQ1 HF1 HB1 HR1
  have hsA : W2.drew.cell? ⟨bx, 0, none⟩ = some (.pointer (some ⟨b, 0, none⟩)) := ((Frm.refl [] W2).drew.cell (World.block_lt_of_cell? _ _ HB2.out) (by simp)).trans HB2.out
  have hrA := FrR.k0 HR2.out (Frm.refl [] W2).drew
  obtain ⟨v7, hv7⟩ : ∃ v, q8 bs s = v := ⟨_, rfl⟩
  have HV7 := hid hv7
  obtain ⟨v8, hv8⟩ : ∃ v, q9 bs s = v := ⟨_, rfl⟩
  have HV8 := hid hv8
  refine wp_region_tail (S := fun W => (W.cell? ⟨bx, 0, none⟩ = some (.pointer (some ⟨b, 0, none⟩)))) 5 8 rfl (by kernel_rfl) (by kernel_rfl) ?_
  refine wpAnyHT_take (i := 0) (oi := _) (v := ?_) (by kernel_rfl) rfl (by kernel_rfl) (by kernel_rfl) (by kernel_rfl) (by kernel_rfl) (fun _ _ _ h => h) (Or.inl ⟨by rfl, ?_⟩) hsA ?_
  rotate_left 1
  · (intro W hSw; obtain s0 := hSw; (try simp only [List.getElem_toArray, List.getElem_cons_zero]); go_simp; try with_reducible rfl)
  try simp only [List.getElem_toArray, List.getElem_cons_zero, Act.put, List.setIfInBounds_toArray, List.set_cons_zero, List.set_cons_succ]
  refine wpAnyHT_take (i := 2) (oi := _) (v := ?_) (by kernel_rfl) rfl (by kernel_rfl) (by kernel_rfl) (by kernel_rfl) (by kernel_rfl) (fun _ _ _ h => h) (Or.inl ⟨by rfl, ?_⟩) hsA ?_
  rotate_left 1
  · (intro W hSw; obtain s0 := hSw; (try simp only [List.getElem_toArray, List.getElem_cons_succ, List.getElem_cons_zero]); go_simp; try with_reducible rfl)
  try simp only [List.getElem_toArray, List.getElem_cons_succ, List.getElem_cons_zero, Act.put, List.setIfInBounds_toArray, List.set_cons_zero, List.set_cons_succ]
  refine wpAnyHT_one (i := 1) rfl (by kernel_rfl) (by kernel_rfl) (fun K hK => ?_)
  try simp only [List.getElem_toArray, List.getElem_cons_succ, List.getElem_cons_zero]
  go_simp
  refine (HI.out 6 (by omega) (by omega) _ _ hrA).mono ?_
  rintro e x7 ⟨rfl, r7, f7⟩
  have e7 : nuS bs v6.2 6 = v7 := by rw [← HV6.out]; exact hv7
  rw [e7] at r7 ⊢
  have hs7 : x7.cell? ⟨bx, 0, none⟩ = some (.pointer (some ⟨b, 0, none⟩)) := (f7.cell (World.block_lt_of_cell? _ _ hsA) (by simpa using HNE.out.1)).trans hsA
  refine hK _ _ hs7 ?_
  clear hK K
  try simp only [List.getElem_toArray, List.getElem_cons_succ, List.getElem_cons_zero, Act.put, List.setIfInBounds_toArray, List.set_cons_zero, List.set_cons_succ]
  refine wpAnyHT_take (i := 4) (oi := _) (v := ?_) (by kernel_rfl) rfl (by kernel_rfl) (by kernel_rfl) (by kernel_rfl) (by kernel_rfl) (fun _ _ _ h => h) (Or.inl ⟨by rfl, ?_⟩) hs7 ?_
  rotate_left 1
  · (intro W hSw; obtain s0 := hSw; (try simp only [List.getElem_toArray, List.getElem_cons_succ, List.getElem_cons_zero]); go_simp; try with_reducible rfl)
  try simp only [List.getElem_toArray, List.getElem_cons_succ, List.getElem_cons_zero, Act.put, List.setIfInBounds_toArray, List.set_cons_zero, List.set_cons_succ]
  refine wpAnyHT_one (i := 3) rfl (by kernel_rfl) (by kernel_rfl) (fun K hK => ?_)
  try simp only [List.getElem_toArray, List.getElem_cons_succ, List.getElem_cons_zero]
  go_simp
  refine (HI.out 6 (by omega) (by omega) _ _ r7).mono ?_
  rintro e x8 ⟨rfl, r8, f8⟩
  have e8 : nuS bs v7.2 6 = v8 := by rw [← HV7.out]; exact hv8
  rw [e8] at r8 ⊢
  have hs8 : x8.cell? ⟨bx, 0, none⟩ = some (.pointer (some ⟨b, 0, none⟩)) := (f8.cell (World.block_lt_of_cell? _ _ hs7) (by simpa using HNE.out.1)).trans hs7
  refine hK _ _ hs8 ?_
  clear hK K
  try simp only [List.getElem_toArray, List.getElem_cons_succ, List.getElem_cons_zero, Act.put, List.setIfInBounds_toArray, List.set_cons_zero, List.set_cons_succ]
  refine wpAnyHT_end (by kernel_rfl) ?_
  simp only [List.drop_succ_cons, List.drop_zero]
  have HFX : Hid (Frm [b] W2 x8) := hid ((((Frm.refl [b] W2).drew).trans f7 (fun i hi _ => hi)).trans f8 (fun i hi _ => hi))
  have hrow := HFX.out.heap HQ2.out (by simpa using HNE.out.2.1)
  have HRX := hid r8
  have HSX := hid hs8
  have z7 : x8.cell? ⟨bq, 7, none⟩ = some (.int .i64 0) := by rw [cell_of_row _ _ _ _ _ _ hrow]; rfl
  have y7 := frozen_of_row x8 bq 7 _ _ hrow
  have z8 : x8.cell? ⟨bq, 8, none⟩ = some (.int .i64 0) := by rw [cell_of_row _ _ _ _ _ _ hrow]; rfl
  have y8 := frozen_of_row x8 bq 8 _ _ hrow
  clear r7 f7 hs7 hv7 e7 r8 f8 hs8 hv8 e8 hrA hsA
  go_upto_region 4 with fail
  obtain ⟨h4, f4⟩ := sets_rowF bq 24 [(7, .int .i64 v7.1), (8, .int .i64 v8.1)] x8 _ hrow
  simp only [List.foldl, List.setIfInBounds_toArray, List.set_cons_zero, List.set_cons_succ] at h4
  obtain ⟨W3, hW3⟩ : ∃ z, setsF x8 bq [(7, .int .i64 v7.1), (8, .int .i64 v8.1)] = z := ⟨_, rfl⟩
  rw [hW3] at h4 f4
  have hwz : ((x8.setCell ⟨bq, 7, none⟩ (.int .i64 v7.1)).setCell ⟨bq, 8, none⟩ (.int .i64 v8.1)) = W3 := hW3
  rw [hwz]
  have HQ3 := hid h4
  have HF3 : Hid (Frm [b] w W3) := hid ((HF2.out.trans HFX.out (fun i hi _ => hi)).trans f4 (fun i hi hl => by rw [List.mem_singleton] at hi; have := HNE.out.2.2.2.2.1; omega))
  have HB3 : Hid (W3.cell? ⟨bx, 0, none⟩ = some (.pointer (some ⟨b, 0, none⟩))) := hid ((f4.cell (World.block_lt_of_cell? _ _ HSX.out) (by simpa using HNE.out.2.2.1)).trans HSX.out)
  have HR3 : Hid (FrR w0 W3 b g bs v8.2) := hid (frR_set HRX.out f4 (fun h => HNE.out.2.1 h) HNE.out.2.2.2.1 HNE.out.2.2.2.2.2)
  clear h4 f4 hW3 hwz hrow HFX HRX HSX z7 y7 z8 y8 HQ2 HF2 HB2 HR2
  have c0 := HB3.out
  obtain ⟨v11, hv11⟩ : ∃ v, q11 bs s = v := ⟨_, rfl⟩
  have HV11 := hid hv11
  have hdd := HD.out _ _ HR3.out
  have e11 : byS bs (nuS bs v8.2 2).2 (nuS bs v8.2 2).1 = v11 := by rw [← HV8.out]; exact hv11
  rw [e11] at hdd
  have HDD := hid hdd
  clear hdd e11 hv11
  go_wp2_with fail
  refine HDD.out.mono ?_
  rintro e x9 ⟨p, n, c, rfl, hn, ho, hnw, hr9, hf9⟩
  have hrow := hf9.heap HQ3.out (by simpa using HNE.out.2.1)
  have z9 : x9.cell? ⟨bq, 9, none⟩ = some (.slice none 0 0) := by rw [cell_of_row _ _ _ _ _ _ hrow]; rfl
  have y9 := frozen_of_row x9 bq 9 _ _ hrow
  have HO := hid ho
  have HNL := hid hn
  have HNW := hid hnw
  have HR9 := hid hr9
  have HF9 := hid hf9
  clear ho hn hnw hr9 hf9 c0 HDD
  go_upto_region 5 with fail
  obtain ⟨h4, f4⟩ := sets_rowF bq 24 [(9, .slice p n c)] x9 _ hrow
  simp only [List.foldl, List.setIfInBounds_toArray, List.set_cons_zero, List.set_cons_succ] at h4
  obtain ⟨W4, hW4⟩ : ∃ z, setsF x9 bq [(9, .slice p n c)] = z := ⟨_, rfl⟩
  rw [hW4] at h4 f4
  have hwz : x9.setCell ⟨bq, 9, none⟩ (.slice p n c) = W4 := hW4
  rw [hwz]
  have HQ4 := hid h4
  have HBL : Hid (bq ∉ blk p) := hid (fun hm => by have h1 := HNW.out bq hm; have h2 := lt_of_heap HQ3.out; omega)
  have HX4 : Hid (n = v11.1.length ∧ Own W4 5 (.slice p n c) v11.1 ∧ (∀ k ∈ blk p, w.heap.size ≤ k) ∧ FrR w0 W4 b g bs v11.2 ∧ Frm [b] w W4) := hid ⟨HNL.out, HO.out.kept f4 (by rw [own_blk]; exact fun k hk hm => by rw [List.mem_singleton] at hm; subst hm; exact HBL.out hk), fun k hk => by have := HNW.out k hk; have := HF3.out.size; omega, frR_set HR9.out f4 (fun h => HNE.out.2.1 h) HNE.out.2.2.2.1 HNE.out.2.2.2.2.2, (HF3.out.trans HF9.out (fun i hi _ => hi)).trans f4 (fun i hi hl => by rw [List.mem_singleton] at hi; have := HNE.out.2.2.2.2.1; omega)⟩
  clear h4 f4 hW4 hwz hrow z9 y9 HO HNL HNW HR9 HF9 HR3 HQ3 HF3 HB3
  have z0 : W4.cell? ⟨bq, 0, none⟩ = some (.int .i64 v0.1) := by rw [cell_of_row _ _ _ _ _ _ HQ4.out]; rfl
  have y0 := frozen_of_row W4 bq 0 _ _ HQ4.out
  have z1 : W4.cell? ⟨bq, 1, none⟩ = some (.int .i64 v1.1) := by rw [cell_of_row _ _ _ _ _ _ HQ4.out]; rfl
  have y1 := frozen_of_row W4 bq 1 _ _ HQ4.out
  have z2 : W4.cell? ⟨bq, 2, none⟩ = some (.int .i64 v2.1) := by rw [cell_of_row _ _ _ _ _ _ HQ4.out]; rfl
  have y2 := frozen_of_row W4 bq 2 _ _ HQ4.out
  have z3 : W4.cell? ⟨bq, 3, none⟩ = some (.string (strOfNums v3.1)) := by rw [cell_of_row _ _ _ _ _ _ HQ4.out]; rfl
  have y3 := frozen_of_row W4 bq 3 _ _ HQ4.out
  have z4 : W4.cell? ⟨bq, 4, none⟩ = some (.string (strOfNums v4.1)) := by rw [cell_of_row _ _ _ _ _ _ HQ4.out]; rfl
  have y4 := frozen_of_row W4 bq 4 _ _ HQ4.out
  have z5 : W4.cell? ⟨bq, 5, none⟩ = some (.string (strOfNums v5.1)) := by rw [cell_of_row _ _ _ _ _ _ HQ4.out]; rfl
  have y5 := frozen_of_row W4 bq 5 _ _ HQ4.out
  have z6 : W4.cell? ⟨bq, 6, none⟩ = some (.string (strOfNums v6.1)) := by rw [cell_of_row _ _ _ _ _ _ HQ4.out]; rfl
  have y6 := frozen_of_row W4 bq 6 _ _ HQ4.out
  have z7 : W4.cell? ⟨bq, 7, none⟩ = some (.int .i64 v7.1) := by rw [cell_of_row _ _ _ _ _ _ HQ4.out]; rfl
  have y7 := frozen_of_row W4 bq 7 _ _ HQ4.out
  have z8 : W4.cell? ⟨bq, 8, none⟩ = some (.int .i64 v8.1) := by rw [cell_of_row _ _ _ _ _ _ HQ4.out]; rfl
  have y8 := frozen_of_row W4 bq 8 _ _ HQ4.out
  have z9 : W4.cell? ⟨bq, 9, none⟩ = some (.slice p n c) := by rw [cell_of_row _ _ _ _ _ _ HQ4.out]; rfl
  have y9 := frozen_of_row W4 bq 9 _ _ HQ4.out
  go_wp2_with fail
  obtain ⟨h5, f5⟩ := sets_rowF bq 24 [(0, .int .i64 v0.1), (1, .int .i64 v1.1), (2, .int .i64 v2.1), (3, .string (strOfNums v3.1)), (4, .string (strOfNums v4.1)), (5, .string (strOfNums v5.1)), (6, .string (strOfNums v6.1)), (7, .int .i64 v7.1), (8, .int .i64 v8.1), (9, .slice p n c)] W4 _ HQ4.out
  simp only [List.foldl, List.setIfInBounds_toArray, List.set_cons_zero, List.set_cons_succ] at h5
  obtain ⟨Wz, hWz⟩ : ∃ z, setsF W4 bq [(0, .int .i64 v0.1), (1, .int .i64 v1.1), (2, .int .i64 v2.1), (3, .string (strOfNums v3.1)), (4, .string (strOfNums v4.1)), (5, .string (strOfNums v5.1)), (6, .string (strOfNums v6.1)), (7, .int .i64 v7.1), (8, .int .i64 v8.1), (9, .slice p n c)] = z := ⟨_, rfl⟩
  rw [hWz] at h5 f5
  have hwz : ((((((((((W4.setCell ⟨bq, 0, none⟩ (.int .i64 v0.1)).setCell ⟨bq, 1, none⟩ (.int .i64 v1.1)).setCell ⟨bq, 2, none⟩ (.int .i64 v2.1)).setCell ⟨bq, 3, none⟩ (.string (strOfNums v3.1))).setCell ⟨bq, 4, none⟩ (.string (strOfNums v4.1))).setCell ⟨bq, 5, none⟩ (.string (strOfNums v5.1))).setCell ⟨bq, 6, none⟩ (.string (strOfNums v6.1))).setCell ⟨bq, 7, none⟩ (.int .i64 v7.1)).setCell ⟨bq, 8, none⟩ (.int .i64 v8.1)).setCell ⟨bq, 9, none⟩ (.slice p n c)) = Wz := hWz
  rw [hwz]
  have u0 : Wz.cell? ⟨bq, 0, none⟩ = some (.int .i64 v0.1) := by rw [cell_of_row _ _ _ _ _ _ h5]; rfl
  have u1 : Wz.cell? ⟨bq, 1, none⟩ = some (.int .i64 v1.1) := by rw [cell_of_row _ _ _ _ _ _ h5]; rfl
  have u2 : Wz.cell? ⟨bq, 2, none⟩ = some (.int .i64 v2.1) := by rw [cell_of_row _ _ _ _ _ _ h5]; rfl
  have u3 : Wz.cell? ⟨bq, 3, none⟩ = some (.string (strOfNums v3.1)) := by rw [cell_of_row _ _ _ _ _ _ h5]; rfl
  have u4 : Wz.cell? ⟨bq, 4, none⟩ = some (.string (strOfNums v4.1)) := by rw [cell_of_row _ _ _ _ _ _ h5]; rfl
  have u5 : Wz.cell? ⟨bq, 5, none⟩ = some (.string (strOfNums v5.1)) := by rw [cell_of_row _ _ _ _ _ _ h5]; rfl
  have u6 : Wz.cell? ⟨bq, 6, none⟩ = some (.string (strOfNums v6.1)) := by rw [cell_of_row _ _ _ _ _ _ h5]; rfl
  have u7 : Wz.cell? ⟨bq, 7, none⟩ = some (.int .i64 v7.1) := by rw [cell_of_row _ _ _ _ _ _ h5]; rfl
  have u8 : Wz.cell? ⟨bq, 8, none⟩ = some (.int .i64 v8.1) := by rw [cell_of_row _ _ _ _ _ _ h5]; rfl
  have u9 : Wz.cell? ⟨bq, 9, none⟩ = some (.slice p n c) := by rw [cell_of_row _ _ _ _ _ _ h5]; rfl
  refine bodyPost_ret (v := .agg #[.int .i64 v0.1, .int .i64 v1.1, .int .i64 v2.1, .string (strOfNums v3.1), .string (strOfNums v4.1), .string (strOfNums v5.1), .string (strOfNums v6.1), .int .i64 v7.1, .int .i64 v8.1, .slice p n c]) (by simp [results, Tryd.results41, go_sem, u0, u1, u2, u3, u4, u5, u6, u7, u8, u9]) rfl ?_
  obtain ⟨hn, ho, hnw, hr, hf⟩ := HX4.out
  have hz : Frm [b] w Wz := hf.trans f5 (fun i hi hl => by rw [List.mem_singleton] at hi; have := HNE.out.2.2.2.2.1; omega)
  refine HP.out _ _ ⟨p, n, c, ?_, by rw [HV11.out]; exact hn, by rw [HV11.out]; exact ho.kept f5 (by rw [own_blk]; exact fun k hk hm => by rw [List.mem_singleton] at hm; subst hm; exact HBL.out hk), hnw, by rw [HV11.out]; exact frR_set hr f5 (fun h => HNE.out.2.1 h) HNE.out.2.2.2.1 HNE.out.2.2.2.2.2, hz⟩
  rw [reqT, HV0.out, HV1.out, HV2.out, HV3.out, HV4.out, HV5.out, HV6.out, HV7.out, HV8.out]
  rfl
end
section
open Go.RowKit Go.Lib

/-- From a place on there stand these cells (of none nothing is asked). -/
def Rv (w : World) (p : Option Addr) (vs : List Value) : Prop :=
  vs = [] ∨ ∃ g o, p = some ⟨g, o, none⟩ ∧ ∀ i u, vs[i]? = some u → w.cell? ⟨g, o + i, none⟩ = some u
theorem Rv.kept {S : List Nat} {w w' : World} {p : Option Addr} {vs : List Value} (h : Rv w p vs) (hf : Frm S w w') (hn : ∀ k ∈ blk p, k ∉ S) : Rv w' p vs := by
  rcases h with h | ⟨g, o, rfl, hc⟩
  · exact Or.inl h
  · refine Or.inr ⟨g, o, rfl, fun i u hi => ?_⟩
    have hlt : g < w.heap.size := World.block_lt_of_cell? w _ (hc i u hi)
    rw [hf.cell (p := ⟨g, o + i, none⟩) hlt (hn g (by simp [blk]))]
    exact hc i u hi
theorem Rd.rv {w : World} {p : Option Addr} {zs : List Int} (h : Rd w p zs) : Rv w p (bv zs) := by
  rcases h with rfl | ⟨g, o, rfl, hc⟩
  · exact Or.inl rfl
  · refine Or.inr ⟨g, o, rfl, fun i u hu => ?_⟩
    have hj : i < zs.length := by have := (List.getElem?_eq_some_iff.1 hu).1; simpa [bv] using this
    rw [bv_get hj] at hu
    rw [hc i hj]
    exact hu
/-- A new block of cells is read whole. -/
theorem rv_block {w : World} {g : Nat} {cs : Array Value} {E : TypeId} (h : w.heap[g]? = some (.cells cs E (0, 0))) : Rv w (some ⟨g, 0, none⟩) cs.toList :=
  Or.inr ⟨g, 0, rfl, fun i u hu => by rw [Nat.zero_add, cell_of_row w g i cs E (0, 0) h]; simpa using hu⟩
section
variable {P : Program} {w : World}
theorem add_lit (g o j : Nat) : (⟨g, o, none⟩ : Addr).add j = ⟨g, o + j, none⟩ := by unfold Addr.add; split <;> simp_all
/-- append to a row of one's own: it stays in its block, or goes into a new one. -/
theorem run_appV (t ty E : TypeId) (sz bytes : Nat) (z : Value) (ht : P.underlying t = some (.slice E)) (hI : (P.info? E).map (fun i => (i.zero, i.size, i.bytes)) = some (some z, sz, bytes)) (hzs : z.cells.size = sz) (hsz : 0 < sz)
    (v : Value) (n : Nat) (xs : List Value) (hown : w.ownsRow 0 E sz v n xs) (p : Option Addr) (m c : Nat) (ns : List Value) (hnl : ns.length = m * sz) (hp : m = 0 → p = none → c = 0) (hrd : Rv w p ns) (h1 : ∀ u ∈ ns, u.oneCell' = true)
    (hmax : n + m ≤ maxLen) (hb : (n + m) * bytes ≤ 140737488355328) :
    ∃ v' w', (Builtin.append_ #[t, t] ty #[v, .slice p m c]).run P w = .ok v' w' ∧ w'.ownsRow 0 E sz v' (n + m) (xs ++ ns) ∧ Frm v.ownBlock.toList w w' ∧ (∀ k ∈ v'.ownBlock.toList, k ∈ v.ownBlock.toList ∨ w.heap.size ≤ k) := by
  obtain ⟨i, hi, hz, hs, hby⟩ := info_parts hI
  by_cases hm : m = 0
  · subst hm
    obtain rfl : ns = [] := List.eq_nil_of_length_eq_zero (by simpa using hnl)
    cases p with
    | none =>
      obtain rfl := hp rfl rfl
      have hr := run_append_owned_none (P := P) w 0 t ty E i sz ht hi v n xs hown
      exact ⟨v, w, hr, by simpa using hown, Frm.refl _ _, fun k hk => Or.inl hk⟩
    | some ad =>
      obtain ⟨v', w', hr, ho, hg, _⟩ := run_append_own (P := P) w 0 t ty E i z sz bytes ht hi hz hs hby hzs hsz v n xs hown ad 0 c [] (by simp) (by simp) (by simp) hmax hb (Nat.zero_le _)
      refine ⟨v', w', hr, ho, (Frm.refl _ _).grown hg (fun k hk _ => by simp [hk]), ?_⟩
      rcases hown.2 with ⟨rfl, rfl⟩ | ⟨g, cap, cur, rfl, _, hgg, hc, hcm, hcs, htk⟩
      · obtain rfl : xs = [] := List.eq_nil_of_length_eq_zero (by simpa using hown.1)
        obtain ⟨v2, w2, hr2, ho2, _, _⟩ := run_append_own (P := P) w w.heap.size t ty E i z sz bytes ht hi hz hs hby hzs hsz (.slice none 0 0) 0 [] (World.ownsRow_nil w _ E sz) ad 0 c [] (by simp) (by simp) (by simp) hmax hb (Nat.le_refl _)
        obtain ⟨rfl, rfl⟩ := oks (hr.symm.trans hr2)
        intro k hk; exact Or.inr (ho2.lt k (by simpa using hk)).1
      · have hr2 := run_append_room (P := P) w t ty E i ht hi g n cap cur hgg ad 0 c [] (by simp) (by simp) (by simp) (by omega) (by simp [hs, hcs]; exact Nat.mul_le_mul_right _ hc)
        obtain ⟨rfl, rfl⟩ := oks (hr.symm.trans hr2)
        intro k hk; exact Or.inl (by simpa [Value.ownBlock] using hk)
  · have hne : ns ≠ [] := by
      intro h; subst h
      have h0 : m * sz = 0 := by simpa using hnl.symm
      rcases Nat.mul_eq_zero.1 h0 with h | h
      · exact hm h
      · omega
    obtain ⟨g0, o0, rfl, hc0⟩ : ∃ g o, p = some ⟨g, o, none⟩ ∧ ∀ i u, ns[i]? = some u → w.cell? ⟨g, o + i, none⟩ = some u := by
      rcases hrd with h | h
      · exact absurd h hne
      · exact h
    have hnews : ∀ j u, ns[j]? = some u → w.cell? ((⟨g0, o0, none⟩ : Addr).add j) = some u := by
      intro j u hu; rw [add_lit]; exact hc0 j u hu
    obtain ⟨v', w', hr, ho, hg, _⟩ := run_append_own (P := P) w 0 t ty E i z sz bytes ht hi hz hs hby hzs hsz v n xs hown ⟨g0, o0, none⟩ m c ns hnl hnews h1 hmax hb (Nat.zero_le _)
    refine ⟨v', w', hr, ho, (Frm.refl _ _).grown hg (fun k hk _ => by simp [hk]), ?_⟩
    have hpos : 0 < m := by omega
    have hm63 : n + m ≤ 9223372036854775807 := by unfold maxLen at hmax; omega
    rcases hown.2 with ⟨rfl, rfl⟩ | ⟨g, cap, cur, rfl, _, hgg, hc, hcm, hcs, htk⟩
    · have hr2 := run_append_nil (P := P) w t ty E i z ht hi hz ⟨g0, o0, none⟩ m c ns (by rw [hs]; exact hnl) hnews hpos (by omega) (by rw [hby]; rw [Nat.zero_add] at hb; omega)
      obtain ⟨rfl, rfl⟩ := oks (hr.symm.trans hr2)
      intro k hk; simp [Value.ownBlock] at hk; exact Or.inr (by omega)
    · by_cases hroom : n + m ≤ cap
      · have hr2 := run_append_room (P := P) w t ty E i ht hi g n cap cur hgg ⟨g0, o0, none⟩ m c ns (by rw [hs]; exact hnl) hnews h1 hroom (by rw [hnl, hs, hcs, ← Nat.add_mul]; exact Nat.mul_le_mul_right _ hroom)
        obtain ⟨rfl, rfl⟩ := oks (hr.symm.trans hr2)
        intro k hk; exact Or.inl (by simpa [Value.ownBlock] using hk)
      · have holds := World.ownsRow.cells (g := g) hown rfl
        have hr2 := run_append_grow (P := P) w t ty E i z ht hi hz ⟨g, 0, none⟩ n cap xs (by rw [hs]; exact hown.1) holds ⟨g0, o0, none⟩ m c ns (by rw [hs]; exact hnl) hnews (by omega) (by omega) (growslice_fits (by omega) (by rw [hby]; exact hb))
        obtain ⟨rfl, rfl⟩ := oks (hr.symm.trans hr2)
        intro k hk; simp [Value.ownBlock] at hk; exact Or.inr (by omega)
theorem ownsRow_shape {E : TypeId} {sz n : Nat} {v : Value} {xs : List Value} (h : w.ownsRow 0 E sz v n xs) : ∃ p c, v = .slice p n c := by
  rcases h.2 with ⟨rfl, rfl⟩ | ⟨g, c, cur, rfl, _⟩
  · exact ⟨none, 0, rfl⟩
  · exact ⟨_, c, rfl⟩
theorem wpList_appV {ops : Array Oper} {rest : List Oper} {o : Oper} {a : Act} {Q : Exit → Act → World → Prop} (hgd : o.guard = none) (s x : Operand) (t : TypeId)
    (ho : o.op = .call { callee := .builtin .append, args := #[s, x], argTypes := #[t, t] })
    (E : TypeId) (sz bytes : Nat) (z : Value) (ht : P.underlying t = some (.slice E)) (hI : (P.info? E).map (fun i => (i.zero, i.size, i.bytes)) = some (some z, sz, bytes)) (hzs : z.cells.size = sz) (hsz : 0 < sz)
    (p0 : Option Addr) (n c0 : Nat) (xs : List Value) (hs : a.eval s = .slice p0 n c0) (hown : w.ownsRow 0 E sz (.slice p0 n c0) n xs)
    (p : Option Addr) (m c : Nat) (ns : List Value) (hx : a.eval x = .slice p m c) (hnl : ns.length = m * sz) (hp : m = 0 → p = none → c = 0) (hrd : Rv w p ns) (h1 : ∀ u ∈ ns, u.oneCell' = true)
    (hmax : n + m ≤ maxLen) (hb : (n + m) * bytes ≤ 140737488355328)
    (h : ∀ p2 c2 w', Hid (w'.ownsRow 0 E sz (.slice p2 (n + m) c2) (n + m) (xs ++ ns)) → Hid (Frm (blk p0) w w') → Hid (∀ k ∈ blk p2, k ∈ blk p0 ∨ w.heap.size ≤ k) → wpList P ops Q rest (a.put o.dst (.slice p2 (n + m) c2)) w') :
    wpList P ops Q (o :: rest) a w := by
  refine wpList_plain hgd fun K hK => ?_
  obtain ⟨v', w', hrun, h2, h3, h4⟩ := run_appV (P := P) (w := w) t o.type E sz bytes z ht hI hzs hsz _ n xs hown p m c ns hnl hp hrd h1 hmax hb
  obtain ⟨p2, c2, rfl⟩ := ownsRow_shape h2
  rw [own_blk] at h4
  rw [own_blk] at h3 h4
  unfold Oper.wp
  simp [execOp, ho, resolve, invoke, builtin, hs, hx, hrun, Result.andThen]
  exact hK _ _ (h p2 c2 w' h2 h3 h4)
theorem ownsRow_kept {S : List Nat} {w' : World} {E : TypeId} {sz n : Nat} {p : Option Addr} {c : Nat} {xs : List Value} (h : w.ownsRow 0 E sz (.slice p n c) n xs) (hf : Frm S w w') (hn : ∀ k ∈ blk p, k ∉ S) : w'.ownsRow 0 E sz (.slice p n c) n xs := by
  refine ⟨h.1, ?_⟩
  rcases h.2 with h0 | ⟨g, c, cur, he, hb, hg, r⟩
  · exact Or.inl h0
  · simp only [Value.slice.injEq] at he
    obtain ⟨rfl, _, rfl⟩ := he
    exact Or.inr ⟨g, _, cur, rfl, hb, hf.heap hg (hn g (by simp [blk])), r⟩
theorem ownsRow_low {E : TypeId} {sz n : Nat} {p : Option Addr} {c : Nat} {xs : List Value} (h : w.ownsRow 0 E sz (.slice p n c) n xs) : ∀ k ∈ blk p, k < w.heap.size := by
  intro k hk
  exact (h.lt k (by cases p <;> simp_all [blk, Value.ownBlock])).2
end
end
end Go.Proofs.YtignoocdeghiaaaDoor
