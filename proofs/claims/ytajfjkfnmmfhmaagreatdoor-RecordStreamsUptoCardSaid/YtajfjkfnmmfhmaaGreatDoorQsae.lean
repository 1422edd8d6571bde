/- Records: Check. -/
import Derived.Deep.Cut
import Derived.Deep.DeepCutAuto
import Derived.Test.YtajfjkfnmmfhmaaGreatDoorQsab
import Derived.Test.YtajfjkfnmmfhmaaGreatDoorQsad
import Derived.Test.YtajfjkfnmmfhmaaGreatDoorQsac
import Derived.Deep.RegionHeld3
namespace Go.Proofs.YtajfjkfnmmfhmaaGreatDoor
set_option maxRecDepth 100000
set_option maxHeartbeats 25600000
section
open Go.RowKit Go.Lib
def lkT (k : Int) : Option (Array Value) := if k = 1 then some rw1 else if k = 2 then some rw2 else if k = 3 then some rw3 else if k = 4 then some rw4 else if k = 5 then some rw5 else if k = 6 then some rwC else if k = 7 then some rwC else none
theorem lkT_of (k : Int) : lkR k (rowsT 7).toList = (lkT k).map Value.agg := by
 unfold rowsT lkT
 simp only [lkR]
 repeat (split <;> first | rfl | skip)
def RcMay (r : Rc) (P : List Pr) (K D : List Int) : Prop :=
 if r.kind = 1 then MayPk r ∧ SameR r r.onlyPackage P [] K [] D []
 else if r.kind = 2 then MayBg r P ∧ SameR r r.onlyBegin P P K [] D []
 else if r.kind = 3 then MayLv r K ∧ SameR r r.onlyLive P [] K K D []
 else if r.kind = 4 then MayNd r K ∧ SameR r r.onlyNode P [] K K D []
 else if r.kind = 5 then MayWr r ∧ SameR r r.onlyWrite P [] K [] D D
 else if r.kind = 6 then MayCn r ∧ SameR r r.onlyCount P [] K [] D []
 else if r.kind = 7 then MayCn r ∧ SameR r r.onlyCount P [] K [] D []
 else False
instance (r : Rc) (P : List Pr) (K D : List Int) : Decidable (RcMay r P K D) := by unfold RcMay; infer_instance
theorem RdI.none (w : World) (p : Option Addr) : RdI w p [] := Or.inl rfl
theorem RdP.none (w : World) (p : Option Addr) : RdP w p [] := Or.inl rfl
theorem RcOk.onlyPackage {w : World} {r : Rc} : RcOk w r.onlyPackage [] [] [] := ⟨RdP.none _ _, rfl, RdI.none _ _, rfl, Rd.nil _ _, rfl, by simp, by unfold Rc.onlyPackage; simp⟩
theorem RcOk.onlyCount {w : World} {r : Rc} : RcOk w r.onlyCount [] [] [] := ⟨RdP.none _ _, rfl, RdI.none _ _, rfl, Rd.nil _ _, rfl, by simp, by unfold Rc.onlyCount; simp⟩
theorem RcOk.onlyBegin {w : World} {r : Rc} {P : List Pr} {K D : List Int} (h : RcOk w r P K D) : RcOk w r.onlyBegin P [] [] := ⟨h.pr, h.pl, RdI.none _ _, rfl, Rd.nil _ _, rfl, by simp, ⟨h.mx.1, by unfold Rc.onlyBegin; simp⟩⟩
theorem RcOk.onlyLive {w : World} {r : Rc} {P : List Pr} {K D : List Int} (h : RcOk w r P K D) : RcOk w r.onlyLive [] K [] := ⟨RdP.none _ _, rfl, h.kr, h.kl, Rd.nil _ _, rfl, by simp, ⟨by unfold Rc.onlyLive; simp, h.mx.2⟩⟩
theorem RcOk.onlyNode {w : World} {r : Rc} {P : List Pr} {K D : List Int} (h : RcOk w r P K D) : RcOk w r.onlyNode [] K [] := ⟨RdP.none _ _, rfl, h.kr, h.kl, Rd.nil _ _, rfl, by simp, ⟨by unfold Rc.onlyNode; simp, h.mx.2⟩⟩
theorem RcOk.onlyWrite {w : World} {r : Rc} {P : List Pr} {K D : List Int} (h : RcOk w r P K D) : RcOk w r.onlyWrite [] [] D := ⟨RdP.none _ _, rfl, RdI.none _ _, rfl, h.dr, h.dn, h.db, by unfold Rc.onlyWrite; simp⟩
theorem check_row (r ro : Rc) (fm fo fp ft : FuncId) (M : Bool) (S : Prop) [Decidable S] (w : World) (hfm : Hid (∀ (args : Array Value) (W : World), (callFunc fm args).run Tryz.prog W = .ok (.enter fm args) W)) (hfo : Hid (∀ (args : Array Value) (W : World), (callFunc fo args).run Tryz.prog W = .ok (.enter fo args) W)) (hk : lkT r.kind = some #[.func (.func fm) #[] #[], .func (.func fo) #[] #[], .func (.func fp) #[] #[], .func (.func ft) #[] #[]])
  (HM : Hid (∀ W, Frm [] w W → Calls Tryz.prog fm #[.agg r.arr] W fun e w' => e = .returned (.bool M) ∧ Frm [] W w')) (HO : Hid (∀ W, Frm [] w W → Calls Tryz.prog fo #[.agg r.arr] W fun e w' => e = .returned (.agg ro.arr) ∧ Frm [] W w'))
  (HS : Hid (∀ W, Frm [] w W → Calls Tryz.prog 24 #[.agg r.arr, .agg ro.arr] W fun e w' => e = .returned (.bool (decide S)) ∧ Frm [] W w')) :
  Calls Tryz.prog 9 #[.agg r.arr] w fun e w' => e = .returned (.int .i64 (if M = true ∧ S then 0 else 200)) ∧ Frm [] w w' := by
 obtain ⟨PO, hPO⟩ : ∃ PO : Ending → World → Prop, (fun e w' => e = .returned (.int .i64 (if M = true ∧ S then 0 else 200)) ∧ Frm [] w w') = PO := ⟨_, rfl⟩
 rw [hPO]
 have HP0 : Hid (∀ w', M = true ∧ S → Frm [] w w' → PO (.returned (.int .i64 0)) w') := hid (fun w' h h2 => by rw [← hPO]; exact ⟨by rw [if_pos h], h2⟩)
 have HP1 : Hid (∀ w', ¬ (M = true ∧ S) → Frm [] w w' → PO (.returned (.int .i64 200)) w') := hid (fun w' h h2 => by rw [← hPO]; exact ⟨by rw [if_neg h], h2⟩)
 clear hPO
 obtain ⟨wb, hwb⟩ := eX (w.alloc (.cells r.arr 26))
 have hrow := heap_alloc_new w (.cells r.arr 26)
 have hfb : Frm [] w wb := by rw [← hwb]; exact (Frm.refl _ _).alloc _
 obtain ⟨b, hb⟩ := eX (w.heap.size)
 rw [hwb, hb] at hrow
 have HX := hid (fun V (hf : Frm [] wb V) => rc_cells (hf.heap hrow (by simp)))
 have HFB := hid hfb
 have HWB := hid hwb
 have HB := hid hb
 have hlk : ∀ (W : World) (m : Nat), W.heap[m]? = some (.map (rowsT 7) 7) → (Instr.lookup 60 (.map (some m)) (.int .i64 r.kind) true).run Tryz.prog W = .ok (.tuple #[.agg #[.func (.func fm) #[] #[], .func (.func fo) #[] #[], .func (.func fp) #[] #[], .func (.func ft) #[] #[]], .bool true]) W := fun W m h => by
  have h2 := run_lookR (P := Tryz.prog) (w := W) 60 3 58 m 7 (rowsT 7) r.kind (.agg #[.nilFunc, .nilFunc, .nilFunc, .nilFunc]) Tryz.underlying60 Tryz.underlying3 (by kernel_rfl) h (rowsT_int 7)
  rw [lkT_of, hk] at h2
  exact h2
 clear hk hwb hfb hb hrow
 obtain ⟨kind, name, typ, frm, guid, origin, snap, pp, pn, pc, obj, at_, many, kp, kn, kc, dp, dl, dc⟩ := r
 unfold Rc.arr at HM HO HS HWB ⊢
 simp only at HX HM HO HS hlk HWB ⊢
 obtain ⟨y0, y1, y2, y3, y4, y5, y6, y7, y8, y9, y10, y11, y12⟩ := HX.out wb (Frm.refl _ _)
 go_enter Tryz.func9, Tryz.ntmps9
 go_upto_region 1 with fail
 try rw [HWB.out]
 try rw [HB.out]
 go_cut [3, 4] (fun a t wx => ∃ rb, a = .pointer (some ⟨rb, 0, none⟩) ∧ t = .bool true ∧ Hid (wx.heap[rb]? = some (.cells #[.func (.func fm) #[] #[], .func (.func fo) #[] #[], .func (.func fp) #[] #[], .func (.func ft) #[] #[]] 58 (0, 0))) ∧ Hid (Frm [] wb wx) ∧ Hid (wb.heap.size ≤ rb))
 case first =>
  have s0 : wb.drew.cell? ⟨b, 0, none⟩ = some (.int .i64 kind) := y0
  refine wp_region_tail (S := fun W => (W.cell? ⟨b, 0, none⟩ = some (.int .i64 kind))) 9 10 rfl (by kernel_rfl) (by kernel_rfl) ?_
  refine hI (i := 1) (v := ?_) rfl ?_ s0 ?_
  rotate_left 1
  ·rintro W s0; (try simp only [lA, lS, lZ]); go_simp; try with_reducible rfl
  try simp only [lA, lS, lZ, Act.put, lI, lW, lX]
  refine hI (i := 2) (v := ?_) rfl ?_ s0 ?_
  rotate_left 1
  ·rintro W s0; (try simp only [lA, lS, lZ]); go_simp; try with_reducible rfl
  try simp only [lA, lS, lZ, Act.put, lI, lW, lX]
  refine wpAnyHT_two (i := 0) (j := 7) rfl rfl (by kernel_rfl) (by kernel_rfl) (by kernel_rfl) (fun K hK => ?_) (fun K hK => ?_)
  ·try simp only [lA, lZ]
   go_simp
   refine (rows_any _).mono ?_
   rintro e w1 ⟨m, rfl, hm, hmap, hf1⟩
   have s1 : w1.cell? ⟨b, 0, none⟩ = some (.int .i64 kind) := (hf1.cell (World.block_lt_of_cell? _ _ s0) (by simp)).trans s0
   refine hK _ _ s1 ?_
   clear hK K
   refine wpAnyHT_str (S' := fun W => W.cell? ⟨b, 0, none⟩ = some (.int .i64 kind) ∧ W.heap[m]? = some (.map (rowsT 7) 7)) (fun _ h => h.1) _ _ _ _ ?_
   refine hI (i := 3) (v := ?_) rfl ?_ ⟨s1, hmap⟩ ?_
   rotate_left 1
   ·(intro W hSw; obtain ⟨s0, sm⟩ := hSw; have hl := hlk W m sm; (try simp only [lA, lS, lZ]); go_simp; try with_reducible rfl)
   try simp only [lA, lS, lZ, Act.put, lI, lW, lX]
   refine hI (i := 4) (v := ?_) rfl ?_ ⟨s1, hmap⟩ ?_
   rotate_left 1
   ·rintro W ⟨s0, sm⟩; (try simp only [lA, lS, lZ]); go_simp; try with_reducible rfl
   try simp only [lA, lS, lZ, Act.put, lI, lW, lX]
   refine hI (i := 5) (v := ?_) rfl ?_ ⟨s1, hmap⟩ ?_
   rotate_left 1
   ·rintro W ⟨s0, sm⟩; (try simp only [lA, lS, lZ]); go_simp; try with_reducible rfl
   try simp only [lA, lS, lZ, Act.put, lI, lW, lX]
   refine hI (i := 6) (v := ?_) rfl ?_ ⟨s1, hmap⟩ ?_
   rotate_left 1
   ·rintro W ⟨s0, sm⟩; (try simp only [lA, lS, lZ]); go_simp; try with_reducible rfl
   try simp only [lA, lS, lZ, Act.put, lI, lW, lX]
   refine wpAnyHT_one (i := 7) rfl (by kernel_rfl) (by kernel_rfl) (fun K hK => ?_)
   try simp only [lA, lS, lZ]
   go_simp
   refine hK _ _ ⟨(((Frm.refl [] w1).alloc _).cell (World.block_lt_of_cell? _ _ s1) (by simp)).trans s1, ((Frm.refl [] w1).alloc _).heap hmap (by simp)⟩ ?_
   clear hK K
   try simp only [lA, lS, lZ, Act.put, lI, lW, lX]
   have hq := heap_alloc_new w1 (.cells #[.nilFunc, .nilFunc, .nilFunc, .nilFunc] 58)
   obtain ⟨rb, hrb⟩ := eX (w1.heap.size)
   obtain ⟨Wq, hWq⟩ := eX (w1.alloc (.cells #[.nilFunc, .nilFunc, .nilFunc, .nilFunc] 58))
   have hfq : Frm [] wb Wq := by rw [← hWq]; exact (((Frm.refl [] wb).drew.trans hf1 (by simp)).alloc _)
   have hlo : wb.heap.size ≤ rb := by rw [← hrb]; exact hf1.size
   have sq : Wq.cell? ⟨b, 0, none⟩ = some (.int .i64 kind) ∧ Wq.heap[m]? = some (.map (rowsT 7) 7) := by rw [← hWq]; exact ⟨(((Frm.refl [] w1).alloc _).cell (World.block_lt_of_cell? _ _ s1) (by simp)).trans s1, ((Frm.refl [] w1).alloc _).heap hmap (by simp)⟩
   have hne : ¬ b = rb := by have h1 := World.block_lt_of_cell? _ _ s1; have h2 := hrb; simp only at h1; omega
   have hnm : ¬ m = rb := by have h1 := lt_of_heap hmap; omega
   rw [hWq, hrb] at hq
   try rw [hWq]
   try rw [hrb]
   have z0 : Wq.cell? ⟨rb, 0, none⟩ = some .nilFunc := by rw [cell_of_row _ _ _ _ _ _ hq]; rfl
   have z1 : Wq.cell? ⟨rb, 1, none⟩ = some .nilFunc := by rw [cell_of_row _ _ _ _ _ _ hq]; rfl
   have z2 : Wq.cell? ⟨rb, 2, none⟩ = some .nilFunc := by rw [cell_of_row _ _ _ _ _ _ hq]; rfl
   have z3 : Wq.cell? ⟨rb, 3, none⟩ = some .nilFunc := by rw [cell_of_row _ _ _ _ _ _ hq]; rfl
   have x0 := fZ 0 hq
   have x1 := fZ 1 hq
   have x2 := fZ 2 hq
   have x3 := fZ 3 hq
   obtain ⟨Wz, hwz, h4, f4⟩ := sE rb 58 [(0, .func (.func fm) #[] #[]), (1, .func (.func fo) #[] #[]), (2, .func (.func fp) #[] #[]), (3, .func (.func ft) #[] #[])] Wq _ hq
   simp only [List.foldl, List.setIfInBounds_toArray, List.set_cons_zero, List.set_cons_succ] at h4
   simp only [setsF] at hwz
   have hWz := hwz
   refine wpAnyHT_one (i := 8) rfl (by kernel_rfl) (by kernel_rfl) (fun K hK => ?_)
   try simp only [lA, lS, lZ]
   go_simp
   try rw [hwz]
   refine hK _ _ ⟨(f4.cell (World.block_lt_of_cell? _ _ sq.1) (by simpa using hne)).trans sq.1, f4.heap sq.2 (by simpa using hnm)⟩ ?_
   clear hK K
   refine wpAnyHT_end (by kernel_rfl) ?_
   simp only [List.drop_succ_cons, List.drop_zero]
   go_wp2_with fail
   go_meet
   exact ⟨rb, rfl, rfl, hid h4, hid (hfq.trans f4 (fun i hi hl => by rw [List.mem_singleton] at hi; have := hlo; omega)), hid hlo⟩
  ·have ha := heap_alloc_new wb.drew (.cells #[.nilFunc, .nilFunc, .nilFunc, .nilFunc] 58)
   try simp only [lA, lS, lZ]
   go_simp
   refine hK _ _ ((((Frm.refl [] wb).drew.alloc _).cell (World.block_lt_of_cell? _ _ y0) (by simp)).trans y0) ?_
   clear hK K
   try simp only [lA, lS, lZ, Act.put, lI, lW, lX]
   refine wpAnyHT_one (i := 0) rfl (by kernel_rfl) (by kernel_rfl) (fun K hK => ?_)
   try simp only [lA, lZ]
   go_simp
   refine (rows_any _).mono ?_
   rintro e w1 ⟨m, rfl, hm, hmap, hf1⟩
   have sa := ((((Frm.refl [] wb).drew.alloc (.cells #[.nilFunc, .nilFunc, .nilFunc, .nilFunc] 58)).cell (World.block_lt_of_cell? _ _ y0) (by simp)).trans y0)
   have s1 : w1.cell? ⟨b, 0, none⟩ = some (.int .i64 kind) := (hf1.cell (World.block_lt_of_cell? _ _ sa) (by simp)).trans sa
   refine hK _ _ s1 ?_
   clear hK K
   refine wpAnyHT_str (S' := fun W => W.cell? ⟨b, 0, none⟩ = some (.int .i64 kind) ∧ W.heap[m]? = some (.map (rowsT 7) 7)) (fun _ h => h.1) _ _ _ _ ?_
   refine hI (i := 3) (v := ?_) rfl ?_ ⟨s1, hmap⟩ ?_
   rotate_left 1
   ·(intro W hSw; obtain ⟨s0, sm⟩ := hSw; have hl := hlk W m sm; (try simp only [lA, lS, lZ]); go_simp; try with_reducible rfl)
   try simp only [lA, lS, lZ, Act.put, lI, lW, lX]
   refine hI (i := 4) (v := ?_) rfl ?_ ⟨s1, hmap⟩ ?_
   rotate_left 1
   ·rintro W ⟨s0, sm⟩; (try simp only [lA, lS, lZ]); go_simp; try with_reducible rfl
   try simp only [lA, lS, lZ, Act.put, lI, lW, lX]
   refine hI (i := 5) (v := ?_) rfl ?_ ⟨s1, hmap⟩ ?_
   rotate_left 1
   ·rintro W ⟨s0, sm⟩; (try simp only [lA, lS, lZ]); go_simp; try with_reducible rfl
   try simp only [lA, lS, lZ, Act.put, lI, lW, lX]
   refine hI (i := 6) (v := ?_) rfl ?_ ⟨s1, hmap⟩ ?_
   rotate_left 1
   ·rintro W ⟨s0, sm⟩; (try simp only [lA, lS, lZ]); go_simp; try with_reducible rfl
   try simp only [lA, lS, lZ, Act.put, lI, lW, lX]
   have hq := hf1.heap ha (by simp)
   obtain ⟨Wq, hWq⟩ := eX (w1)
   have hfq : Frm [] wb Wq := by rw [← hWq]; exact ((Frm.refl [] wb).drew.alloc _).trans hf1 (by simp)
   obtain ⟨rb, hrb⟩ := eX (wb.drew.heap.size)
   have hlo : wb.heap.size ≤ rb := by rw [← hrb]; exact Nat.le_refl _
   rw [hWq] at hq hmap s1 hf1
   rw [hrb] at hq
   try rw [hWq]
   have hrb2 : wb.heap.size = rb := hrb
   try rw [hrb]
   try rw [hrb2]
   have sq : Wq.cell? ⟨b, 0, none⟩ = some (.int .i64 kind) ∧ Wq.heap[m]? = some (.map (rowsT 7) 7) := ⟨s1, hmap⟩
   have hne : ¬ b = rb := by have h1 := World.block_lt_of_cell? _ _ y0; simp only at h1; omega
   have hnm : ¬ m = rb := by have h1 := hm; simp at h1; omega
   have z0 : Wq.cell? ⟨rb, 0, none⟩ = some .nilFunc := by rw [cell_of_row _ _ _ _ _ _ hq]; rfl
   have z1 : Wq.cell? ⟨rb, 1, none⟩ = some .nilFunc := by rw [cell_of_row _ _ _ _ _ _ hq]; rfl
   have z2 : Wq.cell? ⟨rb, 2, none⟩ = some .nilFunc := by rw [cell_of_row _ _ _ _ _ _ hq]; rfl
   have z3 : Wq.cell? ⟨rb, 3, none⟩ = some .nilFunc := by rw [cell_of_row _ _ _ _ _ _ hq]; rfl
   have x0 := fZ 0 hq
   have x1 := fZ 1 hq
   have x2 := fZ 2 hq
   have x3 := fZ 3 hq
   obtain ⟨Wz, hwz, h4, f4⟩ := sE rb 58 [(0, .func (.func fm) #[] #[]), (1, .func (.func fo) #[] #[]), (2, .func (.func fp) #[] #[]), (3, .func (.func ft) #[] #[])] Wq _ hq
   simp only [List.foldl, List.setIfInBounds_toArray, List.set_cons_zero, List.set_cons_succ] at h4
   simp only [setsF] at hwz
   have hWz := hwz
   refine wpAnyHT_one (i := 8) rfl (by kernel_rfl) (by kernel_rfl) (fun K hK => ?_)
   try simp only [lA, lS, lZ]
   go_simp
   try rw [hwz]
   refine hK _ _ ⟨(f4.cell (World.block_lt_of_cell? _ _ sq.1) (by simpa using hne)).trans sq.1, f4.heap sq.2 (by simpa using hnm)⟩ ?_
   clear hK K
   refine wpAnyHT_end (by kernel_rfl) ?_
   simp only [List.drop_succ_cons, List.drop_zero]
   go_wp2_with fail
   go_meet
   exact ⟨rb, rfl, rfl, hid h4, hid (hfq.trans f4 (fun i hi hl => by rw [List.mem_singleton] at hi; have := hlo; omega)), hid hlo⟩
 case rest =>
  obtain ⟨rb, rfl, rfl, HRB, HFX, HLO⟩ := hcut
  have HS2 : Hid (∀ V, Frm [] wc V → V.cell? ⟨b, 0, none⟩ = some (.int .i64 kind) ∧ V.cell? ⟨b, 1, none⟩ = some (.string name) ∧ V.cell? ⟨b, 2, none⟩ = some (.int .i64 typ) ∧ V.cell? ⟨b, 3, none⟩ = some (.int .i64 frm) ∧ V.cell? ⟨b, 4, none⟩ = some (.int .i64 guid) ∧ V.cell? ⟨b, 5, none⟩ = some (.int .i64 origin) ∧ V.cell? ⟨b, 6, none⟩ = some (.string snap) ∧ V.cell? ⟨b, 7, none⟩ = some (.slice pp pn pc) ∧ V.cell? ⟨b, 8, none⟩ = some (.int .i64 obj) ∧ V.cell? ⟨b, 9, none⟩ = some (.int .i64 at_) ∧ V.cell? ⟨b, 10, none⟩ = some (.int .i64 many) ∧ V.cell? ⟨b, 11, none⟩ = some (.slice kp kn kc) ∧ V.cell? ⟨b, 12, none⟩ = some (.slice dp dl dc) ∧ V.cell? ⟨rb, 0, none⟩ = some (.func (.func fm) #[] #[]) ∧ V.cell? ⟨rb, 1, none⟩ = some (.func (.func fo) #[] #[])) := hid (fun V hf => by
   obtain ⟨k0, k1, k2, k3, k4, k5, k6, k7, k8, k9, k10, k11, k12⟩ := HX.out V (HFX.out.trans hf (by simp))
   have hr := hf.heap HRB.out (by simp)
   exact ⟨k0, k1, k2, k3, k4, k5, k6, k7, k8, k9, k10, k11, k12, by rw [cell_of_row _ _ _ _ _ _ hr]; rfl, by rw [cell_of_row _ _ _ _ _ _ hr]; rfl⟩)
  have HFC : Hid (Frm [] w wc) := hid (HFB.out.trans HFX.out (by simp))
  clear y0 y1 y2 y3 y4 y5 y6 y7 y8 y9 y10 y11 y12 hlk
  obtain ⟨B, hB⟩ := eX (decide S)
  rw [hB] at HS
  have HBS : Hid (B = true ↔ S) := hid (by rw [← hB]; exact decide_eq_true_iff)
  clear hB
  cases M with
  | false =>
   go_upto_region 2 with fail
   have HD : Hid (Frm [] wc wc.drew) := hid ((Frm.refl [] wc).drew)
   refine wp_region_tail (S := fun W => (W.cell? ⟨b, 0, none⟩ = some (.int .i64 kind) ∧ W.cell? ⟨b, 1, none⟩ = some (.string name) ∧ W.cell? ⟨b, 2, none⟩ = some (.int .i64 typ) ∧ W.cell? ⟨b, 3, none⟩ = some (.int .i64 frm) ∧ W.cell? ⟨b, 4, none⟩ = some (.int .i64 guid) ∧ W.cell? ⟨b, 5, none⟩ = some (.int .i64 origin) ∧ W.cell? ⟨b, 6, none⟩ = some (.string snap) ∧ W.cell? ⟨b, 7, none⟩ = some (.slice pp pn pc) ∧ W.cell? ⟨b, 8, none⟩ = some (.int .i64 obj) ∧ W.cell? ⟨b, 9, none⟩ = some (.int .i64 at_) ∧ W.cell? ⟨b, 10, none⟩ = some (.int .i64 many) ∧ W.cell? ⟨b, 11, none⟩ = some (.slice kp kn kc) ∧ W.cell? ⟨b, 12, none⟩ = some (.slice dp dl dc) ∧ W.cell? ⟨rb, 0, none⟩ = some (.func (.func fm) #[] #[]) ∧ W.cell? ⟨rb, 1, none⟩ = some (.func (.func fo) #[] #[]))) 17 18 rfl (by kernel_rfl) (by kernel_rfl) ?_
   refine hI (i := 0) (v := ?_) rfl ?_ (HS2.out _ HD.out) ?_
   rotate_left 1
   ·rintro W ⟨s0, s1, s2, s3, s4, s5, s6, s7, s8, s9, s10, s11, s12, r0, r1⟩; (try simp only [lA, lZ]); go_simp; try with_reducible rfl
   try simp only [lA, lZ, Act.put, lI, lW, lX]
   refine hI (i := 1) (v := ?_) rfl ?_ (HS2.out _ HD.out) ?_
   rotate_left 1
   ·rintro W ⟨s0, s1, s2, s3, s4, s5, s6, s7, s8, s9, s10, s11, s12, r0, r1⟩; (try simp only [lA, lS, lZ]); go_simp; try with_reducible rfl
   try simp only [lA, lS, lZ, Act.put, lI, lW, lX]
   refine hI (i := 2) (v := ?_) rfl ?_ (HS2.out _ HD.out) ?_
   rotate_left 1
   ·rintro W ⟨s0, s1, s2, s3, s4, s5, s6, s7, s8, s9, s10, s11, s12, r0, r1⟩; (try simp only [lA, lS, lZ]); go_simp; try with_reducible rfl
   try simp only [lA, lS, lZ, Act.put, lI, lW, lX]
   refine hI (i := 3) (v := ?_) rfl ?_ (HS2.out _ HD.out) ?_
   rotate_left 1
   ·rintro W ⟨s0, s1, s2, s3, s4, s5, s6, s7, s8, s9, s10, s11, s12, r0, r1⟩; (try simp only [lA, lS, lZ]); go_simp; try with_reducible rfl
   try simp only [lA, lS, lZ, Act.put, lI, lW, lX]
   refine hI (i := 4) (v := ?_) rfl ?_ (HS2.out _ HD.out) ?_
   rotate_left 1
   ·rintro W ⟨s0, s1, s2, s3, s4, s5, s6, s7, s8, s9, s10, s11, s12, r0, r1⟩; (try simp only [lA, lS, lZ]); go_simp; try with_reducible rfl
   try simp only [lA, lS, lZ, Act.put, lI, lW, lX]
   refine hI (i := 5) (v := ?_) rfl ?_ (HS2.out _ HD.out) ?_
   rotate_left 1
   ·rintro W ⟨s0, s1, s2, s3, s4, s5, s6, s7, s8, s9, s10, s11, s12, r0, r1⟩; (try simp only [lA, lS, lZ]); go_simp; try with_reducible rfl
   try simp only [lA, lS, lZ, Act.put, lI, lW, lX]
   refine wpAnyHT_one (i := 6) rfl (by kernel_rfl) (by kernel_rfl) (fun K hK => ?_)
   try simp only [lA, lS, lZ]
   go_simp
   rw [hfm.out, Oper.upon_enter]
   refine (HM.out _ (HFC.out.trans HD.out (by simp))).mono ?_
   rintro e w2 ⟨rfl, hf2⟩
   have HF2 : Hid (Frm [] wc w2) := hid (HD.out.trans hf2 (by simp))
   refine hK _ _ (HS2.out _ HF2.out) ?_
   clear hK K hf2
   refine hI (i := 7) (v := ?_) rfl ?_ (HS2.out _ HF2.out) ?_
   rotate_left 1
   ·rintro W ⟨s0, s1, s2, s3, s4, s5, s6, s7, s8, s9, s10, s11, s12, r0, r1⟩; (try simp only [lA, lS, lZ]); go_simp; try with_reducible rfl
   try simp only [lA, lS, lZ, Act.put, lI, lW, lX]
   refine hI (i := 8) (v := ?_) rfl ?_ (HS2.out _ HF2.out) ?_
   rotate_left 1
   ·rintro W ⟨s0, s1, s2, s3, s4, s5, s6, s7, s8, s9, s10, s11, s12, r0, r1⟩; (try simp only [lA, lS, lZ]); go_simp; try with_reducible rfl
   try simp only [lA, lS, lZ, Act.put, lI, lW, lX]
   refine hI (i := 9) (v := ?_) rfl ?_ (HS2.out _ HF2.out) ?_
   rotate_left 1
   ·rintro W ⟨s0, s1, s2, s3, s4, s5, s6, s7, s8, s9, s10, s11, s12, r0, r1⟩; (try simp only [lA, lS, lZ]); go_simp; try with_reducible rfl
   try simp only [lA, lS, lZ, Act.put, lI, lW, lX]
   refine hU (i := 10) rfl (HS2.out _ HF2.out) ?_
   try simp only [lA, lS, lZ, Act.put, lI, lW, lX]
   refine hU (i := 11) rfl (HS2.out _ HF2.out) ?_
   try simp only [lA, lS, lZ, Act.put, lI, lW, lX]
   refine hU (i := 12) rfl (HS2.out _ HF2.out) ?_
   try simp only [lA, lS, lZ, Act.put, lI, lW, lX]
   refine hU (i := 13) rfl (HS2.out _ HF2.out) ?_
   try simp only [lA, lS, lZ, Act.put, lI, lW, lX]
   refine hU (i := 14) rfl (HS2.out _ HF2.out) ?_
   try simp only [lA, lS, lZ, Act.put, lI, lW, lX]
   refine hU (i := 15) rfl (HS2.out _ HF2.out) ?_
   try simp only [lA, lS, lZ, Act.put, lI, lW, lX]
   refine hU (i := 16) rfl (HS2.out _ HF2.out) ?_
   try simp only [lA, lS, lZ, Act.put, lI, lW, lX]
   refine wpAnyHT_end (by kernel_rfl) ?_
   simp only [List.drop_succ_cons, List.drop_zero]
   go_wp2_with fail
   try go_returns
   exact HP1.out _ (by simp) (HFC.out.trans HF2.out (by simp))
  | true =>
   go_upto_region 2 with fail
   cases B with
   | false =>
    have HD : Hid (Frm [] wc wc.drew) := hid ((Frm.refl [] wc).drew)
    refine wp_region_tail (S := fun W => (W.cell? ⟨b, 0, none⟩ = some (.int .i64 kind) ∧ W.cell? ⟨b, 1, none⟩ = some (.string name) ∧ W.cell? ⟨b, 2, none⟩ = some (.int .i64 typ) ∧ W.cell? ⟨b, 3, none⟩ = some (.int .i64 frm) ∧ W.cell? ⟨b, 4, none⟩ = some (.int .i64 guid) ∧ W.cell? ⟨b, 5, none⟩ = some (.int .i64 origin) ∧ W.cell? ⟨b, 6, none⟩ = some (.string snap) ∧ W.cell? ⟨b, 7, none⟩ = some (.slice pp pn pc) ∧ W.cell? ⟨b, 8, none⟩ = some (.int .i64 obj) ∧ W.cell? ⟨b, 9, none⟩ = some (.int .i64 at_) ∧ W.cell? ⟨b, 10, none⟩ = some (.int .i64 many) ∧ W.cell? ⟨b, 11, none⟩ = some (.slice kp kn kc) ∧ W.cell? ⟨b, 12, none⟩ = some (.slice dp dl dc) ∧ W.cell? ⟨rb, 0, none⟩ = some (.func (.func fm) #[] #[]) ∧ W.cell? ⟨rb, 1, none⟩ = some (.func (.func fo) #[] #[]))) 17 18 rfl (by kernel_rfl) (by kernel_rfl) ?_
    refine hI (i := 0) (v := ?_) rfl ?_ (HS2.out _ HD.out) ?_
    rotate_left 1
    ·rintro W ⟨s0, s1, s2, s3, s4, s5, s6, s7, s8, s9, s10, s11, s12, r0, r1⟩; (try simp only [lA, lZ]); go_simp; try with_reducible rfl
    try simp only [lA, lZ, Act.put, lI, lW, lX]
    refine hI (i := 1) (v := ?_) rfl ?_ (HS2.out _ HD.out) ?_
    rotate_left 1
    ·rintro W ⟨s0, s1, s2, s3, s4, s5, s6, s7, s8, s9, s10, s11, s12, r0, r1⟩; (try simp only [lA, lS, lZ]); go_simp; try with_reducible rfl
    try simp only [lA, lS, lZ, Act.put, lI, lW, lX]
    refine hI (i := 2) (v := ?_) rfl ?_ (HS2.out _ HD.out) ?_
    rotate_left 1
    ·rintro W ⟨s0, s1, s2, s3, s4, s5, s6, s7, s8, s9, s10, s11, s12, r0, r1⟩; (try simp only [lA, lS, lZ]); go_simp; try with_reducible rfl
    try simp only [lA, lS, lZ, Act.put, lI, lW, lX]
    refine hI (i := 3) (v := ?_) rfl ?_ (HS2.out _ HD.out) ?_
    rotate_left 1
    ·rintro W ⟨s0, s1, s2, s3, s4, s5, s6, s7, s8, s9, s10, s11, s12, r0, r1⟩; (try simp only [lA, lS, lZ]); go_simp; try with_reducible rfl
    try simp only [lA, lS, lZ, Act.put, lI, lW, lX]
    refine hI (i := 4) (v := ?_) rfl ?_ (HS2.out _ HD.out) ?_
    rotate_left 1
    ·rintro W ⟨s0, s1, s2, s3, s4, s5, s6, s7, s8, s9, s10, s11, s12, r0, r1⟩; (try simp only [lA, lS, lZ]); go_simp; try with_reducible rfl
    try simp only [lA, lS, lZ, Act.put, lI, lW, lX]
    refine hI (i := 5) (v := ?_) rfl ?_ (HS2.out _ HD.out) ?_
    rotate_left 1
    ·rintro W ⟨s0, s1, s2, s3, s4, s5, s6, s7, s8, s9, s10, s11, s12, r0, r1⟩; (try simp only [lA, lS, lZ]); go_simp; try with_reducible rfl
    try simp only [lA, lS, lZ, Act.put, lI, lW, lX]
    refine wpAnyHT_one (i := 6) rfl (by kernel_rfl) (by kernel_rfl) (fun K hK => ?_)
    try simp only [lA, lS, lZ]
    go_simp
    rw [hfm.out, Oper.upon_enter]
    refine (HM.out _ (HFC.out.trans HD.out (by simp))).mono ?_
    rintro e w2 ⟨rfl, hf2⟩
    have HF2 : Hid (Frm [] wc w2) := hid (HD.out.trans hf2 (by simp))
    refine hK _ _ (HS2.out _ HF2.out) ?_
    clear hK K hf2
    refine hI (i := 7) (v := ?_) rfl ?_ (HS2.out _ HF2.out) ?_
    rotate_left 1
    ·rintro W ⟨s0, s1, s2, s3, s4, s5, s6, s7, s8, s9, s10, s11, s12, r0, r1⟩; (try simp only [lA, lS, lZ]); go_simp; try with_reducible rfl
    try simp only [lA, lS, lZ, Act.put, lI, lW, lX]
    refine hI (i := 8) (v := ?_) rfl ?_ (HS2.out _ HF2.out) ?_
    rotate_left 1
    ·rintro W ⟨s0, s1, s2, s3, s4, s5, s6, s7, s8, s9, s10, s11, s12, r0, r1⟩; (try simp only [lA, lS, lZ]); go_simp; try with_reducible rfl
    try simp only [lA, lS, lZ, Act.put, lI, lW, lX]
    refine hI (i := 9) (v := ?_) rfl ?_ (HS2.out _ HF2.out) ?_
    rotate_left 1
    ·rintro W ⟨s0, s1, s2, s3, s4, s5, s6, s7, s8, s9, s10, s11, s12, r0, r1⟩; (try simp only [lA, lS, lZ]); go_simp; try with_reducible rfl
    try simp only [lA, lS, lZ, Act.put, lI, lW, lX]
    refine hI (i := 10) (v := ?_) rfl ?_ (HS2.out _ HF2.out) ?_
    rotate_left 1
    ·rintro W ⟨s0, s1, s2, s3, s4, s5, s6, s7, s8, s9, s10, s11, s12, r0, r1⟩; (try simp only [lA, lS, lZ]); go_simp; try with_reducible rfl
    try simp only [lA, lS, lZ, Act.put, lI, lW, lX]
    refine hI (i := 11) (v := ?_) rfl ?_ (HS2.out _ HF2.out) ?_
    rotate_left 1
    ·rintro W ⟨s0, s1, s2, s3, s4, s5, s6, s7, s8, s9, s10, s11, s12, r0, r1⟩; (try simp only [lA, lS, lZ]); go_simp; try with_reducible rfl
    try simp only [lA, lS, lZ, Act.put, lI, lW, lX]
    refine hI (i := 12) (v := ?_) rfl ?_ (HS2.out _ HF2.out) ?_
    rotate_left 1
    ·rintro W ⟨s0, s1, s2, s3, s4, s5, s6, s7, s8, s9, s10, s11, s12, r0, r1⟩; (try simp only [lA, lS, lZ]); go_simp; try with_reducible rfl
    try simp only [lA, lS, lZ, Act.put, lI, lW, lX]
    refine hI (i := 13) (v := ?_) rfl ?_ (HS2.out _ HF2.out) ?_
    rotate_left 1
    ·rintro W ⟨s0, s1, s2, s3, s4, s5, s6, s7, s8, s9, s10, s11, s12, r0, r1⟩; (try simp only [lA, lS, lZ]); go_simp; try with_reducible rfl
    try simp only [lA, lS, lZ, Act.put, lI, lW, lX]
    refine wpAnyHT_one (i := 14) rfl (by kernel_rfl) (by kernel_rfl) (fun K hK => ?_)
    try simp only [lA, lS, lZ]
    go_simp
    rw [hfo.out, Oper.upon_enter]
    refine (HO.out _ (HFC.out.trans HF2.out (by simp))).mono ?_
    rintro e w3 ⟨rfl, hf3⟩
    have HF3 : Hid (Frm [] wc w3) := hid (HF2.out.trans hf3 (by simp))
    refine hK _ _ (HS2.out _ HF3.out) ?_
    clear hK K hf3
    refine wpAnyHT_one (i := 15) rfl (by kernel_rfl) (by kernel_rfl) (fun K hK => ?_)
    try simp only [lA, lS, lZ]
    go_simp
    refine (HS.out _ (HFC.out.trans HF3.out (by simp))).mono ?_
    rintro e w4 ⟨rfl, hf4⟩
    have HF4 : Hid (Frm [] wc w4) := hid (HF3.out.trans hf4 (by simp))
    refine hK _ _ (HS2.out _ HF4.out) ?_
    clear hK K hf4
    refine hI (i := 16) (v := ?_) rfl ?_ (HS2.out _ HF4.out) ?_
    rotate_left 1
    ·rintro W ⟨s0, s1, s2, s3, s4, s5, s6, s7, s8, s9, s10, s11, s12, r0, r1⟩; (try simp only [lA, lS, lZ]); go_simp; try with_reducible rfl
    try simp only [lA, lS, lZ, Act.put, lI, lW, lX]
    refine wpAnyHT_end (by kernel_rfl) ?_
    simp only [List.drop_succ_cons, List.drop_zero]
    go_wp2_with fail
    try go_returns
    exact HP1.out _ (fun h => absurd (HBS.out.2 h.2) (by simp)) (HFC.out.trans HF4.out (by simp))
   | true =>
    have HD : Hid (Frm [] wc wc.drew) := hid ((Frm.refl [] wc).drew)
    refine wp_region_tail (S := fun W => (W.cell? ⟨b, 0, none⟩ = some (.int .i64 kind) ∧ W.cell? ⟨b, 1, none⟩ = some (.string name) ∧ W.cell? ⟨b, 2, none⟩ = some (.int .i64 typ) ∧ W.cell? ⟨b, 3, none⟩ = some (.int .i64 frm) ∧ W.cell? ⟨b, 4, none⟩ = some (.int .i64 guid) ∧ W.cell? ⟨b, 5, none⟩ = some (.int .i64 origin) ∧ W.cell? ⟨b, 6, none⟩ = some (.string snap) ∧ W.cell? ⟨b, 7, none⟩ = some (.slice pp pn pc) ∧ W.cell? ⟨b, 8, none⟩ = some (.int .i64 obj) ∧ W.cell? ⟨b, 9, none⟩ = some (.int .i64 at_) ∧ W.cell? ⟨b, 10, none⟩ = some (.int .i64 many) ∧ W.cell? ⟨b, 11, none⟩ = some (.slice kp kn kc) ∧ W.cell? ⟨b, 12, none⟩ = some (.slice dp dl dc) ∧ W.cell? ⟨rb, 0, none⟩ = some (.func (.func fm) #[] #[]) ∧ W.cell? ⟨rb, 1, none⟩ = some (.func (.func fo) #[] #[]))) 17 18 rfl (by kernel_rfl) (by kernel_rfl) ?_
    refine hI (i := 0) (v := ?_) rfl ?_ (HS2.out _ HD.out) ?_
    rotate_left 1
    ·rintro W ⟨s0, s1, s2, s3, s4, s5, s6, s7, s8, s9, s10, s11, s12, r0, r1⟩; (try simp only [lA, lZ]); go_simp; try with_reducible rfl
    try simp only [lA, lZ, Act.put, lI, lW, lX]
    refine hI (i := 1) (v := ?_) rfl ?_ (HS2.out _ HD.out) ?_
    rotate_left 1
    ·rintro W ⟨s0, s1, s2, s3, s4, s5, s6, s7, s8, s9, s10, s11, s12, r0, r1⟩; (try simp only [lA, lS, lZ]); go_simp; try with_reducible rfl
    try simp only [lA, lS, lZ, Act.put, lI, lW, lX]
    refine hI (i := 2) (v := ?_) rfl ?_ (HS2.out _ HD.out) ?_
    rotate_left 1
    ·rintro W ⟨s0, s1, s2, s3, s4, s5, s6, s7, s8, s9, s10, s11, s12, r0, r1⟩; (try simp only [lA, lS, lZ]); go_simp; try with_reducible rfl
    try simp only [lA, lS, lZ, Act.put, lI, lW, lX]
    refine hI (i := 3) (v := ?_) rfl ?_ (HS2.out _ HD.out) ?_
    rotate_left 1
    ·rintro W ⟨s0, s1, s2, s3, s4, s5, s6, s7, s8, s9, s10, s11, s12, r0, r1⟩; (try simp only [lA, lS, lZ]); go_simp; try with_reducible rfl
    try simp only [lA, lS, lZ, Act.put, lI, lW, lX]
    refine hI (i := 4) (v := ?_) rfl ?_ (HS2.out _ HD.out) ?_
    rotate_left 1
    ·rintro W ⟨s0, s1, s2, s3, s4, s5, s6, s7, s8, s9, s10, s11, s12, r0, r1⟩; (try simp only [lA, lS, lZ]); go_simp; try with_reducible rfl
    try simp only [lA, lS, lZ, Act.put, lI, lW, lX]
    refine hI (i := 5) (v := ?_) rfl ?_ (HS2.out _ HD.out) ?_
    rotate_left 1
    ·rintro W ⟨s0, s1, s2, s3, s4, s5, s6, s7, s8, s9, s10, s11, s12, r0, r1⟩; (try simp only [lA, lS, lZ]); go_simp; try with_reducible rfl
    try simp only [lA, lS, lZ, Act.put, lI, lW, lX]
    refine wpAnyHT_one (i := 6) rfl (by kernel_rfl) (by kernel_rfl) (fun K hK => ?_)
    try simp only [lA, lS, lZ]
    go_simp
    rw [hfm.out, Oper.upon_enter]
    refine (HM.out _ (HFC.out.trans HD.out (by simp))).mono ?_
    rintro e w2 ⟨rfl, hf2⟩
    have HF2 : Hid (Frm [] wc w2) := hid (HD.out.trans hf2 (by simp))
    refine hK _ _ (HS2.out _ HF2.out) ?_
    clear hK K hf2
    refine hI (i := 7) (v := ?_) rfl ?_ (HS2.out _ HF2.out) ?_
    rotate_left 1
    ·rintro W ⟨s0, s1, s2, s3, s4, s5, s6, s7, s8, s9, s10, s11, s12, r0, r1⟩; (try simp only [lA, lS, lZ]); go_simp; try with_reducible rfl
    try simp only [lA, lS, lZ, Act.put, lI, lW, lX]
    refine hI (i := 8) (v := ?_) rfl ?_ (HS2.out _ HF2.out) ?_
    rotate_left 1
    ·rintro W ⟨s0, s1, s2, s3, s4, s5, s6, s7, s8, s9, s10, s11, s12, r0, r1⟩; (try simp only [lA, lS, lZ]); go_simp; try with_reducible rfl
    try simp only [lA, lS, lZ, Act.put, lI, lW, lX]
    refine hI (i := 9) (v := ?_) rfl ?_ (HS2.out _ HF2.out) ?_
    rotate_left 1
    ·rintro W ⟨s0, s1, s2, s3, s4, s5, s6, s7, s8, s9, s10, s11, s12, r0, r1⟩; (try simp only [lA, lS, lZ]); go_simp; try with_reducible rfl
    try simp only [lA, lS, lZ, Act.put, lI, lW, lX]
    refine hI (i := 10) (v := ?_) rfl ?_ (HS2.out _ HF2.out) ?_
    rotate_left 1
    ·rintro W ⟨s0, s1, s2, s3, s4, s5, s6, s7, s8, s9, s10, s11, s12, r0, r1⟩; (try simp only [lA, lS, lZ]); go_simp; try with_reducible rfl
    try simp only [lA, lS, lZ, Act.put, lI, lW, lX]
    refine hI (i := 11) (v := ?_) rfl ?_ (HS2.out _ HF2.out) ?_
    rotate_left 1
    ·rintro W ⟨s0, s1, s2, s3, s4, s5, s6, s7, s8, s9, s10, s11, s12, r0, r1⟩; (try simp only [lA, lS, lZ]); go_simp; try with_reducible rfl
    try simp only [lA, lS, lZ, Act.put, lI, lW, lX]
    refine hI (i := 12) (v := ?_) rfl ?_ (HS2.out _ HF2.out) ?_
    rotate_left 1
    ·rintro W ⟨s0, s1, s2, s3, s4, s5, s6, s7, s8, s9, s10, s11, s12, r0, r1⟩; (try simp only [lA, lS, lZ]); go_simp; try with_reducible rfl
    try simp only [lA, lS, lZ, Act.put, lI, lW, lX]
    refine hI (i := 13) (v := ?_) rfl ?_ (HS2.out _ HF2.out) ?_
    rotate_left 1
    ·rintro W ⟨s0, s1, s2, s3, s4, s5, s6, s7, s8, s9, s10, s11, s12, r0, r1⟩; (try simp only [lA, lS, lZ]); go_simp; try with_reducible rfl
    try simp only [lA, lS, lZ, Act.put, lI, lW, lX]
    refine wpAnyHT_one (i := 14) rfl (by kernel_rfl) (by kernel_rfl) (fun K hK => ?_)
    try simp only [lA, lS, lZ]
    go_simp
    rw [hfo.out, Oper.upon_enter]
    refine (HO.out _ (HFC.out.trans HF2.out (by simp))).mono ?_
    rintro e w3 ⟨rfl, hf3⟩
    have HF3 : Hid (Frm [] wc w3) := hid (HF2.out.trans hf3 (by simp))
    refine hK _ _ (HS2.out _ HF3.out) ?_
    clear hK K hf3
    refine wpAnyHT_one (i := 15) rfl (by kernel_rfl) (by kernel_rfl) (fun K hK => ?_)
    try simp only [lA, lS, lZ]
    go_simp
    refine (HS.out _ (HFC.out.trans HF3.out (by simp))).mono ?_
    rintro e w4 ⟨rfl, hf4⟩
    have HF4 : Hid (Frm [] wc w4) := hid (HF3.out.trans hf4 (by simp))
    refine hK _ _ (HS2.out _ HF4.out) ?_
    clear hK K hf4
    refine hI (i := 16) (v := ?_) rfl ?_ (HS2.out _ HF4.out) ?_
    rotate_left 1
    ·rintro W ⟨s0, s1, s2, s3, s4, s5, s6, s7, s8, s9, s10, s11, s12, r0, r1⟩; (try simp only [lA, lS, lZ]); go_simp; try with_reducible rfl
    try simp only [lA, lS, lZ, Act.put, lI, lW, lX]
    refine wpAnyHT_end (by kernel_rfl) ?_
    simp only [List.drop_succ_cons, List.drop_zero]
    go_wp2_with fail
    try go_returns
    exact HP0.out _ ⟨by trivial, HBS.out.1 (by trivial)⟩ (HFC.out.trans HF4.out (by simp))
theorem check_none (r : Rc) (w : World) (hk : lkT r.kind = none) : Calls Tryz.prog 9 #[.agg r.arr] w fun e w' => e = .returned (.int .i64 200) ∧ Frm [] w w' := by
 obtain ⟨PO, hPO⟩ : ∃ PO : Ending → World → Prop, (fun e w' => e = .returned (.int .i64 200) ∧ Frm [] w w') = PO := ⟨_, rfl⟩
 rw [hPO]
 have HP1 : Hid (∀ w', Frm [] w w' → PO (.returned (.int .i64 200)) w') := hid (fun w' h2 => by rw [← hPO]; exact ⟨rfl, h2⟩)
 clear hPO
 obtain ⟨wb, hwb⟩ := eX (w.alloc (.cells r.arr 26))
 have hrow := heap_alloc_new w (.cells r.arr 26)
 have hfb : Frm [] w wb := by rw [← hwb]; exact (Frm.refl _ _).alloc _
 obtain ⟨b, hb⟩ := eX (w.heap.size)
 rw [hwb, hb] at hrow
 have HX := hid (fun V (hf : Frm [] wb V) => rc_cells (hf.heap hrow (by simp)))
 have HFB := hid hfb
 have HWB := hid hwb
 have HB := hid hb
 have hlk : ∀ (W : World) (m : Nat), W.heap[m]? = some (.map (rowsT 7) 7) → (Instr.lookup 60 (.map (some m)) (.int .i64 r.kind) true).run Tryz.prog W = .ok (.tuple #[.agg #[.nilFunc, .nilFunc, .nilFunc, .nilFunc], .bool false]) W := fun W m h => by
  have h2 := run_lookR (P := Tryz.prog) (w := W) 60 3 58 m 7 (rowsT 7) r.kind (.agg #[.nilFunc, .nilFunc, .nilFunc, .nilFunc]) Tryz.underlying60 Tryz.underlying3 (by kernel_rfl) h (rowsT_int 7)
  rw [lkT_of, hk] at h2
  exact h2
 clear hk hwb hfb hb hrow
 obtain ⟨kind, name, typ, frm, guid, origin, snap, pp, pn, pc, obj, at_, many, kp, kn, kc, dp, dl, dc⟩ := r
 unfold Rc.arr at HWB ⊢
 simp only at HX hlk HWB ⊢
 obtain ⟨y0, y1, y2, y3, y4, y5, y6, y7, y8, y9, y10, y11, y12⟩ := HX.out wb (Frm.refl _ _)
 go_enter Tryz.func9, Tryz.ntmps9
 go_upto_region 1 with fail
 try rw [HWB.out]
 try rw [HB.out]
 go_cut [3, 4] (fun a t wx => ∃ rb, a = .pointer (some ⟨rb, 0, none⟩) ∧ t = .bool false ∧ Hid (wx.heap[rb]? = some (.cells #[.nilFunc, .nilFunc, .nilFunc, .nilFunc] 58 (0, 0))) ∧ Hid (Frm [] wb wx) ∧ Hid (wb.heap.size ≤ rb))
 case first =>
  have s0 : wb.drew.cell? ⟨b, 0, none⟩ = some (.int .i64 kind) := y0
  refine wp_region_tail (S := fun W => (W.cell? ⟨b, 0, none⟩ = some (.int .i64 kind))) 9 10 rfl (by kernel_rfl) (by kernel_rfl) ?_
  refine hI (i := 1) (v := ?_) rfl ?_ s0 ?_
  rotate_left 1
  ·rintro W s0; (try simp only [lA, lS, lZ]); go_simp; try with_reducible rfl
  try simp only [lA, lS, lZ, Act.put, lI, lW, lX]
  refine hI (i := 2) (v := ?_) rfl ?_ s0 ?_
  rotate_left 1
  ·rintro W s0; (try simp only [lA, lS, lZ]); go_simp; try with_reducible rfl
  try simp only [lA, lS, lZ, Act.put, lI, lW, lX]
  refine wpAnyHT_two (i := 0) (j := 7) rfl rfl (by kernel_rfl) (by kernel_rfl) (by kernel_rfl) (fun K hK => ?_) (fun K hK => ?_)
  ·try simp only [lA, lZ]
   go_simp
   refine (rows_any _).mono ?_
   rintro e w1 ⟨m, rfl, hm, hmap, hf1⟩
   have s1 : w1.cell? ⟨b, 0, none⟩ = some (.int .i64 kind) := (hf1.cell (World.block_lt_of_cell? _ _ s0) (by simp)).trans s0
   refine hK _ _ s1 ?_
   clear hK K
   refine wpAnyHT_str (S' := fun W => W.cell? ⟨b, 0, none⟩ = some (.int .i64 kind) ∧ W.heap[m]? = some (.map (rowsT 7) 7)) (fun _ h => h.1) _ _ _ _ ?_
   refine hI (i := 3) (v := ?_) rfl ?_ ⟨s1, hmap⟩ ?_
   rotate_left 1
   ·(intro W hSw; obtain ⟨s0, sm⟩ := hSw; have hl := hlk W m sm; (try simp only [lA, lS, lZ]); go_simp; try with_reducible rfl)
   try simp only [lA, lS, lZ, Act.put, lI, lW, lX]
   refine hI (i := 4) (v := ?_) rfl ?_ ⟨s1, hmap⟩ ?_
   rotate_left 1
   ·rintro W ⟨s0, sm⟩; (try simp only [lA, lS, lZ]); go_simp; try with_reducible rfl
   try simp only [lA, lS, lZ, Act.put, lI, lW, lX]
   refine hI (i := 5) (v := ?_) rfl ?_ ⟨s1, hmap⟩ ?_
   rotate_left 1
   ·rintro W ⟨s0, sm⟩; (try simp only [lA, lS, lZ]); go_simp; try with_reducible rfl
   try simp only [lA, lS, lZ, Act.put, lI, lW, lX]
   refine hI (i := 6) (v := ?_) rfl ?_ ⟨s1, hmap⟩ ?_
   rotate_left 1
   ·rintro W ⟨s0, sm⟩; (try simp only [lA, lS, lZ]); go_simp; try with_reducible rfl
   try simp only [lA, lS, lZ, Act.put, lI, lW, lX]
   refine wpAnyHT_one (i := 7) rfl (by kernel_rfl) (by kernel_rfl) (fun K hK => ?_)
   try simp only [lA, lS, lZ]
   go_simp
   refine hK _ _ ⟨(((Frm.refl [] w1).alloc _).cell (World.block_lt_of_cell? _ _ s1) (by simp)).trans s1, ((Frm.refl [] w1).alloc _).heap hmap (by simp)⟩ ?_
   clear hK K
   try simp only [lA, lS, lZ, Act.put, lI, lW, lX]
   have hq := heap_alloc_new w1 (.cells #[.nilFunc, .nilFunc, .nilFunc, .nilFunc] 58)
   obtain ⟨rb, hrb⟩ := eX (w1.heap.size)
   obtain ⟨Wq, hWq⟩ := eX (w1.alloc (.cells #[.nilFunc, .nilFunc, .nilFunc, .nilFunc] 58))
   have hfq : Frm [] wb Wq := by rw [← hWq]; exact (((Frm.refl [] wb).drew.trans hf1 (by simp)).alloc _)
   have hlo : wb.heap.size ≤ rb := by rw [← hrb]; exact hf1.size
   have sq : Wq.cell? ⟨b, 0, none⟩ = some (.int .i64 kind) ∧ Wq.heap[m]? = some (.map (rowsT 7) 7) := by rw [← hWq]; exact ⟨(((Frm.refl [] w1).alloc _).cell (World.block_lt_of_cell? _ _ s1) (by simp)).trans s1, ((Frm.refl [] w1).alloc _).heap hmap (by simp)⟩
   have hne : ¬ b = rb := by have h1 := World.block_lt_of_cell? _ _ s1; have h2 := hrb; simp only at h1; omega
   have hnm : ¬ m = rb := by have h1 := lt_of_heap hmap; omega
   rw [hWq, hrb] at hq
   try rw [hWq]
   try rw [hrb]
   have z0 : Wq.cell? ⟨rb, 0, none⟩ = some .nilFunc := by rw [cell_of_row _ _ _ _ _ _ hq]; rfl
   have z1 : Wq.cell? ⟨rb, 1, none⟩ = some .nilFunc := by rw [cell_of_row _ _ _ _ _ _ hq]; rfl
   have z2 : Wq.cell? ⟨rb, 2, none⟩ = some .nilFunc := by rw [cell_of_row _ _ _ _ _ _ hq]; rfl
   have z3 : Wq.cell? ⟨rb, 3, none⟩ = some .nilFunc := by rw [cell_of_row _ _ _ _ _ _ hq]; rfl
   have x0 := fZ 0 hq
   have x1 := fZ 1 hq
   have x2 := fZ 2 hq
   have x3 := fZ 3 hq
   obtain ⟨Wz, hwz, h4, f4⟩ := sE rb 58 [(0, .nilFunc), (1, .nilFunc), (2, .nilFunc), (3, .nilFunc)] Wq _ hq
   simp only [List.foldl, List.setIfInBounds_toArray, List.set_cons_zero, List.set_cons_succ] at h4
   simp only [setsF] at hwz
   have hWz := hwz
   refine wpAnyHT_one (i := 8) rfl (by kernel_rfl) (by kernel_rfl) (fun K hK => ?_)
   try simp only [lA, lS, lZ]
   go_simp
   try rw [hwz]
   refine hK _ _ ⟨(f4.cell (World.block_lt_of_cell? _ _ sq.1) (by simpa using hne)).trans sq.1, f4.heap sq.2 (by simpa using hnm)⟩ ?_
   clear hK K
   refine wpAnyHT_end (by kernel_rfl) ?_
   simp only [List.drop_succ_cons, List.drop_zero]
   go_wp2_with fail
   go_meet
   exact ⟨rb, rfl, rfl, hid h4, hid (hfq.trans f4 (fun i hi hl => by rw [List.mem_singleton] at hi; have := hlo; omega)), hid hlo⟩
  ·have ha := heap_alloc_new wb.drew (.cells #[.nilFunc, .nilFunc, .nilFunc, .nilFunc] 58)
   try simp only [lA, lS, lZ]
   go_simp
   refine hK _ _ ((((Frm.refl [] wb).drew.alloc _).cell (World.block_lt_of_cell? _ _ y0) (by simp)).trans y0) ?_
   clear hK K
   try simp only [lA, lS, lZ, Act.put, lI, lW, lX]
   refine wpAnyHT_one (i := 0) rfl (by kernel_rfl) (by kernel_rfl) (fun K hK => ?_)
   try simp only [lA, lZ]
   go_simp
   refine (rows_any _).mono ?_
   rintro e w1 ⟨m, rfl, hm, hmap, hf1⟩
   have sa := ((((Frm.refl [] wb).drew.alloc (.cells #[.nilFunc, .nilFunc, .nilFunc, .nilFunc] 58)).cell (World.block_lt_of_cell? _ _ y0) (by simp)).trans y0)
   have s1 : w1.cell? ⟨b, 0, none⟩ = some (.int .i64 kind) := (hf1.cell (World.block_lt_of_cell? _ _ sa) (by simp)).trans sa
   refine hK _ _ s1 ?_
   clear hK K
   refine wpAnyHT_str (S' := fun W => W.cell? ⟨b, 0, none⟩ = some (.int .i64 kind) ∧ W.heap[m]? = some (.map (rowsT 7) 7)) (fun _ h => h.1) _ _ _ _ ?_
   refine hI (i := 3) (v := ?_) rfl ?_ ⟨s1, hmap⟩ ?_
   rotate_left 1
   ·(intro W hSw; obtain ⟨s0, sm⟩ := hSw; have hl := hlk W m sm; (try simp only [lA, lS, lZ]); go_simp; try with_reducible rfl)
   try simp only [lA, lS, lZ, Act.put, lI, lW, lX]
   refine hI (i := 4) (v := ?_) rfl ?_ ⟨s1, hmap⟩ ?_
   rotate_left 1
   ·rintro W ⟨s0, sm⟩; (try simp only [lA, lS, lZ]); go_simp; try with_reducible rfl
   try simp only [lA, lS, lZ, Act.put, lI, lW, lX]
   refine hI (i := 5) (v := ?_) rfl ?_ ⟨s1, hmap⟩ ?_
   rotate_left 1
   ·rintro W ⟨s0, sm⟩; (try simp only [lA, lS, lZ]); go_simp; try with_reducible rfl
   try simp only [lA, lS, lZ, Act.put, lI, lW, lX]
   refine hI (i := 6) (v := ?_) rfl ?_ ⟨s1, hmap⟩ ?_
   rotate_left 1
   ·rintro W ⟨s0, sm⟩; (try simp only [lA, lS, lZ]); go_simp; try with_reducible rfl
   try simp only [lA, lS, lZ, Act.put, lI, lW, lX]
   have hq := hf1.heap ha (by simp)
   obtain ⟨Wq, hWq⟩ := eX (w1)
   have hfq : Frm [] wb Wq := by rw [← hWq]; exact ((Frm.refl [] wb).drew.alloc _).trans hf1 (by simp)
   obtain ⟨rb, hrb⟩ := eX (wb.drew.heap.size)
   have hlo : wb.heap.size ≤ rb := by rw [← hrb]; exact Nat.le_refl _
   rw [hWq] at hq hmap s1 hf1
   rw [hrb] at hq
   try rw [hWq]
   have hrb2 : wb.heap.size = rb := hrb
   try rw [hrb]
   try rw [hrb2]
   have sq : Wq.cell? ⟨b, 0, none⟩ = some (.int .i64 kind) ∧ Wq.heap[m]? = some (.map (rowsT 7) 7) := ⟨s1, hmap⟩
   have hne : ¬ b = rb := by have h1 := World.block_lt_of_cell? _ _ y0; simp only at h1; omega
   have hnm : ¬ m = rb := by have h1 := hm; simp at h1; omega
   have z0 : Wq.cell? ⟨rb, 0, none⟩ = some .nilFunc := by rw [cell_of_row _ _ _ _ _ _ hq]; rfl
   have z1 : Wq.cell? ⟨rb, 1, none⟩ = some .nilFunc := by rw [cell_of_row _ _ _ _ _ _ hq]; rfl
   have z2 : Wq.cell? ⟨rb, 2, none⟩ = some .nilFunc := by rw [cell_of_row _ _ _ _ _ _ hq]; rfl
   have z3 : Wq.cell? ⟨rb, 3, none⟩ = some .nilFunc := by rw [cell_of_row _ _ _ _ _ _ hq]; rfl
   have x0 := fZ 0 hq
   have x1 := fZ 1 hq
   have x2 := fZ 2 hq
   have x3 := fZ 3 hq
   obtain ⟨Wz, hwz, h4, f4⟩ := sE rb 58 [(0, .nilFunc), (1, .nilFunc), (2, .nilFunc), (3, .nilFunc)] Wq _ hq
   simp only [List.foldl, List.setIfInBounds_toArray, List.set_cons_zero, List.set_cons_succ] at h4
   simp only [setsF] at hwz
   have hWz := hwz
   refine wpAnyHT_one (i := 8) rfl (by kernel_rfl) (by kernel_rfl) (fun K hK => ?_)
   try simp only [lA, lS, lZ]
   go_simp
   try rw [hwz]
   refine hK _ _ ⟨(f4.cell (World.block_lt_of_cell? _ _ sq.1) (by simpa using hne)).trans sq.1, f4.heap sq.2 (by simpa using hnm)⟩ ?_
   clear hK K
   refine wpAnyHT_end (by kernel_rfl) ?_
   simp only [List.drop_succ_cons, List.drop_zero]
   go_wp2_with fail
   go_meet
   exact ⟨rb, rfl, rfl, hid h4, hid (hfq.trans f4 (fun i hi hl => by rw [List.mem_singleton] at hi; have := hlo; omega)), hid hlo⟩
 case rest =>
  obtain ⟨rb, rfl, rfl, HRB, HFX, HLO⟩ := hcut
  have HS2 : Hid (∀ V, Frm [] wc V → V.cell? ⟨b, 0, none⟩ = some (.int .i64 kind) ∧ V.cell? ⟨b, 1, none⟩ = some (.string name) ∧ V.cell? ⟨b, 2, none⟩ = some (.int .i64 typ) ∧ V.cell? ⟨b, 3, none⟩ = some (.int .i64 frm) ∧ V.cell? ⟨b, 4, none⟩ = some (.int .i64 guid) ∧ V.cell? ⟨b, 5, none⟩ = some (.int .i64 origin) ∧ V.cell? ⟨b, 6, none⟩ = some (.string snap) ∧ V.cell? ⟨b, 7, none⟩ = some (.slice pp pn pc) ∧ V.cell? ⟨b, 8, none⟩ = some (.int .i64 obj) ∧ V.cell? ⟨b, 9, none⟩ = some (.int .i64 at_) ∧ V.cell? ⟨b, 10, none⟩ = some (.int .i64 many) ∧ V.cell? ⟨b, 11, none⟩ = some (.slice kp kn kc) ∧ V.cell? ⟨b, 12, none⟩ = some (.slice dp dl dc) ∧ V.cell? ⟨rb, 0, none⟩ = some (.nilFunc) ∧ V.cell? ⟨rb, 1, none⟩ = some (.nilFunc)) := hid (fun V hf => by
   obtain ⟨k0, k1, k2, k3, k4, k5, k6, k7, k8, k9, k10, k11, k12⟩ := HX.out V (HFX.out.trans hf (by simp))
   have hr := hf.heap HRB.out (by simp)
   exact ⟨k0, k1, k2, k3, k4, k5, k6, k7, k8, k9, k10, k11, k12, by rw [cell_of_row _ _ _ _ _ _ hr]; rfl, by rw [cell_of_row _ _ _ _ _ _ hr]; rfl⟩)
  have HFC : Hid (Frm [] w wc) := hid (HFB.out.trans HFX.out (by simp))
  clear y0 y1 y2 y3 y4 y5 y6 y7 y8 y9 y10 y11 y12 hlk
  go_upto_region 2 with fail
  have HD : Hid (Frm [] wc wc.drew) := hid ((Frm.refl [] wc).drew)
  refine wp_region_tail (S := fun W => (W.cell? ⟨b, 0, none⟩ = some (.int .i64 kind) ∧ W.cell? ⟨b, 1, none⟩ = some (.string name) ∧ W.cell? ⟨b, 2, none⟩ = some (.int .i64 typ) ∧ W.cell? ⟨b, 3, none⟩ = some (.int .i64 frm) ∧ W.cell? ⟨b, 4, none⟩ = some (.int .i64 guid) ∧ W.cell? ⟨b, 5, none⟩ = some (.int .i64 origin) ∧ W.cell? ⟨b, 6, none⟩ = some (.string snap) ∧ W.cell? ⟨b, 7, none⟩ = some (.slice pp pn pc) ∧ W.cell? ⟨b, 8, none⟩ = some (.int .i64 obj) ∧ W.cell? ⟨b, 9, none⟩ = some (.int .i64 at_) ∧ W.cell? ⟨b, 10, none⟩ = some (.int .i64 many) ∧ W.cell? ⟨b, 11, none⟩ = some (.slice kp kn kc) ∧ W.cell? ⟨b, 12, none⟩ = some (.slice dp dl dc) ∧ W.cell? ⟨rb, 0, none⟩ = some (.nilFunc) ∧ W.cell? ⟨rb, 1, none⟩ = some (.nilFunc))) 17 18 rfl (by kernel_rfl) (by kernel_rfl) ?_
  refine hI (i := 0) (v := ?_) rfl ?_ (HS2.out _ HD.out) ?_
  rotate_left 1
  ·rintro W ⟨s0, s1, s2, s3, s4, s5, s6, s7, s8, s9, s10, s11, s12, r0, r1⟩; (try simp only [lA, lZ]); go_simp; try with_reducible rfl
  try simp only [lA, lZ, Act.put, lI, lW, lX]
  refine hI (i := 1) (v := ?_) rfl ?_ (HS2.out _ HD.out) ?_
  rotate_left 1
  ·rintro W ⟨s0, s1, s2, s3, s4, s5, s6, s7, s8, s9, s10, s11, s12, r0, r1⟩; (try simp only [lA, lS, lZ]); go_simp; try with_reducible rfl
  try simp only [lA, lS, lZ, Act.put, lI, lW, lX]
  refine hI (i := 2) (v := ?_) rfl ?_ (HS2.out _ HD.out) ?_
  rotate_left 1
  ·rintro W ⟨s0, s1, s2, s3, s4, s5, s6, s7, s8, s9, s10, s11, s12, r0, r1⟩; (try simp only [lA, lS, lZ]); go_simp; try with_reducible rfl
  try simp only [lA, lS, lZ, Act.put, lI, lW, lX]
  refine hU (i := 3) rfl (HS2.out _ HD.out) ?_
  try simp only [lA, lS, lZ, Act.put, lI, lW, lX]
  refine hU (i := 4) rfl (HS2.out _ HD.out) ?_
  try simp only [lA, lS, lZ, Act.put, lI, lW, lX]
  refine hU (i := 5) rfl (HS2.out _ HD.out) ?_
  try simp only [lA, lS, lZ, Act.put, lI, lW, lX]
  refine hU (i := 6) rfl (HS2.out _ HD.out) ?_
  try simp only [lA, lS, lZ, Act.put, lI, lW, lX]
  refine hU (i := 7) rfl (HS2.out _ HD.out) ?_
  try simp only [lA, lS, lZ, Act.put, lI, lW, lX]
  refine hI (i := 8) (v := ?_) rfl ?_ (HS2.out _ HD.out) ?_
  rotate_left 1
  ·rintro W ⟨s0, s1, s2, s3, s4, s5, s6, s7, s8, s9, s10, s11, s12, r0, r1⟩; (try simp only [lA, lS, lZ]); go_simp; try with_reducible rfl
  try simp only [lA, lS, lZ, Act.put, lI, lW, lX]
  refine hI (i := 9) (v := ?_) rfl ?_ (HS2.out _ HD.out) ?_
  rotate_left 1
  ·rintro W ⟨s0, s1, s2, s3, s4, s5, s6, s7, s8, s9, s10, s11, s12, r0, r1⟩; (try simp only [lA, lS, lZ]); go_simp; try with_reducible rfl
  try simp only [lA, lS, lZ, Act.put, lI, lW, lX]
  refine hU (i := 10) rfl (HS2.out _ HD.out) ?_
  try simp only [lA, lS, lZ, Act.put, lI, lW, lX]
  refine hU (i := 11) rfl (HS2.out _ HD.out) ?_
  try simp only [lA, lS, lZ, Act.put, lI, lW, lX]
  refine hU (i := 12) rfl (HS2.out _ HD.out) ?_
  try simp only [lA, lS, lZ, Act.put, lI, lW, lX]
  refine hU (i := 13) rfl (HS2.out _ HD.out) ?_
  try simp only [lA, lS, lZ, Act.put, lI, lW, lX]
  refine hU (i := 14) rfl (HS2.out _ HD.out) ?_
  try simp only [lA, lS, lZ, Act.put, lI, lW, lX]
  refine hU (i := 15) rfl (HS2.out _ HD.out) ?_
  try simp only [lA, lS, lZ, Act.put, lI, lW, lX]
  refine hU (i := 16) rfl (HS2.out _ HD.out) ?_
  try simp only [lA, lS, lZ, Act.put, lI, lW, lX]
  refine wpAnyHT_end (by kernel_rfl) ?_
  simp only [List.drop_succ_cons, List.drop_zero]
  go_wp2_with fail
  try go_returns
  exact HP1.out _ (HFC.out.trans HD.out (by simp))
theorem check_any (r : Rc) (P : List Pr) (K D : List Int) (w : World) (h : RcOk w r P K D) (hs : r.name.size ≤ 9223372036854775806) :
  Calls Tryz.prog 9 #[.agg r.arr] w fun e w' => e = .returned (.int .i64 (if RcMay r P K D then 0 else 200)) ∧ Frm [] w w' := by
 by_cases k1 : r.kind = 1
 ·refine (check_row r r.onlyPackage 48 49 50 51 (decide (MayPk r)) (SameR r r.onlyPackage P [] K [] D []) w (hid (fun _ _ => rfl)) (hid (fun _ _ => rfl)) (by unfold lkT; rw [k1]; rfl) (hid (fun W _ => mayPackage_any r W)) (hid (fun W _ => onlyPackage_any r W)) (hid (fun W hf => sameR_any r r.onlyPackage P [] K [] D [] W (h.k0 hf) (RcOk.onlyPackage)))).mono ?_
  rintro e w' ⟨rfl, hf⟩
  refine ⟨?_, hf⟩
  have e : RcMay r P K D ↔ (MayPk r ∧ SameR r r.onlyPackage P [] K [] D []) := by unfold RcMay; rw [if_pos k1]
  by_cases hm : RcMay r P K D
  ·rw [if_pos hm, if_pos ⟨decide_eq_true (e.1 hm).1, (e.1 hm).2⟩]
  ·rw [if_neg hm, if_neg (fun h => hm (e.2 ⟨of_decide_eq_true h.1, h.2⟩))]
 by_cases k2 : r.kind = 2
 ·refine (check_row r r.onlyBegin 52 53 54 55 (decide (MayBg r P)) (SameR r r.onlyBegin P P K [] D []) w (hid (fun _ _ => rfl)) (hid (fun _ _ => rfl)) (by unfold lkT; rw [k2]; rfl) (hid (fun W hf => mayBegin_any r P W (h.k0 hf).pr h.pl h.mx.1 hs)) (hid (fun W _ => onlyBegin_any r W)) (hid (fun W hf => sameR_any r r.onlyBegin P P K [] D [] W (h.k0 hf) ((h.k0 hf).onlyBegin)))).mono ?_
  rintro e w' ⟨rfl, hf⟩
  refine ⟨?_, hf⟩
  have e : RcMay r P K D ↔ (MayBg r P ∧ SameR r r.onlyBegin P P K [] D []) := by unfold RcMay; rw [if_neg k1, if_pos k2]
  by_cases hm : RcMay r P K D
  ·rw [if_pos hm, if_pos ⟨decide_eq_true (e.1 hm).1, (e.1 hm).2⟩]
  ·rw [if_neg hm, if_neg (fun h => hm (e.2 ⟨of_decide_eq_true h.1, h.2⟩))]
 by_cases k3 : r.kind = 3
 ·refine (check_row r r.onlyLive 56 57 58 59 (decide (MayLv r K)) (SameR r r.onlyLive P [] K K D []) w (hid (fun _ _ => rfl)) (hid (fun _ _ => rfl)) (by unfold lkT; rw [k3]; rfl) (hid (fun W hf => mayLive_any r K W (h.k0 hf).kr h.kl h.mx.2)) (hid (fun W _ => onlyLive_any r W)) (hid (fun W hf => sameR_any r r.onlyLive P [] K K D [] W (h.k0 hf) ((h.k0 hf).onlyLive)))).mono ?_
  rintro e w' ⟨rfl, hf⟩
  refine ⟨?_, hf⟩
  have e : RcMay r P K D ↔ (MayLv r K ∧ SameR r r.onlyLive P [] K K D []) := by unfold RcMay; rw [if_neg k1, if_neg k2, if_pos k3]
  by_cases hm : RcMay r P K D
  ·rw [if_pos hm, if_pos ⟨decide_eq_true (e.1 hm).1, (e.1 hm).2⟩]
  ·rw [if_neg hm, if_neg (fun h => hm (e.2 ⟨of_decide_eq_true h.1, h.2⟩))]
 by_cases k4 : r.kind = 4
 ·refine (check_row r r.onlyNode 60 61 62 63 (decide (MayNd r K)) (SameR r r.onlyNode P [] K K D []) w (hid (fun _ _ => rfl)) (hid (fun _ _ => rfl)) (by unfold lkT; rw [k4]; rfl) (hid (fun W hf => mayNode_any r K W (h.k0 hf).kr h.kl h.mx.2)) (hid (fun W _ => onlyNode_any r W)) (hid (fun W hf => sameR_any r r.onlyNode P [] K K D [] W (h.k0 hf) ((h.k0 hf).onlyNode)))).mono ?_
  rintro e w' ⟨rfl, hf⟩
  refine ⟨?_, hf⟩
  have e : RcMay r P K D ↔ (MayNd r K ∧ SameR r r.onlyNode P [] K K D []) := by unfold RcMay; rw [if_neg k1, if_neg k2, if_neg k3, if_pos k4]
  by_cases hm : RcMay r P K D
  ·rw [if_pos hm, if_pos ⟨decide_eq_true (e.1 hm).1, (e.1 hm).2⟩]
  ·rw [if_neg hm, if_neg (fun h => hm (e.2 ⟨of_decide_eq_true h.1, h.2⟩))]
 by_cases k5 : r.kind = 5
 ·refine (check_row r r.onlyWrite 64 65 66 67 (decide (MayWr r)) (SameR r r.onlyWrite P [] K [] D D) w (hid (fun _ _ => rfl)) (hid (fun _ _ => rfl)) (by unfold lkT; rw [k5]; rfl) (hid (fun W _ => mayWrite_any r W)) (hid (fun W _ => onlyWrite_any r W)) (hid (fun W hf => sameR_any r r.onlyWrite P [] K [] D D W (h.k0 hf) ((h.k0 hf).onlyWrite)))).mono ?_
  rintro e w' ⟨rfl, hf⟩
  refine ⟨?_, hf⟩
  have e : RcMay r P K D ↔ (MayWr r ∧ SameR r r.onlyWrite P [] K [] D D) := by unfold RcMay; rw [if_neg k1, if_neg k2, if_neg k3, if_neg k4, if_pos k5]
  by_cases hm : RcMay r P K D
  ·rw [if_pos hm, if_pos ⟨decide_eq_true (e.1 hm).1, (e.1 hm).2⟩]
  ·rw [if_neg hm, if_neg (fun h => hm (e.2 ⟨of_decide_eq_true h.1, h.2⟩))]
 by_cases k6 : r.kind = 6
 ·refine (check_row r r.onlyCount 44 45 46 47 (decide (MayCn r)) (SameR r r.onlyCount P [] K [] D []) w (hid (fun _ _ => rfl)) (hid (fun _ _ => rfl)) (by unfold lkT; rw [k6]; rfl) (hid (fun W _ => mayCount_any r W)) (hid (fun W _ => onlyCount_any r W)) (hid (fun W hf => sameR_any r r.onlyCount P [] K [] D [] W (h.k0 hf) (RcOk.onlyCount)))).mono ?_
  rintro e w' ⟨rfl, hf⟩
  refine ⟨?_, hf⟩
  have e : RcMay r P K D ↔ (MayCn r ∧ SameR r r.onlyCount P [] K [] D []) := by unfold RcMay; rw [if_neg k1, if_neg k2, if_neg k3, if_neg k4, if_neg k5, if_pos k6]
  by_cases hm : RcMay r P K D
  ·rw [if_pos hm, if_pos ⟨decide_eq_true (e.1 hm).1, (e.1 hm).2⟩]
  ·rw [if_neg hm, if_neg (fun h => hm (e.2 ⟨of_decide_eq_true h.1, h.2⟩))]
 by_cases k7 : r.kind = 7
 ·refine (check_row r r.onlyCount 44 45 46 47 (decide (MayCn r)) (SameR r r.onlyCount P [] K [] D []) w (hid (fun _ _ => rfl)) (hid (fun _ _ => rfl)) (by unfold lkT; rw [k7]; rfl) (hid (fun W _ => mayCount_any r W)) (hid (fun W _ => onlyCount_any r W)) (hid (fun W hf => sameR_any r r.onlyCount P [] K [] D [] W (h.k0 hf) (RcOk.onlyCount)))).mono ?_
  rintro e w' ⟨rfl, hf⟩
  refine ⟨?_, hf⟩
  have e : RcMay r P K D ↔ (MayCn r ∧ SameR r r.onlyCount P [] K [] D []) := by unfold RcMay; rw [if_neg k1, if_neg k2, if_neg k3, if_neg k4, if_neg k5, if_neg k6, if_pos k7]
  by_cases hm : RcMay r P K D
  ·rw [if_pos hm, if_pos ⟨decide_eq_true (e.1 hm).1, (e.1 hm).2⟩]
  ·rw [if_neg hm, if_neg (fun h => hm (e.2 ⟨of_decide_eq_true h.1, h.2⟩))]
 refine (check_none r w (by unfold lkT; rw [if_neg k1, if_neg k2, if_neg k3, if_neg k4, if_neg k5, if_neg k6, if_neg k7])).mono ?_
 rintro e w' ⟨rfl, hf⟩
 refine ⟨?_, hf⟩
 rw [if_neg (by unfold RcMay; rw [if_neg k1, if_neg k2, if_neg k3, if_neg k4, if_neg k5, if_neg k6, if_neg k7]; simp)]
end
section
open Go.RowKit
structure S4 where
 a : Int
 b : Int
 c : Int
 d : Int
def S4.arr (s : S4) : Array Value := #[.int .u64 s.a, .int .u64 s.b, .int .u64 s.c, .int .u64 s.d]
theorem set4 {w : World} {b : Nat} {T : TypeId} {x0 x1 x2 x3 y0 y1 y2 y3 : Value} (h : w.heap[b]? = some (.cells #[x0, x1, x2, x3] T (0, 0))) :
  ((((w.setCell ⟨b, 0, none⟩ y0).setCell ⟨b, 1, none⟩ y1).setCell ⟨b, 2, none⟩ y2).setCell ⟨b, 3, none⟩ y3).heap[b]? = some (.cells #[y0, y1, y2, y3] T (0, 0)) ∧ Frm [b] w ((((w.setCell ⟨b, 0, none⟩ y0).setCell ⟨b, 1, none⟩ y1).setCell ⟨b, 2, none⟩ y2).setCell ⟨b, 3, none⟩ y3) := by
 refine ⟨?_, ((((Frm.refl _ w).setCell _ _ (by simp)).setCell _ _ (by simp)).setCell _ _ (by simp)).setCell _ _ (by simp)⟩
 have h0 : (w.setCell ⟨b, 0, none⟩ y0).heap[b]? = some (.cells #[y0, x1, x2, x3] T (0, 0)) := by rw [heap_setCell_same _ _ 0 _ _ _ h]; rfl
 have h1 : ((w.setCell ⟨b, 0, none⟩ y0).setCell ⟨b, 1, none⟩ y1).heap[b]? = some (.cells #[y0, y1, x2, x3] T (0, 0)) := by rw [heap_setCell_same _ _ 1 _ _ _ h0]; rfl
 have h2 : (((w.setCell ⟨b, 0, none⟩ y0).setCell ⟨b, 1, none⟩ y1).setCell ⟨b, 2, none⟩ y2).heap[b]? = some (.cells #[y0, y1, y2, x3] T (0, 0)) := by rw [heap_setCell_same _ _ 2 _ _ _ h1]; rfl
 have h3 : ((((w.setCell ⟨b, 0, none⟩ y0).setCell ⟨b, 1, none⟩ y1).setCell ⟨b, 2, none⟩ y2).setCell ⟨b, 3, none⟩ y3).heap[b]? = some (.cells #[y0, y1, y2, y3] T (0, 0)) := by rw [heap_setCell_same _ _ 3 _ _ _ h2]; rfl
 exact h3
theorem set8 {w : World} {b : Nat} {T : TypeId} {x0 x1 x2 x3 x4 x5 x6 x7 y0 y1 y2 y3 y4 y5 y6 y7 : Value} (h : w.heap[b]? = some (.cells #[x0, x1, x2, x3, x4, x5, x6, x7] T (0, 0))) :
  ((((((((w.setCell ⟨b, 0, none⟩ y0).setCell ⟨b, 1, none⟩ y1).setCell ⟨b, 2, none⟩ y2).setCell ⟨b, 3, none⟩ y3).setCell ⟨b, 4, none⟩ y4).setCell ⟨b, 5, none⟩ y5).setCell ⟨b, 6, none⟩ y6).setCell ⟨b, 7, none⟩ y7).heap[b]? = some (.cells #[y0, y1, y2, y3, y4, y5, y6, y7] T (0, 0)) ∧ Frm [b] w ((((((((w.setCell ⟨b, 0, none⟩ y0).setCell ⟨b, 1, none⟩ y1).setCell ⟨b, 2, none⟩ y2).setCell ⟨b, 3, none⟩ y3).setCell ⟨b, 4, none⟩ y4).setCell ⟨b, 5, none⟩ y5).setCell ⟨b, 6, none⟩ y6).setCell ⟨b, 7, none⟩ y7) := by
 refine ⟨?_, ((((((((Frm.refl _ w).setCell _ _ (by simp)).setCell _ _ (by simp)).setCell _ _ (by simp)).setCell _ _ (by simp)).setCell _ _ (by simp)).setCell _ _ (by simp)).setCell _ _ (by simp)).setCell _ _ (by simp)⟩
 have h0 : (w.setCell ⟨b, 0, none⟩ y0).heap[b]? = some (.cells #[y0, x1, x2, x3, x4, x5, x6, x7] T (0, 0)) := by rw [heap_setCell_same _ _ 0 _ _ _ h]; rfl
 have h1 : ((w.setCell ⟨b, 0, none⟩ y0).setCell ⟨b, 1, none⟩ y1).heap[b]? = some (.cells #[y0, y1, x2, x3, x4, x5, x6, x7] T (0, 0)) := by rw [heap_setCell_same _ _ 1 _ _ _ h0]; rfl
 have h2 : (((w.setCell ⟨b, 0, none⟩ y0).setCell ⟨b, 1, none⟩ y1).setCell ⟨b, 2, none⟩ y2).heap[b]? = some (.cells #[y0, y1, y2, x3, x4, x5, x6, x7] T (0, 0)) := by rw [heap_setCell_same _ _ 2 _ _ _ h1]; rfl
 have h3 : ((((w.setCell ⟨b, 0, none⟩ y0).setCell ⟨b, 1, none⟩ y1).setCell ⟨b, 2, none⟩ y2).setCell ⟨b, 3, none⟩ y3).heap[b]? = some (.cells #[y0, y1, y2, y3, x4, x5, x6, x7] T (0, 0)) := by rw [heap_setCell_same _ _ 3 _ _ _ h2]; rfl
 have h4 : (((((w.setCell ⟨b, 0, none⟩ y0).setCell ⟨b, 1, none⟩ y1).setCell ⟨b, 2, none⟩ y2).setCell ⟨b, 3, none⟩ y3).setCell ⟨b, 4, none⟩ y4).heap[b]? = some (.cells #[y0, y1, y2, y3, y4, x5, x6, x7] T (0, 0)) := by rw [heap_setCell_same _ _ 4 _ _ _ h3]; rfl
 have h5 : ((((((w.setCell ⟨b, 0, none⟩ y0).setCell ⟨b, 1, none⟩ y1).setCell ⟨b, 2, none⟩ y2).setCell ⟨b, 3, none⟩ y3).setCell ⟨b, 4, none⟩ y4).setCell ⟨b, 5, none⟩ y5).heap[b]? = some (.cells #[y0, y1, y2, y3, y4, y5, x6, x7] T (0, 0)) := by rw [heap_setCell_same _ _ 5 _ _ _ h4]; rfl
 have h6 : (((((((w.setCell ⟨b, 0, none⟩ y0).setCell ⟨b, 1, none⟩ y1).setCell ⟨b, 2, none⟩ y2).setCell ⟨b, 3, none⟩ y3).setCell ⟨b, 4, none⟩ y4).setCell ⟨b, 5, none⟩ y5).setCell ⟨b, 6, none⟩ y6).heap[b]? = some (.cells #[y0, y1, y2, y3, y4, y5, y6, x7] T (0, 0)) := by rw [heap_setCell_same _ _ 6 _ _ _ h5]; rfl
 have h7 : ((((((((w.setCell ⟨b, 0, none⟩ y0).setCell ⟨b, 1, none⟩ y1).setCell ⟨b, 2, none⟩ y2).setCell ⟨b, 3, none⟩ y3).setCell ⟨b, 4, none⟩ y4).setCell ⟨b, 5, none⟩ y5).setCell ⟨b, 6, none⟩ y6).setCell ⟨b, 7, none⟩ y7).heap[b]? = some (.cells #[y0, y1, y2, y3, y4, y5, y6, y7] T (0, 0)) := by rw [heap_setCell_same _ _ 7 _ _ _ h6]; rfl
 exact h7
def H0 : V8 := ⟨1779033703, 3144134277, 1013904242, 2773480762, 1359893119, 2600822924, 528734635, 1541459225⟩
theorem zero_tail (w : World) : (zeroValue 139).run Tryz.prog w = .ok (.agg (bv (List.replicate 128 0)).toArray) w := by
 have h : (Tryz.prog.info? 139).map (fun i => i.zero) = some (some (.agg (bv (List.replicate 128 0)).toArray)) := by kernel_rfl
 obtain ⟨i, hi, hz⟩ := Option.map_eq_some_iff.1 h
 simp [zeroValue, typeInfo, hi, hz]
def OkB (T : List Int) : Prop := ∀ z ∈ T, 0 ≤ z ∧ z < 256
theorem OkB.set {T : List Int} (h : OkB T) (i : Nat) {z : Int} (hz : 0 ≤ z ∧ z < 256) : OkB (T.set i z) := fun y hy => by
 rcases List.mem_or_eq_of_mem_set hy with hy | hy
 ·exact h y hy
 ·rw [hy]; exact hz
def V8.ok (v : V8) : Prop := (0 ≤ v.a ∧ v.a < 4294967296) ∧ (0 ≤ v.b ∧ v.b < 4294967296) ∧ (0 ≤ v.c ∧ v.c < 4294967296) ∧ (0 ≤ v.d ∧ v.d < 4294967296) ∧ (0 ≤ v.e ∧ v.e < 4294967296) ∧ (0 ≤ v.f ∧ v.f < 4294967296) ∧ (0 ≤ v.g ∧ v.g < 4294967296) ∧ (0 ≤ v.h ∧ v.h < 4294967296)
theorem blockV_ok (v : V8) (zs : List Int) : (blockV v zs).ok := by
 unfold blockV addV V8.ok
 refine ⟨?_, ?_, ?_, ?_, ?_, ?_, ?_, ?_⟩ <;> simp only <;> omega
def sumV (v : V8) : S4 := ⟨pairW v.a v.b, pairW v.c v.d, pairW v.e v.f, pairW v.g v.h⟩
theorem cut_tail (b : Nat) (W : World) : (Instr.sliceAt 139 (.pointer (some ⟨b, 0, none⟩)) (some (.int .i64 0)) (some (.int .i64 64)) none).run Tryz.prog W = .ok (.slice (some ⟨b, 0, none⟩) 64 128) W := by
 rw [run_sliceAt_array_lh W 139 _ (by kernel_rfl) .i64 .i64 0 64 (by omega) (by omega) (by rw [show Tryz.prog.arrayLen 139 = 128 from by kernel_rfl]; omega)]
 rw [show ∀ W : World, (sizeOf (Tryz.prog.elem 139)).run Tryz.prog W = .ok 1 W from fun W => by kernel_rfl]
 rw [show Tryz.prog.arrayLen 139 = 128 from by kernel_rfl]
 simp [Result.andThen_ok, slicedAt, Addr.add]
end
section
open Go.RowKit
def wordS (s : S4) (x : Int) : S4 := ⟨IntKind.u64.wrap (s.a + x), IntKind.u64.wrap (s.b + IntKind.u64.wrap (s.a + x)), IntKind.u64.wrap (s.c + IntKind.u64.wrap (s.b + IntKind.u64.wrap (s.a + x))), IntKind.u64.wrap (s.d + IntKind.u64.wrap (s.c + IntKind.u64.wrap (s.b + IntKind.u64.wrap (s.a + x))))⟩
theorem lowW_bd (a b c d : Int) : 0 ≤ lowW a b c d ∧ lowW a b c d < 4294967296 := by
 have h : ∀ n : Int, 0 ≤ IntKind.u32.wrap n ∧ IntKind.u32.wrap n < 4294967296 := fun n => by
  show 0 ≤ n % 4294967296 ∧ n % 4294967296 < 4294967296
  omega
 exact h _
theorem elem_of {P : Program} {t e : TypeId} (ht : P.underlying t = some (.slice e)) : P.underlying t = some (.slice (P.elem t)) := by simp [Program.elem, ht]
theorem slice_low {P : Program} {t e : TypeId} (ht : P.underlying t = some (.slice e)) (hI : (P.info? e).map (fun i => (i.zero, i.size, i.bytes)) = some (some (.int .u8 0), 1, 1)) (p : Option Addr) (zs : List Int) (n c lo : Nat) (hn : zs.length = n) (hlo : lo ≤ n) (hc : n ≤ c) (w : World) (hr : Rd w p zs) :
  ∃ pp, (∀ W : World, (Instr.slice t (.slice p n c) (some (.int .i64 (lo : Int))) none none).run P W = .ok (.slice pp (n - lo) (c - lo)) W) ∧ Rd w pp (zs.drop lo) := by
 obtain ⟨i, hi, hz, h1, h2⟩ := info_parts hI
 have he : P.elem t = e := by simp [Program.elem, ht]
 refine ⟨if c = lo then p else p.map (·.add lo), fun W => ?_, ?_⟩
 ·rw [run_slice_l W t _ _ _ (elem_of ht) .i64 _ (by omega) (by omega), he]
  have hs : (sizeOf e).run P W = .ok 1 W := by simp [sizeOf, typeInfo, hi, h1, Result.andThen]
  rw [hs]
  simp [Result.andThen, sliced]
 ·by_cases h : c = lo
  ·rw [if_pos h, List.drop_eq_nil_of_le (by omega)]
   exact Rd.nil _ _
  ·rw [if_neg h]
   rcases hr with hr | ⟨g, o, rfl, hr⟩
   ·subst hr
    rw [List.drop_nil]
    exact Rd.nil _ _
   ·have h2 := Rd.drop (Or.inr ⟨g, o, rfl, hr⟩ : Rd w (some ⟨g, o, none⟩) zs) lo
    by_cases h0 : lo = 0
    ·simpa [Addr.add, h0] using h2
    ·simpa [Addr.add, h0] using h2
end
section
open Go.RowKit
theorem slice_from (p : Option Addr) (zs : List Int) (n c lo : Nat) (hn : zs.length = n) (hlo : lo ≤ n) (hc : n ≤ c) (w : World) (hr : Rd w p zs) :
  ∃ pp, (∀ W : World, (Instr.sliceAt 24 (.slice p n c) (some (.int .i64 (lo : Int))) none none).run Tryz.prog W = .ok (.slice pp (n - lo) (c - lo)) W) ∧ Rd w pp (zs.drop lo) ∧ ∀ k ∈ blk pp, k ∈ blk p := by
 obtain ⟨pp, h1, h2⟩ := slice_low (P := Tryz.prog) Tryz.underlying24 infoB p zs n c lo hn hlo hc w hr
 have h3 : ∀ W : World, (Instr.sliceAt 24 (.slice p n c) (some (.int .i64 (lo : Int))) none none).run Tryz.prog W = .ok (.slice pp (n - lo) (c - lo)) W := fun W => by
  rw [run_sliceAt_slice (h := elem_of Tryz.underlying24)]
  exact h1 W
 refine ⟨pp, h3, h2, ?_⟩
 have h4 := (h1 w).symm.trans (by
  have hx : (Instr.slice 24 (.slice p n c) (some (.int .i64 (lo : Int))) none none).run Tryz.prog w = .ok (.slice (if c = lo then p else p.map (·.add lo)) (n - lo) (c - lo)) w := by
   have hI : (Tryz.prog.info? 5).map (fun i => (i.zero, i.size, i.bytes)) = some (some (.int .u8 0), 1, 1) := infoB
   obtain ⟨i, hi, hz, e1, e2⟩ := info_parts hI
   rw [run_slice_l w 24 _ _ _ (elem_of Tryz.underlying24) .i64 _ (by omega) (by omega), show Tryz.prog.elem 24 = 5 by simp [Program.elem, Tryz.underlying24]]
   have hs : (sizeOf 5).run Tryz.prog w = .ok 1 w := by simp [sizeOf, typeInfo, hi, e1, Result.andThen]
   rw [hs]
   simp [Result.andThen, sliced]
  exact hx)
 simp only [Result.ok.injEq, Value.slice.injEq, and_true] at h4
 rw [h4]
 intro k hk
 split at hk
 ·exact hk
 ·cases p with
  | none => simp [blk] at hk
  | some a => by_cases h0 : lo = 0 <;> simpa [blk, Addr.add, h0] using hk
def flW (s : S4) (zs : List Int) : Nat → S4
 | 0 => s
 | k + 1 => wordS (flW s zs k) (lowW (zA zs (4 * k)) (zA zs (4 * k + 1)) (zA zs (4 * k + 2)) (zA zs (4 * k + 3)))
end
section
open Go.RowKit
def Z4 : S4 := ⟨0, 0, 0, 0⟩
def fletch (zs : List Int) : S4 := if zs.length % 4 = 0 then flW Z4 zs (zs.length / 4) else wordS (flW Z4 zs (zs.length / 4)) (lowW (zA zs (4 * (zs.length / 4))) (zA zs (4 * (zs.length / 4) + 1)) (zA zs (4 * (zs.length / 4) + 2)) 0)
theorem zA_bd {zs : List Int} (hb : ∀ z ∈ zs, 0 ≤ z ∧ z < 256) (i : Nat) : 0 ≤ zA zs i ∧ zA zs i < 256 := by
 unfold zA
 rw [List.getD_eq_getElem?_getD]
 by_cases hi : i < zs.length
 ·rw [List.getElem?_eq_getElem hi]
  exact hb _ (List.getElem_mem hi)
 ·rw [List.getElem?_eq_none (by omega)]
  simp
end
end Go.Proofs.YtajfjkfnmmfhmaaGreatDoor
