/- Records: Check. -/
import Derived.Deep.Cut
import Derived.Deep.DeepCutAuto
import Derived.Test.YtajfjkfnmmfhmaaGreatDoorQrad
import Derived.Test.YtajfjkfnmmfhmaaGreatDoorQrae
import Derived.Test.YtajfjkfnmmfhmaaGreatDoorQraf
import Derived.Test.YtajfjkfnmmfhmaaGreatDoorQrac
namespace Go.Proofs.YtajfjkfnmmfhmaaGreatDoor
set_option maxRecDepth 100000
set_option maxHeartbeats 25600000
section
open Go.RowKit Go.Lib
def lkT (k : Int) : Option (Array Value) := if k = 1 then some rw1 else if k = 2 then some rw2 else if k = 3 then some rw3 else if k = 4 then some rw4 else if k = 5 then some rw5 else if k = 6 then some rwC else if k = 7 then some rwC else none
theorem lkT_of (k : Int) : lkR k (rowsT 7).toList = (lkT k).map Value.agg := by
 unfold rowsT lkT
 simp only [lkR]
 repeat (split <;> first | rfl | skip)
def RcMay (r : Rc) (P : List Pr) (K D : List Int) : Prop :=
 if r.kind = 1 then MayPk r ∧ SameR r r.onlyPackage P [] K [] D []
 else if r.kind = 2 then MayBg r P ∧ SameR r r.onlyBegin P P K [] D []
 else if r.kind = 3 then MayLv r K ∧ SameR r r.onlyLive P [] K K D []
 else if r.kind = 4 then MayNd r K ∧ SameR r r.onlyNode P [] K K D []
 else if r.kind = 5 then MayWr r ∧ SameR r r.onlyWrite P [] K [] D D
 else if r.kind = 6 then MayCn r ∧ SameR r r.onlyCount P [] K [] D []
 else if r.kind = 7 then MayCn r ∧ SameR r r.onlyCount P [] K [] D []
 else False
instance (r : Rc) (P : List Pr) (K D : List Int) : Decidable (RcMay r P K D) := by unfold RcMay; infer_instance
theorem RdI.none (w : World) (p : Option Addr) : RdI w p [] := Or.inl rfl
theorem RdP.none (w : World) (p : Option Addr) : RdP w p [] := Or.inl rfl
theorem RcOk.onlyPackage {w : World} {r : Rc} : RcOk w r.onlyPackage [] [] [] := ⟨RdP.none _ _, rfl, RdI.none _ _, rfl, Rd.nil _ _, rfl, by simp, by unfold Rc.onlyPackage; simp⟩
theorem RcOk.onlyCount {w : World} {r : Rc} : RcOk w r.onlyCount [] [] [] := ⟨RdP.none _ _, rfl, RdI.none _ _, rfl, Rd.nil _ _, rfl, by simp, by unfold Rc.onlyCount; simp⟩
theorem RcOk.onlyBegin {w : World} {r : Rc} {P : List Pr} {K D : List Int} (h : RcOk w r P K D) : RcOk w r.onlyBegin P [] [] := ⟨h.pr, h.pl, RdI.none _ _, rfl, Rd.nil _ _, rfl, by simp, ⟨h.mx.1, by unfold Rc.onlyBegin; simp⟩⟩
theorem RcOk.onlyLive {w : World} {r : Rc} {P : List Pr} {K D : List Int} (h : RcOk w r P K D) : RcOk w r.onlyLive [] K [] := ⟨RdP.none _ _, rfl, h.kr, h.kl, Rd.nil _ _, rfl, by simp, ⟨by unfold Rc.onlyLive; simp, h.mx.2⟩⟩
theorem RcOk.onlyNode {w : World} {r : Rc} {P : List Pr} {K D : List Int} (h : RcOk w r P K D) : RcOk w r.onlyNode [] K [] := ⟨RdP.none _ _, rfl, h.kr, h.kl, Rd.nil _ _, rfl, by simp, ⟨by unfold Rc.onlyNode; simp, h.mx.2⟩⟩
theorem RcOk.onlyWrite {w : World} {r : Rc} {P : List Pr} {K D : List Int} (h : RcOk w r P K D) : RcOk w r.onlyWrite [] [] D := ⟨RdP.none _ _, rfl, RdI.none _ _, rfl, h.dr, h.dn, h.db, by unfold Rc.onlyWrite; simp⟩
theorem check_row (r ro : Rc) (fm fo fp ft : FuncId) (M : Bool) (S : Prop) [Decidable S] (w : World) (hfm : Hid (∀ (args : Array Value) (W : World), (callFunc fm args).run Tryz.prog W = .ok (.enter fm args) W)) (hfo : Hid (∀ (args : Array Value) (W : World), (callFunc fo args).run Tryz.prog W = .ok (.enter fo args) W)) (hk : lkT r.kind = some #[.func (.func fm) #[] #[], .func (.func fo) #[] #[], .func (.func fp) #[] #[], .func (.func ft) #[] #[]])
  (HM : Hid (∀ W, Frm [] w W → Calls Tryz.prog fm #[.agg r.arr] W fun e w' => e = .returned (.bool M) ∧ Frm [] W w')) (HO : Hid (∀ W, Frm [] w W → Calls Tryz.prog fo #[.agg r.arr] W fun e w' => e = .returned (.agg ro.arr) ∧ Frm [] W w'))
  (HS : Hid (∀ W, Frm [] w W → Calls Tryz.prog 24 #[.agg r.arr, .agg ro.arr] W fun e w' => e = .returned (.bool (decide S)) ∧ Frm [] W w')) :
  Calls Tryz.prog 9 #[.agg r.arr] w fun e w' => e = .returned (.int .i64 (if M = true ∧ S then 0 else 200)) ∧ Frm [] w w' := by
 obtain ⟨PO, hPO⟩ : ∃ PO : Ending → World → Prop, (fun e w' => e = .returned (.int .i64 (if M = true ∧ S then 0 else 200)) ∧ Frm [] w w') = PO := ⟨_, rfl⟩
 rw [hPO]
 have HP0 : Hid (∀ w', M = true ∧ S → Frm [] w w' → PO (.returned (.int .i64 0)) w') := hid (fun w' h h2 => by rw [← hPO]; exact ⟨by rw [if_pos h], h2⟩)
 have HP1 : Hid (∀ w', ¬ (M = true ∧ S) → Frm [] w w' → PO (.returned (.int .i64 200)) w') := hid (fun w' h h2 => by rw [← hPO]; exact ⟨by rw [if_neg h], h2⟩)
 clear hPO
 obtain ⟨wb, hwb⟩ := eX (w.alloc (.cells r.arr 26))
 have hrow := heap_alloc_new w (.cells r.arr 26)
 have hfb : Frm [] w wb := by rw [← hwb]; exact (Frm.refl _ _).alloc _
 obtain ⟨b, hb⟩ := eX (w.heap.size)
 rw [hwb, hb] at hrow
 have HX := hid (fun V (hf : Frm [] wb V) => rc_cells (hf.heap hrow (by simp)))
 have HFB := hid hfb
 have HWB := hid hwb
 have HB := hid hb
 have hlk : ∀ (W : World) (m : Nat), W.heap[m]? = some (.map (rowsT 7) 7) → (Instr.lookup 60 (.map (some m)) (.int .i64 r.kind) true).run Tryz.prog W = .ok (.tuple #[.agg #[.func (.func fm) #[] #[], .func (.func fo) #[] #[], .func (.func fp) #[] #[], .func (.func ft) #[] #[]], .bool true]) W := fun W m h => by
  have h2 := run_lookR (P := Tryz.prog) (w := W) 60 3 58 m 7 (rowsT 7) r.kind (.agg #[.nilFunc, .nilFunc, .nilFunc, .nilFunc]) Tryz.underlying60 Tryz.underlying3 (by kernel_rfl) h (rowsT_int 7)
  rw [lkT_of, hk] at h2
  exact h2
 clear hk hwb hfb hb hrow
 obtain ⟨kind, name, typ, frm, guid, origin, snap, pp, pn, pc, obj, at_, many, kp, kn, kc, dp, dl, dc⟩ := r
 unfold Rc.arr at HM HO HS HWB ⊢
 simp only at HX HM HO HS hlk HWB ⊢
 obtain ⟨y0, y1, y2, y3, y4, y5, y6, y7, y8, y9, y10, y11, y12⟩ := HX.out wb (Frm.refl _ _)
 go_enter Tryz.func9, Tryz.ntmps9
 go_upto_region 1 with fail
 try rw [HWB.out]
 try rw [HB.out]
 go_cut [3, 4] (fun a t wx => ∃ rb, a = .pointer (some ⟨rb, 0, none⟩) ∧ t = .bool true ∧ Hid (wx.heap[rb]? = some (.cells #[.func (.func fm) #[] #[], .func (.func fo) #[] #[], .func (.func fp) #[] #[], .func (.func ft) #[] #[]] 58 (0, 0))) ∧ Hid (Frm [] wb wx) ∧ Hid (wb.heap.size ≤ rb))
 case first =>
  have s0 : wb.drew.cell? ⟨b, 0, none⟩ = some (.int .i64 kind) := y0
  refine wp_region_tail (S := fun W => (W.cell? ⟨b, 0, none⟩ = some (.int .i64 kind))) 9 10 rfl (by kernel_rfl) (by kernel_rfl) ?_
  refine hI (i := 1) (v := ?_) rfl ?_ s0 ?_
  rotate_left 1
  ·rintro W s0; (try simp only [lA, lS, lZ]); go_simp; try with_reducible rfl
  try simp only [lA, lS, lZ, Act.put, lI, lW, lX]
  refine hI (i := 2) (v := ?_) rfl ?_ s0 ?_
  rotate_left 1
  ·rintro W s0; (try simp only [lA, lS, lZ]); go_simp; try with_reducible rfl
  try simp only [lA, lS, lZ, Act.put, lI, lW, lX]
  refine wpAnyHT_two (i := 0) (j := 7) rfl rfl (by kernel_rfl) (by kernel_rfl) (by kernel_rfl) (fun K hK => ?_) (fun K hK => ?_)
  ·try simp only [lA, lZ]
   go_simp
   refine (rows_any _).mono ?_
   rintro e w1 ⟨m, rfl, hm, hmap, hf1⟩
   have s1 : w1.cell? ⟨b, 0, none⟩ = some (.int .i64 kind) := (hf1.cell (World.block_lt_of_cell? _ _ s0) (by simp)).trans s0
   refine hK _ _ s1 ?_
   clear hK K
   refine wpAnyHT_str (S' := fun W => W.cell? ⟨b, 0, none⟩ = some (.int .i64 kind) ∧ W.heap[m]? = some (.map (rowsT 7) 7)) (fun _ h => h.1) _ _ _ _ ?_
   refine hI (i := 3) (v := ?_) rfl ?_ ⟨s1, hmap⟩ ?_
   rotate_left 1
   ·(intro W hSw; obtain ⟨s0, sm⟩ := hSw; have hl := hlk W m sm; (try simp only [lA, lS, lZ]); go_simp; try with_reducible rfl)
   try simp only [lA, lS, lZ, Act.put, lI, lW, lX]
   refine hI (i := 4) (v := ?_) rfl ?_ ⟨s1, hmap⟩ ?_
   rotate_left 1
   ·rintro W ⟨s0, sm⟩; (try simp only [lA, lS, lZ]); go_simp; try with_reducible rfl
   try simp only [lA, lS, lZ, Act.put, lI, lW, lX]
   refine hI (i := 5) (v := ?_) rfl ?_ ⟨s1, hmap⟩ ?_
   rotate_left 1
   ·rintro W ⟨s0, sm⟩; (try simp only [lA, lS, lZ]); go_simp; try with_reducible rfl
   try simp only [lA, lS, lZ, Act.put, lI, lW, lX]
   refine hI (i := 6) (v := ?_) rfl ?_ ⟨s1, hmap⟩ ?_
   rotate_left 1
   ·rintro W ⟨s0, sm⟩; (try simp only [lA, lS, lZ]); go_simp; try with_reducible rfl
   try simp only [lA, lS, lZ, Act.put, lI, lW, lX]
   refine wpAnyHT_one (i := 7) rfl (by kernel_rfl) (by kernel_rfl) (fun K hK => ?_)
   try simp only [lA, lS, lZ]
   go_simp
   refine hK _ _ ⟨(((Frm.refl [] w1).alloc _).cell (World.block_lt_of_cell? _ _ s1) (by simp)).trans s1, ((Frm.refl [] w1).alloc _).heap hmap (by simp)⟩ ?_
   clear hK K
   try simp only [lA, lS, lZ, Act.put, lI, lW, lX]
   have hq := heap_alloc_new w1 (.cells #[.nilFunc, .nilFunc, .nilFunc, .nilFunc] 58)
   obtain ⟨rb, hrb⟩ := eX (w1.heap.size)
   obtain ⟨Wq, hWq⟩ := eX (w1.alloc (.cells #[.nilFunc, .nilFunc, .nilFunc, .nilFunc] 58))
   have hfq : Frm [] wb Wq := by rw [← hWq]; exact (((Frm.refl [] wb).drew.trans hf1 (by simp)).alloc _)
   have hlo : wb.heap.size ≤ rb := by rw [← hrb]; exact hf1.size
   have sq : Wq.cell? ⟨b, 0, none⟩ = some (.int .i64 kind) ∧ Wq.heap[m]? = some (.map (rowsT 7) 7) := by rw [← hWq]; exact ⟨(((Frm.refl [] w1).alloc _).cell (World.block_lt_of_cell? _ _ s1) (by simp)).trans s1, ((Frm.refl [] w1).alloc _).heap hmap (by simp)⟩
   have hne : ¬ b = rb := by have h1 := World.block_lt_of_cell? _ _ s1; have h2 := hrb; simp only at h1; omega
   have hnm : ¬ m = rb := by have h1 := lt_of_heap hmap; omega
   rw [hWq, hrb] at hq
   try rw [hWq]
   try rw [hrb]
   have z0 : Wq.cell? ⟨rb, 0, none⟩ = some .nilFunc := by rw [cell_of_row _ _ _ _ _ _ hq]; rfl
   have z1 : Wq.cell? ⟨rb, 1, none⟩ = some .nilFunc := by rw [cell_of_row _ _ _ _ _ _ hq]; rfl
   have z2 : Wq.cell? ⟨rb, 2, none⟩ = some .nilFunc := by rw [cell_of_row _ _ _ _ _ _ hq]; rfl
   have z3 : Wq.cell? ⟨rb, 3, none⟩ = some .nilFunc := by rw [cell_of_row _ _ _ _ _ _ hq]; rfl
   have x0 := fZ 0 hq
   have x1 := fZ 1 hq
   have x2 := fZ 2 hq
   have x3 := fZ 3 hq
   obtain ⟨Wz, hwz, h4, f4⟩ := sE rb 58 [(0, .func (.func fm) #[] #[]), (1, .func (.func fo) #[] #[]), (2, .func (.func fp) #[] #[]), (3, .func (.func ft) #[] #[])] Wq _ hq
   simp only [List.foldl, List.setIfInBounds_toArray, List.set_cons_zero, List.set_cons_succ] at h4
   simp only [setsF] at hwz
   have hWz := hwz
   refine wpAnyHT_one (i := 8) rfl (by kernel_rfl) (by kernel_rfl) (fun K hK => ?_)
   try simp only [lA, lS, lZ]
   go_simp
   try rw [hwz]
   refine hK _ _ ⟨(f4.cell (World.block_lt_of_cell? _ _ sq.1) (by simpa using hne)).trans sq.1, f4.heap sq.2 (by simpa using hnm)⟩ ?_
   clear hK K
   refine wpAnyHT_end (by kernel_rfl) ?_
   simp only [List.drop_succ_cons, List.drop_zero]
   go_wp2_with fail
   go_meet
   exact ⟨rb, rfl, rfl, hid h4, hid (hfq.trans f4 (fun i hi hl => by rw [List.mem_singleton] at hi; have := hlo; omega)), hid hlo⟩
  ·have ha := heap_alloc_new wb.drew (.cells #[.nilFunc, .nilFunc, .nilFunc, .nilFunc] 58)
   try simp only [lA, lS, lZ]
   go_simp
   refine hK _ _ ((((Frm.refl [] wb).drew.alloc _).cell (World.block_lt_of_cell? _ _ y0) (by simp)).trans y0) ?_
   clear hK K
   try simp only [lA, lS, lZ, Act.put, lI, lW, lX]
   refine wpAnyHT_one (i := 0) rfl (by kernel_rfl) (by kernel_rfl) (fun K hK => ?_)
   try simp only [lA, lZ]
   go_simp
   refine (rows_any _).mono ?_
   rintro e w1 ⟨m, rfl, hm, hmap, hf1⟩
   have sa := ((((Frm.refl [] wb).drew.alloc (.cells #[.nilFunc, .nilFunc, .nilFunc, .nilFunc] 58)).cell (World.block_lt_of_cell? _ _ y0) (by simp)).trans y0)
   have s1 : w1.cell? ⟨b, 0, none⟩ = some (.int .i64 kind) := (hf1.cell (World.block_lt_of_cell? _ _ sa) (by simp)).trans sa
   refine hK _ _ s1 ?_
   clear hK K
   refine wpAnyHT_str (S' := fun W => W.cell? ⟨b, 0, none⟩ = some (.int .i64 kind) ∧ W.heap[m]? = some (.map (rowsT 7) 7)) (fun _ h => h.1) _ _ _ _ ?_
   refine hI (i := 3) (v := ?_) rfl ?_ ⟨s1, hmap⟩ ?_
   rotate_left 1
   ·(intro W hSw; obtain ⟨s0, sm⟩ := hSw; have hl := hlk W m sm; (try simp only [lA, lS, lZ]); go_simp; try with_reducible rfl)
   try simp only [lA, lS, lZ, Act.put, lI, lW, lX]
   refine hI (i := 4) (v := ?_) rfl ?_ ⟨s1, hmap⟩ ?_
   rotate_left 1
   ·rintro W ⟨s0, sm⟩; (try simp only [lA, lS, lZ]); go_simp; try with_reducible rfl
   try simp only [lA, lS, lZ, Act.put, lI, lW, lX]
   refine hI (i := 5) (v := ?_) rfl ?_ ⟨s1, hmap⟩ ?_
   rotate_left 1
   ·rintro W ⟨s0, sm⟩; (try simp only [lA, lS, lZ]); go_simp; try with_reducible rfl
   try simp only [lA, lS, lZ, Act.put, lI, lW, lX]
   refine hI (i := 6) (v := ?_) rfl ?_ ⟨s1, hmap⟩ ?_
   rotate_left 1
   ·rintro W ⟨s0, sm⟩; (try simp only [lA, lS, lZ]); go_simp; try with_reducible rfl
   try simp only [lA, lS, lZ, Act.put, lI, lW, lX]
   have hq := hf1.heap ha (by simp)
   obtain ⟨Wq, hWq⟩ := eX (w1)
   have hfq : Frm [] wb Wq := by rw [← hWq]; exact ((Frm.refl [] wb).drew.alloc _).trans hf1 (by simp)
   obtain ⟨rb, hrb⟩ := eX (wb.drew.heap.size)
   have hlo : wb.heap.size ≤ rb := by rw [← hrb]; exact Nat.le_refl _
   rw [hWq] at hq hmap s1 hf1
   rw [hrb] at hq
   try rw [hWq]
   have hrb2 : wb.heap.size = rb := hrb
   try rw [hrb]
   try rw [hrb2]
   have sq : Wq.cell? ⟨b, 0, none⟩ = some (.int .i64 kind) ∧ Wq.heap[m]? = some (.map (rowsT 7) 7) := ⟨s1, hmap⟩
   have hne : ¬ b = rb := by have h1 := World.block_lt_of_cell? _ _ y0; simp only at h1; omega
   have hnm : ¬ m = rb := by have h1 := hm; simp at h1; omega
   have z0 : Wq.cell? ⟨rb, 0, none⟩ = some .nilFunc := by rw [cell_of_row _ _ _ _ _ _ hq]; rfl
   have z1 : Wq.cell? ⟨rb, 1, none⟩ = some .nilFunc := by rw [cell_of_row _ _ _ _ _ _ hq]; rfl
   have z2 : Wq.cell? ⟨rb, 2, none⟩ = some .nilFunc := by rw [cell_of_row _ _ _ _ _ _ hq]; rfl
   have z3 : Wq.cell? ⟨rb, 3, none⟩ = some .nilFunc := by rw [cell_of_row _ _ _ _ _ _ hq]; rfl
   have x0 := fZ 0 hq
   have x1 := fZ 1 hq
   have x2 := fZ 2 hq
   have x3 := fZ 3 hq
   obtain ⟨Wz, hwz, h4, f4⟩ := sE rb 58 [(0, .func (.func fm) #[] #[]), (1, .func (.func fo) #[] #[]), (2, .func (.func fp) #[] #[]), (3, .func (.func ft) #[] #[])] Wq _ hq
   simp only [List.foldl, List.setIfInBounds_toArray, List.set_cons_zero, List.set_cons_succ] at h4
   simp only [setsF] at hwz
   have hWz := hwz
   refine wpAnyHT_one (i := 8) rfl (by kernel_rfl) (by kernel_rfl) (fun K hK => ?_)
   try simp only [lA, lS, lZ]
   go_simp
   try rw [hwz]
   refine hK _ _ ⟨(f4.cell (World.block_lt_of_cell? _ _ sq.1) (by simpa using hne)).trans sq.1, f4.heap sq.2 (by simpa using hnm)⟩ ?_
   clear hK K
   refine wpAnyHT_end (by kernel_rfl) ?_
   simp only [List.drop_succ_cons, List.drop_zero]
   go_wp2_with fail
   go_meet
   exact ⟨rb, rfl, rfl, hid h4, hid (hfq.trans f4 (fun i hi hl => by rw [List.mem_singleton] at hi; have := hlo; omega)), hid hlo⟩
 case rest =>
  obtain ⟨rb, rfl, rfl, HRB, HFX, HLO⟩ := hcut
  have HS2 : Hid (∀ V, Frm [] wc V → V.cell? ⟨b, 0, none⟩ = some (.int .i64 kind) ∧ V.cell? ⟨b, 1, none⟩ = some (.string name) ∧ V.cell? ⟨b, 2, none⟩ = some (.int .i64 typ) ∧ V.cell? ⟨b, 3, none⟩ = some (.int .i64 frm) ∧ V.cell? ⟨b, 4, none⟩ = some (.int .i64 guid) ∧ V.cell? ⟨b, 5, none⟩ = some (.int .i64 origin) ∧ V.cell? ⟨b, 6, none⟩ = some (.string snap) ∧ V.cell? ⟨b, 7, none⟩ = some (.slice pp pn pc) ∧ V.cell? ⟨b, 8, none⟩ = some (.int .i64 obj) ∧ V.cell? ⟨b, 9, none⟩ = some (.int .i64 at_) ∧ V.cell? ⟨b, 10, none⟩ = some (.int .i64 many) ∧ V.cell? ⟨b, 11, none⟩ = some (.slice kp kn kc) ∧ V.cell? ⟨b, 12, none⟩ = some (.slice dp dl dc) ∧ V.cell? ⟨rb, 0, none⟩ = some (.func (.func fm) #[] #[]) ∧ V.cell? ⟨rb, 1, none⟩ = some (.func (.func fo) #[] #[])) := hid (fun V hf => by
   obtain ⟨k0, k1, k2, k3, k4, k5, k6, k7, k8, k9, k10, k11, k12⟩ := HX.out V (HFX.out.trans hf (by simp))
   have hr := hf.heap HRB.out (by simp)
   exact ⟨k0, k1, k2, k3, k4, k5, k6, k7, k8, k9, k10, k11, k12, by rw [cell_of_row _ _ _ _ _ _ hr]; rfl, by rw [cell_of_row _ _ _ _ _ _ hr]; rfl⟩)
  have HFC : Hid (Frm [] w wc) := hid (HFB.out.trans HFX.out (by simp))
  clear y0 y1 y2 y3 y4 y5 y6 y7 y8 y9 y10 y11 y12 hlk
  obtain ⟨B, hB⟩ := eX (decide S)
  rw [hB] at HS
  have HBS : Hid (B = true ↔ S) := hid (by rw [← hB]; exact decide_eq_true_iff)
  clear hB
  cases M with
  | false =>
   go_upto_region 2 with fail
   have HD : Hid (Frm [] wc wc.drew) := hid ((Frm.refl [] wc).drew)
   refine wp_region_tail (S := fun W => (W.cell? ⟨b, 0, none⟩ = some (.int .i64 kind) ∧ W.cell? ⟨b, 1, none⟩ = some (.string name) ∧ W.cell? ⟨b, 2, none⟩ = some (.int .i64 typ) ∧ W.cell? ⟨b, 3, none⟩ = some (.int .i64 frm) ∧ W.cell? ⟨b, 4, none⟩ = some (.int .i64 guid) ∧ W.cell? ⟨b, 5, none⟩ = some (.int .i64 origin) ∧ W.cell? ⟨b, 6, none⟩ = some (.string snap) ∧ W.cell? ⟨b, 7, none⟩ = some (.slice pp pn pc) ∧ W.cell? ⟨b, 8, none⟩ = some (.int .i64 obj) ∧ W.cell? ⟨b, 9, none⟩ = some (.int .i64 at_) ∧ W.cell? ⟨b, 10, none⟩ = some (.int .i64 many) ∧ W.cell? ⟨b, 11, none⟩ = some (.slice kp kn kc) ∧ W.cell? ⟨b, 12, none⟩ = some (.slice dp dl dc) ∧ W.cell? ⟨rb, 0, none⟩ = some (.func (.func fm) #[] #[]) ∧ W.cell? ⟨rb, 1, none⟩ = some (.func (.func fo) #[] #[]))) 17 18 rfl (by kernel_rfl) (by kernel_rfl) ?_
   refine hI (i := 0) (v := ?_) rfl ?_ (HS2.out _ HD.out) ?_
   rotate_left 1
   ·rintro W ⟨s0, s1, s2, s3, s4, s5, s6, s7, s8, s9, s10, s11, s12, r0, r1⟩; (try simp only [lA, lZ]); go_simp; try with_reducible rfl
   try simp only [lA, lZ, Act.put, lI, lW, lX]
   refine hI (i := 1) (v := ?_) rfl ?_ (HS2.out _ HD.out) ?_
   rotate_left 1
   ·rintro W ⟨s0, s1, s2, s3, s4, s5, s6, s7, s8, s9, s10, s11, s12, r0, r1⟩; (try simp only [lA, lS, lZ]); go_simp; try with_reducible rfl
   try simp only [lA, lS, lZ, Act.put, lI, lW, lX]
   refine hI (i := 2) (v := ?_) rfl ?_ (HS2.out _ HD.out) ?_
   rotate_left 1
   ·rintro W ⟨s0, s1, s2, s3, s4, s5, s6, s7, s8, s9, s10, s11, s12, r0, r1⟩; (try simp only [lA, lS, lZ]); go_simp; try with_reducible rfl
   try simp only [lA, lS, lZ, Act.put, lI, lW, lX]
   refine hI (i := 3) (v := ?_) rfl ?_ (HS2.out _ HD.out) ?_
   rotate_left 1
   ·rintro W ⟨s0, s1, s2, s3, s4, s5, s6, s7, s8, s9, s10, s11, s12, r0, r1⟩; (try simp only [lA, lS, lZ]); go_simp; try with_reducible rfl
   try simp only [lA, lS, lZ, Act.put, lI, lW, lX]
   refine hI (i := 4) (v := ?_) rfl ?_ (HS2.out _ HD.out) ?_
   rotate_left 1
   ·rintro W ⟨s0, s1, s2, s3, s4, s5, s6, s7, s8, s9, s10, s11, s12, r0, r1⟩; (try simp only [lA, lS, lZ]); go_simp; try with_reducible rfl
   try simp only [lA, lS, lZ, Act.put, lI, lW, lX]
   refine hI (i := 5) (v := ?_) rfl ?_ (HS2.out _ HD.out) ?_
   rotate_left 1
   ·rintro W ⟨s0, s1, s2, s3, s4, s5, s6, s7, s8, s9, s10, s11, s12, r0, r1⟩; (try simp only [lA, lS, lZ]); go_simp; try with_reducible rfl
   try simp only [lA, lS, lZ, Act.put, lI, lW, lX]
   refine wpAnyHT_one (i := 6) rfl (by kernel_rfl) (by kernel_rfl) (fun K hK => ?_)
   try simp only [lA, lS, lZ]
   go_simp
   rw [hfm.out, Oper.upon_enter]
   refine (HM.out _ (HFC.out.trans HD.out (by simp))).mono ?_
   rintro e w2 ⟨rfl, hf2⟩
   have HF2 : Hid (Frm [] wc w2) := hid (HD.out.trans hf2 (by simp))
   refine hK _ _ (HS2.out _ HF2.out) ?_
   clear hK K hf2
   refine hI (i := 7) (v := ?_) rfl ?_ (HS2.out _ HF2.out) ?_
   rotate_left 1
   ·rintro W ⟨s0, s1, s2, s3, s4, s5, s6, s7, s8, s9, s10, s11, s12, r0, r1⟩; (try simp only [lA, lS, lZ]); go_simp; try with_reducible rfl
   try simp only [lA, lS, lZ, Act.put, lI, lW, lX]
   refine hI (i := 8) (v := ?_) rfl ?_ (HS2.out _ HF2.out) ?_
   rotate_left 1
   ·rintro W ⟨s0, s1, s2, s3, s4, s5, s6, s7, s8, s9, s10, s11, s12, r0, r1⟩; (try simp only [lA, lS, lZ]); go_simp; try with_reducible rfl
   try simp only [lA, lS, lZ, Act.put, lI, lW, lX]
   refine hI (i := 9) (v := ?_) rfl ?_ (HS2.out _ HF2.out) ?_
   rotate_left 1
   ·rintro W ⟨s0, s1, s2, s3, s4, s5, s6, s7, s8, s9, s10, s11, s12, r0, r1⟩; (try simp only [lA, lS, lZ]); go_simp; try with_reducible rfl
   try simp only [lA, lS, lZ, Act.put, lI, lW, lX]
   refine hU (i := 10) rfl (HS2.out _ HF2.out) ?_
   try simp only [lA, lS, lZ, Act.put, lI, lW, lX]
   refine hU (i := 11) rfl (HS2.out _ HF2.out) ?_
   try simp only [lA, lS, lZ, Act.put, lI, lW, lX]
   refine hU (i := 12) rfl (HS2.out _ HF2.out) ?_
   try simp only [lA, lS, lZ, Act.put, lI, lW, lX]
   refine hU (i := 13) rfl (HS2.out _ HF2.out) ?_
   try simp only [lA, lS, lZ, Act.put, lI, lW, lX]
   refine hU (i := 14) rfl (HS2.out _ HF2.out) ?_
   try simp only [lA, lS, lZ, Act.put, lI, lW, lX]
   refine hU (i := 15) rfl (HS2.out _ HF2.out) ?_
   try simp only [lA, lS, lZ, Act.put, lI, lW, lX]
   refine hU (i := 16) rfl (HS2.out _ HF2.out) ?_
   try simp only [lA, lS, lZ, Act.put, lI, lW, lX]
   refine wpAnyHT_end (by kernel_rfl) ?_
   simp only [List.drop_succ_cons, List.drop_zero]
   go_wp2_with fail
   try go_returns
   exact HP1.out _ (by simp) (HFC.out.trans HF2.out (by simp))
  | true =>
   go_upto_region 2 with fail
   cases B with
   | false =>
    have HD : Hid (Frm [] wc wc.drew) := hid ((Frm.refl [] wc).drew)
    refine wp_region_tail (S := fun W => (W.cell? ⟨b, 0, none⟩ = some (.int .i64 kind) ∧ W.cell? ⟨b, 1, none⟩ = some (.string name) ∧ W.cell? ⟨b, 2, none⟩ = some (.int .i64 typ) ∧ W.cell? ⟨b, 3, none⟩ = some (.int .i64 frm) ∧ W.cell? ⟨b, 4, none⟩ = some (.int .i64 guid) ∧ W.cell? ⟨b, 5, none⟩ = some (.int .i64 origin) ∧ W.cell? ⟨b, 6, none⟩ = some (.string snap) ∧ W.cell? ⟨b, 7, none⟩ = some (.slice pp pn pc) ∧ W.cell? ⟨b, 8, none⟩ = some (.int .i64 obj) ∧ W.cell? ⟨b, 9, none⟩ = some (.int .i64 at_) ∧ W.cell? ⟨b, 10, none⟩ = some (.int .i64 many) ∧ W.cell? ⟨b, 11, none⟩ = some (.slice kp kn kc) ∧ W.cell? ⟨b, 12, none⟩ = some (.slice dp dl dc) ∧ W.cell? ⟨rb, 0, none⟩ = some (.func (.func fm) #[] #[]) ∧ W.cell? ⟨rb, 1, none⟩ = some (.func (.func fo) #[] #[]))) 17 18 rfl (by kernel_rfl) (by kernel_rfl) ?_
    refine hI (i := 0) (v := ?_) rfl ?_ (HS2.out _ HD.out) ?_
    rotate_left 1
    ·rintro W ⟨s0, s1, s2, s3, s4, s5, s6, s7, s8, s9, s10, s11, s12, r0, r1⟩; (try simp only [lA, lZ]); go_simp; try with_reducible rfl
    try simp only [lA, lZ, Act.put, lI, lW, lX]
    refine hI (i := 1) (v := ?_) rfl ?_ (HS2.out _ HD.out) ?_
    rotate_left 1
    ·rintro W ⟨s0, s1, s2, s3, s4, s5, s6, s7, s8, s9, s10, s11, s12, r0, r1⟩; (try simp only [lA, lS, lZ]); go_simp; try with_reducible rfl
    try simp only [lA, lS, lZ, Act.put, lI, lW, lX]
    refine hI (i := 2) (v := ?_) rfl ?_ (HS2.out _ HD.out) ?_
    rotate_left 1
    ·rintro W ⟨s0, s1, s2, s3, s4, s5, s6, s7, s8, s9, s10, s11, s12, r0, r1⟩; (try simp only [lA, lS, lZ]); go_simp; try with_reducible rfl
    try simp only [lA, lS, lZ, Act.put, lI, lW, lX]
    refine hI (i := 3) (v := ?_) rfl ?_ (HS2.out _ HD.out) ?_
    rotate_left 1
    ·rintro W ⟨s0, s1, s2, s3, s4, s5, s6, s7, s8, s9, s10, s11, s12, r0, r1⟩; (try simp only [lA, lS, lZ]); go_simp; try with_reducible rfl
    try simp only [lA, lS, lZ, Act.put, lI, lW, lX]
    refine hI (i := 4) (v := ?_) rfl ?_ (HS2.out _ HD.out) ?_
    rotate_left 1
    ·rintro W ⟨s0, s1, s2, s3, s4, s5, s6, s7, s8, s9, s10, s11, s12, r0, r1⟩; (try simp only [lA, lS, lZ]); go_simp; try with_reducible rfl
    try simp only [lA, lS, lZ, Act.put, lI, lW, lX]
    refine hI (i := 5) (v := ?_) rfl ?_ (HS2.out _ HD.out) ?_
    rotate_left 1
    ·rintro W ⟨s0, s1, s2, s3, s4, s5, s6, s7, s8, s9, s10, s11, s12, r0, r1⟩; (try simp only [lA, lS, lZ]); go_simp; try with_reducible rfl
    try simp only [lA, lS, lZ, Act.put, lI, lW, lX]
    refine wpAnyHT_one (i := 6) rfl (by kernel_rfl) (by kernel_rfl) (fun K hK => ?_)
    try simp only [lA, lS, lZ]
    go_simp
    rw [hfm.out, Oper.upon_enter]
    refine (HM.out _ (HFC.out.trans HD.out (by simp))).mono ?_
    rintro e w2 ⟨rfl, hf2⟩
    have HF2 : Hid (Frm [] wc w2) := hid (HD.out.trans hf2 (by simp))
    refine hK _ _ (HS2.out _ HF2.out) ?_
    clear hK K hf2
    refine hI (i := 7) (v := ?_) rfl ?_ (HS2.out _ HF2.out) ?_
    rotate_left 1
    ·rintro W ⟨s0, s1, s2, s3, s4, s5, s6, s7, s8, s9, s10, s11, s12, r0, r1⟩; (try simp only [lA, lS, lZ]); go_simp; try with_reducible rfl
    try simp only [lA, lS, lZ, Act.put, lI, lW, lX]
    refine hI (i := 8) (v := ?_) rfl ?_ (HS2.out _ HF2.out) ?_
    rotate_left 1
    ·rintro W ⟨s0, s1, s2, s3, s4, s5, s6, s7, s8, s9, s10, s11, s12, r0, r1⟩; (try simp only [lA, lS, lZ]); go_simp; try with_reducible rfl
    try simp only [lA, lS, lZ, Act.put, lI, lW, lX]
    refine hI (i := 9) (v := ?_) rfl ?_ (HS2.out _ HF2.out) ?_
    rotate_left 1
    ·rintro W ⟨s0, s1, s2, s3, s4, s5, s6, s7, s8, s9, s10, s11, s12, r0, r1⟩; (try simp only [lA, lS, lZ]); go_simp; try with_reducible rfl
    try simp only [lA, lS, lZ, Act.put, lI, lW, lX]
    refine hI (i := 10) (v := ?_) rfl ?_ (HS2.out _ HF2.out) ?_
    rotate_left 1
    ·rintro W ⟨s0, s1, s2, s3, s4, s5, s6, s7, s8, s9, s10, s11, s12, r0, r1⟩; (try simp only [lA, lS, lZ]); go_simp; try with_reducible rfl
    try simp only [lA, lS, lZ, Act.put, lI, lW, lX]
    refine hI (i := 11) (v := ?_) rfl ?_ (HS2.out _ HF2.out) ?_
    rotate_left 1
    ·rintro W ⟨s0, s1, s2, s3, s4, s5, s6, s7, s8, s9, s10, s11, s12, r0, r1⟩; (try simp only [lA, lS, lZ]); go_simp; try with_reducible rfl
    try simp only [lA, lS, lZ, Act.put, lI, lW, lX]
    refine hI (i := 12) (v := ?_) rfl ?_ (HS2.out _ HF2.out) ?_
    rotate_left 1
    ·rintro W ⟨s0, s1, s2, s3, s4, s5, s6, s7, s8, s9, s10, s11, s12, r0, r1⟩; (try simp only [lA, lS, lZ]); go_simp; try with_reducible rfl
    try simp only [lA, lS, lZ, Act.put, lI, lW, lX]
    refine hI (i := 13) (v := ?_) rfl ?_ (HS2.out _ HF2.out) ?_
    rotate_left 1
    ·rintro W ⟨s0, s1, s2, s3, s4, s5, s6, s7, s8, s9, s10, s11, s12, r0, r1⟩; (try simp only [lA, lS, lZ]); go_simp; try with_reducible rfl
    try simp only [lA, lS, lZ, Act.put, lI, lW, lX]
    refine wpAnyHT_one (i := 14) rfl (by kernel_rfl) (by kernel_rfl) (fun K hK => ?_)
    try simp only [lA, lS, lZ]
    go_simp
    rw [hfo.out, Oper.upon_enter]
    refine (HO.out _ (HFC.out.trans HF2.out (by simp))).mono ?_
    rintro e w3 ⟨rfl, hf3⟩
    have HF3 : Hid (Frm [] wc w3) := hid (HF2.out.trans hf3 (by simp))
    refine hK _ _ (HS2.out _ HF3.out) ?_
    clear hK K hf3
    refine wpAnyHT_one (i := 15) rfl (by kernel_rfl) (by kernel_rfl) (fun K hK => ?_)
    try simp only [lA, lS, lZ]
    go_simp
    refine (HS.out _ (HFC.out.trans HF3.out (by simp))).mono ?_
    rintro e w4 ⟨rfl, hf4⟩
    have HF4 : Hid (Frm [] wc w4) := hid (HF3.out.trans hf4 (by simp))
    refine hK _ _ (HS2.out _ HF4.out) ?_
    clear hK K hf4
    refine hI (i := 16) (v := ?_) rfl ?_ (HS2.out _ HF4.out) ?_
    rotate_left 1
    ·rintro W ⟨s0, s1, s2, s3, s4, s5, s6, s7, s8, s9, s10, s11, s12, r0, r1⟩; (try simp only [lA, lS, lZ]); go_simp; try with_reducible rfl
    try simp only [lA, lS, lZ, Act.put, lI, lW, lX]
    refine wpAnyHT_end (by kernel_rfl) ?_
    simp only [List.drop_succ_cons, List.drop_zero]
    go_wp2_with fail
    try go_returns
    exact HP1.out _ (fun h => absurd (HBS.out.2 h.2) (by simp)) (HFC.out.trans HF4.out (by simp))
   | true =>
    have HD : Hid (Frm [] wc wc.drew) := hid ((Frm.refl [] wc).drew)
    refine wp_region_tail (S := fun W => (W.cell? ⟨b, 0, none⟩ = some (.int .i64 kind) ∧ W.cell? ⟨b, 1, none⟩ = some (.string name) ∧ W.cell? ⟨b, 2, none⟩ = some (.int .i64 typ) ∧ W.cell? ⟨b, 3, none⟩ = some (.int .i64 frm) ∧ W.cell? ⟨b, 4, none⟩ = some (.int .i64 guid) ∧ W.cell? ⟨b, 5, none⟩ = some (.int .i64 origin) ∧ W.cell? ⟨b, 6, none⟩ = some (.string snap) ∧ W.cell? ⟨b, 7, none⟩ = some (.slice pp pn pc) ∧ W.cell? ⟨b, 8, none⟩ = some (.int .i64 obj) ∧ W.cell? ⟨b, 9, none⟩ = some (.int .i64 at_) ∧ W.cell? ⟨b, 10, none⟩ = some (.int .i64 many) ∧ W.cell? ⟨b, 11, none⟩ = some (.slice kp kn kc) ∧ W.cell? ⟨b, 12, none⟩ = some (.slice dp dl dc) ∧ W.cell? ⟨rb, 0, none⟩ = some (.func (.func fm) #[] #[]) ∧ W.cell? ⟨rb, 1, none⟩ = some (.func (.func fo) #[] #[]))) 17 18 rfl (by kernel_rfl) (by kernel_rfl) ?_
    refine hI (i := 0) (v := ?_) rfl ?_ (HS2.out _ HD.out) ?_
    rotate_left 1
    ·rintro W ⟨s0, s1, s2, s3, s4, s5, s6, s7, s8, s9, s10, s11, s12, r0, r1⟩; (try simp only [lA, lZ]); go_simp; try with_reducible rfl
    try simp only [lA, lZ, Act.put, lI, lW, lX]
    refine hI (i := 1) (v := ?_) rfl ?_ (HS2.out _ HD.out) ?_
    rotate_left 1
    ·rintro W ⟨s0, s1, s2, s3, s4, s5, s6, s7, s8, s9, s10, s11, s12, r0, r1⟩; (try simp only [lA, lS, lZ]); go_simp; try with_reducible rfl
    try simp only [lA, lS, lZ, Act.put, lI, lW, lX]
    refine hI (i := 2) (v := ?_) rfl ?_ (HS2.out _ HD.out) ?_
    rotate_left 1
    ·rintro W ⟨s0, s1, s2, s3, s4, s5, s6, s7, s8, s9, s10, s11, s12, r0, r1⟩; (try simp only [lA, lS, lZ]); go_simp; try with_reducible rfl
    try simp only [lA, lS, lZ, Act.put, lI, lW, lX]
    refine hI (i := 3) (v := ?_) rfl ?_ (HS2.out _ HD.out) ?_
    rotate_left 1
    ·rintro W ⟨s0, s1, s2, s3, s4, s5, s6, s7, s8, s9, s10, s11, s12, r0, r1⟩; (try simp only [lA, lS, lZ]); go_simp; try with_reducible rfl
    try simp only [lA, lS, lZ, Act.put, lI, lW, lX]
    refine hI (i := 4) (v := ?_) rfl ?_ (HS2.out _ HD.out) ?_
    rotate_left 1
    ·rintro W ⟨s0, s1, s2, s3, s4, s5, s6, s7, s8, s9, s10, s11, s12, r0, r1⟩; (try simp only [lA, lS, lZ]); go_simp; try with_reducible rfl
    try simp only [lA, lS, lZ, Act.put, lI, lW, lX]
    refine hI (i := 5) (v := ?_) rfl ?_ (HS2.out _ HD.out) ?_
    rotate_left 1
    ·rintro W ⟨s0, s1, s2, s3, s4, s5, s6, s7, s8, s9, s10, s11, s12, r0, r1⟩; (try simp only [lA, lS, lZ]); go_simp; try with_reducible rfl
    try simp only [lA, lS, lZ, Act.put, lI, lW, lX]
    refine wpAnyHT_one (i := 6) rfl (by kernel_rfl) (by kernel_rfl) (fun K hK => ?_)
    try simp only [lA, lS, lZ]
    go_simp
    rw [hfm.out, Oper.upon_enter]
    refine (HM.out _ (HFC.out.trans HD.out (by simp))).mono ?_
    rintro e w2 ⟨rfl, hf2⟩
    have HF2 : Hid (Frm [] wc w2) := hid (HD.out.trans hf2 (by simp))
    refine hK _ _ (HS2.out _ HF2.out) ?_
    clear hK K hf2
    refine hI (i := 7) (v := ?_) rfl ?_ (HS2.out _ HF2.out) ?_
    rotate_left 1
    ·rintro W ⟨s0, s1, s2, s3, s4, s5, s6, s7, s8, s9, s10, s11, s12, r0, r1⟩; (try simp only [lA, lS, lZ]); go_simp; try with_reducible rfl
    try simp only [lA, lS, lZ, Act.put, lI, lW, lX]
    refine hI (i := 8) (v := ?_) rfl ?_ (HS2.out _ HF2.out) ?_
    rotate_left 1
    ·rintro W ⟨s0, s1, s2, s3, s4, s5, s6, s7, s8, s9, s10, s11, s12, r0, r1⟩; (try simp only [lA, lS, lZ]); go_simp; try with_reducible rfl
    try simp only [lA, lS, lZ, Act.put, lI, lW, lX]
    refine hI (i := 9) (v := ?_) rfl ?_ (HS2.out _ HF2.out) ?_
    rotate_left 1
    ·rintro W ⟨s0, s1, s2, s3, s4, s5, s6, s7, s8, s9, s10, s11, s12, r0, r1⟩; (try simp only [lA, lS, lZ]); go_simp; try with_reducible rfl
    try simp only [lA, lS, lZ, Act.put, lI, lW, lX]
    refine hI (i := 10) (v := ?_) rfl ?_ (HS2.out _ HF2.out) ?_
    rotate_left 1
    ·rintro W ⟨s0, s1, s2, s3, s4, s5, s6, s7, s8, s9, s10, s11, s12, r0, r1⟩; (try simp only [lA, lS, lZ]); go_simp; try with_reducible rfl
    try simp only [lA, lS, lZ, Act.put, lI, lW, lX]
    refine hI (i := 11) (v := ?_) rfl ?_ (HS2.out _ HF2.out) ?_
    rotate_left 1
    ·rintro W ⟨s0, s1, s2, s3, s4, s5, s6, s7, s8, s9, s10, s11, s12, r0, r1⟩; (try simp only [lA, lS, lZ]); go_simp; try with_reducible rfl
    try simp only [lA, lS, lZ, Act.put, lI, lW, lX]
    refine hI (i := 12) (v := ?_) rfl ?_ (HS2.out _ HF2.out) ?_
    rotate_left 1
    ·rintro W ⟨s0, s1, s2, s3, s4, s5, s6, s7, s8, s9, s10, s11, s12, r0, r1⟩; (try simp only [lA, lS, lZ]); go_simp; try with_reducible rfl
    try simp only [lA, lS, lZ, Act.put, lI, lW, lX]
    refine hI (i := 13) (v := ?_) rfl ?_ (HS2.out _ HF2.out) ?_
    rotate_left 1
    ·rintro W ⟨s0, s1, s2, s3, s4, s5, s6, s7, s8, s9, s10, s11, s12, r0, r1⟩; (try simp only [lA, lS, lZ]); go_simp; try with_reducible rfl
    try simp only [lA, lS, lZ, Act.put, lI, lW, lX]
    refine wpAnyHT_one (i := 14) rfl (by kernel_rfl) (by kernel_rfl) (fun K hK => ?_)
    try simp only [lA, lS, lZ]
    go_simp
    rw [hfo.out, Oper.upon_enter]
    refine (HO.out _ (HFC.out.trans HF2.out (by simp))).mono ?_
    rintro e w3 ⟨rfl, hf3⟩
    have HF3 : Hid (Frm [] wc w3) := hid (HF2.out.trans hf3 (by simp))
    refine hK _ _ (HS2.out _ HF3.out) ?_
    clear hK K hf3
    refine wpAnyHT_one (i := 15) rfl (by kernel_rfl) (by kernel_rfl) (fun K hK => ?_)
    try simp only [lA, lS, lZ]
    go_simp
    refine (HS.out _ (HFC.out.trans HF3.out (by simp))).mono ?_
    rintro e w4 ⟨rfl, hf4⟩
    have HF4 : Hid (Frm [] wc w4) := hid (HF3.out.trans hf4 (by simp))
    refine hK _ _ (HS2.out _ HF4.out) ?_
    clear hK K hf4
    refine hI (i := 16) (v := ?_) rfl ?_ (HS2.out _ HF4.out) ?_
    rotate_left 1
    ·rintro W ⟨s0, s1, s2, s3, s4, s5, s6, s7, s8, s9, s10, s11, s12, r0, r1⟩; (try simp only [lA, lS, lZ]); go_simp; try with_reducible rfl
    try simp only [lA, lS, lZ, Act.put, lI, lW, lX]
    refine wpAnyHT_end (by kernel_rfl) ?_
    simp only [List.drop_succ_cons, List.drop_zero]
    go_wp2_with fail
    try go_returns
    exact HP0.out _ ⟨by trivial, HBS.out.1 (by trivial)⟩ (HFC.out.trans HF4.out (by simp))
theorem check_none (r : Rc) (w : World) (hk : lkT r.kind = none) : Calls Tryz.prog 9 #[.agg r.arr] w fun e w' => e = .returned (.int .i64 200) ∧ Frm [] w w' := by
 obtain ⟨PO, hPO⟩ : ∃ PO : Ending → World → Prop, (fun e w' => e = .returned (.int .i64 200) ∧ Frm [] w w') = PO := ⟨_, rfl⟩
 rw [hPO]
 have HP1 : Hid (∀ w', Frm [] w w' → PO (.returned (.int .i64 200)) w') := hid (fun w' h2 => by rw [← hPO]; exact ⟨rfl, h2⟩)
 clear hPO
 obtain ⟨wb, hwb⟩ := eX (w.alloc (.cells r.arr 26))
 have hrow := heap_alloc_new w (.cells r.arr 26)
 have hfb : Frm [] w wb := by rw [← hwb]; exact (Frm.refl _ _).alloc _
 obtain ⟨b, hb⟩ := eX (w.heap.size)
 rw [hwb, hb] at hrow
 have HX := hid (fun V (hf : Frm [] wb V) => rc_cells (hf.heap hrow (by simp)))
 have HFB := hid hfb
 have HWB := hid hwb
 have HB := hid hb
 have hlk : ∀ (W : World) (m : Nat), W.heap[m]? = some (.map (rowsT 7) 7) → (Instr.lookup 60 (.map (some m)) (.int .i64 r.kind) true).run Tryz.prog W = .ok (.tuple #[.agg #[.nilFunc, .nilFunc, .nilFunc, .nilFunc], .bool false]) W := fun W m h => by
  have h2 := run_lookR (P := Tryz.prog) (w := W) 60 3 58 m 7 (rowsT 7) r.kind (.agg #[.nilFunc, .nilFunc, .nilFunc, .nilFunc]) Tryz.underlying60 Tryz.underlying3 (by kernel_rfl) h (rowsT_int 7)
  rw [lkT_of, hk] at h2
  exact h2
 clear hk hwb hfb hb hrow
 obtain ⟨kind, name, typ, frm, guid, origin, snap, pp, pn, pc, obj, at_, many, kp, kn, kc, dp, dl, dc⟩ := r
 unfold Rc.arr at HWB ⊢
 simp only at HX hlk HWB ⊢
 obtain ⟨y0, y1, y2, y3, y4, y5, y6, y7, y8, y9, y10, y11, y12⟩ := HX.out wb (Frm.refl _ _)
 go_enter Tryz.func9, Tryz.ntmps9
 go_upto_region 1 with fail
 try rw [HWB.out]
 try rw [HB.out]
 go_cut [3, 4] (fun a t wx => ∃ rb, a = .pointer (some ⟨rb, 0, none⟩) ∧ t = .bool false ∧ Hid (wx.heap[rb]? = some (.cells #[.nilFunc, .nilFunc, .nilFunc, .nilFunc] 58 (0, 0))) ∧ Hid (Frm [] wb wx) ∧ Hid (wb.heap.size ≤ rb))
 case first =>
  have s0 : wb.drew.cell? ⟨b, 0, none⟩ = some (.int .i64 kind) := y0
  refine wp_region_tail (S := fun W => (W.cell? ⟨b, 0, none⟩ = some (.int .i64 kind))) 9 10 rfl (by kernel_rfl) (by kernel_rfl) ?_
  refine hI (i := 1) (v := ?_) rfl ?_ s0 ?_
  rotate_left 1
  ·rintro W s0; (try simp only [lA, lS, lZ]); go_simp; try with_reducible rfl
  try simp only [lA, lS, lZ, Act.put, lI, lW, lX]
  refine hI (i := 2) (v := ?_) rfl ?_ s0 ?_
  rotate_left 1
  ·rintro W s0; (try simp only [lA, lS, lZ]); go_simp; try with_reducible rfl
  try simp only [lA, lS, lZ, Act.put, lI, lW, lX]
  refine wpAnyHT_two (i := 0) (j := 7) rfl rfl (by kernel_rfl) (by kernel_rfl) (by kernel_rfl) (fun K hK => ?_) (fun K hK => ?_)
  ·try simp only [lA, lZ]
   go_simp
   refine (rows_any _).mono ?_
   rintro e w1 ⟨m, rfl, hm, hmap, hf1⟩
   have s1 : w1.cell? ⟨b, 0, none⟩ = some (.int .i64 kind) := (hf1.cell (World.block_lt_of_cell? _ _ s0) (by simp)).trans s0
   refine hK _ _ s1 ?_
   clear hK K
   refine wpAnyHT_str (S' := fun W => W.cell? ⟨b, 0, none⟩ = some (.int .i64 kind) ∧ W.heap[m]? = some (.map (rowsT 7) 7)) (fun _ h => h.1) _ _ _ _ ?_
   refine hI (i := 3) (v := ?_) rfl ?_ ⟨s1, hmap⟩ ?_
   rotate_left 1
   ·(intro W hSw; obtain ⟨s0, sm⟩ := hSw; have hl := hlk W m sm; (try simp only [lA, lS, lZ]); go_simp; try with_reducible rfl)
   try simp only [lA, lS, lZ, Act.put, lI, lW, lX]
   refine hI (i := 4) (v := ?_) rfl ?_ ⟨s1, hmap⟩ ?_
   rotate_left 1
   ·rintro W ⟨s0, sm⟩; (try simp only [lA, lS, lZ]); go_simp; try with_reducible rfl
   try simp only [lA, lS, lZ, Act.put, lI, lW, lX]
   refine hI (i := 5) (v := ?_) rfl ?_ ⟨s1, hmap⟩ ?_
   rotate_left 1
   ·rintro W ⟨s0, sm⟩; (try simp only [lA, lS, lZ]); go_simp; try with_reducible rfl
   try simp only [lA, lS, lZ, Act.put, lI, lW, lX]
   refine hI (i := 6) (v := ?_) rfl ?_ ⟨s1, hmap⟩ ?_
   rotate_left 1
   ·rintro W ⟨s0, sm⟩; (try simp only [lA, lS, lZ]); go_simp; try with_reducible rfl
   try simp only [lA, lS, lZ, Act.put, lI, lW, lX]
   refine wpAnyHT_one (i := 7) rfl (by kernel_rfl) (by kernel_rfl) (fun K hK => ?_)
   try simp only [lA, lS, lZ]
   go_simp
   refine hK _ _ ⟨(((Frm.refl [] w1).alloc _).cell (World.block_lt_of_cell? _ _ s1) (by simp)).trans s1, ((Frm.refl [] w1).alloc _).heap hmap (by simp)⟩ ?_
   clear hK K
   try simp only [lA, lS, lZ, Act.put, lI, lW, lX]
   have hq := heap_alloc_new w1 (.cells #[.nilFunc, .nilFunc, .nilFunc, .nilFunc] 58)
   obtain ⟨rb, hrb⟩ := eX (w1.heap.size)
   obtain ⟨Wq, hWq⟩ := eX (w1.alloc (.cells #[.nilFunc, .nilFunc, .nilFunc, .nilFunc] 58))
   have hfq : Frm [] wb Wq := by rw [← hWq]; exact (((Frm.refl [] wb).drew.trans hf1 (by simp)).alloc _)
   have hlo : wb.heap.size ≤ rb := by rw [← hrb]; exact hf1.size
   have sq : Wq.cell? ⟨b, 0, none⟩ = some (.int .i64 kind) ∧ Wq.heap[m]? = some (.map (rowsT 7) 7) := by rw [← hWq]; exact ⟨(((Frm.refl [] w1).alloc _).cell (World.block_lt_of_cell? _ _ s1) (by simp)).trans s1, ((Frm.refl [] w1).alloc _).heap hmap (by simp)⟩
   have hne : ¬ b = rb := by have h1 := World.block_lt_of_cell? _ _ s1; have h2 := hrb; simp only at h1; omega
   have hnm : ¬ m = rb := by have h1 := lt_of_heap hmap; omega
   rw [hWq, hrb] at hq
   try rw [hWq]
   try rw [hrb]
   have z0 : Wq.cell? ⟨rb, 0, none⟩ = some .nilFunc := by rw [cell_of_row _ _ _ _ _ _ hq]; rfl
   have z1 : Wq.cell? ⟨rb, 1, none⟩ = some .nilFunc := by rw [cell_of_row _ _ _ _ _ _ hq]; rfl
   have z2 : Wq.cell? ⟨rb, 2, none⟩ = some .nilFunc := by rw [cell_of_row _ _ _ _ _ _ hq]; rfl
   have z3 : Wq.cell? ⟨rb, 3, none⟩ = some .nilFunc := by rw [cell_of_row _ _ _ _ _ _ hq]; rfl
   have x0 := fZ 0 hq
   have x1 := fZ 1 hq
   have x2 := fZ 2 hq
   have x3 := fZ 3 hq
   obtain ⟨Wz, hwz, h4, f4⟩ := sE rb 58 [(0, .nilFunc), (1, .nilFunc), (2, .nilFunc), (3, .nilFunc)] Wq _ hq
   simp only [List.foldl, List.setIfInBounds_toArray, List.set_cons_zero, List.set_cons_succ] at h4
   simp only [setsF] at hwz
   have hWz := hwz
   refine wpAnyHT_one (i := 8) rfl (by kernel_rfl) (by kernel_rfl) (fun K hK => ?_)
   try simp only [lA, lS, lZ]
   go_simp
   try rw [hwz]
   refine hK _ _ ⟨(f4.cell (World.block_lt_of_cell? _ _ sq.1) (by simpa using hne)).trans sq.1, f4.heap sq.2 (by simpa using hnm)⟩ ?_
   clear hK K
   refine wpAnyHT_end (by kernel_rfl) ?_
   simp only [List.drop_succ_cons, List.drop_zero]
   go_wp2_with fail
   go_meet
   exact ⟨rb, rfl, rfl, hid h4, hid (hfq.trans f4 (fun i hi hl => by rw [List.mem_singleton] at hi; have := hlo; omega)), hid hlo⟩
  ·have ha := heap_alloc_new wb.drew (.cells #[.nilFunc, .nilFunc, .nilFunc, .nilFunc] 58)
   try simp only [lA, lS, lZ]
   go_simp
   refine hK _ _ ((((Frm.refl [] wb).drew.alloc _).cell (World.block_lt_of_cell? _ _ y0) (by simp)).trans y0) ?_
   clear hK K
   try simp only [lA, lS, lZ, Act.put, lI, lW, lX]
   refine wpAnyHT_one (i := 0) rfl (by kernel_rfl) (by kernel_rfl) (fun K hK => ?_)
   try simp only [lA, lZ]
   go_simp
   refine (rows_any _).mono ?_
   rintro e w1 ⟨m, rfl, hm, hmap, hf1⟩
   have sa := ((((Frm.refl [] wb).drew.alloc (.cells #[.nilFunc, .nilFunc, .nilFunc, .nilFunc] 58)).cell (World.block_lt_of_cell? _ _ y0) (by simp)).trans y0)
   have s1 : w1.cell? ⟨b, 0, none⟩ = some (.int .i64 kind) := (hf1.cell (World.block_lt_of_cell? _ _ sa) (by simp)).trans sa
   refine hK _ _ s1 ?_
   clear hK K
   refine wpAnyHT_str (S' := fun W => W.cell? ⟨b, 0, none⟩ = some (.int .i64 kind) ∧ W.heap[m]? = some (.map (rowsT 7) 7)) (fun _ h => h.1) _ _ _ _ ?_
   refine hI (i := 3) (v := ?_) rfl ?_ ⟨s1, hmap⟩ ?_
   rotate_left 1
   ·(intro W hSw; obtain ⟨s0, sm⟩ := hSw; have hl := hlk W m sm; (try simp only [lA, lS, lZ]); go_simp; try with_reducible rfl)
   try simp only [lA, lS, lZ, Act.put, lI, lW, lX]
   refine hI (i := 4) (v := ?_) rfl ?_ ⟨s1, hmap⟩ ?_
   rotate_left 1
   ·rintro W ⟨s0, sm⟩; (try simp only [lA, lS, lZ]); go_simp; try with_reducible rfl
   try simp only [lA, lS, lZ, Act.put, lI, lW, lX]
   refine hI (i := 5) (v := ?_) rfl ?_ ⟨s1, hmap⟩ ?_
   rotate_left 1
   ·rintro W ⟨s0, sm⟩; (try simp only [lA, lS, lZ]); go_simp; try with_reducible rfl
   try simp only [lA, lS, lZ, Act.put, lI, lW, lX]
   refine hI (i := 6) (v := ?_) rfl ?_ ⟨s1, hmap⟩ ?_
   rotate_left 1
   ·rintro W ⟨s0, sm⟩; (try simp only [lA, lS, lZ]); go_simp; try with_reducible rfl
   try simp only [lA, lS, lZ, Act.put, lI, lW, lX]
   have hq := hf1.heap ha (by simp)
   obtain ⟨Wq, hWq⟩ := eX (w1)
   have hfq : Frm [] wb Wq := by rw [← hWq]; exact ((Frm.refl [] wb).drew.alloc _).trans hf1 (by simp)
   obtain ⟨rb, hrb⟩ := eX (wb.drew.heap.size)
   have hlo : wb.heap.size ≤ rb := by rw [← hrb]; exact Nat.le_refl _
   rw [hWq] at hq hmap s1 hf1
   rw [hrb] at hq
   try rw [hWq]
   have hrb2 : wb.heap.size = rb := hrb
   try rw [hrb]
   try rw [hrb2]
   have sq : Wq.cell? ⟨b, 0, none⟩ = some (.int .i64 kind) ∧ Wq.heap[m]? = some (.map (rowsT 7) 7) := ⟨s1, hmap⟩
   have hne : ¬ b = rb := by have h1 := World.block_lt_of_cell? _ _ y0; simp only at h1; omega
   have hnm : ¬ m = rb := by have h1 := hm; simp at h1; omega
   have z0 : Wq.cell? ⟨rb, 0, none⟩ = some .nilFunc := by rw [cell_of_row _ _ _ _ _ _ hq]; rfl
   have z1 : Wq.cell? ⟨rb, 1, none⟩ = some .nilFunc := by rw [cell_of_row _ _ _ _ _ _ hq]; rfl
   have z2 : Wq.cell? ⟨rb, 2, none⟩ = some .nilFunc := by rw [cell_of_row _ _ _ _ _ _ hq]; rfl
   have z3 : Wq.cell? ⟨rb, 3, none⟩ = some .nilFunc := by rw [cell_of_row _ _ _ _ _ _ hq]; rfl
   have x0 := fZ 0 hq
   have x1 := fZ 1 hq
   have x2 := fZ 2 hq
   have x3 := fZ 3 hq
   obtain ⟨Wz, hwz, h4, f4⟩ := sE rb 58 [(0, .nilFunc), (1, .nilFunc), (2, .nilFunc), (3, .nilFunc)] Wq _ hq
   simp only [List.foldl, List.setIfInBounds_toArray, List.set_cons_zero, List.set_cons_succ] at h4
   simp only [setsF] at hwz
   have hWz := hwz
   refine wpAnyHT_one (i := 8) rfl (by kernel_rfl) (by kernel_rfl) (fun K hK => ?_)
   try simp only [lA, lS, lZ]
   go_simp
   try rw [hwz]
   refine hK _ _ ⟨(f4.cell (World.block_lt_of_cell? _ _ sq.1) (by simpa using hne)).trans sq.1, f4.heap sq.2 (by simpa using hnm)⟩ ?_
   clear hK K
   refine wpAnyHT_end (by kernel_rfl) ?_
   simp only [List.drop_succ_cons, List.drop_zero]
   go_wp2_with fail
   go_meet
   exact ⟨rb, rfl, rfl, hid h4, hid (hfq.trans f4 (fun i hi hl => by rw [List.mem_singleton] at hi; have := hlo; omega)), hid hlo⟩
 case rest =>
  obtain ⟨rb, rfl, rfl, HRB, HFX, HLO⟩ := hcut
  have HS2 : Hid (∀ V, Frm [] wc V → V.cell? ⟨b, 0, none⟩ = some (.int .i64 kind) ∧ V.cell? ⟨b, 1, none⟩ = some (.string name) ∧ V.cell? ⟨b, 2, none⟩ = some (.int .i64 typ) ∧ V.cell? ⟨b, 3, none⟩ = some (.int .i64 frm) ∧ V.cell? ⟨b, 4, none⟩ = some (.int .i64 guid) ∧ V.cell? ⟨b, 5, none⟩ = some (.int .i64 origin) ∧ V.cell? ⟨b, 6, none⟩ = some (.string snap) ∧ V.cell? ⟨b, 7, none⟩ = some (.slice pp pn pc) ∧ V.cell? ⟨b, 8, none⟩ = some (.int .i64 obj) ∧ V.cell? ⟨b, 9, none⟩ = some (.int .i64 at_) ∧ V.cell? ⟨b, 10, none⟩ = some (.int .i64 many) ∧ V.cell? ⟨b, 11, none⟩ = some (.slice kp kn kc) ∧ V.cell? ⟨b, 12, none⟩ = some (.slice dp dl dc) ∧ V.cell? ⟨rb, 0, none⟩ = some (.nilFunc) ∧ V.cell? ⟨rb, 1, none⟩ = some (.nilFunc)) := hid (fun V hf => by
   obtain ⟨k0, k1, k2, k3, k4, k5, k6, k7, k8, k9, k10, k11, k12⟩ := HX.out V (HFX.out.trans hf (by simp))
   have hr := hf.heap HRB.out (by simp)
   exact ⟨k0, k1, k2, k3, k4, k5, k6, k7, k8, k9, k10, k11, k12, by rw [cell_of_row _ _ _ _ _ _ hr]; rfl, by rw [cell_of_row _ _ _ _ _ _ hr]; rfl⟩)
  have HFC : Hid (Frm [] w wc) := hid (HFB.out.trans HFX.out (by simp))
  clear y0 y1 y2 y3 y4 y5 y6 y7 y8 y9 y10 y11 y12 hlk
  go_upto_region 2 with fail
  have HD : Hid (Frm [] wc wc.drew) := hid ((Frm.refl [] wc).drew)
  refine wp_region_tail (S := fun W => (W.cell? ⟨b, 0, none⟩ = some (.int .i64 kind) ∧ W.cell? ⟨b, 1, none⟩ = some (.string name) ∧ W.cell? ⟨b, 2, none⟩ = some (.int .i64 typ) ∧ W.cell? ⟨b, 3, none⟩ = some (.int .i64 frm) ∧ W.cell? ⟨b, 4, none⟩ = some (.int .i64 guid) ∧ W.cell? ⟨b, 5, none⟩ = some (.int .i64 origin) ∧ W.cell? ⟨b, 6, none⟩ = some (.string snap) ∧ W.cell? ⟨b, 7, none⟩ = some (.slice pp pn pc) ∧ W.cell? ⟨b, 8, none⟩ = some (.int .i64 obj) ∧ W.cell? ⟨b, 9, none⟩ = some (.int .i64 at_) ∧ W.cell? ⟨b, 10, none⟩ = some (.int .i64 many) ∧ W.cell? ⟨b, 11, none⟩ = some (.slice kp kn kc) ∧ W.cell? ⟨b, 12, none⟩ = some (.slice dp dl dc) ∧ W.cell? ⟨rb, 0, none⟩ = some (.nilFunc) ∧ W.cell? ⟨rb, 1, none⟩ = some (.nilFunc))) 17 18 rfl (by kernel_rfl) (by kernel_rfl) ?_
  refine hI (i := 0) (v := ?_) rfl ?_ (HS2.out _ HD.out) ?_
  rotate_left 1
  ·rintro W ⟨s0, s1, s2, s3, s4, s5, s6, s7, s8, s9, s10, s11, s12, r0, r1⟩; (try simp only [lA, lZ]); go_simp; try with_reducible rfl
  try simp only [lA, lZ, Act.put, lI, lW, lX]
  refine hI (i := 1) (v := ?_) rfl ?_ (HS2.out _ HD.out) ?_
  rotate_left 1
  ·rintro W ⟨s0, s1, s2, s3, s4, s5, s6, s7, s8, s9, s10, s11, s12, r0, r1⟩; (try simp only [lA, lS, lZ]); go_simp; try with_reducible rfl
  try simp only [lA, lS, lZ, Act.put, lI, lW, lX]
  refine hI (i := 2) (v := ?_) rfl ?_ (HS2.out _ HD.out) ?_
  rotate_left 1
  ·rintro W ⟨s0, s1, s2, s3, s4, s5, s6, s7, s8, s9, s10, s11, s12, r0, r1⟩; (try simp only [lA, lS, lZ]); go_simp; try with_reducible rfl
  try simp only [lA, lS, lZ, Act.put, lI, lW, lX]
  refine hU (i := 3) rfl (HS2.out _ HD.out) ?_
  try simp only [lA, lS, lZ, Act.put, lI, lW, lX]
  refine hU (i := 4) rfl (HS2.out _ HD.out) ?_
  try simp only [lA, lS, lZ, Act.put, lI, lW, lX]
  refine hU (i := 5) rfl (HS2.out _ HD.out) ?_
  try simp only [lA, lS, lZ, Act.put, lI, lW, lX]
  refine hU (i := 6) rfl (HS2.out _ HD.out) ?_
  try simp only [lA, lS, lZ, Act.put, lI, lW, lX]
  refine hU (i := 7) rfl (HS2.out _ HD.out) ?_
  try simp only [lA, lS, lZ, Act.put, lI, lW, lX]
  refine hI (i := 8) (v := ?_) rfl ?_ (HS2.out _ HD.out) ?_
  rotate_left 1
  ·rintro W ⟨s0, s1, s2, s3, s4, s5, s6, s7, s8, s9, s10, s11, s12, r0, r1⟩; (try simp only [lA, lS, lZ]); go_simp; try with_reducible rfl
  try simp only [lA, lS, lZ, Act.put, lI, lW, lX]
  refine hI (i := 9) (v := ?_) rfl ?_ (HS2.out _ HD.out) ?_
  rotate_left 1
  ·rintro W ⟨s0, s1, s2, s3, s4, s5, s6, s7, s8, s9, s10, s11, s12, r0, r1⟩; (try simp only [lA, lS, lZ]); go_simp; try with_reducible rfl
  try simp only [lA, lS, lZ, Act.put, lI, lW, lX]
  refine hU (i := 10) rfl (HS2.out _ HD.out) ?_
  try simp only [lA, lS, lZ, Act.put, lI, lW, lX]
  refine hU (i := 11) rfl (HS2.out _ HD.out) ?_
  try simp only [lA, lS, lZ, Act.put, lI, lW, lX]
  refine hU (i := 12) rfl (HS2.out _ HD.out) ?_
  try simp only [lA, lS, lZ, Act.put, lI, lW, lX]
  refine hU (i := 13) rfl (HS2.out _ HD.out) ?_
  try simp only [lA, lS, lZ, Act.put, lI, lW, lX]
  refine hU (i := 14) rfl (HS2.out _ HD.out) ?_
  try simp only [lA, lS, lZ, Act.put, lI, lW, lX]
  refine hU (i := 15) rfl (HS2.out _ HD.out) ?_
  try simp only [lA, lS, lZ, Act.put, lI, lW, lX]
  refine hU (i := 16) rfl (HS2.out _ HD.out) ?_
  try simp only [lA, lS, lZ, Act.put, lI, lW, lX]
  refine wpAnyHT_end (by kernel_rfl) ?_
  simp only [List.drop_succ_cons, List.drop_zero]
  go_wp2_with fail
  try go_returns
  exact HP1.out _ (HFC.out.trans HD.out (by simp))
theorem check_any (r : Rc) (P : List Pr) (K D : List Int) (w : World) (h : RcOk w r P K D) (hs : r.name.size ≤ 9223372036854775806) :
  Calls Tryz.prog 9 #[.agg r.arr] w fun e w' => e = .returned (.int .i64 (if RcMay r P K D then 0 else 200)) ∧ Frm [] w w' := by
 by_cases k1 : r.kind = 1
 ·refine (check_row r r.onlyPackage 48 49 50 51 (decide (MayPk r)) (SameR r r.onlyPackage P [] K [] D []) w (hid (fun _ _ => rfl)) (hid (fun _ _ => rfl)) (by unfold lkT; rw [k1]; rfl) (hid (fun W _ => mayPackage_any r W)) (hid (fun W _ => onlyPackage_any r W)) (hid (fun W hf => sameR_any r r.onlyPackage P [] K [] D [] W (h.k0 hf) (RcOk.onlyPackage)))).mono ?_
  rintro e w' ⟨rfl, hf⟩
  refine ⟨?_, hf⟩
  have e : RcMay r P K D ↔ (MayPk r ∧ SameR r r.onlyPackage P [] K [] D []) := by unfold RcMay; rw [if_pos k1]
  by_cases hm : RcMay r P K D
  ·rw [if_pos hm, if_pos ⟨decide_eq_true (e.1 hm).1, (e.1 hm).2⟩]
  ·rw [if_neg hm, if_neg (fun h => hm (e.2 ⟨of_decide_eq_true h.1, h.2⟩))]
 by_cases k2 : r.kind = 2
 ·refine (check_row r r.onlyBegin 52 53 54 55 (decide (MayBg r P)) (SameR r r.onlyBegin P P K [] D []) w (hid (fun _ _ => rfl)) (hid (fun _ _ => rfl)) (by unfold lkT; rw [k2]; rfl) (hid (fun W hf => mayBegin_any r P W (h.k0 hf).pr h.pl h.mx.1 hs)) (hid (fun W _ => onlyBegin_any r W)) (hid (fun W hf => sameR_any r r.onlyBegin P P K [] D [] W (h.k0 hf) ((h.k0 hf).onlyBegin)))).mono ?_
  rintro e w' ⟨rfl, hf⟩
  refine ⟨?_, hf⟩
  have e : RcMay r P K D ↔ (MayBg r P ∧ SameR r r.onlyBegin P P K [] D []) := by unfold RcMay; rw [if_neg k1, if_pos k2]
  by_cases hm : RcMay r P K D
  ·rw [if_pos hm, if_pos ⟨decide_eq_true (e.1 hm).1, (e.1 hm).2⟩]
  ·rw [if_neg hm, if_neg (fun h => hm (e.2 ⟨of_decide_eq_true h.1, h.2⟩))]
 by_cases k3 : r.kind = 3
 ·refine (check_row r r.onlyLive 56 57 58 59 (decide (MayLv r K)) (SameR r r.onlyLive P [] K K D []) w (hid (fun _ _ => rfl)) (hid (fun _ _ => rfl)) (by unfold lkT; rw [k3]; rfl) (hid (fun W hf => mayLive_any r K W (h.k0 hf).kr h.kl h.mx.2)) (hid (fun W _ => onlyLive_any r W)) (hid (fun W hf => sameR_any r r.onlyLive P [] K K D [] W (h.k0 hf) ((h.k0 hf).onlyLive)))).mono ?_
  rintro e w' ⟨rfl, hf⟩
  refine ⟨?_, hf⟩
  have e : RcMay r P K D ↔ (MayLv r K ∧ SameR r r.onlyLive P [] K K D []) := by unfold RcMay; rw [if_neg k1, if_neg k2, if_pos k3]
  by_cases hm : RcMay r P K D
  ·rw [if_pos hm, if_pos ⟨decide_eq_true (e.1 hm).1, (e.1 hm).2⟩]
  ·rw [if_neg hm, if_neg (fun h => hm (e.2 ⟨of_decide_eq_true h.1, h.2⟩))]
 by_cases k4 : r.kind = 4
 ·refine (check_row r r.onlyNode 60 61 62 63 (decide (MayNd r K)) (SameR r r.onlyNode P [] K K D []) w (hid (fun _ _ => rfl)) (hid (fun _ _ => rfl)) (by unfold lkT; rw [k4]; rfl) (hid (fun W hf => mayNode_any r K W (h.k0 hf).kr h.kl h.mx.2)) (hid (fun W _ => onlyNode_any r W)) (hid (fun W hf => sameR_any r r.onlyNode P [] K K D [] W (h.k0 hf) ((h.k0 hf).onlyNode)))).mono ?_
  rintro e w' ⟨rfl, hf⟩
  refine ⟨?_, hf⟩
  have e : RcMay r P K D ↔ (MayNd r K ∧ SameR r r.onlyNode P [] K K D []) := by unfold RcMay; rw [if_neg k1, if_neg k2, if_neg k3, if_pos k4]
  by_cases hm : RcMay r P K D
  ·rw [if_pos hm, if_pos ⟨decide_eq_true (e.1 hm).1, (e.1 hm).2⟩]
  ·rw [if_neg hm, if_neg (fun h => hm (e.2 ⟨of_decide_eq_true h.1, h.2⟩))]
 by_cases k5 : r.kind = 5
 ·refine (check_row r r.onlyWrite 64 65 66 67 (decide (MayWr r)) (SameR r r.onlyWrite P [] K [] D D) w (hid (fun _ _ => rfl)) (hid (fun _ _ => rfl)) (by unfold lkT; rw [k5]; rfl) (hid (fun W _ => mayWrite_any r W)) (hid (fun W _ => onlyWrite_any r W)) (hid (fun W hf => sameR_any r r.onlyWrite P [] K [] D D W (h.k0 hf) ((h.k0 hf).onlyWrite)))).mono ?_
  rintro e w' ⟨rfl, hf⟩
  refine ⟨?_, hf⟩
  have e : RcMay r P K D ↔ (MayWr r ∧ SameR r r.onlyWrite P [] K [] D D) := by unfold RcMay; rw [if_neg k1, if_neg k2, if_neg k3, if_neg k4, if_pos k5]
  by_cases hm : RcMay r P K D
  ·rw [if_pos hm, if_pos ⟨decide_eq_true (e.1 hm).1, (e.1 hm).2⟩]
  ·rw [if_neg hm, if_neg (fun h => hm (e.2 ⟨of_decide_eq_true h.1, h.2⟩))]
 by_cases k6 : r.kind = 6
 ·refine (check_row r r.onlyCount 44 45 46 47 (decide (MayCn r)) (SameR r r.onlyCount P [] K [] D []) w (hid (fun _ _ => rfl)) (hid (fun _ _ => rfl)) (by unfold lkT; rw [k6]; rfl) (hid (fun W _ => mayCount_any r W)) (hid (fun W _ => onlyCount_any r W)) (hid (fun W hf => sameR_any r r.onlyCount P [] K [] D [] W (h.k0 hf) (RcOk.onlyCount)))).mono ?_
  rintro e w' ⟨rfl, hf⟩
  refine ⟨?_, hf⟩
  have e : RcMay r P K D ↔ (MayCn r ∧ SameR r r.onlyCount P [] K [] D []) := by unfold RcMay; rw [if_neg k1, if_neg k2, if_neg k3, if_neg k4, if_neg k5, if_pos k6]
  by_cases hm : RcMay r P K D
  ·rw [if_pos hm, if_pos ⟨decide_eq_true (e.1 hm).1, (e.1 hm).2⟩]
  ·rw [if_neg hm, if_neg (fun h => hm (e.2 ⟨of_decide_eq_true h.1, h.2⟩))]
 by_cases k7 : r.kind = 7
 ·refine (check_row r r.onlyCount 44 45 46 47 (decide (MayCn r)) (SameR r r.onlyCount P [] K [] D []) w (hid (fun _ _ => rfl)) (hid (fun _ _ => rfl)) (by unfold lkT; rw [k7]; rfl) (hid (fun W _ => mayCount_any r W)) (hid (fun W _ => onlyCount_any r W)) (hid (fun W hf => sameR_any r r.onlyCount P [] K [] D [] W (h.k0 hf) (RcOk.onlyCount)))).mono ?_
  rintro e w' ⟨rfl, hf⟩
  refine ⟨?_, hf⟩
  have e : RcMay r P K D ↔ (MayCn r ∧ SameR r r.onlyCount P [] K [] D []) := by unfold RcMay; rw [if_neg k1, if_neg k2, if_neg k3, if_neg k4, if_neg k5, if_neg k6, if_pos k7]
  by_cases hm : RcMay r P K D
  ·rw [if_pos hm, if_pos ⟨decide_eq_true (e.1 hm).1, (e.1 hm).2⟩]
  ·rw [if_neg hm, if_neg (fun h => hm (e.2 ⟨of_decide_eq_true h.1, h.2⟩))]
 refine (check_none r w (by unfold lkT; rw [if_neg k1, if_neg k2, if_neg k3, if_neg k4, if_neg k5, if_neg k6, if_neg k7])).mono ?_
 rintro e w' ⟨rfl, hf⟩
 refine ⟨?_, hf⟩
 rw [if_neg (by unfold RcMay; rw [if_neg k1, if_neg k2, if_neg k3, if_neg k4, if_neg k5, if_neg k6, if_neg k7]; simp)]
end
section
open Go.RowKit Go.Lib
theorem RdI.keeps {w w' : World} {p : Option Addr} {K : List Int} {A : List Nat} (h : RdI w p K) (hk : Keeps A w w') (hp : K ≠ [] → ∀ k ∈ blk p, k ∈ A) : RdI w' p K := by
 by_cases h0 : K = []
 ·subst h0; exact Or.inl rfl
 ·rcases h with h | ⟨g, o, rfl, hc⟩
  ·exact absurd (List.map_eq_nil_iff.1 h) h0
  ·refine Or.inr ⟨g, o, rfl, fun i u hi => ?_⟩
   rw [World.cell?_of_block (hk g (hp h0 g (by simp [blk])))]
   exact hc i u hi
theorem RdP.keeps {w w' : World} {p : Option Addr} {P : List Pr} {A : List Nat} (h : RdP w p P) (hk : Keeps A w w') (hp : P ≠ [] → ∀ k ∈ blk p, k ∈ A) : RdP w' p P := by
 rcases h with h | ⟨g, o, rfl, hc⟩
 ·exact Or.inl h
 ·by_cases h0 : P = []
  ·exact Or.inl h0
  refine Or.inr ⟨g, o, rfl, fun i x hi => ?_⟩
  have hg := hk g (hp h0 g (by simp [blk]))
  rw [World.cell?_of_block (a := ⟨g, o + i * 2, Option.none⟩) hg, World.cell?_of_block (a := ⟨g, o + i * 2 + 1, Option.none⟩) hg]
  exact hc i x hi
theorem Rd.keepsN {w w' : World} {p : Option Addr} {zs : List Int} {A : List Nat} (h : Rd w p zs) (hk : Keeps A w w') (hp : zs ≠ [] → ∀ k ∈ blk p, k ∈ A) : Rd w' p zs := by
 by_cases h0 : zs = []
 ·exact Or.inl h0
 ·exact h.keeps hk (hp h0)
structure RcA (A : List Nat) (r : Rc) (P : List Pr) (K D : List Int) : Prop where
 p : P ≠ [] → ∀ k ∈ blk r.pp, k ∈ A
 k : K ≠ [] → ∀ k ∈ blk r.kp, k ∈ A
 d : D ≠ [] → ∀ k ∈ blk r.dp, k ∈ A
theorem RcOk.keeps {A : List Nat} {w w' : World} {r : Rc} {P : List Pr} {K D : List Int} (h : RcOk w r P K D) (ha : RcA A r P K D) (hk : Keeps A w w') : RcOk w' r P K D :=
 ⟨h.pr.keeps hk ha.p, h.pl, h.kr.keeps hk ha.k, h.kl, h.dr.keepsN hk ha.d, h.dn, h.db, h.mx⟩
theorem RcA.more {A B : List Nat} {r : Rc} {P : List Pr} {K D : List Int} (h : RcA A r P K D) (hB : ∀ k ∈ A, k ∈ B) : RcA B r P K D :=
 ⟨fun a k b => hB k (h.p a k b), fun a k b => hB k (h.k a k b), fun a k b => hB k (h.d a k b)⟩
theorem RcOk.foot {w : World} {r : Rc} {P : List Pr} {K D : List Int} (h : RcOk w r P K D) : ∃ A, RcA A r P K D ∧ ∀ k ∈ A, k < w.heap.size := by
 obtain ⟨A1, h1, l1⟩ : ∃ A : List Nat, (P ≠ [] → ∀ k ∈ blk r.pp, k ∈ A) ∧ ∀ k ∈ A, k < w.heap.size := by
  by_cases h0 : P = []
  ·exact ⟨[], fun h => absurd h0 h, by simp⟩
  ·refine ⟨blk r.pp, fun _ k hk => hk, fun k hk => ?_⟩
   rcases h.pr with h1 | ⟨g, o, he, hc⟩
   ·exact absurd h1 h0
   ·rw [he] at hk; simp [blk] at hk; subst hk
    exact World.block_lt_of_cell? w _ (hc 0 _ (List.getElem?_eq_getElem (List.length_pos_iff.2 h0))).1
 obtain ⟨A2, h2, l2⟩ : ∃ A : List Nat, (K ≠ [] → ∀ k ∈ blk r.kp, k ∈ A) ∧ ∀ k ∈ A, k < w.heap.size := by
  by_cases h0 : K = []
  ·exact ⟨[], fun h => absurd h0 h, by simp⟩
  ·refine ⟨blk r.kp, fun _ k hk => hk, fun k hk => ?_⟩
   rcases h.kr with h1 | ⟨g, o, he, hc⟩
   ·exact absurd (List.map_eq_nil_iff.1 h1) h0
   ·rw [he] at hk; simp [blk] at hk; subst hk
    exact World.block_lt_of_cell? w _ (hc 0 _ (List.getElem?_eq_getElem (by rw [List.length_map]; exact List.length_pos_iff.2 h0)))
 obtain ⟨A3, h3, l3⟩ : ∃ A : List Nat, (D ≠ [] → ∀ k ∈ blk r.dp, k ∈ A) ∧ ∀ k ∈ A, k < w.heap.size := by
  by_cases h0 : D = []
  ·exact ⟨[], fun h => absurd h0 h, by simp⟩
  ·refine ⟨blk r.dp, fun _ k hk => hk, fun k hk => ?_⟩
   rcases h.dr with h1 | ⟨g, o, he, hc⟩
   ·exact absurd h1 h0
   ·rw [he] at hk; simp [blk] at hk; subst hk
    exact World.block_lt_of_cell? w _ (hc 0 (List.length_pos_iff.2 h0))
 refine ⟨A1 ++ A2 ++ A3, ⟨fun a k b => ?_, fun a k b => ?_, fun a k b => ?_⟩, fun k hk => ?_⟩
 ·simp [h1 a k b]
 ·simp [h2 a k b]
 ·simp [h3 a k b]
 ·rcases List.mem_append.1 hk with hk | hk
  ·rcases List.mem_append.1 hk with hk | hk
   ·exact l1 k hk
   ·exact l2 k hk
  ·exact l3 k hk
theorem wrapU {n : Int} (h0 : 0 ≤ n) (h1 : n < 18446744073709551616) : IntKind.u64.wrap n = n := by rw [IntKind.wrap_u64]; omega
def bodyCn (r : Rc) : List Int := le r.many 4
theorem putCount_any (w0 w : World) (b : Nat) (A : List Nat) (hw : FreshW w0 w b 2048 ([], 0) A) (r : Rc) (hm : MayCn r) :
  Calls Tryz.prog 46 #[.pointer (some ⟨b, 0, none⟩), .agg r.arr] w fun e w' => e = .returned (.tuple #[]) ∧ FreshW w0 w' b 2048 (bodyCn r, 0) A := by
 obtain ⟨m0, m1⟩ := hm
 unfold bodyCn
 have hal := hw.alloc (.cells r.arr 26)
 have hrow := heap_alloc_new w (.cells r.arr 26)
 have HFA := hid ((Frm.refl [] w).alloc (.cells r.arr 26))
 obtain ⟨bx, hbx⟩ := eX (w.heap.size)
 obtain ⟨wa, hwa⟩ := eX (w.alloc (.cells r.arr 26))
 rw [hbx, hwa] at hal hrow
 rw [hwa] at HFA
 have HW0 := hid hal.1
 have HRC : Hid (∀ W : World, Keeps (bx :: A) wa W → W.heap[bx]? = some (.cells r.arr 26 (0, 0))) := hid (fun W h => (h bx (by simp)).trans hrow)
 obtain ⟨q0, q1, q2, q3, q4, q5, q6, q7, q8, q9, q10, q11, q12⟩ := rc_cells hrow
 clear hal hrow hw
 obtain ⟨kind, name, typ, frm, guid, origin, snap, pp, pn, pc, obj, at_, many, kp, kn, kc, dp, dl, dc⟩ := r
 unfold Rc.arr at hwa ⊢
 simp only at hwa HRC m0 m1 q0 q1 q2 q3 q4 q5 q6 q7 q8 q9 q10 q11 q12 ⊢
 have u1 := wrapU (n := many) (by omega) (by omega)
 go_enter Tryz.func46, Tryz.ntmps46
 go_wp2_with fail
 refine (num_fit w0 wa b 2048 [] _ HW0.out (by omega) many 4 (by omega) (by omega) (by omega) (by omega) (by simp)).mono ?_
 rintro e w1 ⟨rfl, hw1, hk1⟩
 clear q0 q1 q2 q3 q4 q5 q6 q7 q8 q9 q10 q11 q12
 have HW1 := hid hw1
 have HK1 : Hid (Keeps (bx :: A) wa w1) := hid hk1
 obtain ⟨q0, q1, q2, q3, q4, q5, q6, q7, q8, q9, q10, q11, q12⟩ := rc_cells (HRC.out w1 HK1.out)
 simp only at q0 q1 q2 q3 q4 q5 q6 q7 q8 q9 q10 q11 q12
 clear hw1 hk1
 go_wp2_with fail
 try go_returns
 exact ⟨rfl, HW1.out.less (fun k hk => List.mem_cons_of_mem _ hk)⟩
def bodyPk (r : Rc) : List Int := txF r.name ++ le r.many 2
theorem putPackage_any (w0 w : World) (b : Nat) (A : List Nat) (hw : FreshW w0 w b 2048 ([], 0) A) (r : Rc) (hm : MayPk r) :
  Calls Tryz.prog 50 #[.pointer (some ⟨b, 0, none⟩), .agg r.arr] w fun e w' => e = .returned (.tuple #[]) ∧ FreshW w0 w' b 2048 (bodyPk r, 0) A := by
 obtain ⟨⟨⟨_, m3⟩, _⟩, m0, m1⟩ := hm
 rw [tx_length] at m3
 unfold bodyPk
 have hal := hw.alloc (.cells r.arr 26)
 have hrow := heap_alloc_new w (.cells r.arr 26)
 have HFA := hid ((Frm.refl [] w).alloc (.cells r.arr 26))
 obtain ⟨bx, hbx⟩ := eX (w.heap.size)
 obtain ⟨wa, hwa⟩ := eX (w.alloc (.cells r.arr 26))
 rw [hbx, hwa] at hal hrow
 rw [hwa] at HFA
 have HW0 := hid hal.1
 have HRC : Hid (∀ W : World, Keeps (bx :: A) wa W → W.heap[bx]? = some (.cells r.arr 26 (0, 0))) := hid (fun W h => (h bx (by simp)).trans hrow)
 obtain ⟨q0, q1, q2, q3, q4, q5, q6, q7, q8, q9, q10, q11, q12⟩ := rc_cells hrow
 clear hal hrow hw
 obtain ⟨kind, name, typ, frm, guid, origin, snap, pp, pn, pc, obj, at_, many, kp, kn, kc, dp, dl, dc⟩ := r
 unfold Rc.arr at hwa ⊢
 simp only at hwa HRC m0 m1 m3 q0 q1 q2 q3 q4 q5 q6 q7 q8 q9 q10 q11 q12 ⊢
 have u1 := wrapU (n := many) (by omega) (by omega)
 go_enter Tryz.func50, Tryz.ntmps50
 go_wp2_with fail
 refine (text_fit w0 wa b 2048 [] _ HW0.out (by omega) name (by omega) (by simp; omega)).mono ?_
 rintro e w1 ⟨rfl, hw1, hk1⟩
 clear q0 q1 q2 q3 q4 q5 q6 q7 q8 q9 q10 q11 q12
 have HW1 := hid hw1
 have HK1 : Hid (Keeps (bx :: A) wa w1) := hid hk1
 obtain ⟨q0, q1, q2, q3, q4, q5, q6, q7, q8, q9, q10, q11, q12⟩ := rc_cells (HRC.out w1 HK1.out)
 simp only at q0 q1 q2 q3 q4 q5 q6 q7 q8 q9 q10 q11 q12
 clear hw1 hk1
 go_wp2_with fail
 refine (num_fit w0 w1 b 2048 _ _ HW1.out (by omega) many 2 (by omega) (by omega) (by omega) (by omega) (by simp only [List.nil_append, txF_len]; omega)).mono ?_
 rintro e w2 ⟨rfl, hw2, hk2⟩
 clear q0 q1 q2 q3 q4 q5 q6 q7 q8 q9 q10 q11 q12
 have HW2 := hid hw2
 have HK2 : Hid (Keeps (bx :: A) wa w2) := hid (HK1.out.trans hk2)
 obtain ⟨q0, q1, q2, q3, q4, q5, q6, q7, q8, q9, q10, q11, q12⟩ := rc_cells (HRC.out w2 HK2.out)
 simp only at q0 q1 q2 q3 q4 q5 q6 q7 q8 q9 q10 q11 q12
 clear hw2 hk2
 go_wp2_with fail
 try go_returns
 exact ⟨rfl, HW2.out.less (fun k hk => List.mem_cons_of_mem _ hk)⟩
def bodyWr (r : Rc) (D : List Int) : List Int := le r.obj 4 ++ le (r.at_ + 1) 2 ++ le r.dl 2 ++ D
theorem putWrite_any (w0 w : World) (b : Nat) (A : List Nat) (hw : FreshW w0 w b 2048 ([], 0) A) (r : Rc) (P : List Pr) (K D : List Int) (hr : RcOk w r P K D) (ha : RcA A r P K D) (hm : MayWr r) :
  Calls Tryz.prog 66 #[.pointer (some ⟨b, 0, none⟩), .agg r.arr] w fun e w' => e = .returned (.tuple #[]) ∧ FreshW w0 w' b 2048 (bodyWr r D, 0) A := by
 obtain ⟨⟨m0, m1⟩, ⟨m2, m3⟩, m4, m5⟩ := hm
 have hdn := hr.dn
 unfold bodyWr
 have hal := hw.alloc (.cells r.arr 26)
 have hrow := heap_alloc_new w (.cells r.arr 26)
 have HFA := hid ((Frm.refl [] w).alloc (.cells r.arr 26))
 obtain ⟨bx, hbx⟩ := eX (w.heap.size)
 obtain ⟨wa, hwa⟩ := eX (w.alloc (.cells r.arr 26))
 rw [hbx, hwa] at hal hrow
 rw [hwa] at HFA
 have HW0 := hid hal.1
 have HRC : Hid (∀ W : World, Keeps (bx :: A) wa W → W.heap[bx]? = some (.cells r.arr 26 (0, 0))) := hid (fun W h => (h bx (by simp)).trans hrow)
 obtain ⟨q0, q1, q2, q3, q4, q5, q6, q7, q8, q9, q10, q11, q12⟩ := rc_cells hrow
 have HDK : Hid (∀ W : World, Keeps (bx :: A) wa W → Rd W r.dp D) := hid (fun W h => (hr.dr.kept HFA.out (by simp)).keepsN h (fun h0 k hk => List.mem_cons_of_mem _ (ha.d h0 k hk)))
 clear hr ha
 clear hal hrow hw
 obtain ⟨kind, name, typ, frm, guid, origin, snap, pp, pn, pc, obj, at_, many, kp, kn, kc, dp, dl, dc⟩ := r
 unfold Rc.arr at hwa ⊢
 simp only at hwa HRC HDK hdn m0 m1 m2 m3 m4 m5 q0 q1 q2 q3 q4 q5 q6 q7 q8 q9 q10 q11 q12 ⊢
 have u1 := wrapU (n := obj) (by omega) (by omega)
 have u2 := wrapU (n := at_ + 1) (by omega) (by omega)
 have u4 : wrap64 (at_ + 1) = at_ + 1 := by unfold wrap64; omega
 have u3 := wrapU (n := (dl : Int)) (by omega) (by omega)
 go_enter Tryz.func66, Tryz.ntmps66
 go_wp2_with fail
 refine (num_fit w0 wa b 2048 [] _ HW0.out (by omega) obj 4 (by omega) (by omega) (by omega) (by omega) (by simp)).mono ?_
 rintro e w1 ⟨rfl, hw1, hk1⟩
 clear q0 q1 q2 q3 q4 q5 q6 q7 q8 q9 q10 q11 q12
 have HW1 := hid hw1
 have HK1 : Hid (Keeps (bx :: A) wa w1) := hid hk1
 obtain ⟨q0, q1, q2, q3, q4, q5, q6, q7, q8, q9, q10, q11, q12⟩ := rc_cells (HRC.out w1 HK1.out)
 simp only at q0 q1 q2 q3 q4 q5 q6 q7 q8 q9 q10 q11 q12
 clear hw1 hk1
 go_wp2_with fail
 refine (num_fit w0 w1 b 2048 _ _ HW1.out (by omega) (at_ + 1) 2 (by omega) (by omega) (by omega) (by omega) (by simp only [List.nil_append, le_length]; omega)).mono ?_
 rintro e w2 ⟨rfl, hw2, hk2⟩
 clear q0 q1 q2 q3 q4 q5 q6 q7 q8 q9 q10 q11 q12
 have HW2 := hid hw2
 have HK2 : Hid (Keeps (bx :: A) wa w2) := hid (HK1.out.trans hk2)
 obtain ⟨q0, q1, q2, q3, q4, q5, q6, q7, q8, q9, q10, q11, q12⟩ := rc_cells (HRC.out w2 HK2.out)
 simp only at q0 q1 q2 q3 q4 q5 q6 q7 q8 q9 q10 q11 q12
 clear hw2 hk2
 go_wp2_with fail
 refine (num_fit w0 w2 b 2048 _ _ HW2.out (by omega) (dl : Int) 2 (by omega) (by omega) (by omega) (by omega) (by simp only [List.nil_append, List.length_append, le_length]; omega)).mono ?_
 rintro e w3 ⟨rfl, hw3, hk3⟩
 clear q0 q1 q2 q3 q4 q5 q6 q7 q8 q9 q10 q11 q12
 have HW3 := hid hw3
 have HK3 : Hid (Keeps (bx :: A) wa w3) := hid (HK2.out.trans hk3)
 obtain ⟨q0, q1, q2, q3, q4, q5, q6, q7, q8, q9, q10, q11, q12⟩ := rc_cells (HRC.out w3 HK3.out)
 simp only at q0 q1 q2 q3 q4 q5 q6 q7 q8 q9 q10 q11 q12
 clear hw3 hk3
 go_wp2_with fail
 have hbf := bytes_fit w0 w3 b 2048 _ _ HW3.out (by omega) dp D dc (fun h => by rw [h] at hdn; simp at hdn; omega) (HDK.out w3 HK3.out) (by simp only [List.nil_append, List.length_append, le_length]; omega)
 rw [hdn] at hbf
 refine hbf.mono ?_
 rintro e w4 ⟨rfl, hw4, hk4⟩
 have HW4 := hid hw4
 clear hw4 hk4 hbf
 go_wp2_with fail
 try go_returns
 exact ⟨rfl, HW4.out.less (fun k hk => List.mem_cons_of_mem _ hk)⟩
end
end Go.Proofs.YtajfjkfnmmfhmaaGreatDoor
