/- Records: Check. -/
import Derived.Deep.Cut
import Derived.Deep.DeepCutAuto
import Derived.Test.YtajfjkfnmmfhmaaGreatDoorQwak
import Derived.Test.YtajfjkfnmmfhmaaGreatDoorQwao
import Derived.Test.YtajfjkfnmmfhmaaGreatDoorQwal
import Derived.Test.YtajfjkfnmmfhmaaGreatDoorQwam
namespace Go.Proofs.YtajfjkfnmmfhmaaGreatDoor
section
open Go.RowKit Go.Lib
set_option maxRecDepth 100000
def lkT (k : Int) : Option (Array Value) := if k = 1 then some rw1 else if k = 2 then some rw2 else if k = 3 then some rw3 else if k = 4 then some rw4 else if k = 5 then some rw5 else if k = 6 then some rwC else if k = 7 then some rwC else none
theorem lkT_of (k : Int) : lkR k (rowsT 7).toList = (lkT k).map Value.agg := by
  unfold rowsT lkT
  simp only [lkR]
  repeat (split <;> first | rfl | skip)
/-- Which records may be. -/
def RcMay (r : Rc) (P : List Pr) (K D : List Int) : Prop :=
  if r.kind = 1 then MayPk r ∧ SameR r r.onlyPackage P [] K [] D []
  else if r.kind = 2 then MayBg r P ∧ SameR r r.onlyBegin P P K [] D []
  else if r.kind = 3 then MayLv r K ∧ SameR r r.onlyLive P [] K K D []
  else if r.kind = 4 then MayNd r K ∧ SameR r r.onlyNode P [] K K D []
  else if r.kind = 5 then MayWr r ∧ SameR r r.onlyWrite P [] K [] D D
  else if r.kind = 6 then MayCn r ∧ SameR r r.onlyCount P [] K [] D []
  else if r.kind = 7 then MayCn r ∧ SameR r r.onlyCount P [] K [] D []
  else False
instance (r : Rc) (P : List Pr) (K D : List Int) : Decidable (RcMay r P K D) := by unfold RcMay; infer_instance
theorem RdI.none (w : World) (p : Option Addr) : RdI w p [] := Or.inl rfl
theorem RdP.none (w : World) (p : Option Addr) : RdP w p [] := Or.inl rfl
theorem RcOk.onlyPackage {w : World} {r : Rc} : RcOk w r.onlyPackage [] [] [] := ⟨RdP.none _ _, rfl, RdI.none _ _, rfl, Rd.nil _ _, rfl, by simp, by unfold Rc.onlyPackage; simp⟩
theorem RcOk.onlyCount {w : World} {r : Rc} : RcOk w r.onlyCount [] [] [] := ⟨RdP.none _ _, rfl, RdI.none _ _, rfl, Rd.nil _ _, rfl, by simp, by unfold Rc.onlyCount; simp⟩
theorem RcOk.onlyBegin {w : World} {r : Rc} {P : List Pr} {K D : List Int} (h : RcOk w r P K D) : RcOk w r.onlyBegin P [] [] := ⟨h.pr, h.pl, RdI.none _ _, rfl, Rd.nil _ _, rfl, by simp, ⟨h.mx.1, by unfold Rc.onlyBegin; simp⟩⟩
theorem RcOk.onlyLive {w : World} {r : Rc} {P : List Pr} {K D : List Int} (h : RcOk w r P K D) : RcOk w r.onlyLive [] K [] := ⟨RdP.none _ _, rfl, h.kr, h.kl, Rd.nil _ _, rfl, by simp, ⟨by unfold Rc.onlyLive; simp, h.mx.2⟩⟩
theorem RcOk.onlyNode {w : World} {r : Rc} {P : List Pr} {K D : List Int} (h : RcOk w r P K D) : RcOk w r.onlyNode [] K [] := ⟨RdP.none _ _, rfl, h.kr, h.kl, Rd.nil _ _, rfl, by simp, ⟨by unfold Rc.onlyNode; simp, h.mx.2⟩⟩
theorem RcOk.onlyWrite {w : World} {r : Rc} {P : List Pr} {K D : List Int} (h : RcOk w r P K D) : RcOk w r.onlyWrite [] [] D := ⟨RdP.none _ _, rfl, RdI.none _ _, rfl, h.dr, h.dn, h.db, by unfold Rc.onlyWrite; simp⟩
set_option maxHeartbeats 6400000 in
/-- A kind with a row. -/
theorem check_row (r ro : Rc) (fm fo fp ft : FuncId) (M : Bool) (S : Prop) [Decidable S] (w : World) (hfm : Hid (∀ (args : Array Value) (W : World), (callFunc fm args).run Tryz.prog W = .ok (.enter fm args) W)) (hfo : Hid (∀ (args : Array Value) (W : World), (callFunc fo args).run Tryz.prog W = .ok (.enter fo args) W)) (hk : lkT r.kind = some #[.func (.func fm) #[] #[], .func (.func fo) #[] #[], .func (.func fp) #[] #[], .func (.func ft) #[] #[]])
    (HM : Hid (∀ W, Frm [] w W → Calls Tryz.prog fm #[.agg r.arr] W fun e w' => e = .returned (.bool M) ∧ Frm [] W w')) (HO : Hid (∀ W, Frm [] w W → Calls Tryz.prog fo #[.agg r.arr] W fun e w' => e = .returned (.agg ro.arr) ∧ Frm [] W w'))
    (HS : Hid (∀ W, Frm [] w W → Calls Tryz.prog 24 #[.agg r.arr, .agg ro.arr] W fun e w' => e = .returned (.bool (decide S)) ∧ Frm [] W w')) :
    Calls Tryz.prog 9 #[.agg r.arr] w fun e w' => e = .returned (.int .i64 (if M = true ∧ S then 0 else 200)) ∧ Frm [] w w' := by
  obtain ⟨PO, hPO⟩ : ∃ PO : Ending → World → Prop, (fun e w' => e = .returned (.int .i64 (if M = true ∧ S then 0 else 200)) ∧ Frm [] w w') = PO := ⟨_, rfl⟩
  rw [hPO]
  have HP0 : Hid (∀ w', M = true ∧ S → Frm [] w w' → PO (.returned (.int .i64 0)) w') := hid (fun w' h h2 => by rw [← hPO]; exact ⟨by rw [if_pos h], h2⟩)
  have HP1 : Hid (∀ w', ¬ (M = true ∧ S) → Frm [] w w' → PO (.returned (.int .i64 200)) w') := hid (fun w' h h2 => by rw [← hPO]; exact ⟨by rw [if_neg h], h2⟩)
  clear hPO
  obtain ⟨wb, hwb⟩ : ∃ z, w.alloc (.cells r.arr 26) = z := ⟨_, rfl⟩
  have hrow := heap_alloc_new w (.cells r.arr 26)
  have hfb : Frm [] w wb := by rw [← hwb]; exact (Frm.refl _ _).alloc _
  obtain ⟨b, hb⟩ : ∃ z, w.heap.size = z := ⟨_, rfl⟩
  rw [hwb, hb] at hrow
  have HX := hid (fun V (hf : Frm [] wb V) => rc_cells (hf.heap hrow (by simp)))
  have HFB := hid hfb
  have HWB := hid hwb
  have HB := hid hb
  have hlk : ∀ (W : World) (m : Nat), W.heap[m]? = some (.map (rowsT 7) 7) → (Instr.lookup 60 (.map (some m)) (.int .i64 r.kind) true).run Tryz.prog W = .ok (.tuple #[.agg #[.func (.func fm) #[] #[], .func (.func fo) #[] #[], .func (.func fp) #[] #[], .func (.func ft) #[] #[]], .bool true]) W := fun W m h => by
    have h2 := run_lookR (P := Tryz.prog) (w := W) 60 3 58 m 7 (rowsT 7) r.kind (.agg #[.nilFunc, .nilFunc, .nilFunc, .nilFunc]) Tryz.underlying60 Tryz.underlying3 (by kernel_rfl) h (rowsT_int 7)
    rw [lkT_of, hk] at h2
    exact h2
  clear hk hwb hfb hb hrow
  obtain ⟨kind, name, typ, frm, guid, origin, snap, pp, pn, pc, obj, at_, many, kp, kn, kc, dp, dl, dc⟩ := r
  unfold Rc.arr at HM HO HS HWB ⊢
  simp only at HX HM HO HS hlk HWB ⊢
  obtain ⟨y0, y1, y2, y3, y4, y5, y6, y7, y8, y9, y10, y11, y12⟩ := HX.out wb (Frm.refl _ _)
  go_enter Tryz.func9, Tryz.ntmps9
  go_upto_region 1 with fail
  first | rw [HWB.out] | skip
  first | rw [HB.out] | skip
  go_cut [3, 4] (fun a t wx => ∃ rb, a = .pointer (some ⟨rb, 0, none⟩) ∧ t = .bool true ∧ Hid (wx.heap[rb]? = some (.cells #[.func (.func fm) #[] #[], .func (.func fo) #[] #[], .func (.func fp) #[] #[], .func (.func ft) #[] #[]] 58 (0, 0))) ∧ Hid (Frm [] wb wx) ∧ Hid (wb.heap.size ≤ rb))
  case first =>
    have s0 : wb.drew.cell? ⟨b, 0, none⟩ = some (.int .i64 kind) := y0
    refine wp_region_tail (S := fun W => (W.cell? ⟨b, 0, none⟩ = some (.int .i64 kind))) 9 10 rfl (by kernel_rfl) (by kernel_rfl) ?_
    refine htk (i := 1) (v := ?_) (by kernel_rfl) rfl (fun _ _ _ h => h) (Or.inl ⟨by rfl, ?_⟩) s0 ?_
    rotate_left 1
    · (intro W hSw; obtain s0 := hSw; (try simp only [lA, lS, lZ]); go_simp; try with_reducible rfl)
    try simp only [lA, lS, lZ, Act.put, lI, lW, lX]
    refine htk (i := 2) (v := ?_) (by kernel_rfl) rfl (fun _ _ _ h => h) (Or.inl ⟨by rfl, ?_⟩) s0 ?_
    rotate_left 1
    · (intro W hSw; obtain s0 := hSw; (try simp only [lA, lS, lZ]); go_simp; try with_reducible rfl)
    try simp only [lA, lS, lZ, Act.put, lI, lW, lX]
    refine wpAnyHT_two (i := 0) (j := 7) rfl rfl (by kernel_rfl) (by kernel_rfl) (by kernel_rfl) (fun K hK => ?_) (fun K hK => ?_)
    · try simp only [lA, lZ]
      go_simp
      refine (rows_any _).mono ?_
      rintro e w1 ⟨m, rfl, hm, hmap, hf1⟩
      have s1 : w1.cell? ⟨b, 0, none⟩ = some (.int .i64 kind) := (hf1.cell (World.block_lt_of_cell? _ _ s0) (by simp)).trans s0
      refine hK _ _ s1 ?_
      clear hK K
      refine wpAnyHT_str (S' := fun W => W.cell? ⟨b, 0, none⟩ = some (.int .i64 kind) ∧ W.heap[m]? = some (.map (rowsT 7) 7)) (fun _ h => h.1) _ _ _ _ ?_
      refine htk (i := 3) (v := ?_) (by kernel_rfl) rfl (fun _ _ _ h => h) (Or.inl ⟨by rfl, ?_⟩) ⟨s1, hmap⟩ ?_
      rotate_left 1
      · (intro W hSw; obtain ⟨s0, sm⟩ := hSw; have hl := hlk W m sm; (try simp only [lA, lS, lZ]); go_simp; try with_reducible rfl)
      try simp only [lA, lS, lZ, Act.put, lI, lW, lX]
      refine htk (i := 4) (v := ?_) (by kernel_rfl) rfl (fun _ _ _ h => h) (Or.inl ⟨by rfl, ?_⟩) ⟨s1, hmap⟩ ?_
      rotate_left 1
      · (intro W hSw; obtain ⟨s0, sm⟩ := hSw; (try simp only [lA, lS, lZ]); go_simp; try with_reducible rfl)
      try simp only [lA, lS, lZ, Act.put, lI, lW, lX]
      refine htk (i := 5) (v := ?_) (by kernel_rfl) rfl (fun _ _ _ h => h) (Or.inl ⟨by rfl, ?_⟩) ⟨s1, hmap⟩ ?_
      rotate_left 1
      · (intro W hSw; obtain ⟨s0, sm⟩ := hSw; (try simp only [lA, lS, lZ]); go_simp; try with_reducible rfl)
      try simp only [lA, lS, lZ, Act.put, lI, lW, lX]
      refine htk (i := 6) (v := ?_) (by kernel_rfl) rfl (fun _ _ _ h => h) (Or.inl ⟨by rfl, ?_⟩) ⟨s1, hmap⟩ ?_
      rotate_left 1
      · (intro W hSw; obtain ⟨s0, sm⟩ := hSw; (try simp only [lA, lS, lZ]); go_simp; try with_reducible rfl)
      try simp only [lA, lS, lZ, Act.put, lI, lW, lX]
      refine wpAnyHT_one (i := 7) rfl (by kernel_rfl) (by kernel_rfl) (fun K hK => ?_)
      try simp only [lA, lS, lZ]
      go_simp
      refine hK _ _ ⟨(((Frm.refl [] w1).alloc _).cell (World.block_lt_of_cell? _ _ s1) (by simp)).trans s1, ((Frm.refl [] w1).alloc _).heap hmap (by simp)⟩ ?_
      clear hK K
      try simp only [lA, lS, lZ, Act.put, lI, lW, lX]
      have hq := heap_alloc_new w1 (.cells #[.nilFunc, .nilFunc, .nilFunc, .nilFunc] 58)
      obtain ⟨rb, hrb⟩ : ∃ z, w1.heap.size = z := ⟨_, rfl⟩
      obtain ⟨Wq, hWq⟩ : ∃ z, w1.alloc (.cells #[.nilFunc, .nilFunc, .nilFunc, .nilFunc] 58) = z := ⟨_, rfl⟩
      have hfq : Frm [] wb Wq := by rw [← hWq]; exact (((Frm.refl [] wb).drew.trans hf1 (by simp)).alloc _)
      have hlo : wb.heap.size ≤ rb := by rw [← hrb]; exact hf1.size
      have sq : Wq.cell? ⟨b, 0, none⟩ = some (.int .i64 kind) ∧ Wq.heap[m]? = some (.map (rowsT 7) 7) := by rw [← hWq]; exact ⟨(((Frm.refl [] w1).alloc _).cell (World.block_lt_of_cell? _ _ s1) (by simp)).trans s1, ((Frm.refl [] w1).alloc _).heap hmap (by simp)⟩
      have hne : ¬ b = rb := by have h1 := World.block_lt_of_cell? _ _ s1; have h2 := hrb; simp only at h1; omega
      have hnm : ¬ m = rb := by have h1 := lt_of_heap hmap; omega
      rw [hWq, hrb] at hq
      first | rw [hWq] | skip
      first | rw [hrb] | skip
      have z0 : Wq.cell? ⟨rb, 0, none⟩ = some .nilFunc := by rw [cell_of_row _ _ _ _ _ _ hq]; rfl
      have z1 : Wq.cell? ⟨rb, 1, none⟩ = some .nilFunc := by rw [cell_of_row _ _ _ _ _ _ hq]; rfl
      have z2 : Wq.cell? ⟨rb, 2, none⟩ = some .nilFunc := by rw [cell_of_row _ _ _ _ _ _ hq]; rfl
      have z3 : Wq.cell? ⟨rb, 3, none⟩ = some .nilFunc := by rw [cell_of_row _ _ _ _ _ _ hq]; rfl
      have x0 := frozen_of_row Wq rb 0 _ _ hq
      have x1 := frozen_of_row Wq rb 1 _ _ hq
      have x2 := frozen_of_row Wq rb 2 _ _ hq
      have x3 := frozen_of_row Wq rb 3 _ _ hq
      obtain ⟨h4, f4⟩ := sets_rowF rb 58 [(0, .func (.func fm) #[] #[]), (1, .func (.func fo) #[] #[]), (2, .func (.func fp) #[] #[]), (3, .func (.func ft) #[] #[])] Wq _ hq
      simp only [List.foldl, List.setIfInBounds_toArray, List.set_cons_zero, List.set_cons_succ] at h4
      obtain ⟨Wz, hWz⟩ : ∃ z, setsF Wq rb [(0, .func (.func fm) #[] #[]), (1, .func (.func fo) #[] #[]), (2, .func (.func fp) #[] #[]), (3, .func (.func ft) #[] #[])] = z := ⟨_, rfl⟩
      rw [hWz] at h4 f4
      have hwz : ((((Wq.setCell ⟨rb, 0, none⟩ (.func (.func fm) #[] #[])).setCell ⟨rb, 1, none⟩ (.func (.func fo) #[] #[])).setCell ⟨rb, 2, none⟩ (.func (.func fp) #[] #[])).setCell ⟨rb, 3, none⟩ (.func (.func ft) #[] #[])) = Wz := hWz
      refine wpAnyHT_one (i := 8) rfl (by kernel_rfl) (by kernel_rfl) (fun K hK => ?_)
      try simp only [lA, lS, lZ]
      go_simp
      try rw [hwz]
      refine hK _ _ ⟨(f4.cell (World.block_lt_of_cell? _ _ sq.1) (by simpa using hne)).trans sq.1, f4.heap sq.2 (by simpa using hnm)⟩ ?_
      clear hK K
      refine wpAnyHT_end (by kernel_rfl) ?_
      simp only [List.drop_succ_cons, List.drop_zero]
      go_wp2_with fail
      go_meet
      exact ⟨rb, rfl, rfl, hid h4, hid (hfq.trans f4 (fun i hi hl => by rw [List.mem_singleton] at hi; have := hlo; omega)), hid hlo⟩
    · have ha := heap_alloc_new wb.drew (.cells #[.nilFunc, .nilFunc, .nilFunc, .nilFunc] 58)
      try simp only [lA, lS, lZ]
      go_simp
      refine hK _ _ ((((Frm.refl [] wb).drew.alloc _).cell (World.block_lt_of_cell? _ _ y0) (by simp)).trans y0) ?_
      clear hK K
      try simp only [lA, lS, lZ, Act.put, lI, lW, lX]
      refine wpAnyHT_one (i := 0) rfl (by kernel_rfl) (by kernel_rfl) (fun K hK => ?_)
      try simp only [lA, lZ]
      go_simp
      refine (rows_any _).mono ?_
      rintro e w1 ⟨m, rfl, hm, hmap, hf1⟩
      have sa := ((((Frm.refl [] wb).drew.alloc (.cells #[.nilFunc, .nilFunc, .nilFunc, .nilFunc] 58)).cell (World.block_lt_of_cell? _ _ y0) (by simp)).trans y0)
      have s1 : w1.cell? ⟨b, 0, none⟩ = some (.int .i64 kind) := (hf1.cell (World.block_lt_of_cell? _ _ sa) (by simp)).trans sa
      refine hK _ _ s1 ?_
      clear hK K
      refine wpAnyHT_str (S' := fun W => W.cell? ⟨b, 0, none⟩ = some (.int .i64 kind) ∧ W.heap[m]? = some (.map (rowsT 7) 7)) (fun _ h => h.1) _ _ _ _ ?_
      refine htk (i := 3) (v := ?_) (by kernel_rfl) rfl (fun _ _ _ h => h) (Or.inl ⟨by rfl, ?_⟩) ⟨s1, hmap⟩ ?_
      rotate_left 1
      · (intro W hSw; obtain ⟨s0, sm⟩ := hSw; have hl := hlk W m sm; (try simp only [lA, lS, lZ]); go_simp; try with_reducible rfl)
      try simp only [lA, lS, lZ, Act.put, lI, lW, lX]
      refine htk (i := 4) (v := ?_) (by kernel_rfl) rfl (fun _ _ _ h => h) (Or.inl ⟨by rfl, ?_⟩) ⟨s1, hmap⟩ ?_
      rotate_left 1
      · (intro W hSw; obtain ⟨s0, sm⟩ := hSw; (try simp only [lA, lS, lZ]); go_simp; try with_reducible rfl)
      try simp only [lA, lS, lZ, Act.put, lI, lW, lX]
      refine htk (i := 5) (v := ?_) (by kernel_rfl) rfl (fun _ _ _ h => h) (Or.inl ⟨by rfl, ?_⟩) ⟨s1, hmap⟩ ?_
      rotate_left 1
      · (intro W hSw; obtain ⟨s0, sm⟩ := hSw; (try simp only [lA, lS, lZ]); go_simp; try with_reducible rfl)
      try simp only [lA, lS, lZ, Act.put, lI, lW, lX]
      refine htk (i := 6) (v := ?_) (by kernel_rfl) rfl (fun _ _ _ h => h) (Or.inl ⟨by rfl, ?_⟩) ⟨s1, hmap⟩ ?_
      rotate_left 1
      · (intro W hSw; obtain ⟨s0, sm⟩ := hSw; (try simp only [lA, lS, lZ]); go_simp; try with_reducible rfl)
      try simp only [lA, lS, lZ, Act.put, lI, lW, lX]
      have hq := hf1.heap ha (by simp)
      obtain ⟨Wq, hWq⟩ : ∃ z, w1 = z := ⟨_, rfl⟩
      have hfq : Frm [] wb Wq := by rw [← hWq]; exact ((Frm.refl [] wb).drew.alloc _).trans hf1 (by simp)
      obtain ⟨rb, hrb⟩ : ∃ z, wb.drew.heap.size = z := ⟨_, rfl⟩
      have hlo : wb.heap.size ≤ rb := by rw [← hrb]; exact Nat.le_refl _
      rw [hWq] at hq hmap s1 hf1
      rw [hrb] at hq
      first | rw [hWq] | skip
      have hrb2 : wb.heap.size = rb := hrb
      first | rw [hrb] | skip
      first | rw [hrb2] | skip
      have sq : Wq.cell? ⟨b, 0, none⟩ = some (.int .i64 kind) ∧ Wq.heap[m]? = some (.map (rowsT 7) 7) := ⟨s1, hmap⟩
      have hne : ¬ b = rb := by have h1 := World.block_lt_of_cell? _ _ y0; simp only at h1; omega
      have hnm : ¬ m = rb := by have h1 := hm; simp at h1; omega
      have z0 : Wq.cell? ⟨rb, 0, none⟩ = some .nilFunc := by rw [cell_of_row _ _ _ _ _ _ hq]; rfl
      have z1 : Wq.cell? ⟨rb, 1, none⟩ = some .nilFunc := by rw [cell_of_row _ _ _ _ _ _ hq]; rfl
      have z2 : Wq.cell? ⟨rb, 2, none⟩ = some .nilFunc := by rw [cell_of_row _ _ _ _ _ _ hq]; rfl
      have z3 : Wq.cell? ⟨rb, 3, none⟩ = some .nilFunc := by rw [cell_of_row _ _ _ _ _ _ hq]; rfl
      have x0 := frozen_of_row Wq rb 0 _ _ hq
      have x1 := frozen_of_row Wq rb 1 _ _ hq
      have x2 := frozen_of_row Wq rb 2 _ _ hq
      have x3 := frozen_of_row Wq rb 3 _ _ hq
      obtain ⟨h4, f4⟩ := sets_rowF rb 58 [(0, .func (.func fm) #[] #[]), (1, .func (.func fo) #[] #[]), (2, .func (.func fp) #[] #[]), (3, .func (.func ft) #[] #[])] Wq _ hq
      simp only [List.foldl, List.setIfInBounds_toArray, List.set_cons_zero, List.set_cons_succ] at h4
      obtain ⟨Wz, hWz⟩ : ∃ z, setsF Wq rb [(0, .func (.func fm) #[] #[]), (1, .func (.func fo) #[] #[]), (2, .func (.func fp) #[] #[]), (3, .func (.func ft) #[] #[])] = z := ⟨_, rfl⟩
      rw [hWz] at h4 f4
      have hwz : ((((Wq.setCell ⟨rb, 0, none⟩ (.func (.func fm) #[] #[])).setCell ⟨rb, 1, none⟩ (.func (.func fo) #[] #[])).setCell ⟨rb, 2, none⟩ (.func (.func fp) #[] #[])).setCell ⟨rb, 3, none⟩ (.func (.func ft) #[] #[])) = Wz := hWz
      refine wpAnyHT_one (i := 8) rfl (by kernel_rfl) (by kernel_rfl) (fun K hK => ?_)
      try simp only [lA, lS, lZ]
      go_simp
      try rw [hwz]
      refine hK _ _ ⟨(f4.cell (World.block_lt_of_cell? _ _ sq.1) (by simpa using hne)).trans sq.1, f4.heap sq.2 (by simpa using hnm)⟩ ?_
      clear hK K
      refine wpAnyHT_end (by kernel_rfl) ?_
      simp only [List.drop_succ_cons, List.drop_zero]
      go_wp2_with fail
      go_meet
      exact ⟨rb, rfl, rfl, hid h4, hid (hfq.trans f4 (fun i hi hl => by rw [List.mem_singleton] at hi; have := hlo; omega)), hid hlo⟩
  case rest =>
    obtain ⟨rb, rfl, rfl, HRB, HFX, HLO⟩ := hcut
    have HS2 : Hid (∀ V, Frm [] wc V → V.cell? ⟨b, 0, none⟩ = some (.int .i64 kind) ∧ V.cell? ⟨b, 1, none⟩ = some (.string name) ∧ V.cell? ⟨b, 2, none⟩ = some (.int .i64 typ) ∧ V.cell? ⟨b, 3, none⟩ = some (.int .i64 frm) ∧ V.cell? ⟨b, 4, none⟩ = some (.int .i64 guid) ∧ V.cell? ⟨b, 5, none⟩ = some (.int .i64 origin) ∧ V.cell? ⟨b, 6, none⟩ = some (.string snap) ∧ V.cell? ⟨b, 7, none⟩ = some (.slice pp pn pc) ∧ V.cell? ⟨b, 8, none⟩ = some (.int .i64 obj) ∧ V.cell? ⟨b, 9, none⟩ = some (.int .i64 at_) ∧ V.cell? ⟨b, 10, none⟩ = some (.int .i64 many) ∧ V.cell? ⟨b, 11, none⟩ = some (.slice kp kn kc) ∧ V.cell? ⟨b, 12, none⟩ = some (.slice dp dl dc) ∧ V.cell? ⟨rb, 0, none⟩ = some (.func (.func fm) #[] #[]) ∧ V.cell? ⟨rb, 1, none⟩ = some (.func (.func fo) #[] #[])) := hid (fun V hf => by
      obtain ⟨k0, k1, k2, k3, k4, k5, k6, k7, k8, k9, k10, k11, k12⟩ := HX.out V (HFX.out.trans hf (by simp))
      have hr := hf.heap HRB.out (by simp)
      exact ⟨k0, k1, k2, k3, k4, k5, k6, k7, k8, k9, k10, k11, k12, by rw [cell_of_row _ _ _ _ _ _ hr]; rfl, by rw [cell_of_row _ _ _ _ _ _ hr]; rfl⟩)
    have HFC : Hid (Frm [] w wc) := hid (HFB.out.trans HFX.out (by simp))
    clear y0 y1 y2 y3 y4 y5 y6 y7 y8 y9 y10 y11 y12 hlk
    obtain ⟨B, hB⟩ : ∃ B, decide S = B := ⟨_, rfl⟩
    rw [hB] at HS
    have HBS : Hid (B = true ↔ S) := hid (by rw [← hB]; exact decide_eq_true_iff)
    clear hB
    cases M with
    | false =>
      go_upto_region 2 with fail
      have HD : Hid (Frm [] wc wc.drew) := hid ((Frm.refl [] wc).drew)
      refine wp_region_tail (S := fun W => (W.cell? ⟨b, 0, none⟩ = some (.int .i64 kind) ∧ W.cell? ⟨b, 1, none⟩ = some (.string name) ∧ W.cell? ⟨b, 2, none⟩ = some (.int .i64 typ) ∧ W.cell? ⟨b, 3, none⟩ = some (.int .i64 frm) ∧ W.cell? ⟨b, 4, none⟩ = some (.int .i64 guid) ∧ W.cell? ⟨b, 5, none⟩ = some (.int .i64 origin) ∧ W.cell? ⟨b, 6, none⟩ = some (.string snap) ∧ W.cell? ⟨b, 7, none⟩ = some (.slice pp pn pc) ∧ W.cell? ⟨b, 8, none⟩ = some (.int .i64 obj) ∧ W.cell? ⟨b, 9, none⟩ = some (.int .i64 at_) ∧ W.cell? ⟨b, 10, none⟩ = some (.int .i64 many) ∧ W.cell? ⟨b, 11, none⟩ = some (.slice kp kn kc) ∧ W.cell? ⟨b, 12, none⟩ = some (.slice dp dl dc) ∧ W.cell? ⟨rb, 0, none⟩ = some (.func (.func fm) #[] #[]) ∧ W.cell? ⟨rb, 1, none⟩ = some (.func (.func fo) #[] #[]))) 17 18 rfl (by kernel_rfl) (by kernel_rfl) ?_
      refine htk (i := 0) (v := ?_) (by kernel_rfl) rfl (fun _ _ _ h => h) (Or.inl ⟨by rfl, ?_⟩) (HS2.out _ HD.out) ?_
      rotate_left 1
      · (intro W hSw; obtain ⟨s0, s1, s2, s3, s4, s5, s6, s7, s8, s9, s10, s11, s12, r0, r1⟩ := hSw; (try simp only [lA, lZ]); go_simp; try with_reducible rfl)
      try simp only [lA, lZ, Act.put, lI, lW, lX]
      refine htk (i := 1) (v := ?_) (by kernel_rfl) rfl (fun _ _ _ h => h) (Or.inl ⟨by rfl, ?_⟩) (HS2.out _ HD.out) ?_
      rotate_left 1
      · (intro W hSw; obtain ⟨s0, s1, s2, s3, s4, s5, s6, s7, s8, s9, s10, s11, s12, r0, r1⟩ := hSw; (try simp only [lA, lS, lZ]); go_simp; try with_reducible rfl)
      try simp only [lA, lS, lZ, Act.put, lI, lW, lX]
      refine htk (i := 2) (v := ?_) (by kernel_rfl) rfl (fun _ _ _ h => h) (Or.inl ⟨by rfl, ?_⟩) (HS2.out _ HD.out) ?_
      rotate_left 1
      · (intro W hSw; obtain ⟨s0, s1, s2, s3, s4, s5, s6, s7, s8, s9, s10, s11, s12, r0, r1⟩ := hSw; (try simp only [lA, lS, lZ]); go_simp; try with_reducible rfl)
      try simp only [lA, lS, lZ, Act.put, lI, lW, lX]
      refine htk (i := 3) (v := ?_) (by kernel_rfl) rfl (fun _ _ _ h => h) (Or.inl ⟨by rfl, ?_⟩) (HS2.out _ HD.out) ?_
      rotate_left 1
      · (intro W hSw; obtain ⟨s0, s1, s2, s3, s4, s5, s6, s7, s8, s9, s10, s11, s12, r0, r1⟩ := hSw; (try simp only [lA, lS, lZ]); go_simp; try with_reducible rfl)
      try simp only [lA, lS, lZ, Act.put, lI, lW, lX]
      refine htk (i := 4) (v := ?_) (by kernel_rfl) rfl (fun _ _ _ h => h) (Or.inl ⟨by rfl, ?_⟩) (HS2.out _ HD.out) ?_
      rotate_left 1
      · (intro W hSw; obtain ⟨s0, s1, s2, s3, s4, s5, s6, s7, s8, s9, s10, s11, s12, r0, r1⟩ := hSw; (try simp only [lA, lS, lZ]); go_simp; try with_reducible rfl)
      try simp only [lA, lS, lZ, Act.put, lI, lW, lX]
      refine htk (i := 5) (v := ?_) (by kernel_rfl) rfl (fun _ _ _ h => h) (Or.inl ⟨by rfl, ?_⟩) (HS2.out _ HD.out) ?_
      rotate_left 1
      · (intro W hSw; obtain ⟨s0, s1, s2, s3, s4, s5, s6, s7, s8, s9, s10, s11, s12, r0, r1⟩ := hSw; (try simp only [lA, lS, lZ]); go_simp; try with_reducible rfl)
      try simp only [lA, lS, lZ, Act.put, lI, lW, lX]
      refine wpAnyHT_one (i := 6) rfl (by kernel_rfl) (by kernel_rfl) (fun K hK => ?_)
      try simp only [lA, lS, lZ]
      go_simp
      rw [hfm.out, Oper.upon_enter]
      refine (HM.out _ (HFC.out.trans HD.out (by simp))).mono ?_
      rintro e w2 ⟨rfl, hf2⟩
      have HF2 : Hid (Frm [] wc w2) := hid (HD.out.trans hf2 (by simp))
      refine hK _ _ (HS2.out _ HF2.out) ?_
      clear hK K hf2
      refine htk (i := 7) (v := ?_) (by kernel_rfl) rfl (fun _ _ _ h => h) (Or.inl ⟨by rfl, ?_⟩) (HS2.out _ HF2.out) ?_
      rotate_left 1
      · (intro W hSw; obtain ⟨s0, s1, s2, s3, s4, s5, s6, s7, s8, s9, s10, s11, s12, r0, r1⟩ := hSw; (try simp only [lA, lS, lZ]); go_simp; try with_reducible rfl)
      try simp only [lA, lS, lZ, Act.put, lI, lW, lX]
      refine htk (i := 8) (v := ?_) (by kernel_rfl) rfl (fun _ _ _ h => h) (Or.inl ⟨by rfl, ?_⟩) (HS2.out _ HF2.out) ?_
      rotate_left 1
      · (intro W hSw; obtain ⟨s0, s1, s2, s3, s4, s5, s6, s7, s8, s9, s10, s11, s12, r0, r1⟩ := hSw; (try simp only [lA, lS, lZ]); go_simp; try with_reducible rfl)
      try simp only [lA, lS, lZ, Act.put, lI, lW, lX]
      refine htk (i := 9) (v := ?_) (by kernel_rfl) rfl (fun _ _ _ h => h) (Or.inl ⟨by rfl, ?_⟩) (HS2.out _ HF2.out) ?_
      rotate_left 1
      · (intro W hSw; obtain ⟨s0, s1, s2, s3, s4, s5, s6, s7, s8, s9, s10, s11, s12, r0, r1⟩ := hSw; (try simp only [lA, lS, lZ]); go_simp; try with_reducible rfl)
      try simp only [lA, lS, lZ, Act.put, lI, lW, lX]
      refine htk (i := 10) (v := undef) (by kernel_rfl) rfl (fun _ _ _ h => h) (Or.inr ⟨by rfl, rfl⟩) (HS2.out _ HF2.out) ?_
      try simp only [lA, lS, lZ, Act.put, lI, lW, lX]
      refine htk (i := 11) (v := undef) (by kernel_rfl) rfl (fun _ _ _ h => h) (Or.inr ⟨by rfl, rfl⟩) (HS2.out _ HF2.out) ?_
      try simp only [lA, lS, lZ, Act.put, lI, lW, lX]
      refine htk (i := 12) (v := undef) (by kernel_rfl) rfl (fun _ _ _ h => h) (Or.inr ⟨by rfl, rfl⟩) (HS2.out _ HF2.out) ?_
      try simp only [lA, lS, lZ, Act.put, lI, lW, lX]
      refine htk (i := 13) (v := undef) (by kernel_rfl) rfl (fun _ _ _ h => h) (Or.inr ⟨by rfl, rfl⟩) (HS2.out _ HF2.out) ?_
      try simp only [lA, lS, lZ, Act.put, lI, lW, lX]
      refine htk (i := 14) (v := undef) (by kernel_rfl) rfl (fun _ _ _ h => h) (Or.inr ⟨by rfl, rfl⟩) (HS2.out _ HF2.out) ?_
      try simp only [lA, lS, lZ, Act.put, lI, lW, lX]
      refine htk (i := 15) (v := undef) (by kernel_rfl) rfl (fun _ _ _ h => h) (Or.inr ⟨by rfl, rfl⟩) (HS2.out _ HF2.out) ?_
      try simp only [lA, lS, lZ, Act.put, lI, lW, lX]
      refine htk (i := 16) (v := undef) (by kernel_rfl) rfl (fun _ _ _ h => h) (Or.inr ⟨by rfl, rfl⟩) (HS2.out _ HF2.out) ?_
      try simp only [lA, lS, lZ, Act.put, lI, lW, lX]
      refine wpAnyHT_end (by kernel_rfl) ?_
      simp only [List.drop_succ_cons, List.drop_zero]
      go_wp2_with fail
      first | go_returns | skip
      exact HP1.out _ (by simp) (HFC.out.trans HF2.out (by simp))
    | true =>
      go_upto_region 2 with fail
      cases B with
      | false =>
        have HD : Hid (Frm [] wc wc.drew) := hid ((Frm.refl [] wc).drew)
        refine wp_region_tail (S := fun W => (W.cell? ⟨b, 0, none⟩ = some (.int .i64 kind) ∧ W.cell? ⟨b, 1, none⟩ = some (.string name) ∧ W.cell? ⟨b, 2, none⟩ = some (.int .i64 typ) ∧ W.cell? ⟨b, 3, none⟩ = some (.int .i64 frm) ∧ W.cell? ⟨b, 4, none⟩ = some (.int .i64 guid) ∧ W.cell? ⟨b, 5, none⟩ = some (.int .i64 origin) ∧ W.cell? ⟨b, 6, none⟩ = some (.string snap) ∧ W.cell? ⟨b, 7, none⟩ = some (.slice pp pn pc) ∧ W.cell? ⟨b, 8, none⟩ = some (.int .i64 obj) ∧ W.cell? ⟨b, 9, none⟩ = some (.int .i64 at_) ∧ W.cell? ⟨b, 10, none⟩ = some (.int .i64 many) ∧ W.cell? ⟨b, 11, none⟩ = some (.slice kp kn kc) ∧ W.cell? ⟨b, 12, none⟩ = some (.slice dp dl dc) ∧ W.cell? ⟨rb, 0, none⟩ = some (.func (.func fm) #[] #[]) ∧ W.cell? ⟨rb, 1, none⟩ = some (.func (.func fo) #[] #[]))) 17 18 rfl (by kernel_rfl) (by kernel_rfl) ?_
        refine htk (i := 0) (v := ?_) (by kernel_rfl) rfl (fun _ _ _ h => h) (Or.inl ⟨by rfl, ?_⟩) (HS2.out _ HD.out) ?_
        rotate_left 1
        · (intro W hSw; obtain ⟨s0, s1, s2, s3, s4, s5, s6, s7, s8, s9, s10, s11, s12, r0, r1⟩ := hSw; (try simp only [lA, lZ]); go_simp; try with_reducible rfl)
        try simp only [lA, lZ, Act.put, lI, lW, lX]
        refine htk (i := 1) (v := ?_) (by kernel_rfl) rfl (fun _ _ _ h => h) (Or.inl ⟨by rfl, ?_⟩) (HS2.out _ HD.out) ?_
        rotate_left 1
        · (intro W hSw; obtain ⟨s0, s1, s2, s3, s4, s5, s6, s7, s8, s9, s10, s11, s12, r0, r1⟩ := hSw; (try simp only [lA, lS, lZ]); go_simp; try with_reducible rfl)
        try simp only [lA, lS, lZ, Act.put, lI, lW, lX]
        refine htk (i := 2) (v := ?_) (by kernel_rfl) rfl (fun _ _ _ h => h) (Or.inl ⟨by rfl, ?_⟩) (HS2.out _ HD.out) ?_
        rotate_left 1
        · (intro W hSw; obtain ⟨s0, s1, s2, s3, s4, s5, s6, s7, s8, s9, s10, s11, s12, r0, r1⟩ := hSw; (try simp only [lA, lS, lZ]); go_simp; try with_reducible rfl)
        try simp only [lA, lS, lZ, Act.put, lI, lW, lX]
        refine htk (i := 3) (v := ?_) (by kernel_rfl) rfl (fun _ _ _ h => h) (Or.inl ⟨by rfl, ?_⟩) (HS2.out _ HD.out) ?_
        rotate_left 1
        · (intro W hSw; obtain ⟨s0, s1, s2, s3, s4, s5, s6, s7, s8, s9, s10, s11, s12, r0, r1⟩ := hSw; (try simp only [lA, lS, lZ]); go_simp; try with_reducible rfl)
        try simp only [lA, lS, lZ, Act.put, lI, lW, lX]
        refine htk (i := 4) (v := ?_) (by kernel_rfl) rfl (fun _ _ _ h => h) (Or.inl ⟨by rfl, ?_⟩) (HS2.out _ HD.out) ?_
        rotate_left 1
        · (intro W hSw; obtain ⟨s0, s1, s2, s3, s4, s5, s6, s7, s8, s9, s10, s11, s12, r0, r1⟩ := hSw; (try simp only [lA, lS, lZ]); go_simp; try with_reducible rfl)
        try simp only [lA, lS, lZ, Act.put, lI, lW, lX]
        refine htk (i := 5) (v := ?_) (by kernel_rfl) rfl (fun _ _ _ h => h) (Or.inl ⟨by rfl, ?_⟩) (HS2.out _ HD.out) ?_
        rotate_left 1
        · (intro W hSw; obtain ⟨s0, s1, s2, s3, s4, s5, s6, s7, s8, s9, s10, s11, s12, r0, r1⟩ := hSw; (try simp only [lA, lS, lZ]); go_simp; try with_reducible rfl)
        try simp only [lA, lS, lZ, Act.put, lI, lW, lX]
        refine wpAnyHT_one (i := 6) rfl (by kernel_rfl) (by kernel_rfl) (fun K hK => ?_)
        try simp only [lA, lS, lZ]
        go_simp
        rw [hfm.out, Oper.upon_enter]
        refine (HM.out _ (HFC.out.trans HD.out (by simp))).mono ?_
        rintro e w2 ⟨rfl, hf2⟩
        have HF2 : Hid (Frm [] wc w2) := hid (HD.out.trans hf2 (by simp))
        refine hK _ _ (HS2.out _ HF2.out) ?_
        clear hK K hf2
        refine htk (i := 7) (v := ?_) (by kernel_rfl) rfl (fun _ _ _ h => h) (Or.inl ⟨by rfl, ?_⟩) (HS2.out _ HF2.out) ?_
        rotate_left 1
        · (intro W hSw; obtain ⟨s0, s1, s2, s3, s4, s5, s6, s7, s8, s9, s10, s11, s12, r0, r1⟩ := hSw; (try simp only [lA, lS, lZ]); go_simp; try with_reducible rfl)
        try simp only [lA, lS, lZ, Act.put, lI, lW, lX]
        refine htk (i := 8) (v := ?_) (by kernel_rfl) rfl (fun _ _ _ h => h) (Or.inl ⟨by rfl, ?_⟩) (HS2.out _ HF2.out) ?_
        rotate_left 1
        · (intro W hSw; obtain ⟨s0, s1, s2, s3, s4, s5, s6, s7, s8, s9, s10, s11, s12, r0, r1⟩ := hSw; (try simp only [lA, lS, lZ]); go_simp; try with_reducible rfl)
        try simp only [lA, lS, lZ, Act.put, lI, lW, lX]
        refine htk (i := 9) (v := ?_) (by kernel_rfl) rfl (fun _ _ _ h => h) (Or.inl ⟨by rfl, ?_⟩) (HS2.out _ HF2.out) ?_
        rotate_left 1
        · (intro W hSw; obtain ⟨s0, s1, s2, s3, s4, s5, s6, s7, s8, s9, s10, s11, s12, r0, r1⟩ := hSw; (try simp only [lA, lS, lZ]); go_simp; try with_reducible rfl)
        try simp only [lA, lS, lZ, Act.put, lI, lW, lX]
        refine htk (i := 10) (v := ?_) (by kernel_rfl) rfl (fun _ _ _ h => h) (Or.inl ⟨by rfl, ?_⟩) (HS2.out _ HF2.out) ?_
        rotate_left 1
        · (intro W hSw; obtain ⟨s0, s1, s2, s3, s4, s5, s6, s7, s8, s9, s10, s11, s12, r0, r1⟩ := hSw; (try simp only [lA, lS, lZ]); go_simp; try with_reducible rfl)
        try simp only [lA, lS, lZ, Act.put, lI, lW, lX]
        refine htk (i := 11) (v := ?_) (by kernel_rfl) rfl (fun _ _ _ h => h) (Or.inl ⟨by rfl, ?_⟩) (HS2.out _ HF2.out) ?_
        rotate_left 1
        · (intro W hSw; obtain ⟨s0, s1, s2, s3, s4, s5, s6, s7, s8, s9, s10, s11, s12, r0, r1⟩ := hSw; (try simp only [lA, lS, lZ]); go_simp; try with_reducible rfl)
        try simp only [lA, lS, lZ, Act.put, lI, lW, lX]
        refine htk (i := 12) (v := ?_) (by kernel_rfl) rfl (fun _ _ _ h => h) (Or.inl ⟨by rfl, ?_⟩) (HS2.out _ HF2.out) ?_
        rotate_left 1
        · (intro W hSw; obtain ⟨s0, s1, s2, s3, s4, s5, s6, s7, s8, s9, s10, s11, s12, r0, r1⟩ := hSw; (try simp only [lA, lS, lZ]); go_simp; try with_reducible rfl)
        try simp only [lA, lS, lZ, Act.put, lI, lW, lX]
        refine htk (i := 13) (v := ?_) (by kernel_rfl) rfl (fun _ _ _ h => h) (Or.inl ⟨by rfl, ?_⟩) (HS2.out _ HF2.out) ?_
        rotate_left 1
        · (intro W hSw; obtain ⟨s0, s1, s2, s3, s4, s5, s6, s7, s8, s9, s10, s11, s12, r0, r1⟩ := hSw; (try simp only [lA, lS, lZ]); go_simp; try with_reducible rfl)
        try simp only [lA, lS, lZ, Act.put, lI, lW, lX]
        refine wpAnyHT_one (i := 14) rfl (by kernel_rfl) (by kernel_rfl) (fun K hK => ?_)
        try simp only [lA, lS, lZ]
        go_simp
        rw [hfo.out, Oper.upon_enter]
        refine (HO.out _ (HFC.out.trans HF2.out (by simp))).mono ?_
        rintro e w3 ⟨rfl, hf3⟩
        have HF3 : Hid (Frm [] wc w3) := hid (HF2.out.trans hf3 (by simp))
        refine hK _ _ (HS2.out _ HF3.out) ?_
        clear hK K hf3
        refine wpAnyHT_one (i := 15) rfl (by kernel_rfl) (by kernel_rfl) (fun K hK => ?_)
        try simp only [lA, lS, lZ]
        go_simp
        refine (HS.out _ (HFC.out.trans HF3.out (by simp))).mono ?_
        rintro e w4 ⟨rfl, hf4⟩
        have HF4 : Hid (Frm [] wc w4) := hid (HF3.out.trans hf4 (by simp))
        refine hK _ _ (HS2.out _ HF4.out) ?_
        clear hK K hf4
        refine htk (i := 16) (v := ?_) (by kernel_rfl) rfl (fun _ _ _ h => h) (Or.inl ⟨by rfl, ?_⟩) (HS2.out _ HF4.out) ?_
        rotate_left 1
        · (intro W hSw; obtain ⟨s0, s1, s2, s3, s4, s5, s6, s7, s8, s9, s10, s11, s12, r0, r1⟩ := hSw; (try simp only [lA, lS, lZ]); go_simp; try with_reducible rfl)
        try simp only [lA, lS, lZ, Act.put, lI, lW, lX]
        refine wpAnyHT_end (by kernel_rfl) ?_
        simp only [List.drop_succ_cons, List.drop_zero]
        go_wp2_with fail
        first | go_returns | skip
        exact HP1.out _ (fun h => absurd (HBS.out.2 h.2) (by simp)) (HFC.out.trans HF4.out (by simp))
      | true =>
        have HD : Hid (Frm [] wc wc.drew) := hid ((Frm.refl [] wc).drew)
        refine wp_region_tail (S := fun W => (W.cell? ⟨b, 0, none⟩ = some (.int .i64 kind) ∧ W.cell? ⟨b, 1, none⟩ = some (.string name) ∧ W.cell? ⟨b, 2, none⟩ = some (.int .i64 typ) ∧ W.cell? ⟨b, 3, none⟩ = some (.int .i64 frm) ∧ W.cell? ⟨b, 4, none⟩ = some (.int .i64 guid) ∧ W.cell? ⟨b, 5, none⟩ = some (.int .i64 origin) ∧ W.cell? ⟨b, 6, none⟩ = some (.string snap) ∧ W.cell? ⟨b, 7, none⟩ = some (.slice pp pn pc) ∧ W.cell? ⟨b, 8, none⟩ = some (.int .i64 obj) ∧ W.cell? ⟨b, 9, none⟩ = some (.int .i64 at_) ∧ W.cell? ⟨b, 10, none⟩ = some (.int .i64 many) ∧ W.cell? ⟨b, 11, none⟩ = some (.slice kp kn kc) ∧ W.cell? ⟨b, 12, none⟩ = some (.slice dp dl dc) ∧ W.cell? ⟨rb, 0, none⟩ = some (.func (.func fm) #[] #[]) ∧ W.cell? ⟨rb, 1, none⟩ = some (.func (.func fo) #[] #[]))) 17 18 rfl (by kernel_rfl) (by kernel_rfl) ?_
        refine htk (i := 0) (v := ?_) (by kernel_rfl) rfl (fun _ _ _ h => h) (Or.inl ⟨by rfl, ?_⟩) (HS2.out _ HD.out) ?_
        rotate_left 1
        · (intro W hSw; obtain ⟨s0, s1, s2, s3, s4, s5, s6, s7, s8, s9, s10, s11, s12, r0, r1⟩ := hSw; (try simp only [lA, lZ]); go_simp; try with_reducible rfl)
        try simp only [lA, lZ, Act.put, lI, lW, lX]
        refine htk (i := 1) (v := ?_) (by kernel_rfl) rfl (fun _ _ _ h => h) (Or.inl ⟨by rfl, ?_⟩) (HS2.out _ HD.out) ?_
        rotate_left 1
        · (intro W hSw; obtain ⟨s0, s1, s2, s3, s4, s5, s6, s7, s8, s9, s10, s11, s12, r0, r1⟩ := hSw; (try simp only [lA, lS, lZ]); go_simp; try with_reducible rfl)
        try simp only [lA, lS, lZ, Act.put, lI, lW, lX]
        refine htk (i := 2) (v := ?_) (by kernel_rfl) rfl (fun _ _ _ h => h) (Or.inl ⟨by rfl, ?_⟩) (HS2.out _ HD.out) ?_
        rotate_left 1
        · (intro W hSw; obtain ⟨s0, s1, s2, s3, s4, s5, s6, s7, s8, s9, s10, s11, s12, r0, r1⟩ := hSw; (try simp only [lA, lS, lZ]); go_simp; try with_reducible rfl)
        try simp only [lA, lS, lZ, Act.put, lI, lW, lX]
        refine htk (i := 3) (v := ?_) (by kernel_rfl) rfl (fun _ _ _ h => h) (Or.inl ⟨by rfl, ?_⟩) (HS2.out _ HD.out) ?_
        rotate_left 1
        · (intro W hSw; obtain ⟨s0, s1, s2, s3, s4, s5, s6, s7, s8, s9, s10, s11, s12, r0, r1⟩ := hSw; (try simp only [lA, lS, lZ]); go_simp; try with_reducible rfl)
        try simp only [lA, lS, lZ, Act.put, lI, lW, lX]
        refine htk (i := 4) (v := ?_) (by kernel_rfl) rfl (fun _ _ _ h => h) (Or.inl ⟨by rfl, ?_⟩) (HS2.out _ HD.out) ?_
        rotate_left 1
        · (intro W hSw; obtain ⟨s0, s1, s2, s3, s4, s5, s6, s7, s8, s9, s10, s11, s12, r0, r1⟩ := hSw; (try simp only [lA, lS, lZ]); go_simp; try with_reducible rfl)
        try simp only [lA, lS, lZ, Act.put, lI, lW, lX]
        refine htk (i := 5) (v := ?_) (by kernel_rfl) rfl (fun _ _ _ h => h) (Or.inl ⟨by rfl, ?_⟩) (HS2.out _ HD.out) ?_
        rotate_left 1
        · (intro W hSw; obtain ⟨s0, s1, s2, s3, s4, s5, s6, s7, s8, s9, s10, s11, s12, r0, r1⟩ := hSw; (try simp only [lA, lS, lZ]); go_simp; try with_reducible rfl)
        try simp only [lA, lS, lZ, Act.put, lI, lW, lX]
        refine wpAnyHT_one (i := 6) rfl (by kernel_rfl) (by kernel_rfl) (fun K hK => ?_)
        try simp only [lA, lS, lZ]
        go_simp
        rw [hfm.out, Oper.upon_enter]
        refine (HM.out _ (HFC.out.trans HD.out (by simp))).mono ?_
        rintro e w2 ⟨rfl, hf2⟩
        have HF2 : Hid (Frm [] wc w2) := hid (HD.out.trans hf2 (by simp))
        refine hK _ _ (HS2.out _ HF2.out) ?_
        clear hK K hf2
        refine htk (i := 7) (v := ?_) (by kernel_rfl) rfl (fun _ _ _ h => h) (Or.inl ⟨by rfl, ?_⟩) (HS2.out _ HF2.out) ?_
        rotate_left 1
        · (intro W hSw; obtain ⟨s0, s1, s2, s3, s4, s5, s6, s7, s8, s9, s10, s11, s12, r0, r1⟩ := hSw; (try simp only [lA, lS, lZ]); go_simp; try with_reducible rfl)
        try simp only [lA, lS, lZ, Act.put, lI, lW, lX]
        refine htk (i := 8) (v := ?_) (by kernel_rfl) rfl (fun _ _ _ h => h) (Or.inl ⟨by rfl, ?_⟩) (HS2.out _ HF2.out) ?_
        rotate_left 1
        · (intro W hSw; obtain ⟨s0, s1, s2, s3, s4, s5, s6, s7, s8, s9, s10, s11, s12, r0, r1⟩ := hSw; (try simp only [lA, lS, lZ]); go_simp; try with_reducible rfl)
        try simp only [lA, lS, lZ, Act.put, lI, lW, lX]
        refine htk (i := 9) (v := ?_) (by kernel_rfl) rfl (fun _ _ _ h => h) (Or.inl ⟨by rfl, ?_⟩) (HS2.out _ HF2.out) ?_
        rotate_left 1
        · (intro W hSw; obtain ⟨s0, s1, s2, s3, s4, s5, s6, s7, s8, s9, s10, s11, s12, r0, r1⟩ := hSw; (try simp only [lA, lS, lZ]); go_simp; try with_reducible rfl)
        try simp only [lA, lS, lZ, Act.put, lI, lW, lX]
        refine htk (i := 10) (v := ?_) (by kernel_rfl) rfl (fun _ _ _ h => h) (Or.inl ⟨by rfl, ?_⟩) (HS2.out _ HF2.out) ?_
        rotate_left 1
        · (intro W hSw; obtain ⟨s0, s1, s2, s3, s4, s5, s6, s7, s8, s9, s10, s11, s12, r0, r1⟩ := hSw; (try simp only [lA, lS, lZ]); go_simp; try with_reducible rfl)
        try simp only [lA, lS, lZ, Act.put, lI, lW, lX]
        refine htk (i := 11) (v := ?_) (by kernel_rfl) rfl (fun _ _ _ h => h) (Or.inl ⟨by rfl, ?_⟩) (HS2.out _ HF2.out) ?_
        rotate_left 1
        · (intro W hSw; obtain ⟨s0, s1, s2, s3, s4, s5, s6, s7, s8, s9, s10, s11, s12, r0, r1⟩ := hSw; (try simp only [lA, lS, lZ]); go_simp; try with_reducible rfl)
        try simp only [lA, lS, lZ, Act.put, lI, lW, lX]
        refine htk (i := 12) (v := ?_) (by kernel_rfl) rfl (fun _ _ _ h => h) (Or.inl ⟨by rfl, ?_⟩) (HS2.out _ HF2.out) ?_
        rotate_left 1
        · (intro W hSw; obtain ⟨s0, s1, s2, s3, s4, s5, s6, s7, s8, s9, s10, s11, s12, r0, r1⟩ := hSw; (try simp only [lA, lS, lZ]); go_simp; try with_reducible rfl)
        try simp only [lA, lS, lZ, Act.put, lI, lW, lX]
        refine htk (i := 13) (v := ?_) (by kernel_rfl) rfl (fun _ _ _ h => h) (Or.inl ⟨by rfl, ?_⟩) (HS2.out _ HF2.out) ?_
        rotate_left 1
        · (intro W hSw; obtain ⟨s0, s1, s2, s3, s4, s5, s6, s7, s8, s9, s10, s11, s12, r0, r1⟩ := hSw; (try simp only [lA, lS, lZ]); go_simp; try with_reducible rfl)
        try simp only [lA, lS, lZ, Act.put, lI, lW, lX]
        refine wpAnyHT_one (i := 14) rfl (by kernel_rfl) (by kernel_rfl) (fun K hK => ?_)
        try simp only [lA, lS, lZ]
        go_simp
        rw [hfo.out, Oper.upon_enter]
        refine (HO.out _ (HFC.out.trans HF2.out (by simp))).mono ?_
        rintro e w3 ⟨rfl, hf3⟩
        have HF3 : Hid (Frm [] wc w3) := hid (HF2.out.trans hf3 (by simp))
        refine hK _ _ (HS2.out _ HF3.out) ?_
        clear hK K hf3
        refine wpAnyHT_one (i := 15) rfl (by kernel_rfl) (by kernel_rfl) (fun K hK => ?_)
        try simp only [lA, lS, lZ]
        go_simp
        refine (HS.out _ (HFC.out.trans HF3.out (by simp))).mono ?_
        rintro e w4 ⟨rfl, hf4⟩
        have HF4 : Hid (Frm [] wc w4) := hid (HF3.out.trans hf4 (by simp))
        refine hK _ _ (HS2.out _ HF4.out) ?_
        clear hK K hf4
        refine htk (i := 16) (v := ?_) (by kernel_rfl) rfl (fun _ _ _ h => h) (Or.inl ⟨by rfl, ?_⟩) (HS2.out _ HF4.out) ?_
        rotate_left 1
        · (intro W hSw; obtain ⟨s0, s1, s2, s3, s4, s5, s6, s7, s8, s9, s10, s11, s12, r0, r1⟩ := hSw; (try simp only [lA, lS, lZ]); go_simp; try with_reducible rfl)
        try simp only [lA, lS, lZ, Act.put, lI, lW, lX]
        refine wpAnyHT_end (by kernel_rfl) ?_
        simp only [List.drop_succ_cons, List.drop_zero]
        go_wp2_with fail
        first | go_returns | skip
        exact HP0.out _ ⟨by trivial, HBS.out.1 (by trivial)⟩ (HFC.out.trans HF4.out (by simp))
set_option maxHeartbeats 6400000 in
/-- A kind without a row. -/
theorem check_none (r : Rc) (w : World) (hk : lkT r.kind = none) : Calls Tryz.prog 9 #[.agg r.arr] w fun e w' => e = .returned (.int .i64 200) ∧ Frm [] w w' := by
  obtain ⟨PO, hPO⟩ : ∃ PO : Ending → World → Prop, (fun e w' => e = .returned (.int .i64 200) ∧ Frm [] w w') = PO := ⟨_, rfl⟩
  rw [hPO]
  have HP1 : Hid (∀ w', Frm [] w w' → PO (.returned (.int .i64 200)) w') := hid (fun w' h2 => by rw [← hPO]; exact ⟨rfl, h2⟩)
  clear hPO
  obtain ⟨wb, hwb⟩ : ∃ z, w.alloc (.cells r.arr 26) = z := ⟨_, rfl⟩
  have hrow := heap_alloc_new w (.cells r.arr 26)
  have hfb : Frm [] w wb := by rw [← hwb]; exact (Frm.refl _ _).alloc _
  obtain ⟨b, hb⟩ : ∃ z, w.heap.size = z := ⟨_, rfl⟩
  rw [hwb, hb] at hrow
  have HX := hid (fun V (hf : Frm [] wb V) => rc_cells (hf.heap hrow (by simp)))
  have HFB := hid hfb
  have HWB := hid hwb
  have HB := hid hb
  have hlk : ∀ (W : World) (m : Nat), W.heap[m]? = some (.map (rowsT 7) 7) → (Instr.lookup 60 (.map (some m)) (.int .i64 r.kind) true).run Tryz.prog W = .ok (.tuple #[.agg #[.nilFunc, .nilFunc, .nilFunc, .nilFunc], .bool false]) W := fun W m h => by
    have h2 := run_lookR (P := Tryz.prog) (w := W) 60 3 58 m 7 (rowsT 7) r.kind (.agg #[.nilFunc, .nilFunc, .nilFunc, .nilFunc]) Tryz.underlying60 Tryz.underlying3 (by kernel_rfl) h (rowsT_int 7)
    rw [lkT_of, hk] at h2
    exact h2
  clear hk hwb hfb hb hrow
  obtain ⟨kind, name, typ, frm, guid, origin, snap, pp, pn, pc, obj, at_, many, kp, kn, kc, dp, dl, dc⟩ := r
  unfold Rc.arr at HWB ⊢
  simp only at HX hlk HWB ⊢
  obtain ⟨y0, y1, y2, y3, y4, y5, y6, y7, y8, y9, y10, y11, y12⟩ := HX.out wb (Frm.refl _ _)
  go_enter Tryz.func9, Tryz.ntmps9
  go_upto_region 1 with fail
  first | rw [HWB.out] | skip
  first | rw [HB.out] | skip
  go_cut [3, 4] (fun a t wx => ∃ rb, a = .pointer (some ⟨rb, 0, none⟩) ∧ t = .bool false ∧ Hid (wx.heap[rb]? = some (.cells #[.nilFunc, .nilFunc, .nilFunc, .nilFunc] 58 (0, 0))) ∧ Hid (Frm [] wb wx) ∧ Hid (wb.heap.size ≤ rb))
  case first =>
    have s0 : wb.drew.cell? ⟨b, 0, none⟩ = some (.int .i64 kind) := y0
    refine wp_region_tail (S := fun W => (W.cell? ⟨b, 0, none⟩ = some (.int .i64 kind))) 9 10 rfl (by kernel_rfl) (by kernel_rfl) ?_
    refine htk (i := 1) (v := ?_) (by kernel_rfl) rfl (fun _ _ _ h => h) (Or.inl ⟨by rfl, ?_⟩) s0 ?_
    rotate_left 1
    · (intro W hSw; obtain s0 := hSw; (try simp only [lA, lS, lZ]); go_simp; try with_reducible rfl)
    try simp only [lA, lS, lZ, Act.put, lI, lW, lX]
    refine htk (i := 2) (v := ?_) (by kernel_rfl) rfl (fun _ _ _ h => h) (Or.inl ⟨by rfl, ?_⟩) s0 ?_
    rotate_left 1
    · (intro W hSw; obtain s0 := hSw; (try simp only [lA, lS, lZ]); go_simp; try with_reducible rfl)
    try simp only [lA, lS, lZ, Act.put, lI, lW, lX]
    refine wpAnyHT_two (i := 0) (j := 7) rfl rfl (by kernel_rfl) (by kernel_rfl) (by kernel_rfl) (fun K hK => ?_) (fun K hK => ?_)
    · try simp only [lA, lZ]
      go_simp
      refine (rows_any _).mono ?_
      rintro e w1 ⟨m, rfl, hm, hmap, hf1⟩
      have s1 : w1.cell? ⟨b, 0, none⟩ = some (.int .i64 kind) := (hf1.cell (World.block_lt_of_cell? _ _ s0) (by simp)).trans s0
      refine hK _ _ s1 ?_
      clear hK K
      refine wpAnyHT_str (S' := fun W => W.cell? ⟨b, 0, none⟩ = some (.int .i64 kind) ∧ W.heap[m]? = some (.map (rowsT 7) 7)) (fun _ h => h.1) _ _ _ _ ?_
      refine htk (i := 3) (v := ?_) (by kernel_rfl) rfl (fun _ _ _ h => h) (Or.inl ⟨by rfl, ?_⟩) ⟨s1, hmap⟩ ?_
      rotate_left 1
      · (intro W hSw; obtain ⟨s0, sm⟩ := hSw; have hl := hlk W m sm; (try simp only [lA, lS, lZ]); go_simp; try with_reducible rfl)
      try simp only [lA, lS, lZ, Act.put, lI, lW, lX]
      refine htk (i := 4) (v := ?_) (by kernel_rfl) rfl (fun _ _ _ h => h) (Or.inl ⟨by rfl, ?_⟩) ⟨s1, hmap⟩ ?_
      rotate_left 1
      · (intro W hSw; obtain ⟨s0, sm⟩ := hSw; (try simp only [lA, lS, lZ]); go_simp; try with_reducible rfl)
      try simp only [lA, lS, lZ, Act.put, lI, lW, lX]
      refine htk (i := 5) (v := ?_) (by kernel_rfl) rfl (fun _ _ _ h => h) (Or.inl ⟨by rfl, ?_⟩) ⟨s1, hmap⟩ ?_
      rotate_left 1
      · (intro W hSw; obtain ⟨s0, sm⟩ := hSw; (try simp only [lA, lS, lZ]); go_simp; try with_reducible rfl)
      try simp only [lA, lS, lZ, Act.put, lI, lW, lX]
      refine htk (i := 6) (v := ?_) (by kernel_rfl) rfl (fun _ _ _ h => h) (Or.inl ⟨by rfl, ?_⟩) ⟨s1, hmap⟩ ?_
      rotate_left 1
      · (intro W hSw; obtain ⟨s0, sm⟩ := hSw; (try simp only [lA, lS, lZ]); go_simp; try with_reducible rfl)
      try simp only [lA, lS, lZ, Act.put, lI, lW, lX]
      refine wpAnyHT_one (i := 7) rfl (by kernel_rfl) (by kernel_rfl) (fun K hK => ?_)
      try simp only [lA, lS, lZ]
      go_simp
      refine hK _ _ ⟨(((Frm.refl [] w1).alloc _).cell (World.block_lt_of_cell? _ _ s1) (by simp)).trans s1, ((Frm.refl [] w1).alloc _).heap hmap (by simp)⟩ ?_
      clear hK K
      try simp only [lA, lS, lZ, Act.put, lI, lW, lX]
      have hq := heap_alloc_new w1 (.cells #[.nilFunc, .nilFunc, .nilFunc, .nilFunc] 58)
      obtain ⟨rb, hrb⟩ : ∃ z, w1.heap.size = z := ⟨_, rfl⟩
      obtain ⟨Wq, hWq⟩ : ∃ z, w1.alloc (.cells #[.nilFunc, .nilFunc, .nilFunc, .nilFunc] 58) = z := ⟨_, rfl⟩
      have hfq : Frm [] wb Wq := by rw [← hWq]; exact (((Frm.refl [] wb).drew.trans hf1 (by simp)).alloc _)
      have hlo : wb.heap.size ≤ rb := by rw [← hrb]; exact hf1.size
      have sq : Wq.cell? ⟨b, 0, none⟩ = some (.int .i64 kind) ∧ Wq.heap[m]? = some (.map (rowsT 7) 7) := by rw [← hWq]; exact ⟨(((Frm.refl [] w1).alloc _).cell (World.block_lt_of_cell? _ _ s1) (by simp)).trans s1, ((Frm.refl [] w1).alloc _).heap hmap (by simp)⟩
      have hne : ¬ b = rb := by have h1 := World.block_lt_of_cell? _ _ s1; have h2 := hrb; simp only at h1; omega
      have hnm : ¬ m = rb := by have h1 := lt_of_heap hmap; omega
      rw [hWq, hrb] at hq
      first | rw [hWq] | skip
      first | rw [hrb] | skip
      have z0 : Wq.cell? ⟨rb, 0, none⟩ = some .nilFunc := by rw [cell_of_row _ _ _ _ _ _ hq]; rfl
      have z1 : Wq.cell? ⟨rb, 1, none⟩ = some .nilFunc := by rw [cell_of_row _ _ _ _ _ _ hq]; rfl
      have z2 : Wq.cell? ⟨rb, 2, none⟩ = some .nilFunc := by rw [cell_of_row _ _ _ _ _ _ hq]; rfl
      have z3 : Wq.cell? ⟨rb, 3, none⟩ = some .nilFunc := by rw [cell_of_row _ _ _ _ _ _ hq]; rfl
      have x0 := frozen_of_row Wq rb 0 _ _ hq
      have x1 := frozen_of_row Wq rb 1 _ _ hq
      have x2 := frozen_of_row Wq rb 2 _ _ hq
      have x3 := frozen_of_row Wq rb 3 _ _ hq
      obtain ⟨h4, f4⟩ := sets_rowF rb 58 [(0, .nilFunc), (1, .nilFunc), (2, .nilFunc), (3, .nilFunc)] Wq _ hq
      simp only [List.foldl, List.setIfInBounds_toArray, List.set_cons_zero, List.set_cons_succ] at h4
      obtain ⟨Wz, hWz⟩ : ∃ z, setsF Wq rb [(0, .nilFunc), (1, .nilFunc), (2, .nilFunc), (3, .nilFunc)] = z := ⟨_, rfl⟩
      rw [hWz] at h4 f4
      have hwz : ((((Wq.setCell ⟨rb, 0, none⟩ (.nilFunc)).setCell ⟨rb, 1, none⟩ (.nilFunc)).setCell ⟨rb, 2, none⟩ (.nilFunc)).setCell ⟨rb, 3, none⟩ (.nilFunc)) = Wz := hWz
      refine wpAnyHT_one (i := 8) rfl (by kernel_rfl) (by kernel_rfl) (fun K hK => ?_)
      try simp only [lA, lS, lZ]
      go_simp
      try rw [hwz]
      refine hK _ _ ⟨(f4.cell (World.block_lt_of_cell? _ _ sq.1) (by simpa using hne)).trans sq.1, f4.heap sq.2 (by simpa using hnm)⟩ ?_
      clear hK K
      refine wpAnyHT_end (by kernel_rfl) ?_
      simp only [List.drop_succ_cons, List.drop_zero]
      go_wp2_with fail
      go_meet
      exact ⟨rb, rfl, rfl, hid h4, hid (hfq.trans f4 (fun i hi hl => by rw [List.mem_singleton] at hi; have := hlo; omega)), hid hlo⟩
    · have ha := heap_alloc_new wb.drew (.cells #[.nilFunc, .nilFunc, .nilFunc, .nilFunc] 58)
      try simp only [lA, lS, lZ]
      go_simp
      refine hK _ _ ((((Frm.refl [] wb).drew.alloc _).cell (World.block_lt_of_cell? _ _ y0) (by simp)).trans y0) ?_
      clear hK K
      try simp only [lA, lS, lZ, Act.put, lI, lW, lX]
      refine wpAnyHT_one (i := 0) rfl (by kernel_rfl) (by kernel_rfl) (fun K hK => ?_)
      try simp only [lA, lZ]
      go_simp
      refine (rows_any _).mono ?_
      rintro e w1 ⟨m, rfl, hm, hmap, hf1⟩
      have sa := ((((Frm.refl [] wb).drew.alloc (.cells #[.nilFunc, .nilFunc, .nilFunc, .nilFunc] 58)).cell (World.block_lt_of_cell? _ _ y0) (by simp)).trans y0)
      have s1 : w1.cell? ⟨b, 0, none⟩ = some (.int .i64 kind) := (hf1.cell (World.block_lt_of_cell? _ _ sa) (by simp)).trans sa
      refine hK _ _ s1 ?_
      clear hK K
      refine wpAnyHT_str (S' := fun W => W.cell? ⟨b, 0, none⟩ = some (.int .i64 kind) ∧ W.heap[m]? = some (.map (rowsT 7) 7)) (fun _ h => h.1) _ _ _ _ ?_
      refine htk (i := 3) (v := ?_) (by kernel_rfl) rfl (fun _ _ _ h => h) (Or.inl ⟨by rfl, ?_⟩) ⟨s1, hmap⟩ ?_
      rotate_left 1
      · (intro W hSw; obtain ⟨s0, sm⟩ := hSw; have hl := hlk W m sm; (try simp only [lA, lS, lZ]); go_simp; try with_reducible rfl)
      try simp only [lA, lS, lZ, Act.put, lI, lW, lX]
      refine htk (i := 4) (v := ?_) (by kernel_rfl) rfl (fun _ _ _ h => h) (Or.inl ⟨by rfl, ?_⟩) ⟨s1, hmap⟩ ?_
      rotate_left 1
      · (intro W hSw; obtain ⟨s0, sm⟩ := hSw; (try simp only [lA, lS, lZ]); go_simp; try with_reducible rfl)
      try simp only [lA, lS, lZ, Act.put, lI, lW, lX]
      refine htk (i := 5) (v := ?_) (by kernel_rfl) rfl (fun _ _ _ h => h) (Or.inl ⟨by rfl, ?_⟩) ⟨s1, hmap⟩ ?_
      rotate_left 1
      · (intro W hSw; obtain ⟨s0, sm⟩ := hSw; (try simp only [lA, lS, lZ]); go_simp; try with_reducible rfl)
      try simp only [lA, lS, lZ, Act.put, lI, lW, lX]
      refine htk (i := 6) (v := ?_) (by kernel_rfl) rfl (fun _ _ _ h => h) (Or.inl ⟨by rfl, ?_⟩) ⟨s1, hmap⟩ ?_
      rotate_left 1
      · (intro W hSw; obtain ⟨s0, sm⟩ := hSw; (try simp only [lA, lS, lZ]); go_simp; try with_reducible rfl)
      try simp only [lA, lS, lZ, Act.put, lI, lW, lX]
      have hq := hf1.heap ha (by simp)
      obtain ⟨Wq, hWq⟩ : ∃ z, w1 = z := ⟨_, rfl⟩
      have hfq : Frm [] wb Wq := by rw [← hWq]; exact ((Frm.refl [] wb).drew.alloc _).trans hf1 (by simp)
      obtain ⟨rb, hrb⟩ : ∃ z, wb.drew.heap.size = z := ⟨_, rfl⟩
      have hlo : wb.heap.size ≤ rb := by rw [← hrb]; exact Nat.le_refl _
      rw [hWq] at hq hmap s1 hf1
      rw [hrb] at hq
      first | rw [hWq] | skip
      have hrb2 : wb.heap.size = rb := hrb
      first | rw [hrb] | skip
      first | rw [hrb2] | skip
      have sq : Wq.cell? ⟨b, 0, none⟩ = some (.int .i64 kind) ∧ Wq.heap[m]? = some (.map (rowsT 7) 7) := ⟨s1, hmap⟩
      have hne : ¬ b = rb := by have h1 := World.block_lt_of_cell? _ _ y0; simp only at h1; omega
      have hnm : ¬ m = rb := by have h1 := hm; simp at h1; omega
      have z0 : Wq.cell? ⟨rb, 0, none⟩ = some .nilFunc := by rw [cell_of_row _ _ _ _ _ _ hq]; rfl
      have z1 : Wq.cell? ⟨rb, 1, none⟩ = some .nilFunc := by rw [cell_of_row _ _ _ _ _ _ hq]; rfl
      have z2 : Wq.cell? ⟨rb, 2, none⟩ = some .nilFunc := by rw [cell_of_row _ _ _ _ _ _ hq]; rfl
      have z3 : Wq.cell? ⟨rb, 3, none⟩ = some .nilFunc := by rw [cell_of_row _ _ _ _ _ _ hq]; rfl
      have x0 := frozen_of_row Wq rb 0 _ _ hq
      have x1 := frozen_of_row Wq rb 1 _ _ hq
      have x2 := frozen_of_row Wq rb 2 _ _ hq
      have x3 := frozen_of_row Wq rb 3 _ _ hq
      obtain ⟨h4, f4⟩ := sets_rowF rb 58 [(0, .nilFunc), (1, .nilFunc), (2, .nilFunc), (3, .nilFunc)] Wq _ hq
      simp only [List.foldl, List.setIfInBounds_toArray, List.set_cons_zero, List.set_cons_succ] at h4
      obtain ⟨Wz, hWz⟩ : ∃ z, setsF Wq rb [(0, .nilFunc), (1, .nilFunc), (2, .nilFunc), (3, .nilFunc)] = z := ⟨_, rfl⟩
      rw [hWz] at h4 f4
      have hwz : ((((Wq.setCell ⟨rb, 0, none⟩ (.nilFunc)).setCell ⟨rb, 1, none⟩ (.nilFunc)).setCell ⟨rb, 2, none⟩ (.nilFunc)).setCell ⟨rb, 3, none⟩ (.nilFunc)) = Wz := hWz
      refine wpAnyHT_one (i := 8) rfl (by kernel_rfl) (by kernel_rfl) (fun K hK => ?_)
      try simp only [lA, lS, lZ]
      go_simp
      try rw [hwz]
      refine hK _ _ ⟨(f4.cell (World.block_lt_of_cell? _ _ sq.1) (by simpa using hne)).trans sq.1, f4.heap sq.2 (by simpa using hnm)⟩ ?_
      clear hK K
      refine wpAnyHT_end (by kernel_rfl) ?_
      simp only [List.drop_succ_cons, List.drop_zero]
      go_wp2_with fail
      go_meet
      exact ⟨rb, rfl, rfl, hid h4, hid (hfq.trans f4 (fun i hi hl => by rw [List.mem_singleton] at hi; have := hlo; omega)), hid hlo⟩
  case rest =>
    obtain ⟨rb, rfl, rfl, HRB, HFX, HLO⟩ := hcut
    have HS2 : Hid (∀ V, Frm [] wc V → V.cell? ⟨b, 0, none⟩ = some (.int .i64 kind) ∧ V.cell? ⟨b, 1, none⟩ = some (.string name) ∧ V.cell? ⟨b, 2, none⟩ = some (.int .i64 typ) ∧ V.cell? ⟨b, 3, none⟩ = some (.int .i64 frm) ∧ V.cell? ⟨b, 4, none⟩ = some (.int .i64 guid) ∧ V.cell? ⟨b, 5, none⟩ = some (.int .i64 origin) ∧ V.cell? ⟨b, 6, none⟩ = some (.string snap) ∧ V.cell? ⟨b, 7, none⟩ = some (.slice pp pn pc) ∧ V.cell? ⟨b, 8, none⟩ = some (.int .i64 obj) ∧ V.cell? ⟨b, 9, none⟩ = some (.int .i64 at_) ∧ V.cell? ⟨b, 10, none⟩ = some (.int .i64 many) ∧ V.cell? ⟨b, 11, none⟩ = some (.slice kp kn kc) ∧ V.cell? ⟨b, 12, none⟩ = some (.slice dp dl dc) ∧ V.cell? ⟨rb, 0, none⟩ = some (.nilFunc) ∧ V.cell? ⟨rb, 1, none⟩ = some (.nilFunc)) := hid (fun V hf => by
      obtain ⟨k0, k1, k2, k3, k4, k5, k6, k7, k8, k9, k10, k11, k12⟩ := HX.out V (HFX.out.trans hf (by simp))
      have hr := hf.heap HRB.out (by simp)
      exact ⟨k0, k1, k2, k3, k4, k5, k6, k7, k8, k9, k10, k11, k12, by rw [cell_of_row _ _ _ _ _ _ hr]; rfl, by rw [cell_of_row _ _ _ _ _ _ hr]; rfl⟩)
    have HFC : Hid (Frm [] w wc) := hid (HFB.out.trans HFX.out (by simp))
    clear y0 y1 y2 y3 y4 y5 y6 y7 y8 y9 y10 y11 y12 hlk
    go_upto_region 2 with fail
    have HD : Hid (Frm [] wc wc.drew) := hid ((Frm.refl [] wc).drew)
    refine wp_region_tail (S := fun W => (W.cell? ⟨b, 0, none⟩ = some (.int .i64 kind) ∧ W.cell? ⟨b, 1, none⟩ = some (.string name) ∧ W.cell? ⟨b, 2, none⟩ = some (.int .i64 typ) ∧ W.cell? ⟨b, 3, none⟩ = some (.int .i64 frm) ∧ W.cell? ⟨b, 4, none⟩ = some (.int .i64 guid) ∧ W.cell? ⟨b, 5, none⟩ = some (.int .i64 origin) ∧ W.cell? ⟨b, 6, none⟩ = some (.string snap) ∧ W.cell? ⟨b, 7, none⟩ = some (.slice pp pn pc) ∧ W.cell? ⟨b, 8, none⟩ = some (.int .i64 obj) ∧ W.cell? ⟨b, 9, none⟩ = some (.int .i64 at_) ∧ W.cell? ⟨b, 10, none⟩ = some (.int .i64 many) ∧ W.cell? ⟨b, 11, none⟩ = some (.slice kp kn kc) ∧ W.cell? ⟨b, 12, none⟩ = some (.slice dp dl dc) ∧ W.cell? ⟨rb, 0, none⟩ = some (.nilFunc) ∧ W.cell? ⟨rb, 1, none⟩ = some (.nilFunc))) 17 18 rfl (by kernel_rfl) (by kernel_rfl) ?_
    refine htk (i := 0) (v := ?_) (by kernel_rfl) rfl (fun _ _ _ h => h) (Or.inl ⟨by rfl, ?_⟩) (HS2.out _ HD.out) ?_
    rotate_left 1
    · (intro W hSw; obtain ⟨s0, s1, s2, s3, s4, s5, s6, s7, s8, s9, s10, s11, s12, r0, r1⟩ := hSw; (try simp only [lA, lZ]); go_simp; try with_reducible rfl)
    try simp only [lA, lZ, Act.put, lI, lW, lX]
    refine htk (i := 1) (v := ?_) (by kernel_rfl) rfl (fun _ _ _ h => h) (Or.inl ⟨by rfl, ?_⟩) (HS2.out _ HD.out) ?_
    rotate_left 1
    · (intro W hSw; obtain ⟨s0, s1, s2, s3, s4, s5, s6, s7, s8, s9, s10, s11, s12, r0, r1⟩ := hSw; (try simp only [lA, lS, lZ]); go_simp; try with_reducible rfl)
    try simp only [lA, lS, lZ, Act.put, lI, lW, lX]
    refine htk (i := 2) (v := ?_) (by kernel_rfl) rfl (fun _ _ _ h => h) (Or.inl ⟨by rfl, ?_⟩) (HS2.out _ HD.out) ?_
    rotate_left 1
    · (intro W hSw; obtain ⟨s0, s1, s2, s3, s4, s5, s6, s7, s8, s9, s10, s11, s12, r0, r1⟩ := hSw; (try simp only [lA, lS, lZ]); go_simp; try with_reducible rfl)
    try simp only [lA, lS, lZ, Act.put, lI, lW, lX]
    refine htk (i := 3) (v := undef) (by kernel_rfl) rfl (fun _ _ _ h => h) (Or.inr ⟨by rfl, rfl⟩) (HS2.out _ HD.out) ?_
    try simp only [lA, lS, lZ, Act.put, lI, lW, lX]
    refine htk (i := 4) (v := undef) (by kernel_rfl) rfl (fun _ _ _ h => h) (Or.inr ⟨by rfl, rfl⟩) (HS2.out _ HD.out) ?_
    try simp only [lA, lS, lZ, Act.put, lI, lW, lX]
    refine htk (i := 5) (v := undef) (by kernel_rfl) rfl (fun _ _ _ h => h) (Or.inr ⟨by rfl, rfl⟩) (HS2.out _ HD.out) ?_
    try simp only [lA, lS, lZ, Act.put, lI, lW, lX]
    refine htk (i := 6) (v := undef) (by kernel_rfl) rfl (fun _ _ _ h => h) (Or.inr ⟨by rfl, rfl⟩) (HS2.out _ HD.out) ?_
    try simp only [lA, lS, lZ, Act.put, lI, lW, lX]
    refine htk (i := 7) (v := undef) (by kernel_rfl) rfl (fun _ _ _ h => h) (Or.inr ⟨by rfl, rfl⟩) (HS2.out _ HD.out) ?_
    try simp only [lA, lS, lZ, Act.put, lI, lW, lX]
    refine htk (i := 8) (v := ?_) (by kernel_rfl) rfl (fun _ _ _ h => h) (Or.inl ⟨by rfl, ?_⟩) (HS2.out _ HD.out) ?_
    rotate_left 1
    · (intro W hSw; obtain ⟨s0, s1, s2, s3, s4, s5, s6, s7, s8, s9, s10, s11, s12, r0, r1⟩ := hSw; (try simp only [lA, lS, lZ]); go_simp; try with_reducible rfl)
    try simp only [lA, lS, lZ, Act.put, lI, lW, lX]
    refine htk (i := 9) (v := ?_) (by kernel_rfl) rfl (fun _ _ _ h => h) (Or.inl ⟨by rfl, ?_⟩) (HS2.out _ HD.out) ?_
    rotate_left 1
    · (intro W hSw; obtain ⟨s0, s1, s2, s3, s4, s5, s6, s7, s8, s9, s10, s11, s12, r0, r1⟩ := hSw; (try simp only [lA, lS, lZ]); go_simp; try with_reducible rfl)
    try simp only [lA, lS, lZ, Act.put, lI, lW, lX]
    refine htk (i := 10) (v := undef) (by kernel_rfl) rfl (fun _ _ _ h => h) (Or.inr ⟨by rfl, rfl⟩) (HS2.out _ HD.out) ?_
    try simp only [lA, lS, lZ, Act.put, lI, lW, lX]
    refine htk (i := 11) (v := undef) (by kernel_rfl) rfl (fun _ _ _ h => h) (Or.inr ⟨by rfl, rfl⟩) (HS2.out _ HD.out) ?_
    try simp only [lA, lS, lZ, Act.put, lI, lW, lX]
    refine htk (i := 12) (v := undef) (by kernel_rfl) rfl (fun _ _ _ h => h) (Or.inr ⟨by rfl, rfl⟩) (HS2.out _ HD.out) ?_
    try simp only [lA, lS, lZ, Act.put, lI, lW, lX]
    refine htk (i := 13) (v := undef) (by kernel_rfl) rfl (fun _ _ _ h => h) (Or.inr ⟨by rfl, rfl⟩) (HS2.out _ HD.out) ?_
    try simp only [lA, lS, lZ, Act.put, lI, lW, lX]
    refine htk (i := 14) (v := undef) (by kernel_rfl) rfl (fun _ _ _ h => h) (Or.inr ⟨by rfl, rfl⟩) (HS2.out _ HD.out) ?_
    try simp only [lA, lS, lZ, Act.put, lI, lW, lX]
    refine htk (i := 15) (v := undef) (by kernel_rfl) rfl (fun _ _ _ h => h) (Or.inr ⟨by rfl, rfl⟩) (HS2.out _ HD.out) ?_
    try simp only [lA, lS, lZ, Act.put, lI, lW, lX]
    refine htk (i := 16) (v := undef) (by kernel_rfl) rfl (fun _ _ _ h => h) (Or.inr ⟨by rfl, rfl⟩) (HS2.out _ HD.out) ?_
    try simp only [lA, lS, lZ, Act.put, lI, lW, lX]
    refine wpAnyHT_end (by kernel_rfl) ?_
    simp only [List.drop_succ_cons, List.drop_zero]
    go_wp2_with fail
    first | go_returns | skip
    exact HP1.out _ (HFC.out.trans HD.out (by simp))
set_option maxHeartbeats 1600000 in
theorem check_any (r : Rc) (P : List Pr) (K D : List Int) (w : World) (h : RcOk w r P K D) (hs : r.name.size ≤ 9223372036854775806) :
    Calls Tryz.prog 9 #[.agg r.arr] w fun e w' => e = .returned (.int .i64 (if RcMay r P K D then 0 else 200)) ∧ Frm [] w w' := by
  by_cases k1 : r.kind = 1
  · refine (check_row r r.onlyPackage 48 49 50 51 (decide (MayPk r)) (SameR r r.onlyPackage P [] K [] D []) w (hid (fun _ _ => rfl)) (hid (fun _ _ => rfl)) (by unfold lkT; rw [k1]; rfl) (hid (fun W _ => mayPackage_any r W)) (hid (fun W _ => onlyPackage_any r W)) (hid (fun W hf => sameR_any r r.onlyPackage P [] K [] D [] W (h.k0 hf) (RcOk.onlyPackage)))).mono ?_
    rintro e w' ⟨rfl, hf⟩
    refine ⟨?_, hf⟩
    have e : RcMay r P K D ↔ (MayPk r ∧ SameR r r.onlyPackage P [] K [] D []) := by unfold RcMay; rw [if_pos k1]
    by_cases hm : RcMay r P K D
    · rw [if_pos hm, if_pos ⟨decide_eq_true (e.1 hm).1, (e.1 hm).2⟩]
    · rw [if_neg hm, if_neg (fun h => hm (e.2 ⟨of_decide_eq_true h.1, h.2⟩))]
  by_cases k2 : r.kind = 2
  · refine (check_row r r.onlyBegin 52 53 54 55 (decide (MayBg r P)) (SameR r r.onlyBegin P P K [] D []) w (hid (fun _ _ => rfl)) (hid (fun _ _ => rfl)) (by unfold lkT; rw [k2]; rfl) (hid (fun W hf => mayBegin_any r P W (h.k0 hf).pr h.pl h.mx.1 hs)) (hid (fun W _ => onlyBegin_any r W)) (hid (fun W hf => sameR_any r r.onlyBegin P P K [] D [] W (h.k0 hf) ((h.k0 hf).onlyBegin)))).mono ?_
    rintro e w' ⟨rfl, hf⟩
    refine ⟨?_, hf⟩
    have e : RcMay r P K D ↔ (MayBg r P ∧ SameR r r.onlyBegin P P K [] D []) := by unfold RcMay; rw [if_neg k1, if_pos k2]
    by_cases hm : RcMay r P K D
    · rw [if_pos hm, if_pos ⟨decide_eq_true (e.1 hm).1, (e.1 hm).2⟩]
    · rw [if_neg hm, if_neg (fun h => hm (e.2 ⟨of_decide_eq_true h.1, h.2⟩))]
  by_cases k3 : r.kind = 3
  · refine (check_row r r.onlyLive 56 57 58 59 (decide (MayLv r K)) (SameR r r.onlyLive P [] K K D []) w (hid (fun _ _ => rfl)) (hid (fun _ _ => rfl)) (by unfold lkT; rw [k3]; rfl) (hid (fun W hf => mayLive_any r K W (h.k0 hf).kr h.kl h.mx.2)) (hid (fun W _ => onlyLive_any r W)) (hid (fun W hf => sameR_any r r.onlyLive P [] K K D [] W (h.k0 hf) ((h.k0 hf).onlyLive)))).mono ?_
    rintro e w' ⟨rfl, hf⟩
    refine ⟨?_, hf⟩
    have e : RcMay r P K D ↔ (MayLv r K ∧ SameR r r.onlyLive P [] K K D []) := by unfold RcMay; rw [if_neg k1, if_neg k2, if_pos k3]
    by_cases hm : RcMay r P K D
    · rw [if_pos hm, if_pos ⟨decide_eq_true (e.1 hm).1, (e.1 hm).2⟩]
    · rw [if_neg hm, if_neg (fun h => hm (e.2 ⟨of_decide_eq_true h.1, h.2⟩))]
  by_cases k4 : r.kind = 4
  · refine (check_row r r.onlyNode 60 61 62 63 (decide (MayNd r K)) (SameR r r.onlyNode P [] K K D []) w (hid (fun _ _ => rfl)) (hid (fun _ _ => rfl)) (by unfold lkT; rw [k4]; rfl) (hid (fun W hf => mayNode_any r K W (h.k0 hf).kr h.kl h.mx.2)) (hid (fun W _ => onlyNode_any r W)) (hid (fun W hf => sameR_any r r.onlyNode P [] K K D [] W (h.k0 hf) ((h.k0 hf).onlyNode)))).mono ?_
    rintro e w' ⟨rfl, hf⟩
    refine ⟨?_, hf⟩
    have e : RcMay r P K D ↔ (MayNd r K ∧ SameR r r.onlyNode P [] K K D []) := by unfold RcMay; rw [if_neg k1, if_neg k2, if_neg k3, if_pos k4]
    by_cases hm : RcMay r P K D
    · rw [if_pos hm, if_pos ⟨decide_eq_true (e.1 hm).1, (e.1 hm).2⟩]
    · rw [if_neg hm, if_neg (fun h => hm (e.2 ⟨of_decide_eq_true h.1, h.2⟩))]
  by_cases k5 : r.kind = 5
  · refine (check_row r r.onlyWrite 64 65 66 67 (decide (MayWr r)) (SameR r r.onlyWrite P [] K [] D D) w (hid (fun _ _ => rfl)) (hid (fun _ _ => rfl)) (by unfold lkT; rw [k5]; rfl) (hid (fun W _ => mayWrite_any r W)) (hid (fun W _ => onlyWrite_any r W)) (hid (fun W hf => sameR_any r r.onlyWrite P [] K [] D D W (h.k0 hf) ((h.k0 hf).onlyWrite)))).mono ?_
    rintro e w' ⟨rfl, hf⟩
    refine ⟨?_, hf⟩
    have e : RcMay r P K D ↔ (MayWr r ∧ SameR r r.onlyWrite P [] K [] D D) := by unfold RcMay; rw [if_neg k1, if_neg k2, if_neg k3, if_neg k4, if_pos k5]
    by_cases hm : RcMay r P K D
    · rw [if_pos hm, if_pos ⟨decide_eq_true (e.1 hm).1, (e.1 hm).2⟩]
    · rw [if_neg hm, if_neg (fun h => hm (e.2 ⟨of_decide_eq_true h.1, h.2⟩))]
  by_cases k6 : r.kind = 6
  · refine (check_row r r.onlyCount 44 45 46 47 (decide (MayCn r)) (SameR r r.onlyCount P [] K [] D []) w (hid (fun _ _ => rfl)) (hid (fun _ _ => rfl)) (by unfold lkT; rw [k6]; rfl) (hid (fun W _ => mayCount_any r W)) (hid (fun W _ => onlyCount_any r W)) (hid (fun W hf => sameR_any r r.onlyCount P [] K [] D [] W (h.k0 hf) (RcOk.onlyCount)))).mono ?_
    rintro e w' ⟨rfl, hf⟩
    refine ⟨?_, hf⟩
    have e : RcMay r P K D ↔ (MayCn r ∧ SameR r r.onlyCount P [] K [] D []) := by unfold RcMay; rw [if_neg k1, if_neg k2, if_neg k3, if_neg k4, if_neg k5, if_pos k6]
    by_cases hm : RcMay r P K D
    · rw [if_pos hm, if_pos ⟨decide_eq_true (e.1 hm).1, (e.1 hm).2⟩]
    · rw [if_neg hm, if_neg (fun h => hm (e.2 ⟨of_decide_eq_true h.1, h.2⟩))]
  by_cases k7 : r.kind = 7
  · refine (check_row r r.onlyCount 44 45 46 47 (decide (MayCn r)) (SameR r r.onlyCount P [] K [] D []) w (hid (fun _ _ => rfl)) (hid (fun _ _ => rfl)) (by unfold lkT; rw [k7]; rfl) (hid (fun W _ => mayCount_any r W)) (hid (fun W _ => onlyCount_any r W)) (hid (fun W hf => sameR_any r r.onlyCount P [] K [] D [] W (h.k0 hf) (RcOk.onlyCount)))).mono ?_
    rintro e w' ⟨rfl, hf⟩
    refine ⟨?_, hf⟩
    have e : RcMay r P K D ↔ (MayCn r ∧ SameR r r.onlyCount P [] K [] D []) := by unfold RcMay; rw [if_neg k1, if_neg k2, if_neg k3, if_neg k4, if_neg k5, if_neg k6, if_pos k7]
    by_cases hm : RcMay r P K D
    · rw [if_pos hm, if_pos ⟨decide_eq_true (e.1 hm).1, (e.1 hm).2⟩]
    · rw [if_neg hm, if_neg (fun h => hm (e.2 ⟨of_decide_eq_true h.1, h.2⟩))]
  refine (check_none r w (by unfold lkT; rw [if_neg k1, if_neg k2, if_neg k3, if_neg k4, if_neg k5, if_neg k6, if_neg k7])).mono ?_
  rintro e w' ⟨rfl, hf⟩
  refine ⟨?_, hf⟩
  rw [if_neg (by unfold RcMay; rw [if_neg k1, if_neg k2, if_neg k3, if_neg k4, if_neg k5, if_neg k6, if_neg k7]; simp)]
end
end Go.Proofs.YtajfjkfnmmfhmaaGreatDoor
