/- Records, the document's side: what a body of a kind says. -/
import Derived.Laws.EntriesVeiled
import Derived.Test.YtajfjkfnmmfhmaaGreatDoorQrak
namespace Go.Proofs.YtajfjkfnmmfhmaaGreatDoor
set_option maxRecDepth 100000
set_option maxHeartbeats 25600000
section
open Go.RowKit Go.Lib
def tdPk (bs : List Int) : TkV := ⟨⟨0, strOfNums (txS bs (0, 0) 24).1, 0, 0, 0, 0, ⟨#[]⟩, none, 0, 0, 0, 0, (nuS bs (txS bs (0, 0) 24).2 2).1, none, 0, 0, none, 0, 0⟩, [], [], [], (nuS bs (txS bs (0, 0) 24).2 2).2⟩
def tdLv (bs : List Int) : TkV := ⟨⟨0, ⟨#[]⟩, 0, 0, 0, 0, ⟨#[]⟩, none, 0, 0, 0, 0, 0, none, 0, 0, none, 0, 0⟩, [], (tkD bs 0 4 (0, 0)).1, [], (tkD bs 0 4 (0, 0)).2⟩
def tdNd (bs : List Int) : TkV := ⟨⟨0, ⟨#[]⟩, 0, 0, 0, 0, ⟨#[]⟩, none, 0, 0, (nuS bs (0, 0) 4).1, 0, 0, none, 0, 0, none, 0, 0⟩, [], (tkD bs 1 2 (nuS bs (0, 0) 4).2).1, [], (tkD bs 1 2 (nuS bs (0, 0) 4).2).2⟩
def prD (bs : List Int) (s : Rst) : Nat → List Pr × Rst
 | 0 => ([], s)
 | t + 1 => ((prD bs s t).1 ++ [(strOfNums (txS bs (prD bs s t).2 24).1, strOfNums (txS bs (txS bs (prD bs s t).2 24).2 64).1)], (txS bs (txS bs (prD bs s t).2 24).2 64).2)
theorem prD_len (bs : List Int) (s : Rst) : ∀ t, (prD bs s t).1.length = t
 | 0 => rfl
 | t + 1 => by rw [prD, List.length_append, prD_len bs s t]; rfl
def e6 (bs : List Int) := txS bs (g5 bs).2 24
def e7 (bs : List Int) := nuS bs (e6 bs).2 1
def e8 (bs : List Int) := prD bs (e7 bs).2 (e7 bs).1.toNat
def tdBg (bs : List Int) : TkV := ⟨⟨0, strOfNums (g1 bs).1, (g2 bs).1, (g3 bs).1, (g4 bs).1, (g5 bs).1, strOfNums (e6 bs).1, none, 0, 0, 0, 0, 0, none, 0, 0, none, 0, 0⟩, (e8 bs).1, [], [], (e8 bs).2⟩
def tdK (k : Int) (b : List Int) : TkV := if k = 1 then tdPk b else if k = 2 then tdBg b else if k = 3 then tdLv b else if k = 4 then tdNd b else if k = 5 then tvWr b else tvCn b
def TolP (w0 w : World) (b c : Nat) (p : Option Addr) (bs : List Int) (k : Int) (V : TkV) (e : Ending) (w' : World) : Prop := ∃ r : Rc, e = .returned (.agg r.arr) ∧ r.core = (V.rc k).core ∧ RcOwn w' r V.p V.k V.d w.heap.size ∧ QrR w0 w' b p c bs V.s ∧ Frm [b] w w'
structure QK (w0 w : World) (b c : Nat) (p : Option Addr) (bs : List Int) (br bx : Nat) (W : World) (row : Array Value) (s : Rst) : Prop where
 fr : QrR w0 W b p c bs s
 rw_ : W.heap[bx]? = some (.cells row 26 (0, 0))
 rb : W.heap[br]? = some (.cells #[.int .i64 0, .string ⟨#[]⟩, .int .i64 0, .int .i64 0, .int .i64 0, .int .i64 0, .string ⟨#[]⟩, .slice none 0 0, .int .i64 0, .int .i64 0, .int .i64 0, .slice none 0 0, .slice none 0 0] 26 (0, 0))
 frm : Frm [b] w W
 lo : w.heap.size ≤ br ∧ w.heap.size ≤ bx
 ne : br ≠ bx ∧ br ≠ b ∧ bx ≠ b ∧ br ∉ blk p ∧ bx ∉ blk p
 w0l : w0.heap.size ≤ w.heap.size
theorem QK.call {w0 w W W' : World} {b c br bx : Nat} {p : Option Addr} {bs : List Int} {row : Array Value} {s s' : Rst} (h : QK w0 w b c p bs br bx W row s) (hr : QrR w0 W' b p c bs s') (hf : Frm [b] W W') : QK w0 w b c p bs br bx W' row s' :=
 ⟨hr, hf.heap h.rw_ (by rw [List.mem_singleton]; exact h.ne.2.2.1), hf.heap h.rb (by rw [List.mem_singleton]; exact h.ne.2.1), h.frm.trans hf (fun i hi _ => hi), h.lo, h.ne, h.w0l⟩
theorem QK.gen {S : List Nat} {w0 w W W' : World} {b c br bx : Nat} {p : Option Addr} {bs : List Int} {row : Array Value} {s : Rst} (h : QK w0 w b c p bs br bx W row s) (hf : Frm S W W') (hS : ∀ k ∈ S, w.heap.size ≤ k ∧ k ≠ bx ∧ k ≠ br ∧ k ≠ b ∧ k ∉ blk p) : QK w0 w b c p bs br bx W' row s :=
 ⟨h.fr.gen hf (fun k hk => ⟨Nat.le_trans h.w0l (hS k hk).1, (hS k hk).2.2.2.1, (hS k hk).2.2.2.2⟩), hf.heap h.rw_ (fun hm => (hS bx hm).2.1 rfl), hf.heap h.rb (fun hm => (hS br hm).2.2.1 rfl), h.frm.trans hf (fun i hi hl => by have := (hS i hi).1; omega), h.lo, h.ne, h.w0l⟩
theorem QK.set {w0 w W : World} {b c br bx : Nat} {p : Option Addr} {bs : List Int} {row : Array Value} {s : Rst} (h : QK w0 w b c p bs br bx W row s) (k : Nat) (v : Value) : QK w0 w b c p bs br bx (W.setCell ⟨bx, k, Option.none⟩ v) (row.setIfInBounds k v) s := by
 have hf : Frm [bx] W (W.setCell ⟨bx, k, Option.none⟩ v) := (Frm.refl _ _).setCell _ _ (by simp)
 exact ⟨h.fr.gen hf (fun i hi => by rw [List.mem_singleton] at hi; subst hi; exact ⟨Nat.le_trans h.w0l h.lo.2, h.ne.2.2.1, h.ne.2.2.2.2⟩), heap_setCell_same W bx k _ _ v h.rw_, hf.heap h.rb (by rw [List.mem_singleton]; exact h.ne.1), h.frm.trans hf (fun i hi hl => by rw [List.mem_singleton] at hi; have := h.lo.2; omega), h.lo, h.ne, h.w0l⟩
theorem QK.fin {w0 w W W' : World} {b c br bx : Nat} {p : Option Addr} {bs : List Int} {row : Array Value} {s : Rst} (h : QK w0 w b c p bs br bx W row s) (hf : Frm [br] W W') : QrR w0 W' b p c bs s ∧ Frm [b] w W' :=
 ⟨h.fr.gen hf (fun i hi => by rw [List.mem_singleton] at hi; subst hi; exact ⟨Nat.le_trans h.w0l h.lo.1, h.ne.2.1, h.ne.2.2.2.1⟩), h.frm.trans hf (fun i hi hl => by rw [List.mem_singleton] at hi; have := h.lo.1; omega)⟩
theorem QK.born {w0 w : World} {b c : Nat} {p : Option Addr} {bs : List Int} {s : Rst} (h : QrR w0 w b p c bs s) (row : Array Value) : QK w0 w b c p bs w.heap.size (w.heap.size + 1) ((w.alloc (.cells #[.int .i64 0, .string ⟨#[]⟩, .int .i64 0, .int .i64 0, .int .i64 0, .int .i64 0, .string ⟨#[]⟩, .slice none 0 0, .int .i64 0, .int .i64 0, .int .i64 0, .slice none 0 0, .slice none 0 0] 26)).alloc (.cells row 26)) row s := by
 have hf : Frm [] w ((w.alloc (.cells #[.int .i64 0, .string ⟨#[]⟩, .int .i64 0, .int .i64 0, .int .i64 0, .int .i64 0, .string ⟨#[]⟩, .slice none 0 0, .int .i64 0, .int .i64 0, .int .i64 0, .slice none 0 0, .slice none 0 0] 26)).alloc (.cells row 26)) := ((Frm.refl _ _).alloc _).alloc _
 have hlo := h.1.2.1.lows
 have hb := lt_of_heap h.1.1
 refine ⟨h.k0 hf, ?_, ?_, hf.mono (by simp), ⟨Nat.le_refl _, by omega⟩, ⟨by omega, by omega, by omega, fun hm => by have := hlo _ hm; omega, fun hm => by have := hlo _ hm; omega⟩, h.2.1.size⟩
 ·exact heap_alloc_to _ _ (by simp)
 ·exact ((Frm.refl [] _).alloc _).heap (heap_alloc_new w _) (by simp)
theorem told_1 (w0 w : World) (b c : Nat) (q : Option Addr) (bs : List Int) (hb : ∀ z ∈ bs, 0 ≤ z ∧ z < 256) (hl : bs.length ≤ 2048) (h : QrR w0 w b q c bs (0, 0)) :
  Calls Tryz.prog 82 #[.int .i64 1, .pointer (some ⟨b, 0, none⟩)] w (TolP w0 w b c q bs 1 (tdPk bs)) := by
 obtain ⟨PO, hPO⟩ : ∃ PO : Ending → World → Prop, TolP w0 w b c q bs 1 (tdPk bs) = PO := ⟨_, rfl⟩
 rw [hPO]
 have HP := hid (show ∀ e w', TolP w0 w b c q bs 1 (tdPk bs) e w' → PO e w' from fun e w' h => by rw [← hPO]; exact h)
 have HB := hid hb
 have HL := hid hl
 have hbn := QK.born h #[.int .i64 1, .string ⟨#[]⟩, .int .i64 0, .int .i64 0, .int .i64 0, .int .i64 0, .string ⟨#[]⟩, .slice none 0 0, .int .i64 0, .int .i64 0, .int .i64 0, .slice none 0 0, .slice none 0 0]
 have hbl : ∀ V, (Instr.build 26 #[(0, .int .i64 1)]).run Tryz.prog V = .ok (.agg #[.int .i64 1, .string ⟨#[]⟩, .int .i64 0, .int .i64 0, .int .i64 0, .int .i64 0, .string ⟨#[]⟩, .slice none 0 0, .int .i64 0, .int .i64 0, .int .i64 0, .slice none 0 0, .slice none 0 0]) V := fun V => run_build V _ _ _ (by kernel_rfl)
 obtain ⟨wm, hwm⟩ := eX (w.alloc (.cells #[.int .i64 0, .string ⟨#[]⟩, .int .i64 0, .int .i64 0, .int .i64 0, .int .i64 0, .string ⟨#[]⟩, .slice none 0 0, .int .i64 0, .int .i64 0, .int .i64 0, .slice none 0 0, .slice none 0 0] 26))
 rw [hwm] at hbn
 obtain ⟨wx, hwx⟩ := eX (wm.alloc (.cells #[.int .i64 1, .string ⟨#[]⟩, .int .i64 0, .int .i64 0, .int .i64 0, .int .i64 0, .string ⟨#[]⟩, .slice none 0 0, .int .i64 0, .int .i64 0, .int .i64 0, .slice none 0 0, .slice none 0 0] 26))
 obtain ⟨br, hbr⟩ := eX (w.heap.size)
 obtain ⟨bx, hbx⟩ := eX (wm.heap.size)
 have hb1 : br + 1 = bx := by rw [← hbx, ← hwm, ← hbr]; simp
 rw [hwx, hbr, hb1] at hbn
 have HS0 := hid hbn
 have HWM := hid hwm
 have HWX := hid hwx
 have HBR := hid hbr
 have HBX := hid hbx
 have HB1 := hid hb1
 clear hb hl h hPO hbn hwm hwx hbr hbx hb1
 go_enter Tryz.func82, Tryz.ntmps82
 go_upto_region 1 with fail
 try rw [HWM.out]
 try rw [HBR.out]
 go_upto_region 2 with fail
 try rw [HWX.out]
 try rw [HBX.out]
 clear HWM HWX HBR HBX HB1 hbl
 have HC1 := hid (qt_any w0 wx b c q bs HB.out (0, 0) HS0.out.fr 24 (by omega) (by omega))
 obtain ⟨v1, hv1⟩ := eX (txS bs (0, 0) 24)
 rw [hv1] at HC1
 have HV1 := hid hv1
 clear hv1
 go_wp2_with fail
 refine HC1.out.mono ?_
 rintro e x1 ⟨rfl, hr, hf⟩
 have HX1 := hid (QK.call HS0.out hr hf)
 clear hr hf HC1
 have z1 := cR 1 (.string ⟨#[]⟩) HX1.out.rw_
 have y1 := fZ 1 HX1.out.rw_
 go_upto_region 7 with fail
 obtain ⟨W2, hW2⟩ := eX (x1.setCell ⟨bx, 1, none⟩ (.string (strOfNums v1.1)))
 have HW2 : Hid (QK w0 w b c q bs br bx W2 #[.int .i64 1, .string (strOfNums v1.1), .int .i64 0, .int .i64 0, .int .i64 0, .int .i64 0, .string ⟨#[]⟩, .slice none 0 0, .int .i64 0, .int .i64 0, .int .i64 0, .slice none 0 0, .slice none 0 0] v1.2) := hid (by rw [← hW2]; exact QK.set HX1.out 1 (.string (strOfNums v1.1)))
 rw [hW2]
 clear z1 y1
 have HC3 := hid (qn_any w0 W2 b c q bs HB.out v1.2 HW2.out.fr 2 (by omega) (by omega))
 have hbd3 := nuS_bd HB.out v1.2 2 (by omega)
 obtain ⟨v3, hv3⟩ := eX (nuS bs v1.2 2)
 rw [hv3] at HC3 hbd3
 have HV3 := hid hv3
 clear hv3
 have hw3 : IntKind.i64.wrap v3.1 = v3.1 := by rw [IntKind.wrap_i64]; omega
 go_wp2_with fail
 refine HC3.out.mono ?_
 rintro e x3 ⟨rfl, hr, hf⟩
 have HX3 := hid (QK.call HW2.out hr hf)
 clear hr hf HC3
 have z10 := cR 10 (.int .i64 0) HX3.out.rw_
 have y10 := fZ 10 HX3.out.rw_
 go_upto_region 23 with fail
 obtain ⟨W4, hW4⟩ := eX (x3.setCell ⟨bx, 10, none⟩ (.int .i64 v3.1))
 have HW4 : Hid (QK w0 w b c q bs br bx W4 #[.int .i64 1, .string (strOfNums v1.1), .int .i64 0, .int .i64 0, .int .i64 0, .int .i64 0, .string ⟨#[]⟩, .slice none 0 0, .int .i64 0, .int .i64 0, .int .i64 v3.1, .slice none 0 0, .slice none 0 0] v3.2) := hid (by rw [← hW4]; exact QK.set HX3.out 10 (.int .i64 v3.1))
 rw [hW4]
 clear z10 y10
 clear hbd3 hw3
 have z0 := cR 0 (.int .i64 1) HW4.out.rw_
 have y0 := fZ 0 HW4.out.rw_
 have z1 := cR 1 (.string (strOfNums v1.1)) HW4.out.rw_
 have y1 := fZ 1 HW4.out.rw_
 have z2 := cR 2 (.int .i64 0) HW4.out.rw_
 have y2 := fZ 2 HW4.out.rw_
 have z3 := cR 3 (.int .i64 0) HW4.out.rw_
 have y3 := fZ 3 HW4.out.rw_
 have z4 := cR 4 (.int .i64 0) HW4.out.rw_
 have y4 := fZ 4 HW4.out.rw_
 have z5 := cR 5 (.int .i64 0) HW4.out.rw_
 have y5 := fZ 5 HW4.out.rw_
 have z6 := cR 6 (.string ⟨#[]⟩) HW4.out.rw_
 have y6 := fZ 6 HW4.out.rw_
 have z7 := cR 7 (.slice none 0 0) HW4.out.rw_
 have y7 := fZ 7 HW4.out.rw_
 have z8 := cR 8 (.int .i64 0) HW4.out.rw_
 have y8 := fZ 8 HW4.out.rw_
 have z9 := cR 9 (.int .i64 0) HW4.out.rw_
 have y9 := fZ 9 HW4.out.rw_
 have z10 := cR 10 (.int .i64 v3.1) HW4.out.rw_
 have y10 := fZ 10 HW4.out.rw_
 have z11 := cR 11 (.slice none 0 0) HW4.out.rw_
 have y11 := fZ 11 HW4.out.rw_
 have z12 := cR 12 (.slice none 0 0) HW4.out.rw_
 have y12 := fZ 12 HW4.out.rw_
 have r0 := cR 0 (.int .i64 0) HW4.out.rb
 have s0 := fZ 0 HW4.out.rb
 have r1 := cR 1 (.string ⟨#[]⟩) HW4.out.rb
 have s1 := fZ 1 HW4.out.rb
 have r2 := cR 2 (.int .i64 0) HW4.out.rb
 have s2 := fZ 2 HW4.out.rb
 have r3 := cR 3 (.int .i64 0) HW4.out.rb
 have s3 := fZ 3 HW4.out.rb
 have r4 := cR 4 (.int .i64 0) HW4.out.rb
 have s4 := fZ 4 HW4.out.rb
 have r5 := cR 5 (.int .i64 0) HW4.out.rb
 have s5 := fZ 5 HW4.out.rb
 have r6 := cR 6 (.string ⟨#[]⟩) HW4.out.rb
 have s6 := fZ 6 HW4.out.rb
 have r7 := cR 7 (.slice none 0 0) HW4.out.rb
 have s7 := fZ 7 HW4.out.rb
 have r8 := cR 8 (.int .i64 0) HW4.out.rb
 have s8 := fZ 8 HW4.out.rb
 have r9 := cR 9 (.int .i64 0) HW4.out.rb
 have s9 := fZ 9 HW4.out.rb
 have r10 := cR 10 (.int .i64 0) HW4.out.rb
 have s10 := fZ 10 HW4.out.rb
 have r11 := cR 11 (.slice none 0 0) HW4.out.rb
 have s11 := fZ 11 HW4.out.rb
 have r12 := cR 12 (.slice none 0 0) HW4.out.rb
 have s12 := fZ 12 HW4.out.rb
 go_wp2_with fail
 obtain ⟨Wz, hwz, h5, f5⟩ := sE br 26 [(0, .int .i64 1), (1, .string (strOfNums v1.1)), (2, .int .i64 0), (3, .int .i64 0), (4, .int .i64 0), (5, .int .i64 0), (6, .string ⟨#[]⟩), (7, .slice none 0 0), (8, .int .i64 0), (9, .int .i64 0), (10, .int .i64 v3.1), (11, .slice none 0 0), (12, .slice none 0 0)] W4 _ HW4.out.rb
 simp only [List.foldl, List.setIfInBounds_toArray, List.set_cons_zero, List.set_cons_succ] at h5
 simp only [setsF] at hwz
 have hWz := hwz
 rw [hwz]
 obtain ⟨hq1, hq2⟩ := HW4.out.fin f5
 have u0 := cR 0 (.int .i64 1) h5
 have u1 := cR 1 (.string (strOfNums v1.1)) h5
 have u2 := cR 2 (.int .i64 0) h5
 have u3 := cR 3 (.int .i64 0) h5
 have u4 := cR 4 (.int .i64 0) h5
 have u5 := cR 5 (.int .i64 0) h5
 have u6 := cR 6 (.string ⟨#[]⟩) h5
 have u7 := cR 7 (.slice none 0 0) h5
 have u8 := cR 8 (.int .i64 0) h5
 have u9 := cR 9 (.int .i64 0) h5
 have u10 := cR 10 (.int .i64 v3.1) h5
 have u11 := cR 11 (.slice none 0 0) h5
 have u12 := cR 12 (.slice none 0 0) h5
 refine bodyPost_ret (v := .agg #[.int .i64 1, .string (strOfNums v1.1), .int .i64 0, .int .i64 0, .int .i64 0, .int .i64 0, .string ⟨#[]⟩, .slice none 0 0, .int .i64 0, .int .i64 0, .int .i64 v3.1, .slice none 0 0, .slice none 0 0]) (by simp [results, Tryz.results82, go_sem, u0, u1, u2, u3, u4, u5, u6, u7, u8, u9, u10, u11, u12]) rfl ?_
 refine HP.out _ _ ⟨⟨1, strOfNums v1.1, 0, 0, 0, 0, ⟨#[]⟩, none, 0, 0, 0, 0, v3.1, none, 0, 0, none, 0, 0⟩, rfl, ?_, ?_, ?_, hq2⟩
 ·unfold tdPk TkV.rc Rc.core; rw [HV1.out, HV3.out]
 ·unfold tdPk; rw [HV1.out, HV3.out]; exact ⟨World.ownsRow_nil _ _ _ _, rfl, by simp [blk], World.ownsRow_nil _ _ _ _, rfl, by simp [blk], Own.nil _ _, rfl, by simp [blk], by simp, by simp, by simp⟩
 ·unfold tdPk; rw [HV1.out, HV3.out]; exact hq1
theorem told_6 (w0 w : World) (b c : Nat) (q : Option Addr) (bs : List Int) (hb : ∀ z ∈ bs, 0 ≤ z ∧ z < 256) (hl : bs.length ≤ 2048) (h : QrR w0 w b q c bs (0, 0)) :
  Calls Tryz.prog 82 #[.int .i64 6, .pointer (some ⟨b, 0, none⟩)] w (TolP w0 w b c q bs 6 (tvCn bs)) := by
 obtain ⟨PO, hPO⟩ : ∃ PO : Ending → World → Prop, TolP w0 w b c q bs 6 (tvCn bs) = PO := ⟨_, rfl⟩
 rw [hPO]
 have HP := hid (show ∀ e w', TolP w0 w b c q bs 6 (tvCn bs) e w' → PO e w' from fun e w' h => by rw [← hPO]; exact h)
 have HB := hid hb
 have HL := hid hl
 have hbn := QK.born h #[.int .i64 6, .string ⟨#[]⟩, .int .i64 0, .int .i64 0, .int .i64 0, .int .i64 0, .string ⟨#[]⟩, .slice none 0 0, .int .i64 0, .int .i64 0, .int .i64 0, .slice none 0 0, .slice none 0 0]
 have hbl : ∀ V, (Instr.build 26 #[(0, .int .i64 6)]).run Tryz.prog V = .ok (.agg #[.int .i64 6, .string ⟨#[]⟩, .int .i64 0, .int .i64 0, .int .i64 0, .int .i64 0, .string ⟨#[]⟩, .slice none 0 0, .int .i64 0, .int .i64 0, .int .i64 0, .slice none 0 0, .slice none 0 0]) V := fun V => run_build V _ _ _ (by kernel_rfl)
 obtain ⟨wm, hwm⟩ := eX (w.alloc (.cells #[.int .i64 0, .string ⟨#[]⟩, .int .i64 0, .int .i64 0, .int .i64 0, .int .i64 0, .string ⟨#[]⟩, .slice none 0 0, .int .i64 0, .int .i64 0, .int .i64 0, .slice none 0 0, .slice none 0 0] 26))
 rw [hwm] at hbn
 obtain ⟨wx, hwx⟩ := eX (wm.alloc (.cells #[.int .i64 6, .string ⟨#[]⟩, .int .i64 0, .int .i64 0, .int .i64 0, .int .i64 0, .string ⟨#[]⟩, .slice none 0 0, .int .i64 0, .int .i64 0, .int .i64 0, .slice none 0 0, .slice none 0 0] 26))
 obtain ⟨br, hbr⟩ := eX (w.heap.size)
 obtain ⟨bx, hbx⟩ := eX (wm.heap.size)
 have hb1 : br + 1 = bx := by rw [← hbx, ← hwm, ← hbr]; simp
 rw [hwx, hbr, hb1] at hbn
 have HS0 := hid hbn
 have HWM := hid hwm
 have HWX := hid hwx
 have HBR := hid hbr
 have HBX := hid hbx
 have HB1 := hid hb1
 clear hb hl h hPO hbn hwm hwx hbr hbx hb1
 go_enter Tryz.func82, Tryz.ntmps82
 go_upto_region 1 with fail
 try rw [HWM.out]
 try rw [HBR.out]
 go_upto_region 2 with fail
 try rw [HWX.out]
 try rw [HBX.out]
 clear HWM HWX HBR HBX HB1 hbl
 have HC1 := hid (qn_any w0 wx b c q bs HB.out (0, 0) HS0.out.fr 4 (by omega) (by omega))
 have hbd1 := nuS_bd HB.out (0, 0) 4 (by omega)
 obtain ⟨v1, hv1⟩ := eX (nuS bs (0, 0) 4)
 rw [hv1] at HC1 hbd1
 have HV1 := hid hv1
 clear hv1
 have hw1 : IntKind.i64.wrap v1.1 = v1.1 := by rw [IntKind.wrap_i64]; omega
 go_wp2_with fail
 refine HC1.out.mono ?_
 rintro e x1 ⟨rfl, hr, hf⟩
 have HX1 := hid (QK.call HS0.out hr hf)
 clear hr hf HC1
 have z10 := cR 10 (.int .i64 0) HX1.out.rw_
 have y10 := fZ 10 HX1.out.rw_
 go_upto_region 23 with fail
 obtain ⟨W2, hW2⟩ := eX (x1.setCell ⟨bx, 10, none⟩ (.int .i64 v1.1))
 have HW2 : Hid (QK w0 w b c q bs br bx W2 #[.int .i64 6, .string ⟨#[]⟩, .int .i64 0, .int .i64 0, .int .i64 0, .int .i64 0, .string ⟨#[]⟩, .slice none 0 0, .int .i64 0, .int .i64 0, .int .i64 v1.1, .slice none 0 0, .slice none 0 0] v1.2) := hid (by rw [← hW2]; exact QK.set HX1.out 10 (.int .i64 v1.1))
 rw [hW2]
 clear z10 y10
 clear hbd1 hw1
 have z0 := cR 0 (.int .i64 6) HW2.out.rw_
 have y0 := fZ 0 HW2.out.rw_
 have z1 := cR 1 (.string ⟨#[]⟩) HW2.out.rw_
 have y1 := fZ 1 HW2.out.rw_
 have z2 := cR 2 (.int .i64 0) HW2.out.rw_
 have y2 := fZ 2 HW2.out.rw_
 have z3 := cR 3 (.int .i64 0) HW2.out.rw_
 have y3 := fZ 3 HW2.out.rw_
 have z4 := cR 4 (.int .i64 0) HW2.out.rw_
 have y4 := fZ 4 HW2.out.rw_
 have z5 := cR 5 (.int .i64 0) HW2.out.rw_
 have y5 := fZ 5 HW2.out.rw_
 have z6 := cR 6 (.string ⟨#[]⟩) HW2.out.rw_
 have y6 := fZ 6 HW2.out.rw_
 have z7 := cR 7 (.slice none 0 0) HW2.out.rw_
 have y7 := fZ 7 HW2.out.rw_
 have z8 := cR 8 (.int .i64 0) HW2.out.rw_
 have y8 := fZ 8 HW2.out.rw_
 have z9 := cR 9 (.int .i64 0) HW2.out.rw_
 have y9 := fZ 9 HW2.out.rw_
 have z10 := cR 10 (.int .i64 v1.1) HW2.out.rw_
 have y10 := fZ 10 HW2.out.rw_
 have z11 := cR 11 (.slice none 0 0) HW2.out.rw_
 have y11 := fZ 11 HW2.out.rw_
 have z12 := cR 12 (.slice none 0 0) HW2.out.rw_
 have y12 := fZ 12 HW2.out.rw_
 have r0 := cR 0 (.int .i64 0) HW2.out.rb
 have s0 := fZ 0 HW2.out.rb
 have r1 := cR 1 (.string ⟨#[]⟩) HW2.out.rb
 have s1 := fZ 1 HW2.out.rb
 have r2 := cR 2 (.int .i64 0) HW2.out.rb
 have s2 := fZ 2 HW2.out.rb
 have r3 := cR 3 (.int .i64 0) HW2.out.rb
 have s3 := fZ 3 HW2.out.rb
 have r4 := cR 4 (.int .i64 0) HW2.out.rb
 have s4 := fZ 4 HW2.out.rb
 have r5 := cR 5 (.int .i64 0) HW2.out.rb
 have s5 := fZ 5 HW2.out.rb
 have r6 := cR 6 (.string ⟨#[]⟩) HW2.out.rb
 have s6 := fZ 6 HW2.out.rb
 have r7 := cR 7 (.slice none 0 0) HW2.out.rb
 have s7 := fZ 7 HW2.out.rb
 have r8 := cR 8 (.int .i64 0) HW2.out.rb
 have s8 := fZ 8 HW2.out.rb
 have r9 := cR 9 (.int .i64 0) HW2.out.rb
 have s9 := fZ 9 HW2.out.rb
 have r10 := cR 10 (.int .i64 0) HW2.out.rb
 have s10 := fZ 10 HW2.out.rb
 have r11 := cR 11 (.slice none 0 0) HW2.out.rb
 have s11 := fZ 11 HW2.out.rb
 have r12 := cR 12 (.slice none 0 0) HW2.out.rb
 have s12 := fZ 12 HW2.out.rb
 go_wp2_with fail
 obtain ⟨Wz, hwz, h5, f5⟩ := sE br 26 [(0, .int .i64 6), (1, .string ⟨#[]⟩), (2, .int .i64 0), (3, .int .i64 0), (4, .int .i64 0), (5, .int .i64 0), (6, .string ⟨#[]⟩), (7, .slice none 0 0), (8, .int .i64 0), (9, .int .i64 0), (10, .int .i64 v1.1), (11, .slice none 0 0), (12, .slice none 0 0)] W2 _ HW2.out.rb
 simp only [List.foldl, List.setIfInBounds_toArray, List.set_cons_zero, List.set_cons_succ] at h5
 simp only [setsF] at hwz
 have hWz := hwz
 rw [hwz]
 obtain ⟨hq1, hq2⟩ := HW2.out.fin f5
 have u0 := cR 0 (.int .i64 6) h5
 have u1 := cR 1 (.string ⟨#[]⟩) h5
 have u2 := cR 2 (.int .i64 0) h5
 have u3 := cR 3 (.int .i64 0) h5
 have u4 := cR 4 (.int .i64 0) h5
 have u5 := cR 5 (.int .i64 0) h5
 have u6 := cR 6 (.string ⟨#[]⟩) h5
 have u7 := cR 7 (.slice none 0 0) h5
 have u8 := cR 8 (.int .i64 0) h5
 have u9 := cR 9 (.int .i64 0) h5
 have u10 := cR 10 (.int .i64 v1.1) h5
 have u11 := cR 11 (.slice none 0 0) h5
 have u12 := cR 12 (.slice none 0 0) h5
 refine bodyPost_ret (v := .agg #[.int .i64 6, .string ⟨#[]⟩, .int .i64 0, .int .i64 0, .int .i64 0, .int .i64 0, .string ⟨#[]⟩, .slice none 0 0, .int .i64 0, .int .i64 0, .int .i64 v1.1, .slice none 0 0, .slice none 0 0]) (by simp [results, Tryz.results82, go_sem, u0, u1, u2, u3, u4, u5, u6, u7, u8, u9, u10, u11, u12]) rfl ?_
 refine HP.out _ _ ⟨⟨6, ⟨#[]⟩, 0, 0, 0, 0, ⟨#[]⟩, none, 0, 0, 0, 0, v1.1, none, 0, 0, none, 0, 0⟩, rfl, ?_, ?_, ?_, hq2⟩
 ·unfold tvCn TkV.rc Rc.core; rw [HV1.out]
 ·unfold tvCn; rw [HV1.out]; exact ⟨World.ownsRow_nil _ _ _ _, rfl, by simp [blk], World.ownsRow_nil _ _ _ _, rfl, by simp [blk], Own.nil _ _, rfl, by simp [blk], by simp, by simp, by simp⟩
 ·unfold tvCn; rw [HV1.out]; exact hq1
theorem told_7 (w0 w : World) (b c : Nat) (q : Option Addr) (bs : List Int) (hb : ∀ z ∈ bs, 0 ≤ z ∧ z < 256) (hl : bs.length ≤ 2048) (h : QrR w0 w b q c bs (0, 0)) :
  Calls Tryz.prog 82 #[.int .i64 7, .pointer (some ⟨b, 0, none⟩)] w (TolP w0 w b c q bs 7 (tvCn bs)) := by
 obtain ⟨PO, hPO⟩ : ∃ PO : Ending → World → Prop, TolP w0 w b c q bs 7 (tvCn bs) = PO := ⟨_, rfl⟩
 rw [hPO]
 have HP := hid (show ∀ e w', TolP w0 w b c q bs 7 (tvCn bs) e w' → PO e w' from fun e w' h => by rw [← hPO]; exact h)
 have HB := hid hb
 have HL := hid hl
 have hbn := QK.born h #[.int .i64 7, .string ⟨#[]⟩, .int .i64 0, .int .i64 0, .int .i64 0, .int .i64 0, .string ⟨#[]⟩, .slice none 0 0, .int .i64 0, .int .i64 0, .int .i64 0, .slice none 0 0, .slice none 0 0]
 have hbl : ∀ V, (Instr.build 26 #[(0, .int .i64 7)]).run Tryz.prog V = .ok (.agg #[.int .i64 7, .string ⟨#[]⟩, .int .i64 0, .int .i64 0, .int .i64 0, .int .i64 0, .string ⟨#[]⟩, .slice none 0 0, .int .i64 0, .int .i64 0, .int .i64 0, .slice none 0 0, .slice none 0 0]) V := fun V => run_build V _ _ _ (by kernel_rfl)
 obtain ⟨wm, hwm⟩ := eX (w.alloc (.cells #[.int .i64 0, .string ⟨#[]⟩, .int .i64 0, .int .i64 0, .int .i64 0, .int .i64 0, .string ⟨#[]⟩, .slice none 0 0, .int .i64 0, .int .i64 0, .int .i64 0, .slice none 0 0, .slice none 0 0] 26))
 rw [hwm] at hbn
 obtain ⟨wx, hwx⟩ := eX (wm.alloc (.cells #[.int .i64 7, .string ⟨#[]⟩, .int .i64 0, .int .i64 0, .int .i64 0, .int .i64 0, .string ⟨#[]⟩, .slice none 0 0, .int .i64 0, .int .i64 0, .int .i64 0, .slice none 0 0, .slice none 0 0] 26))
 obtain ⟨br, hbr⟩ := eX (w.heap.size)
 obtain ⟨bx, hbx⟩ := eX (wm.heap.size)
 have hb1 : br + 1 = bx := by rw [← hbx, ← hwm, ← hbr]; simp
 rw [hwx, hbr, hb1] at hbn
 have HS0 := hid hbn
 have HWM := hid hwm
 have HWX := hid hwx
 have HBR := hid hbr
 have HBX := hid hbx
 have HB1 := hid hb1
 clear hb hl h hPO hbn hwm hwx hbr hbx hb1
 go_enter Tryz.func82, Tryz.ntmps82
 go_upto_region 1 with fail
 try rw [HWM.out]
 try rw [HBR.out]
 go_upto_region 2 with fail
 try rw [HWX.out]
 try rw [HBX.out]
 clear HWM HWX HBR HBX HB1 hbl
 have HC1 := hid (qn_any w0 wx b c q bs HB.out (0, 0) HS0.out.fr 4 (by omega) (by omega))
 have hbd1 := nuS_bd HB.out (0, 0) 4 (by omega)
 obtain ⟨v1, hv1⟩ := eX (nuS bs (0, 0) 4)
 rw [hv1] at HC1 hbd1
 have HV1 := hid hv1
 clear hv1
 have hw1 : IntKind.i64.wrap v1.1 = v1.1 := by rw [IntKind.wrap_i64]; omega
 go_wp2_with fail
 refine HC1.out.mono ?_
 rintro e x1 ⟨rfl, hr, hf⟩
 have HX1 := hid (QK.call HS0.out hr hf)
 clear hr hf HC1
 have z10 := cR 10 (.int .i64 0) HX1.out.rw_
 have y10 := fZ 10 HX1.out.rw_
 go_upto_region 23 with fail
 obtain ⟨W2, hW2⟩ := eX (x1.setCell ⟨bx, 10, none⟩ (.int .i64 v1.1))
 have HW2 : Hid (QK w0 w b c q bs br bx W2 #[.int .i64 7, .string ⟨#[]⟩, .int .i64 0, .int .i64 0, .int .i64 0, .int .i64 0, .string ⟨#[]⟩, .slice none 0 0, .int .i64 0, .int .i64 0, .int .i64 v1.1, .slice none 0 0, .slice none 0 0] v1.2) := hid (by rw [← hW2]; exact QK.set HX1.out 10 (.int .i64 v1.1))
 rw [hW2]
 clear z10 y10
 clear hbd1 hw1
 have z0 := cR 0 (.int .i64 7) HW2.out.rw_
 have y0 := fZ 0 HW2.out.rw_
 have z1 := cR 1 (.string ⟨#[]⟩) HW2.out.rw_
 have y1 := fZ 1 HW2.out.rw_
 have z2 := cR 2 (.int .i64 0) HW2.out.rw_
 have y2 := fZ 2 HW2.out.rw_
 have z3 := cR 3 (.int .i64 0) HW2.out.rw_
 have y3 := fZ 3 HW2.out.rw_
 have z4 := cR 4 (.int .i64 0) HW2.out.rw_
 have y4 := fZ 4 HW2.out.rw_
 have z5 := cR 5 (.int .i64 0) HW2.out.rw_
 have y5 := fZ 5 HW2.out.rw_
 have z6 := cR 6 (.string ⟨#[]⟩) HW2.out.rw_
 have y6 := fZ 6 HW2.out.rw_
 have z7 := cR 7 (.slice none 0 0) HW2.out.rw_
 have y7 := fZ 7 HW2.out.rw_
 have z8 := cR 8 (.int .i64 0) HW2.out.rw_
 have y8 := fZ 8 HW2.out.rw_
 have z9 := cR 9 (.int .i64 0) HW2.out.rw_
 have y9 := fZ 9 HW2.out.rw_
 have z10 := cR 10 (.int .i64 v1.1) HW2.out.rw_
 have y10 := fZ 10 HW2.out.rw_
 have z11 := cR 11 (.slice none 0 0) HW2.out.rw_
 have y11 := fZ 11 HW2.out.rw_
 have z12 := cR 12 (.slice none 0 0) HW2.out.rw_
 have y12 := fZ 12 HW2.out.rw_
 have r0 := cR 0 (.int .i64 0) HW2.out.rb
 have s0 := fZ 0 HW2.out.rb
 have r1 := cR 1 (.string ⟨#[]⟩) HW2.out.rb
 have s1 := fZ 1 HW2.out.rb
 have r2 := cR 2 (.int .i64 0) HW2.out.rb
 have s2 := fZ 2 HW2.out.rb
 have r3 := cR 3 (.int .i64 0) HW2.out.rb
 have s3 := fZ 3 HW2.out.rb
 have r4 := cR 4 (.int .i64 0) HW2.out.rb
 have s4 := fZ 4 HW2.out.rb
 have r5 := cR 5 (.int .i64 0) HW2.out.rb
 have s5 := fZ 5 HW2.out.rb
 have r6 := cR 6 (.string ⟨#[]⟩) HW2.out.rb
 have s6 := fZ 6 HW2.out.rb
 have r7 := cR 7 (.slice none 0 0) HW2.out.rb
 have s7 := fZ 7 HW2.out.rb
 have r8 := cR 8 (.int .i64 0) HW2.out.rb
 have s8 := fZ 8 HW2.out.rb
 have r9 := cR 9 (.int .i64 0) HW2.out.rb
 have s9 := fZ 9 HW2.out.rb
 have r10 := cR 10 (.int .i64 0) HW2.out.rb
 have s10 := fZ 10 HW2.out.rb
 have r11 := cR 11 (.slice none 0 0) HW2.out.rb
 have s11 := fZ 11 HW2.out.rb
 have r12 := cR 12 (.slice none 0 0) HW2.out.rb
 have s12 := fZ 12 HW2.out.rb
 go_wp2_with fail
 obtain ⟨Wz, hwz, h5, f5⟩ := sE br 26 [(0, .int .i64 7), (1, .string ⟨#[]⟩), (2, .int .i64 0), (3, .int .i64 0), (4, .int .i64 0), (5, .int .i64 0), (6, .string ⟨#[]⟩), (7, .slice none 0 0), (8, .int .i64 0), (9, .int .i64 0), (10, .int .i64 v1.1), (11, .slice none 0 0), (12, .slice none 0 0)] W2 _ HW2.out.rb
 simp only [List.foldl, List.setIfInBounds_toArray, List.set_cons_zero, List.set_cons_succ] at h5
 simp only [setsF] at hwz
 have hWz := hwz
 rw [hwz]
 obtain ⟨hq1, hq2⟩ := HW2.out.fin f5
 have u0 := cR 0 (.int .i64 7) h5
 have u1 := cR 1 (.string ⟨#[]⟩) h5
 have u2 := cR 2 (.int .i64 0) h5
 have u3 := cR 3 (.int .i64 0) h5
 have u4 := cR 4 (.int .i64 0) h5
 have u5 := cR 5 (.int .i64 0) h5
 have u6 := cR 6 (.string ⟨#[]⟩) h5
 have u7 := cR 7 (.slice none 0 0) h5
 have u8 := cR 8 (.int .i64 0) h5
 have u9 := cR 9 (.int .i64 0) h5
 have u10 := cR 10 (.int .i64 v1.1) h5
 have u11 := cR 11 (.slice none 0 0) h5
 have u12 := cR 12 (.slice none 0 0) h5
 refine bodyPost_ret (v := .agg #[.int .i64 7, .string ⟨#[]⟩, .int .i64 0, .int .i64 0, .int .i64 0, .int .i64 0, .string ⟨#[]⟩, .slice none 0 0, .int .i64 0, .int .i64 0, .int .i64 v1.1, .slice none 0 0, .slice none 0 0]) (by simp [results, Tryz.results82, go_sem, u0, u1, u2, u3, u4, u5, u6, u7, u8, u9, u10, u11, u12]) rfl ?_
 refine HP.out _ _ ⟨⟨7, ⟨#[]⟩, 0, 0, 0, 0, ⟨#[]⟩, none, 0, 0, 0, 0, v1.1, none, 0, 0, none, 0, 0⟩, rfl, ?_, ?_, ?_, hq2⟩
 ·unfold tvCn TkV.rc Rc.core; rw [HV1.out]
 ·unfold tvCn; rw [HV1.out]; exact ⟨World.ownsRow_nil _ _ _ _, rfl, by simp [blk], World.ownsRow_nil _ _ _ _, rfl, by simp [blk], Own.nil _ _, rfl, by simp [blk], by simp, by simp, by simp⟩
 ·unfold tvCn; rw [HV1.out]; exact hq1
theorem told_3 (w0 w : World) (b c : Nat) (q : Option Addr) (bs : List Int) (hb : ∀ z ∈ bs, 0 ≤ z ∧ z < 256) (hl : bs.length ≤ 2048) (h : QrR w0 w b q c bs (0, 0)) :
  Calls Tryz.prog 82 #[.int .i64 3, .pointer (some ⟨b, 0, none⟩)] w (TolP w0 w b c q bs 3 (tdLv bs)) := by
 obtain ⟨PO, hPO⟩ : ∃ PO : Ending → World → Prop, TolP w0 w b c q bs 3 (tdLv bs) = PO := ⟨_, rfl⟩
 rw [hPO]
 have HP := hid (show ∀ e w', TolP w0 w b c q bs 3 (tdLv bs) e w' → PO e w' from fun e w' h => by rw [← hPO]; exact h)
 have HB := hid hb
 have HL := hid hl
 have hbn := QK.born h #[.int .i64 3, .string ⟨#[]⟩, .int .i64 0, .int .i64 0, .int .i64 0, .int .i64 0, .string ⟨#[]⟩, .slice none 0 0, .int .i64 0, .int .i64 0, .int .i64 0, .slice none 0 0, .slice none 0 0]
 have hbl : ∀ V, (Instr.build 26 #[(0, .int .i64 3)]).run Tryz.prog V = .ok (.agg #[.int .i64 3, .string ⟨#[]⟩, .int .i64 0, .int .i64 0, .int .i64 0, .int .i64 0, .string ⟨#[]⟩, .slice none 0 0, .int .i64 0, .int .i64 0, .int .i64 0, .slice none 0 0, .slice none 0 0]) V := fun V => run_build V _ _ _ (by kernel_rfl)
 obtain ⟨wm, hwm⟩ := eX (w.alloc (.cells #[.int .i64 0, .string ⟨#[]⟩, .int .i64 0, .int .i64 0, .int .i64 0, .int .i64 0, .string ⟨#[]⟩, .slice none 0 0, .int .i64 0, .int .i64 0, .int .i64 0, .slice none 0 0, .slice none 0 0] 26))
 rw [hwm] at hbn
 obtain ⟨wx, hwx⟩ := eX (wm.alloc (.cells #[.int .i64 3, .string ⟨#[]⟩, .int .i64 0, .int .i64 0, .int .i64 0, .int .i64 0, .string ⟨#[]⟩, .slice none 0 0, .int .i64 0, .int .i64 0, .int .i64 0, .slice none 0 0, .slice none 0 0] 26))
 obtain ⟨br, hbr⟩ := eX (w.heap.size)
 obtain ⟨bx, hbx⟩ := eX (wm.heap.size)
 have hb1 : br + 1 = bx := by rw [← hbx, ← hwm, ← hbr]; simp
 rw [hwx, hbr, hb1] at hbn
 have HS0 := hid hbn
 have HWM := hid hwm
 have HWX := hid hwx
 have HBR := hid hbr
 have HBX := hid hbx
 have HB1 := hid hb1
 clear hb hl h hPO hbn hwm hwx hbr hbx hb1
 go_enter Tryz.func82, Tryz.ntmps82
 go_upto_region 1 with fail
 try rw [HWM.out]
 try rw [HBR.out]
 go_upto_region 2 with fail
 try rw [HWX.out]
 try rw [HBX.out]
 clear HWM HWX HBR HBX HB1 hbl
 have HC1 := hid (keepD_any w0 wx b c q bs HB.out (0, 0) HS0.out.fr 4 0 (by omega) (by omega) (by omega) (by omega))
 obtain ⟨v1, hv1⟩ := eX (tkD bs 0 4 (0, 0))
 have hnb : (tkD bs 0 4 (0, 0)).1.length ≤ 241 := by unfold tkD; rw [kpS_len]; unfold kpM; omega
 rw [hv1] at HC1 hnb
 have HV1 := hid hv1
 clear hv1
 go_wp2_with fail
 refine HC1.out.mono ?_
 rintro e x1 ⟨p1, n1, c1, rfl, hn, ho, hnw, hr, hf⟩
 have HX1 := hid (QK.call HS0.out hr hf)
 have HO1 := hid ho
 have HN1 := hid hn
 have HNW1 : Hid (∀ k ∈ blk p1, w.heap.size ≤ k ∧ k ≠ bx ∧ k ≠ br) := hid (fun k hk => by have h1 := hnw k hk; have h2 := HS0.out.frm.size; have h3 := lt_of_heap HS0.out.rw_; have h4 := lt_of_heap HS0.out.rb; exact ⟨by omega, by omega, by omega⟩)
 have HNB1 : Hid (n1 ≤ 100000) := hid (by omega)
 clear ho hn hnw hr hf HC1 hnb
 have z11 := cR 11 (.slice none 0 0) HX1.out.rw_
 have y11 := fZ 11 HX1.out.rw_
 go_upto_region 23 with fail
 obtain ⟨W2, hW2⟩ := eX (x1.setCell ⟨bx, 11, none⟩ (.slice p1 n1 c1))
 have HW2 : Hid (QK w0 w b c q bs br bx W2 #[.int .i64 3, .string ⟨#[]⟩, .int .i64 0, .int .i64 0, .int .i64 0, .int .i64 0, .string ⟨#[]⟩, .slice none 0 0, .int .i64 0, .int .i64 0, .int .i64 0, .slice p1 n1 c1, .slice none 0 0] v1.2) := hid (by rw [← hW2]; exact QK.set HX1.out 11 (.slice p1 n1 c1))
 rw [hW2]
 have HO12 := hid (ownsRow_kept HO1.out (show Frm [bx] x1 W2 by rw [← hW2]; exact (Frm.refl [bx] x1).setCell _ _ (by simp)) (fun k hk hm => by rw [List.mem_singleton] at hm; exact (HNW1.out k hk).2.1 hm))
 clear z11 y11
 have z0 := cR 0 (.int .i64 3) HW2.out.rw_
 have y0 := fZ 0 HW2.out.rw_
 have z1 := cR 1 (.string ⟨#[]⟩) HW2.out.rw_
 have y1 := fZ 1 HW2.out.rw_
 have z2 := cR 2 (.int .i64 0) HW2.out.rw_
 have y2 := fZ 2 HW2.out.rw_
 have z3 := cR 3 (.int .i64 0) HW2.out.rw_
 have y3 := fZ 3 HW2.out.rw_
 have z4 := cR 4 (.int .i64 0) HW2.out.rw_
 have y4 := fZ 4 HW2.out.rw_
 have z5 := cR 5 (.int .i64 0) HW2.out.rw_
 have y5 := fZ 5 HW2.out.rw_
 have z6 := cR 6 (.string ⟨#[]⟩) HW2.out.rw_
 have y6 := fZ 6 HW2.out.rw_
 have z7 := cR 7 (.slice none 0 0) HW2.out.rw_
 have y7 := fZ 7 HW2.out.rw_
 have z8 := cR 8 (.int .i64 0) HW2.out.rw_
 have y8 := fZ 8 HW2.out.rw_
 have z9 := cR 9 (.int .i64 0) HW2.out.rw_
 have y9 := fZ 9 HW2.out.rw_
 have z10 := cR 10 (.int .i64 0) HW2.out.rw_
 have y10 := fZ 10 HW2.out.rw_
 have z11 := cR 11 (.slice p1 n1 c1) HW2.out.rw_
 have y11 := fZ 11 HW2.out.rw_
 have z12 := cR 12 (.slice none 0 0) HW2.out.rw_
 have y12 := fZ 12 HW2.out.rw_
 have r0 := cR 0 (.int .i64 0) HW2.out.rb
 have s0 := fZ 0 HW2.out.rb
 have r1 := cR 1 (.string ⟨#[]⟩) HW2.out.rb
 have s1 := fZ 1 HW2.out.rb
 have r2 := cR 2 (.int .i64 0) HW2.out.rb
 have s2 := fZ 2 HW2.out.rb
 have r3 := cR 3 (.int .i64 0) HW2.out.rb
 have s3 := fZ 3 HW2.out.rb
 have r4 := cR 4 (.int .i64 0) HW2.out.rb
 have s4 := fZ 4 HW2.out.rb
 have r5 := cR 5 (.int .i64 0) HW2.out.rb
 have s5 := fZ 5 HW2.out.rb
 have r6 := cR 6 (.string ⟨#[]⟩) HW2.out.rb
 have s6 := fZ 6 HW2.out.rb
 have r7 := cR 7 (.slice none 0 0) HW2.out.rb
 have s7 := fZ 7 HW2.out.rb
 have r8 := cR 8 (.int .i64 0) HW2.out.rb
 have s8 := fZ 8 HW2.out.rb
 have r9 := cR 9 (.int .i64 0) HW2.out.rb
 have s9 := fZ 9 HW2.out.rb
 have r10 := cR 10 (.int .i64 0) HW2.out.rb
 have s10 := fZ 10 HW2.out.rb
 have r11 := cR 11 (.slice none 0 0) HW2.out.rb
 have s11 := fZ 11 HW2.out.rb
 have r12 := cR 12 (.slice none 0 0) HW2.out.rb
 have s12 := fZ 12 HW2.out.rb
 go_wp2_with fail
 obtain ⟨Wz, hwz, h5, f5⟩ := sE br 26 [(0, .int .i64 3), (1, .string ⟨#[]⟩), (2, .int .i64 0), (3, .int .i64 0), (4, .int .i64 0), (5, .int .i64 0), (6, .string ⟨#[]⟩), (7, .slice none 0 0), (8, .int .i64 0), (9, .int .i64 0), (10, .int .i64 0), (11, .slice p1 n1 c1), (12, .slice none 0 0)] W2 _ HW2.out.rb
 simp only [List.foldl, List.setIfInBounds_toArray, List.set_cons_zero, List.set_cons_succ] at h5
 simp only [setsF] at hwz
 have hWz := hwz
 rw [hwz]
 obtain ⟨hq1, hq2⟩ := HW2.out.fin f5
 have u0 := cR 0 (.int .i64 3) h5
 have u1 := cR 1 (.string ⟨#[]⟩) h5
 have u2 := cR 2 (.int .i64 0) h5
 have u3 := cR 3 (.int .i64 0) h5
 have u4 := cR 4 (.int .i64 0) h5
 have u5 := cR 5 (.int .i64 0) h5
 have u6 := cR 6 (.string ⟨#[]⟩) h5
 have u7 := cR 7 (.slice none 0 0) h5
 have u8 := cR 8 (.int .i64 0) h5
 have u9 := cR 9 (.int .i64 0) h5
 have u10 := cR 10 (.int .i64 0) h5
 have u11 := cR 11 (.slice p1 n1 c1) h5
 have u12 := cR 12 (.slice none 0 0) h5
 refine bodyPost_ret (v := .agg #[.int .i64 3, .string ⟨#[]⟩, .int .i64 0, .int .i64 0, .int .i64 0, .int .i64 0, .string ⟨#[]⟩, .slice none 0 0, .int .i64 0, .int .i64 0, .int .i64 0, .slice p1 n1 c1, .slice none 0 0]) (by simp [results, Tryz.results82, go_sem, u0, u1, u2, u3, u4, u5, u6, u7, u8, u9, u10, u11, u12]) rfl ?_
 refine HP.out _ _ ⟨⟨3, ⟨#[]⟩, 0, 0, 0, 0, ⟨#[]⟩, none, 0, 0, 0, 0, 0, p1, n1, c1, none, 0, 0⟩, rfl, ?_, ?_, ?_, hq2⟩
 ·unfold tdLv TkV.rc Rc.core; rw [HV1.out]
 ·unfold tdLv; rw [HV1.out]; exact ⟨World.ownsRow_nil _ _ _ _, rfl, by simp [blk], ownsRow_kept HO12.out f5 (fun k hk hm => by rw [List.mem_singleton] at hm; exact (HNW1.out k hk).2.2 hm), HN1.out, fun k hk => (HNW1.out k hk).1, Own.nil _ _, rfl, by simp [blk], by simp, by simp, HNB1.out⟩
 ·unfold tdLv; rw [HV1.out]; exact hq1
theorem told_4 (w0 w : World) (b c : Nat) (q : Option Addr) (bs : List Int) (hb : ∀ z ∈ bs, 0 ≤ z ∧ z < 256) (hl : bs.length ≤ 2048) (h : QrR w0 w b q c bs (0, 0)) :
  Calls Tryz.prog 82 #[.int .i64 4, .pointer (some ⟨b, 0, none⟩)] w (TolP w0 w b c q bs 4 (tdNd bs)) := by
 obtain ⟨PO, hPO⟩ : ∃ PO : Ending → World → Prop, TolP w0 w b c q bs 4 (tdNd bs) = PO := ⟨_, rfl⟩
 rw [hPO]
 have HP := hid (show ∀ e w', TolP w0 w b c q bs 4 (tdNd bs) e w' → PO e w' from fun e w' h => by rw [← hPO]; exact h)
 have HB := hid hb
 have HL := hid hl
 have hbn := QK.born h #[.int .i64 4, .string ⟨#[]⟩, .int .i64 0, .int .i64 0, .int .i64 0, .int .i64 0, .string ⟨#[]⟩, .slice none 0 0, .int .i64 0, .int .i64 0, .int .i64 0, .slice none 0 0, .slice none 0 0]
 have hbl : ∀ V, (Instr.build 26 #[(0, .int .i64 4)]).run Tryz.prog V = .ok (.agg #[.int .i64 4, .string ⟨#[]⟩, .int .i64 0, .int .i64 0, .int .i64 0, .int .i64 0, .string ⟨#[]⟩, .slice none 0 0, .int .i64 0, .int .i64 0, .int .i64 0, .slice none 0 0, .slice none 0 0]) V := fun V => run_build V _ _ _ (by kernel_rfl)
 obtain ⟨wm, hwm⟩ := eX (w.alloc (.cells #[.int .i64 0, .string ⟨#[]⟩, .int .i64 0, .int .i64 0, .int .i64 0, .int .i64 0, .string ⟨#[]⟩, .slice none 0 0, .int .i64 0, .int .i64 0, .int .i64 0, .slice none 0 0, .slice none 0 0] 26))
 rw [hwm] at hbn
 obtain ⟨wx, hwx⟩ := eX (wm.alloc (.cells #[.int .i64 4, .string ⟨#[]⟩, .int .i64 0, .int .i64 0, .int .i64 0, .int .i64 0, .string ⟨#[]⟩, .slice none 0 0, .int .i64 0, .int .i64 0, .int .i64 0, .slice none 0 0, .slice none 0 0] 26))
 obtain ⟨br, hbr⟩ := eX (w.heap.size)
 obtain ⟨bx, hbx⟩ := eX (wm.heap.size)
 have hb1 : br + 1 = bx := by rw [← hbx, ← hwm, ← hbr]; simp
 rw [hwx, hbr, hb1] at hbn
 have HS0 := hid hbn
 have HWM := hid hwm
 have HWX := hid hwx
 have HBR := hid hbr
 have HBX := hid hbx
 have HB1 := hid hb1
 clear hb hl h hPO hbn hwm hwx hbr hbx hb1
 go_enter Tryz.func82, Tryz.ntmps82
 go_upto_region 1 with fail
 try rw [HWM.out]
 try rw [HBR.out]
 go_upto_region 2 with fail
 try rw [HWX.out]
 try rw [HBX.out]
 clear HWM HWX HBR HBX HB1 hbl
 have HC1 := hid (qn_any w0 wx b c q bs HB.out (0, 0) HS0.out.fr 4 (by omega) (by omega))
 have hbd1 := nuS_bd HB.out (0, 0) 4 (by omega)
 obtain ⟨v1, hv1⟩ := eX (nuS bs (0, 0) 4)
 rw [hv1] at HC1 hbd1
 have HV1 := hid hv1
 clear hv1
 have hw1 : IntKind.i64.wrap v1.1 = v1.1 := by rw [IntKind.wrap_i64]; omega
 go_wp2_with fail
 refine HC1.out.mono ?_
 rintro e x1 ⟨rfl, hr, hf⟩
 have HX1 := hid (QK.call HS0.out hr hf)
 clear hr hf HC1
 have z8 := cR 8 (.int .i64 0) HX1.out.rw_
 have y8 := fZ 8 HX1.out.rw_
 go_upto_region 16 with fail
 obtain ⟨W2, hW2⟩ := eX (x1.setCell ⟨bx, 8, none⟩ (.int .i64 v1.1))
 have HW2 : Hid (QK w0 w b c q bs br bx W2 #[.int .i64 4, .string ⟨#[]⟩, .int .i64 0, .int .i64 0, .int .i64 0, .int .i64 0, .string ⟨#[]⟩, .slice none 0 0, .int .i64 v1.1, .int .i64 0, .int .i64 0, .slice none 0 0, .slice none 0 0] v1.2) := hid (by rw [← hW2]; exact QK.set HX1.out 8 (.int .i64 v1.1))
 rw [hW2]
 clear z8 y8
 have HC3 := hid (keepD_any w0 W2 b c q bs HB.out v1.2 HW2.out.fr 2 1 (by omega) (by omega) (by omega) (by omega))
 obtain ⟨v3, hv3⟩ := eX (tkD bs 1 2 v1.2)
 have hnb : (tkD bs 1 2 v1.2).1.length ≤ 241 := by unfold tkD; rw [kpS_len]; unfold kpM; omega
 rw [hv3] at HC3 hnb
 have HV3 := hid hv3
 clear hv3
 go_wp2_with fail
 refine HC3.out.mono ?_
 rintro e x3 ⟨p3, n3, c3, rfl, hn, ho, hnw, hr, hf⟩
 have HX3 := hid (QK.call HW2.out hr hf)
 have HO3 := hid ho
 have HN3 := hid hn
 have HNW3 : Hid (∀ k ∈ blk p3, w.heap.size ≤ k ∧ k ≠ bx ∧ k ≠ br) := hid (fun k hk => by have h1 := hnw k hk; have h2 := HW2.out.frm.size; have h3 := lt_of_heap HW2.out.rw_; have h4 := lt_of_heap HW2.out.rb; exact ⟨by omega, by omega, by omega⟩)
 have HNB3 : Hid (n3 ≤ 100000) := hid (by omega)
 clear ho hn hnw hr hf HC3 hnb
 have z11 := cR 11 (.slice none 0 0) HX3.out.rw_
 have y11 := fZ 11 HX3.out.rw_
 go_upto_region 23 with fail
 obtain ⟨W4, hW4⟩ := eX (x3.setCell ⟨bx, 11, none⟩ (.slice p3 n3 c3))
 have HW4 : Hid (QK w0 w b c q bs br bx W4 #[.int .i64 4, .string ⟨#[]⟩, .int .i64 0, .int .i64 0, .int .i64 0, .int .i64 0, .string ⟨#[]⟩, .slice none 0 0, .int .i64 v1.1, .int .i64 0, .int .i64 0, .slice p3 n3 c3, .slice none 0 0] v3.2) := hid (by rw [← hW4]; exact QK.set HX3.out 11 (.slice p3 n3 c3))
 rw [hW4]
 have HO34 := hid (ownsRow_kept HO3.out (show Frm [bx] x3 W4 by rw [← hW4]; exact (Frm.refl [bx] x3).setCell _ _ (by simp)) (fun k hk hm => by rw [List.mem_singleton] at hm; exact (HNW3.out k hk).2.1 hm))
 clear z11 y11
 clear hbd1 hw1
 have z0 := cR 0 (.int .i64 4) HW4.out.rw_
 have y0 := fZ 0 HW4.out.rw_
 have z1 := cR 1 (.string ⟨#[]⟩) HW4.out.rw_
 have y1 := fZ 1 HW4.out.rw_
 have z2 := cR 2 (.int .i64 0) HW4.out.rw_
 have y2 := fZ 2 HW4.out.rw_
 have z3 := cR 3 (.int .i64 0) HW4.out.rw_
 have y3 := fZ 3 HW4.out.rw_
 have z4 := cR 4 (.int .i64 0) HW4.out.rw_
 have y4 := fZ 4 HW4.out.rw_
 have z5 := cR 5 (.int .i64 0) HW4.out.rw_
 have y5 := fZ 5 HW4.out.rw_
 have z6 := cR 6 (.string ⟨#[]⟩) HW4.out.rw_
 have y6 := fZ 6 HW4.out.rw_
 have z7 := cR 7 (.slice none 0 0) HW4.out.rw_
 have y7 := fZ 7 HW4.out.rw_
 have z8 := cR 8 (.int .i64 v1.1) HW4.out.rw_
 have y8 := fZ 8 HW4.out.rw_
 have z9 := cR 9 (.int .i64 0) HW4.out.rw_
 have y9 := fZ 9 HW4.out.rw_
 have z10 := cR 10 (.int .i64 0) HW4.out.rw_
 have y10 := fZ 10 HW4.out.rw_
 have z11 := cR 11 (.slice p3 n3 c3) HW4.out.rw_
 have y11 := fZ 11 HW4.out.rw_
 have z12 := cR 12 (.slice none 0 0) HW4.out.rw_
 have y12 := fZ 12 HW4.out.rw_
 have r0 := cR 0 (.int .i64 0) HW4.out.rb
 have s0 := fZ 0 HW4.out.rb
 have r1 := cR 1 (.string ⟨#[]⟩) HW4.out.rb
 have s1 := fZ 1 HW4.out.rb
 have r2 := cR 2 (.int .i64 0) HW4.out.rb
 have s2 := fZ 2 HW4.out.rb
 have r3 := cR 3 (.int .i64 0) HW4.out.rb
 have s3 := fZ 3 HW4.out.rb
 have r4 := cR 4 (.int .i64 0) HW4.out.rb
 have s4 := fZ 4 HW4.out.rb
 have r5 := cR 5 (.int .i64 0) HW4.out.rb
 have s5 := fZ 5 HW4.out.rb
 have r6 := cR 6 (.string ⟨#[]⟩) HW4.out.rb
 have s6 := fZ 6 HW4.out.rb
 have r7 := cR 7 (.slice none 0 0) HW4.out.rb
 have s7 := fZ 7 HW4.out.rb
 have r8 := cR 8 (.int .i64 0) HW4.out.rb
 have s8 := fZ 8 HW4.out.rb
 have r9 := cR 9 (.int .i64 0) HW4.out.rb
 have s9 := fZ 9 HW4.out.rb
 have r10 := cR 10 (.int .i64 0) HW4.out.rb
 have s10 := fZ 10 HW4.out.rb
 have r11 := cR 11 (.slice none 0 0) HW4.out.rb
 have s11 := fZ 11 HW4.out.rb
 have r12 := cR 12 (.slice none 0 0) HW4.out.rb
 have s12 := fZ 12 HW4.out.rb
 go_wp2_with fail
 obtain ⟨Wz, hwz, h5, f5⟩ := sE br 26 [(0, .int .i64 4), (1, .string ⟨#[]⟩), (2, .int .i64 0), (3, .int .i64 0), (4, .int .i64 0), (5, .int .i64 0), (6, .string ⟨#[]⟩), (7, .slice none 0 0), (8, .int .i64 v1.1), (9, .int .i64 0), (10, .int .i64 0), (11, .slice p3 n3 c3), (12, .slice none 0 0)] W4 _ HW4.out.rb
 simp only [List.foldl, List.setIfInBounds_toArray, List.set_cons_zero, List.set_cons_succ] at h5
 simp only [setsF] at hwz
 have hWz := hwz
 rw [hwz]
 obtain ⟨hq1, hq2⟩ := HW4.out.fin f5
 have u0 := cR 0 (.int .i64 4) h5
 have u1 := cR 1 (.string ⟨#[]⟩) h5
 have u2 := cR 2 (.int .i64 0) h5
 have u3 := cR 3 (.int .i64 0) h5
 have u4 := cR 4 (.int .i64 0) h5
 have u5 := cR 5 (.int .i64 0) h5
 have u6 := cR 6 (.string ⟨#[]⟩) h5
 have u7 := cR 7 (.slice none 0 0) h5
 have u8 := cR 8 (.int .i64 v1.1) h5
 have u9 := cR 9 (.int .i64 0) h5
 have u10 := cR 10 (.int .i64 0) h5
 have u11 := cR 11 (.slice p3 n3 c3) h5
 have u12 := cR 12 (.slice none 0 0) h5
 refine bodyPost_ret (v := .agg #[.int .i64 4, .string ⟨#[]⟩, .int .i64 0, .int .i64 0, .int .i64 0, .int .i64 0, .string ⟨#[]⟩, .slice none 0 0, .int .i64 v1.1, .int .i64 0, .int .i64 0, .slice p3 n3 c3, .slice none 0 0]) (by simp [results, Tryz.results82, go_sem, u0, u1, u2, u3, u4, u5, u6, u7, u8, u9, u10, u11, u12]) rfl ?_
 refine HP.out _ _ ⟨⟨4, ⟨#[]⟩, 0, 0, 0, 0, ⟨#[]⟩, none, 0, 0, v1.1, 0, 0, p3, n3, c3, none, 0, 0⟩, rfl, ?_, ?_, ?_, hq2⟩
 ·unfold tdNd TkV.rc Rc.core; rw [HV1.out, HV3.out]
 ·unfold tdNd; rw [HV1.out, HV3.out]; exact ⟨World.ownsRow_nil _ _ _ _, rfl, by simp [blk], ownsRow_kept HO34.out f5 (fun k hk hm => by rw [List.mem_singleton] at hm; exact (HNW3.out k hk).2.2 hm), HN3.out, fun k hk => (HNW3.out k hk).1, Own.nil _ _, rfl, by simp [blk], by simp, by simp, HNB3.out⟩
 ·unfold tdNd; rw [HV1.out, HV3.out]; exact hq1
theorem told_5 (w0 w : World) (b c : Nat) (q : Option Addr) (bs : List Int) (hb : ∀ z ∈ bs, 0 ≤ z ∧ z < 256) (hl : bs.length ≤ 2048) (h : QrR w0 w b q c bs (0, 0)) :
  Calls Tryz.prog 82 #[.int .i64 5, .pointer (some ⟨b, 0, none⟩)] w (TolP w0 w b c q bs 5 (tvWr bs)) := by
 obtain ⟨PO, hPO⟩ : ∃ PO : Ending → World → Prop, TolP w0 w b c q bs 5 (tvWr bs) = PO := ⟨_, rfl⟩
 rw [hPO]
 have HP := hid (show ∀ e w', TolP w0 w b c q bs 5 (tvWr bs) e w' → PO e w' from fun e w' h => by rw [← hPO]; exact h)
 have HB := hid hb
 have HL := hid hl
 have hbn := QK.born h #[.int .i64 5, .string ⟨#[]⟩, .int .i64 0, .int .i64 0, .int .i64 0, .int .i64 0, .string ⟨#[]⟩, .slice none 0 0, .int .i64 0, .int .i64 0, .int .i64 0, .slice none 0 0, .slice none 0 0]
 have hbl : ∀ V, (Instr.build 26 #[(0, .int .i64 5)]).run Tryz.prog V = .ok (.agg #[.int .i64 5, .string ⟨#[]⟩, .int .i64 0, .int .i64 0, .int .i64 0, .int .i64 0, .string ⟨#[]⟩, .slice none 0 0, .int .i64 0, .int .i64 0, .int .i64 0, .slice none 0 0, .slice none 0 0]) V := fun V => run_build V _ _ _ (by kernel_rfl)
 obtain ⟨wm, hwm⟩ := eX (w.alloc (.cells #[.int .i64 0, .string ⟨#[]⟩, .int .i64 0, .int .i64 0, .int .i64 0, .int .i64 0, .string ⟨#[]⟩, .slice none 0 0, .int .i64 0, .int .i64 0, .int .i64 0, .slice none 0 0, .slice none 0 0] 26))
 rw [hwm] at hbn
 obtain ⟨wx, hwx⟩ := eX (wm.alloc (.cells #[.int .i64 5, .string ⟨#[]⟩, .int .i64 0, .int .i64 0, .int .i64 0, .int .i64 0, .string ⟨#[]⟩, .slice none 0 0, .int .i64 0, .int .i64 0, .int .i64 0, .slice none 0 0, .slice none 0 0] 26))
 obtain ⟨br, hbr⟩ := eX (w.heap.size)
 obtain ⟨bx, hbx⟩ := eX (wm.heap.size)
 have hb1 : br + 1 = bx := by rw [← hbx, ← hwm, ← hbr]; simp
 rw [hwx, hbr, hb1] at hbn
 have HS0 := hid hbn
 have HWM := hid hwm
 have HWX := hid hwx
 have HBR := hid hbr
 have HBX := hid hbx
 have HB1 := hid hb1
 clear hb hl h hPO hbn hwm hwx hbr hbx hb1
 go_enter Tryz.func82, Tryz.ntmps82
 go_upto_region 1 with fail
 try rw [HWM.out]
 try rw [HBR.out]
 go_upto_region 2 with fail
 try rw [HWX.out]
 try rw [HBX.out]
 clear HWM HWX HBR HBX HB1 hbl
 have HC1 := hid (qn_any w0 wx b c q bs HB.out (0, 0) HS0.out.fr 4 (by omega) (by omega))
 have hbd1 := nuS_bd HB.out (0, 0) 4 (by omega)
 obtain ⟨v1, hv1⟩ := eX (nuS bs (0, 0) 4)
 rw [hv1] at HC1 hbd1
 have HV1 := hid hv1
 clear hv1
 have hw1 : IntKind.i64.wrap v1.1 = v1.1 := by rw [IntKind.wrap_i64]; omega
 go_wp2_with fail
 refine HC1.out.mono ?_
 rintro e x1 ⟨rfl, hr, hf⟩
 have HX1 := hid (QK.call HS0.out hr hf)
 clear hr hf HC1
 have HC2 := hid (qn_any w0 x1 b c q bs HB.out v1.2 HX1.out.fr 2 (by omega) (by omega))
 have hbd2 := nuS_bd HB.out v1.2 2 (by omega)
 obtain ⟨v2, hv2⟩ := eX (nuS bs v1.2 2)
 rw [hv2] at HC2 hbd2
 have HV2 := hid hv2
 clear hv2
 have hw2 : IntKind.i64.wrap v2.1 = v2.1 := by rw [IntKind.wrap_i64]; omega
 go_wp2_with fail
 refine HC2.out.mono ?_
 rintro e x2 ⟨rfl, hr, hf⟩
 have HX2 := hid (QK.call HX1.out hr hf)
 clear hr hf HC2
 have HC3 := hid (qn_any w0 x2 b c q bs HB.out v2.2 HX2.out.fr 2 (by omega) (by omega))
 have hbd3 := nuS_bd HB.out v2.2 2 (by omega)
 obtain ⟨v3, hv3⟩ := eX (nuS bs v2.2 2)
 rw [hv3] at HC3 hbd3
 have HV3 := hid hv3
 clear hv3
 have hw3 : IntKind.i64.wrap v3.1 = v3.1 := by rw [IntKind.wrap_i64]; omega
 go_wp2_with fail
 refine HC3.out.mono ?_
 rintro e x3 ⟨rfl, hr, hf⟩
 have HX3 := hid (QK.call HX2.out hr hf)
 clear hr hf HC3
 have hw64 : wrap64 (v2.1 - 1) = v2.1 - 1 := by unfold wrap64; omega
 have z8 := cR 8 (.int .i64 0) HX3.out.rw_
 have y8 := fZ 8 HX3.out.rw_
 have z9 := cR 9 (.int .i64 0) HX3.out.rw_
 have y9 := fZ 9 HX3.out.rw_
 go_upto_region 22 with fail
 obtain ⟨W4, hW4⟩ := eX (x3.setCell ⟨bx, 8, none⟩ (.int .i64 v1.1))
 have HW4 : Hid (QK w0 w b c q bs br bx W4 #[.int .i64 5, .string ⟨#[]⟩, .int .i64 0, .int .i64 0, .int .i64 0, .int .i64 0, .string ⟨#[]⟩, .slice none 0 0, .int .i64 v1.1, .int .i64 0, .int .i64 0, .slice none 0 0, .slice none 0 0] v3.2) := hid (by rw [← hW4]; exact QK.set HX3.out 8 (.int .i64 v1.1))
 rw [hW4]
 obtain ⟨W5, hW5⟩ := eX (W4.setCell ⟨bx, 9, none⟩ (.int .i64 (v2.1 - 1)))
 have HW5 : Hid (QK w0 w b c q bs br bx W5 #[.int .i64 5, .string ⟨#[]⟩, .int .i64 0, .int .i64 0, .int .i64 0, .int .i64 0, .string ⟨#[]⟩, .slice none 0 0, .int .i64 v1.1, .int .i64 (v2.1 - 1), .int .i64 0, .slice none 0 0, .slice none 0 0] v3.2) := hid (by rw [← hW5]; exact QK.set HW4.out 9 (.int .i64 (v2.1 - 1)))
 rw [hW5]
 clear z8 y8 z9 y9
 clear hw64
 have HC6 := hid (qb_any w0 W5 b c q bs v3.2 HW5.out.fr v3.1 (by omega) (by omega))
 have HBD6 := hid (byS_bd HB.out v3.2 v3.1)
 obtain ⟨v6, hv6⟩ := eX (byS bs v3.2 v3.1)
 rw [hv6] at HC6 HBD6
 have HV6 := hid hv6
 clear hv6
 go_wp2_with fail
 refine HC6.out.mono ?_
 rintro e x6 ⟨p6, n6, c6, rfl, hn, ho, hnw, hr, hf⟩
 have HX6 := hid (QK.call HW5.out hr hf)
 have HO6 := hid ho
 have HN6 := hid hn
 have HNW6 : Hid (∀ k ∈ blk p6, w.heap.size ≤ k ∧ k ≠ bx ∧ k ≠ br) := hid (fun k hk => by have h1 := hnw k hk; have h2 := HW5.out.frm.size; have h3 := lt_of_heap HW5.out.rw_; have h4 := lt_of_heap HW5.out.rb; exact ⟨by omega, by omega, by omega⟩)
 clear ho hn hnw hr hf HC6
 have z12 := cR 12 (.slice none 0 0) HX6.out.rw_
 have y12 := fZ 12 HX6.out.rw_
 go_upto_region 23 with fail
 obtain ⟨W7, hW7⟩ := eX (x6.setCell ⟨bx, 12, none⟩ (.slice p6 n6 c6))
 have HW7 : Hid (QK w0 w b c q bs br bx W7 #[.int .i64 5, .string ⟨#[]⟩, .int .i64 0, .int .i64 0, .int .i64 0, .int .i64 0, .string ⟨#[]⟩, .slice none 0 0, .int .i64 v1.1, .int .i64 (v2.1 - 1), .int .i64 0, .slice none 0 0, .slice p6 n6 c6] v6.2) := hid (by rw [← hW7]; exact QK.set HX6.out 12 (.slice p6 n6 c6))
 rw [hW7]
 have HO67 := hid (Own.kept HO6.out (show Frm [bx] x6 W7 by rw [← hW7]; exact (Frm.refl [bx] x6).setCell _ _ (by simp)) (fun k hk hm => by rw [List.mem_singleton] at hm; exact (HNW6.out k (by rw [own_blk] at hk; exact hk)).2.1 hm))
 clear z12 y12
 clear hbd1 hw1 hbd2 hw2 hbd3 hw3
 have z0 := cR 0 (.int .i64 5) HW7.out.rw_
 have y0 := fZ 0 HW7.out.rw_
 have z1 := cR 1 (.string ⟨#[]⟩) HW7.out.rw_
 have y1 := fZ 1 HW7.out.rw_
 have z2 := cR 2 (.int .i64 0) HW7.out.rw_
 have y2 := fZ 2 HW7.out.rw_
 have z3 := cR 3 (.int .i64 0) HW7.out.rw_
 have y3 := fZ 3 HW7.out.rw_
 have z4 := cR 4 (.int .i64 0) HW7.out.rw_
 have y4 := fZ 4 HW7.out.rw_
 have z5 := cR 5 (.int .i64 0) HW7.out.rw_
 have y5 := fZ 5 HW7.out.rw_
 have z6 := cR 6 (.string ⟨#[]⟩) HW7.out.rw_
 have y6 := fZ 6 HW7.out.rw_
 have z7 := cR 7 (.slice none 0 0) HW7.out.rw_
 have y7 := fZ 7 HW7.out.rw_
 have z8 := cR 8 (.int .i64 v1.1) HW7.out.rw_
 have y8 := fZ 8 HW7.out.rw_
 have z9 := cR 9 (.int .i64 (v2.1 - 1)) HW7.out.rw_
 have y9 := fZ 9 HW7.out.rw_
 have z10 := cR 10 (.int .i64 0) HW7.out.rw_
 have y10 := fZ 10 HW7.out.rw_
 have z11 := cR 11 (.slice none 0 0) HW7.out.rw_
 have y11 := fZ 11 HW7.out.rw_
 have z12 := cR 12 (.slice p6 n6 c6) HW7.out.rw_
 have y12 := fZ 12 HW7.out.rw_
 have r0 := cR 0 (.int .i64 0) HW7.out.rb
 have s0 := fZ 0 HW7.out.rb
 have r1 := cR 1 (.string ⟨#[]⟩) HW7.out.rb
 have s1 := fZ 1 HW7.out.rb
 have r2 := cR 2 (.int .i64 0) HW7.out.rb
 have s2 := fZ 2 HW7.out.rb
 have r3 := cR 3 (.int .i64 0) HW7.out.rb
 have s3 := fZ 3 HW7.out.rb
 have r4 := cR 4 (.int .i64 0) HW7.out.rb
 have s4 := fZ 4 HW7.out.rb
 have r5 := cR 5 (.int .i64 0) HW7.out.rb
 have s5 := fZ 5 HW7.out.rb
 have r6 := cR 6 (.string ⟨#[]⟩) HW7.out.rb
 have s6 := fZ 6 HW7.out.rb
 have r7 := cR 7 (.slice none 0 0) HW7.out.rb
 have s7 := fZ 7 HW7.out.rb
 have r8 := cR 8 (.int .i64 0) HW7.out.rb
 have s8 := fZ 8 HW7.out.rb
 have r9 := cR 9 (.int .i64 0) HW7.out.rb
 have s9 := fZ 9 HW7.out.rb
 have r10 := cR 10 (.int .i64 0) HW7.out.rb
 have s10 := fZ 10 HW7.out.rb
 have r11 := cR 11 (.slice none 0 0) HW7.out.rb
 have s11 := fZ 11 HW7.out.rb
 have r12 := cR 12 (.slice none 0 0) HW7.out.rb
 have s12 := fZ 12 HW7.out.rb
 go_wp2_with fail
 obtain ⟨Wz, hwz, h5, f5⟩ := sE br 26 [(0, .int .i64 5), (1, .string ⟨#[]⟩), (2, .int .i64 0), (3, .int .i64 0), (4, .int .i64 0), (5, .int .i64 0), (6, .string ⟨#[]⟩), (7, .slice none 0 0), (8, .int .i64 v1.1), (9, .int .i64 (v2.1 - 1)), (10, .int .i64 0), (11, .slice none 0 0), (12, .slice p6 n6 c6)] W7 _ HW7.out.rb
 simp only [List.foldl, List.setIfInBounds_toArray, List.set_cons_zero, List.set_cons_succ] at h5
 simp only [setsF] at hwz
 have hWz := hwz
 rw [hwz]
 obtain ⟨hq1, hq2⟩ := HW7.out.fin f5
 have u0 := cR 0 (.int .i64 5) h5
 have u1 := cR 1 (.string ⟨#[]⟩) h5
 have u2 := cR 2 (.int .i64 0) h5
 have u3 := cR 3 (.int .i64 0) h5
 have u4 := cR 4 (.int .i64 0) h5
 have u5 := cR 5 (.int .i64 0) h5
 have u6 := cR 6 (.string ⟨#[]⟩) h5
 have u7 := cR 7 (.slice none 0 0) h5
 have u8 := cR 8 (.int .i64 v1.1) h5
 have u9 := cR 9 (.int .i64 (v2.1 - 1)) h5
 have u10 := cR 10 (.int .i64 0) h5
 have u11 := cR 11 (.slice none 0 0) h5
 have u12 := cR 12 (.slice p6 n6 c6) h5
 refine bodyPost_ret (v := .agg #[.int .i64 5, .string ⟨#[]⟩, .int .i64 0, .int .i64 0, .int .i64 0, .int .i64 0, .string ⟨#[]⟩, .slice none 0 0, .int .i64 v1.1, .int .i64 (v2.1 - 1), .int .i64 0, .slice none 0 0, .slice p6 n6 c6]) (by simp [results, Tryz.results82, go_sem, u0, u1, u2, u3, u4, u5, u6, u7, u8, u9, u10, u11, u12]) rfl ?_
 refine HP.out _ _ ⟨⟨5, ⟨#[]⟩, 0, 0, 0, 0, ⟨#[]⟩, none, 0, 0, v1.1, v2.1 - 1, 0, none, 0, 0, p6, n6, c6⟩, rfl, ?_, ?_, ?_, hq2⟩
 ·unfold tvWr TkV.rc Rc.core; rw [HV1.out, HV2.out, HV3.out, HV6.out]
 ·unfold tvWr; rw [HV1.out, HV2.out, HV3.out, HV6.out]; exact ⟨World.ownsRow_nil _ _ _ _, rfl, by simp [blk], World.ownsRow_nil _ _ _ _, rfl, by simp [blk], Own.kept HO67.out f5 (fun k hk hm => by rw [own_blk] at hk; rw [List.mem_singleton] at hm; exact (HNW6.out k hk).2.2 hm), HN6.out.symm, fun k hk => (HNW6.out k hk).1, HBD6.out, by simp, by simp⟩
 ·unfold tvWr; rw [HV1.out, HV2.out, HV3.out, HV6.out]; exact hq1
end
section
open Go.RowKit Go.Lib
theorem begun_any (w0 w : World) (b c : Nat) (q : Option Addr) (bs : List Int) (hb : ∀ z ∈ bs, 0 ≤ z ∧ z < 256) (hl : bs.length ≤ 2048) (h : QrR w0 w b q c bs (0, 0)) :
  Calls Tryz.prog 106 #[.pointer (some ⟨b, 0, none⟩)] w (TolP w0 w b c q bs 2 (tdBg bs)) := by
 obtain ⟨PO, hPO⟩ : ∃ PO : Ending → World → Prop, TolP w0 w b c q bs 2 (tdBg bs) = PO := ⟨_, rfl⟩
 rw [hPO]
 have HP := hid (show ∀ e w', TolP w0 w b c q bs 2 (tdBg bs) e w' → PO e w' from fun e w' h => by rw [← hPO]; exact h)
 have HB := hid hb
 have HL := hid hl
 have hbn := QK.born h #[.int .i64 2, .string ⟨#[]⟩, .int .i64 0, .int .i64 0, .int .i64 0, .int .i64 0, .string ⟨#[]⟩, .slice none 0 0, .int .i64 0, .int .i64 0, .int .i64 0, .slice none 0 0, .slice none 0 0]
 have hbl : ∀ V, (Instr.build 26 #[(0, .int .i64 2)]).run Tryz.prog V = .ok (.agg #[.int .i64 2, .string ⟨#[]⟩, .int .i64 0, .int .i64 0, .int .i64 0, .int .i64 0, .string ⟨#[]⟩, .slice none 0 0, .int .i64 0, .int .i64 0, .int .i64 0, .slice none 0 0, .slice none 0 0]) V := fun V => run_build V _ _ _ (by kernel_rfl)
 obtain ⟨wm, hwm⟩ := eX (w.alloc (.cells #[.int .i64 0, .string ⟨#[]⟩, .int .i64 0, .int .i64 0, .int .i64 0, .int .i64 0, .string ⟨#[]⟩, .slice none 0 0, .int .i64 0, .int .i64 0, .int .i64 0, .slice none 0 0, .slice none 0 0] 26))
 rw [hwm] at hbn
 obtain ⟨wx, hwx⟩ := eX (wm.alloc (.cells #[.int .i64 2, .string ⟨#[]⟩, .int .i64 0, .int .i64 0, .int .i64 0, .int .i64 0, .string ⟨#[]⟩, .slice none 0 0, .int .i64 0, .int .i64 0, .int .i64 0, .slice none 0 0, .slice none 0 0] 26))
 obtain ⟨br, hbr⟩ := eX (w.heap.size)
 obtain ⟨bx, hbx⟩ := eX (wm.heap.size)
 have hb1 : br + 1 = bx := by rw [← hbx, ← hwm, ← hbr]; simp
 rw [hwx, hbr, hb1] at hbn
 have HS0 := hid hbn
 have HWM := hid hwm
 have HWX := hid hwx
 have HBR := hid hbr
 have HBX := hid hbx
 have HB1 := hid hb1
 clear hb hl h hPO hbn hwm hwx hbr hbx hb1
 go_enter Tryz.func106, Tryz.ntmps106
 go_upto_region 1 with fail
 try rw [HWM.out]
 try rw [HBR.out]
 go_upto_region 2 with fail
 try rw [HWX.out]
 try rw [HBX.out]
 clear HWM HWX HBR HBX HB1 hbl
 have HC1 := hid (qt_any w0 wx b c q bs HB.out (0, 0) HS0.out.fr 240 (by omega) (by omega))
 obtain ⟨v1, hv1⟩ := eX (txS bs (0, 0) 240)
 rw [hv1] at HC1
 have HV1 := hid hv1
 clear hv1
 go_wp2_with fail
 refine HC1.out.mono ?_
 rintro e x1 ⟨rfl, hr, hf⟩
 have HX1 := hid (QK.call HS0.out hr hf)
 clear hr hf HC1
 have z1 := cR 1 (.string ⟨#[]⟩) HX1.out.rw_
 have y1 := fZ 1 HX1.out.rw_
 go_upto_region 3 with fail
 obtain ⟨W2, hW2⟩ := eX (x1.setCell ⟨bx, 1, none⟩ (.string (strOfNums v1.1)))
 have HW2 : Hid (QK w0 w b c q bs br bx W2 #[.int .i64 2, .string (strOfNums v1.1), .int .i64 0, .int .i64 0, .int .i64 0, .int .i64 0, .string ⟨#[]⟩, .slice none 0 0, .int .i64 0, .int .i64 0, .int .i64 0, .slice none 0 0, .slice none 0 0] v1.2) := hid (by rw [← hW2]; exact QK.set HX1.out 1 (.string (strOfNums v1.1)))
 rw [hW2]
 clear z1 y1
 have HC3 := hid (qn_any w0 W2 b c q bs HB.out v1.2 HW2.out.fr 1 (by omega) (by omega))
 have hbd3 := nuS_bd HB.out v1.2 1 (by omega)
 obtain ⟨v3, hv3⟩ := eX (nuS bs v1.2 1)
 rw [hv3] at HC3 hbd3
 have HV3 := hid hv3
 clear hv3
 have hw3 : IntKind.i64.wrap v3.1 = v3.1 := by rw [IntKind.wrap_i64]; omega
 go_wp2_with fail
 refine HC3.out.mono ?_
 rintro e x3 ⟨rfl, hr, hf⟩
 have HX3 := hid (QK.call HW2.out hr hf)
 clear hr hf HC3
 have HC4 := hid (qn_any w0 x3 b c q bs HB.out v3.2 HX3.out.fr 6 (by omega) (by omega))
 have hbd4 := nuS_bd HB.out v3.2 6 (by omega)
 obtain ⟨v4, hv4⟩ := eX (nuS bs v3.2 6)
 rw [hv4] at HC4 hbd4
 have HV4 := hid hv4
 clear hv4
 have hw4 : IntKind.i64.wrap v4.1 = v4.1 := by rw [IntKind.wrap_i64]; omega
 go_wp2_with fail
 refine HC4.out.mono ?_
 rintro e x4 ⟨rfl, hr, hf⟩
 have HX4 := hid (QK.call HX3.out hr hf)
 clear hr hf HC4
 have HC5 := hid (qn_any w0 x4 b c q bs HB.out v4.2 HX4.out.fr 6 (by omega) (by omega))
 have hbd5 := nuS_bd HB.out v4.2 6 (by omega)
 obtain ⟨v5, hv5⟩ := eX (nuS bs v4.2 6)
 rw [hv5] at HC5 hbd5
 have HV5 := hid hv5
 clear hv5
 have hw5 : IntKind.i64.wrap v5.1 = v5.1 := by rw [IntKind.wrap_i64]; omega
 go_wp2_with fail
 refine HC5.out.mono ?_
 rintro e x5 ⟨rfl, hr, hf⟩
 have HX5 := hid (QK.call HX4.out hr hf)
 clear hr hf HC5
 have HC6 := hid (qn_any w0 x5 b c q bs HB.out v5.2 HX5.out.fr 1 (by omega) (by omega))
 have hbd6 := nuS_bd HB.out v5.2 1 (by omega)
 obtain ⟨v6, hv6⟩ := eX (nuS bs v5.2 1)
 rw [hv6] at HC6 hbd6
 have HV6 := hid hv6
 clear hv6
 have hw6 : IntKind.i64.wrap v6.1 = v6.1 := by rw [IntKind.wrap_i64]; omega
 go_wp2_with fail
 refine HC6.out.mono ?_
 rintro e x6 ⟨rfl, hr, hf⟩
 have HX6 := hid (QK.call HX5.out hr hf)
 clear hr hf HC6
 have z2 := cR 2 (.int .i64 0) HX6.out.rw_
 have y2 := fZ 2 HX6.out.rw_
 have z3 := cR 3 (.int .i64 0) HX6.out.rw_
 have y3 := fZ 3 HX6.out.rw_
 have z4 := cR 4 (.int .i64 0) HX6.out.rw_
 have y4 := fZ 4 HX6.out.rw_
 have z5 := cR 5 (.int .i64 0) HX6.out.rw_
 have y5 := fZ 5 HX6.out.rw_
 go_upto_region 8 with fail
 obtain ⟨W7, hW7⟩ := eX (x6.setCell ⟨bx, 2, none⟩ (.int .i64 v3.1))
 have HW7 : Hid (QK w0 w b c q bs br bx W7 #[.int .i64 2, .string (strOfNums v1.1), .int .i64 v3.1, .int .i64 0, .int .i64 0, .int .i64 0, .string ⟨#[]⟩, .slice none 0 0, .int .i64 0, .int .i64 0, .int .i64 0, .slice none 0 0, .slice none 0 0] v6.2) := hid (by rw [← hW7]; exact QK.set HX6.out 2 (.int .i64 v3.1))
 rw [hW7]
 obtain ⟨W8, hW8⟩ := eX (W7.setCell ⟨bx, 3, none⟩ (.int .i64 v4.1))
 have HW8 : Hid (QK w0 w b c q bs br bx W8 #[.int .i64 2, .string (strOfNums v1.1), .int .i64 v3.1, .int .i64 v4.1, .int .i64 0, .int .i64 0, .string ⟨#[]⟩, .slice none 0 0, .int .i64 0, .int .i64 0, .int .i64 0, .slice none 0 0, .slice none 0 0] v6.2) := hid (by rw [← hW8]; exact QK.set HW7.out 3 (.int .i64 v4.1))
 rw [hW8]
 obtain ⟨W9, hW9⟩ := eX (W8.setCell ⟨bx, 4, none⟩ (.int .i64 v5.1))
 have HW9 : Hid (QK w0 w b c q bs br bx W9 #[.int .i64 2, .string (strOfNums v1.1), .int .i64 v3.1, .int .i64 v4.1, .int .i64 v5.1, .int .i64 0, .string ⟨#[]⟩, .slice none 0 0, .int .i64 0, .int .i64 0, .int .i64 0, .slice none 0 0, .slice none 0 0] v6.2) := hid (by rw [← hW9]; exact QK.set HW8.out 4 (.int .i64 v5.1))
 rw [hW9]
 obtain ⟨W10, hW10⟩ := eX (W9.setCell ⟨bx, 5, none⟩ (.int .i64 v6.1))
 have HW10 : Hid (QK w0 w b c q bs br bx W10 #[.int .i64 2, .string (strOfNums v1.1), .int .i64 v3.1, .int .i64 v4.1, .int .i64 v5.1, .int .i64 v6.1, .string ⟨#[]⟩, .slice none 0 0, .int .i64 0, .int .i64 0, .int .i64 0, .slice none 0 0, .slice none 0 0] v6.2) := hid (by rw [← hW10]; exact QK.set HW9.out 5 (.int .i64 v6.1))
 rw [hW10]
 clear z2 y2 z3 y3 z4 y4 z5 y5
 clear hbd3 hw3 hbd4 hw4 hbd5 hw5 hbd6 hw6
 have HC11 := hid (qt_any w0 W10 b c q bs HB.out v6.2 HW10.out.fr 24 (by omega) (by omega))
 obtain ⟨v11, hv11⟩ := eX (txS bs v6.2 24)
 rw [hv11] at HC11
 have HV11 := hid hv11
 clear hv11
 go_wp2_with fail
 refine HC11.out.mono ?_
 rintro e x11 ⟨rfl, hr, hf⟩
 have HX11 := hid (QK.call HW10.out hr hf)
 clear hr hf HC11
 have z6 := cR 6 (.string ⟨#[]⟩) HX11.out.rw_
 have y6 := fZ 6 HX11.out.rw_
 go_upto_region 9 with fail
 obtain ⟨W12, hW12⟩ := eX (x11.setCell ⟨bx, 6, none⟩ (.string (strOfNums v11.1)))
 have HW12 : Hid (QK w0 w b c q bs br bx W12 #[.int .i64 2, .string (strOfNums v1.1), .int .i64 v3.1, .int .i64 v4.1, .int .i64 v5.1, .int .i64 v6.1, .string (strOfNums v11.1), .slice none 0 0, .int .i64 0, .int .i64 0, .int .i64 0, .slice none 0 0, .slice none 0 0] v11.2) := hid (by rw [← hW12]; exact QK.set HX11.out 6 (.string (strOfNums v11.1)))
 rw [hW12]
 clear z6 y6
 have HC13 := hid (qn_any w0 W12 b c q bs HB.out v11.2 HW12.out.fr 1 (by omega) (by omega))
 have hbd13 := nuS_bd HB.out v11.2 1 (by omega)
 have hb1 := nuS_b1 HB.out v11.2
 obtain ⟨v13, hv13⟩ := eX (nuS bs v11.2 1)
 rw [hv13] at HC13 hbd13 hb1
 have HV13 := hid hv13
 clear hv13
 have hw13 : IntKind.i64.wrap v13.1 = v13.1 := by rw [IntKind.wrap_i64]; omega
 go_wp2_with fail
 refine HC13.out.mono ?_
 rintro e x13 ⟨rfl, hr, hf⟩
 have HX13 := hid (QK.call HW12.out hr hf)
 clear hr hf HC13
 have HG8 : Hid (e8 bs = prD bs v13.2 v13.1.toNat) := hid (by unfold e8 e7 e6 g5 g4 g3 g2 g1; rw [HV1.out, HV3.out, HV4.out, HV5.out, HV6.out, HV11.out, HV13.out])
 obtain ⟨K, hK⟩ := eX (v13.1.toNat)
 have hvK : v13.1 = (K : Int) := by omega
 have hKb : K ≤ 255 := by omega
 rw [hK] at HG8
 rw [hvK] at hw13 ⊢
 clear hK hvK hbd13 hb1
 have hbp : ∀ V (s t : ByteArray), (Instr.build 70 #[(0, .string s), (1, .string t)]).run Tryz.prog V = .ok (.agg #[.string s, .string t]) V := fun V s t => run_build V _ _ _ (by kernel_rfl)
 go_wp2_with fail
 go_loopw [9] (fun i wr => ∃ (t : Nat) (lp : Option Addr) (lc : Nat), t ≤ K ∧ i = .int .i64 (t : Int) ∧ Hid (QK w0 w b c q bs br bx wr #[.int .i64 2, .string (strOfNums v1.1), .int .i64 v3.1, .int .i64 v4.1, .int .i64 v5.1, .int .i64 v6.1, .string (strOfNums v11.1), .slice lp t lc, .int .i64 0, .int .i64 0, .int .i64 0, .slice none 0 0, .slice none 0 0] (prD bs v13.2 t).2) ∧ Hid (wr.ownsRow 0 70 2 (.slice lp t lc) t (prC (prD bs v13.2 t).1)) ∧ Hid (∀ k ∈ blk lp, w.heap.size ≤ k ∧ k ≠ bx ∧ k ≠ br ∧ k ≠ b ∧ k ∉ blk q)) (fun i _ => K - (intOf i).toNat)
 case atStart => exact ⟨0, none, 0, by omega, rfl, HX13, hid (World.ownsRow_nil _ _ _ _), hid (by simp [blk])⟩
 case round =>
  obtain ⟨t, lp, lc, ht, rfl, htk, how, hnw⟩ := hrel
  have HTK := hid htk.out
  have HOW := hid how.out
  have HNW := hid hnw.out
  clear htk how hnw
  by_cases hlt : t < K
  case neg =>
   obtain rfl : t = K := by omega
   clear hlt
   have z0 := cR 0 (.int .i64 2) HTK.out.rw_
   have y0 := fZ 0 HTK.out.rw_
   have z1 := cR 1 (.string (strOfNums v1.1)) HTK.out.rw_
   have y1 := fZ 1 HTK.out.rw_
   have z2 := cR 2 (.int .i64 v3.1) HTK.out.rw_
   have y2 := fZ 2 HTK.out.rw_
   have z3 := cR 3 (.int .i64 v4.1) HTK.out.rw_
   have y3 := fZ 3 HTK.out.rw_
   have z4 := cR 4 (.int .i64 v5.1) HTK.out.rw_
   have y4 := fZ 4 HTK.out.rw_
   have z5 := cR 5 (.int .i64 v6.1) HTK.out.rw_
   have y5 := fZ 5 HTK.out.rw_
   have z6 := cR 6 (.string (strOfNums v11.1)) HTK.out.rw_
   have y6 := fZ 6 HTK.out.rw_
   have z7 := cR 7 (.slice lp t lc) HTK.out.rw_
   have y7 := fZ 7 HTK.out.rw_
   have z8 := cR 8 (.int .i64 0) HTK.out.rw_
   have y8 := fZ 8 HTK.out.rw_
   have z9 := cR 9 (.int .i64 0) HTK.out.rw_
   have y9 := fZ 9 HTK.out.rw_
   have z10 := cR 10 (.int .i64 0) HTK.out.rw_
   have y10 := fZ 10 HTK.out.rw_
   have z11 := cR 11 (.slice none 0 0) HTK.out.rw_
   have y11 := fZ 11 HTK.out.rw_
   have z12 := cR 12 (.slice none 0 0) HTK.out.rw_
   have y12 := fZ 12 HTK.out.rw_
   have r0 := cR 0 (.int .i64 0) HTK.out.rb
   have s0 := fZ 0 HTK.out.rb
   have r1 := cR 1 (.string ⟨#[]⟩) HTK.out.rb
   have s1 := fZ 1 HTK.out.rb
   have r2 := cR 2 (.int .i64 0) HTK.out.rb
   have s2 := fZ 2 HTK.out.rb
   have r3 := cR 3 (.int .i64 0) HTK.out.rb
   have s3 := fZ 3 HTK.out.rb
   have r4 := cR 4 (.int .i64 0) HTK.out.rb
   have s4 := fZ 4 HTK.out.rb
   have r5 := cR 5 (.int .i64 0) HTK.out.rb
   have s5 := fZ 5 HTK.out.rb
   have r6 := cR 6 (.string ⟨#[]⟩) HTK.out.rb
   have s6 := fZ 6 HTK.out.rb
   have r7 := cR 7 (.slice none 0 0) HTK.out.rb
   have s7 := fZ 7 HTK.out.rb
   have r8 := cR 8 (.int .i64 0) HTK.out.rb
   have s8 := fZ 8 HTK.out.rb
   have r9 := cR 9 (.int .i64 0) HTK.out.rb
   have s9 := fZ 9 HTK.out.rb
   have r10 := cR 10 (.int .i64 0) HTK.out.rb
   have s10 := fZ 10 HTK.out.rb
   have r11 := cR 11 (.slice none 0 0) HTK.out.rb
   have s11 := fZ 11 HTK.out.rb
   have r12 := cR 12 (.slice none 0 0) HTK.out.rb
   have s12 := fZ 12 HTK.out.rb
   go_wp2_with fail
   obtain ⟨Wz, hwz, h5, f5⟩ := sE br 26 [(0, .int .i64 2), (1, .string (strOfNums v1.1)), (2, .int .i64 v3.1), (3, .int .i64 v4.1), (4, .int .i64 v5.1), (5, .int .i64 v6.1), (6, .string (strOfNums v11.1)), (7, .slice lp t lc), (8, .int .i64 0), (9, .int .i64 0), (10, .int .i64 0), (11, .slice none 0 0), (12, .slice none 0 0)] wr _ HTK.out.rb
   simp only [List.foldl, List.setIfInBounds_toArray, List.set_cons_zero, List.set_cons_succ] at h5
   simp only [setsF] at hwz
   have hWz := hwz
   rw [hwz]
   obtain ⟨hq1, hq2⟩ := HTK.out.fin f5
   have u0 := cR 0 (.int .i64 2) h5
   have u1 := cR 1 (.string (strOfNums v1.1)) h5
   have u2 := cR 2 (.int .i64 v3.1) h5
   have u3 := cR 3 (.int .i64 v4.1) h5
   have u4 := cR 4 (.int .i64 v5.1) h5
   have u5 := cR 5 (.int .i64 v6.1) h5
   have u6 := cR 6 (.string (strOfNums v11.1)) h5
   have u7 := cR 7 (.slice lp t lc) h5
   have u8 := cR 8 (.int .i64 0) h5
   have u9 := cR 9 (.int .i64 0) h5
   have u10 := cR 10 (.int .i64 0) h5
   have u11 := cR 11 (.slice none 0 0) h5
   have u12 := cR 12 (.slice none 0 0) h5
   refine bodyPost_ret (v := .agg #[.int .i64 2, .string (strOfNums v1.1), .int .i64 v3.1, .int .i64 v4.1, .int .i64 v5.1, .int .i64 v6.1, .string (strOfNums v11.1), .slice lp t lc, .int .i64 0, .int .i64 0, .int .i64 0, .slice none 0 0, .slice none 0 0]) (by simp [results, Tryz.results106, go_sem, u0, u1, u2, u3, u4, u5, u6, u7, u8, u9, u10, u11, u12]) rfl ?_
   refine HP.out _ _ ⟨⟨2, strOfNums v1.1, v3.1, v4.1, v5.1, v6.1, strOfNums v11.1, lp, t, lc, 0, 0, 0, none, 0, 0, none, 0, 0⟩, rfl, ?_, ?_, ?_, hq2⟩
   ·unfold tdBg TkV.rc Rc.core e6 g5 g4 g3 g2 g1; rw [HV1.out, HV3.out, HV4.out, HV5.out, HV6.out, HV11.out]
   ·unfold tdBg; rw [HG8.out]; exact ⟨ownsRow_kept HOW.out f5 (fun k hk hm => by rw [List.mem_singleton] at hm; exact (HNW.out k hk).2.2.1 hm), by rw [prD_len], fun k hk => (HNW.out k hk).1, World.ownsRow_nil _ _ _ _, rfl, by simp [blk], Own.nil _ _, rfl, by simp [blk], by simp, by simp; omega⟩
   ·unfold tdBg; rw [HG8.out]; exact hq1
  have t1 : (t : Int) < (K : Int) := by omega
  have HSU : Hid (prD bs v13.2 (t + 1) = ((prD bs v13.2 t).1 ++ [(strOfNums (txS bs (prD bs v13.2 t).2 24).1, strOfNums (txS bs (txS bs (prD bs v13.2 t).2 24).2 64).1)], (txS bs (txS bs (prD bs v13.2 t).2 24).2 64).2)) := hid rfl
  obtain ⟨LL, hLL⟩ := eX (prD bs v13.2 t)
  rw [hLL] at HTK HOW HSU
  clear hLL
  have HC1 := hid (qt_any w0 wr b c q bs HB.out LL.2 HTK.out.fr 24 (by omega) (by omega))
  obtain ⟨a1, ha1⟩ := eX (txS bs LL.2 24)
  rw [ha1] at HC1 HSU
  clear ha1
  go_wp2_with fail
  refine HC1.out.mono ?_
  rintro e y1 ⟨rfl, hr, hf⟩
  have HT8 := hid (QK.call HTK.out hr hf)
  have HO8 := hid (ownsRow_kept HOW.out hf (fun k hk hm => by rw [List.mem_singleton] at hm; exact (HNW.out k hk).2.2.2.1 hm))
  clear hr hf HC1
  have HC2 := hid (qt_any w0 y1 b c q bs HB.out a1.2 HT8.out.fr 64 (by omega) (by omega))
  obtain ⟨a2, ha2⟩ := eX (txS bs a1.2 64)
  rw [ha2] at HC2 HSU
  clear ha2
  go_wp2_with fail
  refine HC2.out.mono ?_
  rintro e Wb ⟨rfl, hr, hf⟩
  have HTb := hid (QK.call HT8.out hr hf)
  have HOb := hid (ownsRow_kept HO8.out hf (fun k hk hm => by rw [List.mem_singleton] at hm; exact (HNW.out k hk).2.2.2.1 hm))
  clear hr hf HC2 HT8 HO8
  have z7 := cR 7 (.slice lp t lc) HTb.out.rw_
  have HA := hid ((Frm.refl [] Wb).alloc (.cells #[.string (strOfNums a1.1), .string (strOfNums a2.1)] 70))
  have HRV := hid (rv_block (heap_alloc_new Wb (.cells #[.string (strOfNums a1.1), .string (strOfNums a2.1)] 70)))
  have HOW2 := hid (ownsRow_kept HOb.out HA.out (by simp))
  have HTA := hid (HTb.out.gen HA.out (by simp))
  go_wp2_with (at_builtin; refine wpList_appV rfl _ _ 22 rfl 70 2 32 _ Tryz.underlying22 infoPrR rfl (by decide) lp t lc (prC LL.1) rfl HOW2.out (some ⟨Wb.heap.size, 0, none⟩) 1 1 [.string (strOfNums a1.1), .string (strOfNums a2.1)] rfl rfl (by simp) HRV.out (by intro u hu; simp at hu; rcases hu with rfl | rfl <;> rfl) (by unfold maxLen; omega) (by omega) ?_)
  intro p8 c8 w8 ho8 hf8 hb8
  have HT8 := hid (HTA.out.gen hf8.out HNW.out)
  have hrow8 := HT8.out.rw_
  have z6 := cR 7 (.slice lp t lc) hrow8
  have y6 := fZ 7 hrow8
  have HNX : Hid (QK w0 w b c q bs br bx (w8.setCell ⟨bx, 7, none⟩ (.slice p8 (t + 1) c8)) #[.int .i64 2, .string (strOfNums v1.1), .int .i64 v3.1, .int .i64 v4.1, .int .i64 v5.1, .int .i64 v6.1, .string (strOfNums v11.1), .slice p8 (t + 1) c8, .int .i64 0, .int .i64 0, .int .i64 0, .slice none 0 0, .slice none 0 0] (prD bs v13.2 (t + 1)).2 ∧ (w8.setCell ⟨bx, 7, none⟩ (.slice p8 (t + 1) c8)).ownsRow 0 70 2 (.slice p8 (t + 1) c8) (t + 1) (prC (prD bs v13.2 (t + 1)).1) ∧ (∀ k ∈ blk p8, w.heap.size ≤ k ∧ k ≠ bx ∧ k ≠ br ∧ k ≠ b ∧ k ∉ blk q)) := hid (by
   rw [HSU.out]
   have hnw : ∀ k ∈ blk p8, w.heap.size ≤ k ∧ k ≠ bx ∧ k ≠ br ∧ k ≠ b ∧ k ∉ blk q := fun k hk => by
    rcases hb8.out k hk with h | h
    ·exact HNW.out k h
    ·have e1 : (Wb.alloc (.cells #[.string (strOfNums a1.1), .string (strOfNums a2.1)] 70)).heap.size = Wb.heap.size + 1 := by simp
     have h1 := HTb.out.frm.size
     have h2 := lt_of_heap HTb.out.rw_
     have h3 := lt_of_heap HTb.out.rb
     have h4 := HTb.out.fr.1.cells
     have h5 : ∀ i ∈ blk q, i < Wb.heap.size := HTb.out.fr.1.2.1.lows
     exact ⟨by omega, by omega, by omega, by omega, fun hm => by have := h5 k hm; omega⟩
   refine ⟨QK.set HT8.out 7 (.slice p8 (t + 1) c8), ?_, hnw⟩
   have h := ho8.out
   rw [prC_app]
   exact ownsRow_kept h (show Frm [bx] w8 _ from (Frm.refl _ _).setCell _ _ (by simp)) (fun k hk hm => by rw [List.mem_singleton] at hm; exact (hnw k hk).2.1 hm))
  clear ho8 hf8 hb8 hrow8 HT8 HTA HOW2 HRV HA HTb HOb z7
  go_wp2_with fail
  go_roundw
  case rel => exact ⟨t + 1, p8, c8, by omega, by go_num, hid HNX.out.1, hid HNX.out.2.1, hid HNX.out.2.2⟩
  case measure => simp [intOf] <;> omega
theorem told_2 (w0 w : World) (b c : Nat) (q : Option Addr) (bs : List Int) (hb : ∀ z ∈ bs, 0 ≤ z ∧ z < 256) (hl : bs.length ≤ 2048) (h : QrR w0 w b q c bs (0, 0)) :
  Calls Tryz.prog 82 #[.int .i64 2, .pointer (some ⟨b, 0, none⟩)] w (TolP w0 w b c q bs 2 (tdBg bs)) := by
 obtain ⟨PO, hPO⟩ : ∃ PO : Ending → World → Prop, TolP w0 w b c q bs 2 (tdBg bs) = PO := ⟨_, rfl⟩
 rw [hPO]
 have HP := hid (show ∀ e w', TolP w0 w b c q bs 2 (tdBg bs) e w' → PO e w' from fun e w' h => by rw [← hPO]; exact h)
 have HB := hid hb
 have HL := hid hl
 have hbn := QK.born h #[.int .i64 2, .string ⟨#[]⟩, .int .i64 0, .int .i64 0, .int .i64 0, .int .i64 0, .string ⟨#[]⟩, .slice none 0 0, .int .i64 0, .int .i64 0, .int .i64 0, .slice none 0 0, .slice none 0 0]
 have hbl : ∀ V, (Instr.build 26 #[(0, .int .i64 2)]).run Tryz.prog V = .ok (.agg #[.int .i64 2, .string ⟨#[]⟩, .int .i64 0, .int .i64 0, .int .i64 0, .int .i64 0, .string ⟨#[]⟩, .slice none 0 0, .int .i64 0, .int .i64 0, .int .i64 0, .slice none 0 0, .slice none 0 0]) V := fun V => run_build V _ _ _ (by kernel_rfl)
 obtain ⟨wm, hwm⟩ := eX (w.alloc (.cells #[.int .i64 0, .string ⟨#[]⟩, .int .i64 0, .int .i64 0, .int .i64 0, .int .i64 0, .string ⟨#[]⟩, .slice none 0 0, .int .i64 0, .int .i64 0, .int .i64 0, .slice none 0 0, .slice none 0 0] 26))
 rw [hwm] at hbn
 obtain ⟨wx, hwx⟩ := eX (wm.alloc (.cells #[.int .i64 2, .string ⟨#[]⟩, .int .i64 0, .int .i64 0, .int .i64 0, .int .i64 0, .string ⟨#[]⟩, .slice none 0 0, .int .i64 0, .int .i64 0, .int .i64 0, .slice none 0 0, .slice none 0 0] 26))
 obtain ⟨br, hbr⟩ := eX (w.heap.size)
 obtain ⟨bx, hbx⟩ := eX (wm.heap.size)
 have hb1 : br + 1 = bx := by rw [← hbx, ← hwm, ← hbr]; simp
 rw [hwx, hbr, hb1] at hbn
 have HS0 := hid hbn
 have HWM := hid hwm
 have HWX := hid hwx
 have HBR := hid hbr
 have HBX := hid hbx
 have HB1 := hid hb1
 clear hb hl h hPO hbn hwm hwx hbr hbx hb1
 go_enter Tryz.func82, Tryz.ntmps82
 go_upto_region 1 with fail
 try rw [HWM.out]
 try rw [HBR.out]
 go_upto_region 2 with fail
 try rw [HWX.out]
 try rw [HBX.out]
 clear HWM HWX HBR HBX HB1 hbl
 have HC1 := hid (begun_any w0 wx b c q bs HB.out HL.out HS0.out.fr)
 go_wp2_with fail
 refine HC1.out.mono ?_
 rintro e x1 ⟨r, rfl, hrc, hro, hr, hf⟩
 have HX1 := hid (QK.call HS0.out hr hf)
 have HRC := hid hrc
 have HRO := hid hro
 have HNB : Hid (∀ k, wx.heap.size ≤ k → ¬ k = br) := hid (fun k hk he => by have h4 := lt_of_heap HS0.out.rb; omega)
 have HWS : Hid (w.heap.size ≤ wx.heap.size) := hid HS0.out.frm.size
 clear hrc hro hr hf HC1
 obtain ⟨kind, name, typ, frm, guid, origin, snap, pp, pn, pc, obj, at_, many, kp, kn, kc, dp, dl, dc⟩ := r
 unfold Rc.arr
 simp only at HRC HRO ⊢
 have r0 := cR 0 (.int .i64 0) HX1.out.rb
 have s0 := fZ 0 HX1.out.rb
 have r1 := cR 1 (.string ⟨#[]⟩) HX1.out.rb
 have s1 := fZ 1 HX1.out.rb
 have r2 := cR 2 (.int .i64 0) HX1.out.rb
 have s2 := fZ 2 HX1.out.rb
 have r3 := cR 3 (.int .i64 0) HX1.out.rb
 have s3 := fZ 3 HX1.out.rb
 have r4 := cR 4 (.int .i64 0) HX1.out.rb
 have s4 := fZ 4 HX1.out.rb
 have r5 := cR 5 (.int .i64 0) HX1.out.rb
 have s5 := fZ 5 HX1.out.rb
 have r6 := cR 6 (.string ⟨#[]⟩) HX1.out.rb
 have s6 := fZ 6 HX1.out.rb
 have r7 := cR 7 (.slice none 0 0) HX1.out.rb
 have s7 := fZ 7 HX1.out.rb
 have r8 := cR 8 (.int .i64 0) HX1.out.rb
 have s8 := fZ 8 HX1.out.rb
 have r9 := cR 9 (.int .i64 0) HX1.out.rb
 have s9 := fZ 9 HX1.out.rb
 have r10 := cR 10 (.int .i64 0) HX1.out.rb
 have s10 := fZ 10 HX1.out.rb
 have r11 := cR 11 (.slice none 0 0) HX1.out.rb
 have s11 := fZ 11 HX1.out.rb
 have r12 := cR 12 (.slice none 0 0) HX1.out.rb
 have s12 := fZ 12 HX1.out.rb
 go_wp2_with fail
 obtain ⟨Wz, hwz, h5, f5⟩ := sE br 26 [(0, .int .i64 kind), (1, .string name), (2, .int .i64 typ), (3, .int .i64 frm), (4, .int .i64 guid), (5, .int .i64 origin), (6, .string snap), (7, .slice pp pn pc), (8, .int .i64 obj), (9, .int .i64 at_), (10, .int .i64 many), (11, .slice kp kn kc), (12, .slice dp dl dc)] x1 _ HX1.out.rb
 simp only [List.foldl, List.setIfInBounds_toArray, List.set_cons_zero, List.set_cons_succ] at h5
 simp only [setsF] at hwz
 have hWz := hwz
 rw [hwz]
 obtain ⟨hq1, hq2⟩ := HX1.out.fin f5
 have u0 := cR 0 (.int .i64 kind) h5
 have u1 := cR 1 (.string name) h5
 have u2 := cR 2 (.int .i64 typ) h5
 have u3 := cR 3 (.int .i64 frm) h5
 have u4 := cR 4 (.int .i64 guid) h5
 have u5 := cR 5 (.int .i64 origin) h5
 have u6 := cR 6 (.string snap) h5
 have u7 := cR 7 (.slice pp pn pc) h5
 have u8 := cR 8 (.int .i64 obj) h5
 have u9 := cR 9 (.int .i64 at_) h5
 have u10 := cR 10 (.int .i64 many) h5
 have u11 := cR 11 (.slice kp kn kc) h5
 have u12 := cR 12 (.slice dp dl dc) h5
 refine bodyPost_ret (v := .agg #[.int .i64 kind, .string name, .int .i64 typ, .int .i64 frm, .int .i64 guid, .int .i64 origin, .string snap, .slice pp pn pc, .int .i64 obj, .int .i64 at_, .int .i64 many, .slice kp kn kc, .slice dp dl dc]) (by simp [results, Tryz.results82, go_sem, u0, u1, u2, u3, u4, u5, u6, u7, u8, u9, u10, u11, u12]) rfl ?_
 refine HP.out _ _ ⟨⟨kind, name, typ, frm, guid, origin, snap, pp, pn, pc, obj, at_, many, kp, kn, kc, dp, dl, dc⟩, rfl, HRC.out, (HRO.out.kept f5 (fun k hk he => ?_) (fun k hk he => ?_) (fun k hk he => ?_)).less HWS.out, hq1, hq2⟩
 ·rw [List.mem_singleton] at he; exact HNB.out k (HRO.out.pw k hk) he
 ·rw [List.mem_singleton] at he; exact HNB.out k (HRO.out.kw k hk) he
 ·rw [List.mem_singleton] at he; exact HNB.out k (HRO.out.dw k hk) he
theorem told_any (k : Int) (hk : 1 ≤ k ∧ k ≤ 7) (w0 w : World) (b c : Nat) (q : Option Addr) (bs : List Int) (hb : ∀ z ∈ bs, 0 ≤ z ∧ z < 256) (hl : bs.length ≤ 2048) (h : QrR w0 w b q c bs (0, 0)) :
  Calls Tryz.prog 82 #[.int .i64 k, .pointer (some ⟨b, 0, none⟩)] w (TolP w0 w b c q bs k (tdK k bs)) := by
 have h7 : k = 1 ∨ k = 2 ∨ k = 3 ∨ k = 4 ∨ k = 5 ∨ k = 6 ∨ k = 7 := by omega
 rcases h7 with rfl | rfl | rfl | rfl | rfl | rfl | rfl
 ·exact told_1 w0 w b c q bs hb hl h
 ·exact told_2 w0 w b c q bs hb hl h
 ·exact told_3 w0 w b c q bs hb hl h
 ·exact told_4 w0 w b c q bs hb hl h
 ·exact told_5 w0 w b c q bs hb hl h
 ·exact told_6 w0 w b c q bs hb hl h
 ·exact told_7 w0 w b c q bs hb hl h
end
end Go.Proofs.YtajfjkfnmmfhmaaGreatDoor
