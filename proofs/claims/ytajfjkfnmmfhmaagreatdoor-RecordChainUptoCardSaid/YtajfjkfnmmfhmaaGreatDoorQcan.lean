/- Records, the document's side: a record's body. -/
import Derived.Test.YtajfjkfnmmfhmaaGreatDoorQcak
import Derived.Test.YtajfjkfnmmfhmaaGreatDoorQcam
import Derived.Test.YtajfjkfnmmfhmaaGreatDoorQcag
import Derived.Test.YtajfjkfnmmfhmaaGreatDoorQcae
import Derived.Test.YtajfjkfnmmfhmaaGreatDoorQcaf
namespace Go.Proofs.YtajfjkfnmmfhmaaGreatDoor
set_option maxRecDepth 100000
set_option maxHeartbeats 25600000
section
open Go.RowKit Go.Lib
theorem tx_len24 {s : ByteArray} (h : PartL (tx s)) : s.size ≤ 24 := by have := h.1.2; rw [tx_length] at this; exact this
theorem tx_len64 {s : ByteArray} (h : ValL (tx s)) : s.size ≤ 64 := by have := h.1.2; rw [tx_length] at this; exact this
theorem nmOk_len {s : ByteArray} (h : NmOk s.data.toList) : s.size ≤ 240 := by
 have hsz : s.data.toList.length = s.size := by have h : s.data.size = s.size := rfl; rw [Array.length_toList]; exact h
 rw [← hsz]
 rcases (nameU_root _).1 h with h | ⟨_, h, _⟩
 ·rw [h]; simp
 ·simp only [List.length_cons] at h; omega
theorem refBody_1 (r : Rc) (P : List Pr) (K D : List Int) (w : World) (hr : RcOk w r P K D) (hkd : r.kind = 1) (hm : MayPk r) :
  Calls Tryz.prog 35 #[.agg r.arr] w fun e w' => ∃ p n c, e = .returned (.slice p n c) ∧ BufF w none w' p n c (bodyPk r) := by
 obtain ⟨PO, hPO⟩ : ∃ PO : Ending → World → Prop, (fun e w' => ∃ p n c, e = .returned (.slice p n c) ∧ BufF w none w' p n c (bodyPk r)) = PO := ⟨_, rfl⟩
 rw [hPO]
 have HP : Hid (∀ p n c w', BufF w none w' p n c (bodyPk r) → PO (.returned (.slice p n c)) w') := hid (fun p n c w' h => by rw [← hPO]; exact ⟨p, n, c, rfl, h⟩)
 obtain ⟨w0, hw0⟩ := eX (w.alloc (.cells r.arr 26))
 have hrow := heap_alloc_new w (.cells r.arr 26)
 have hf0 : Frm [] w w0 := by rw [← hw0]; exact (Frm.refl _ _).alloc _
 obtain ⟨bx, hbx⟩ := eX (w.heap.size)
 rw [hw0, hbx] at hrow
 have HX := hid (fun V (hf : Frm [] w0 V) => rc_cells (hf.heap hrow (by simp)))
 have HR := hid (fun V (hf : Frm [] w0 V) => hr.k0 (hf0.trans hf (by simp)))
 have HF0 := hid hf0
 have HW0 := hid hw0
 have HBX := hid hbx
 have HPL := hid hr.pl
 have HKL := hid hr.kl
 have HDL := hid hr.dn
 have HB00 : Hid (BufF w0 none w0 none 0 0 []) := hid (BufF.self (Own.nil _ _) rfl)
 have HB0 : Hid (BufF w none w0 none 0 0 []) := hid ⟨Own.nil _ _, rfl, hf0.mono (by simp), by simp [blk]⟩
 have hnm := tx_len24 hm.1
 have hmy0 := hm.2.1
 have hmy1 := hm.2.2
 clear hPO hw0 hrow hf0 hbx hr hm
 obtain ⟨kind, name, typ, frm, guid, origin, snap, pp, pn, pc, obj, at_, many, kp, kn, kc, dp, dl, dc⟩ := r
 simp only at hkd
 subst hkd
 unfold Rc.arr at HW0 ⊢
 simp only at HX HR HW0 HPL HKL HDL HP hnm hmy0 hmy1 ⊢
 go_enter Tryz.func35, Tryz.ntmps35
 go_upto_region 1 with fail
 try rw [HW0.out]
 try rw [HBX.out]
 clear HW0 HBX
 obtain ⟨x0, x1, x2, x3, x4, x5, x6, x7, x8, x9, x10, x11, x12⟩ := HX.out w0 HB00.out.nil.1
 have HC := hid (refTextF_any none 0 0 [] name w0 HB00.out.own HB00.out.len (by omega) (by omega))
 go_wp2_with fail
 refine HC.out.mono ?_
 rintro e w1 ⟨p1, n1, c1, rfl, hb⟩
 obtain ⟨z1, hz1⟩ := eX ([] ++ txF name)
 rw [hz1] at hb
 have hn1 : n1 ≤ 26 := by rw [← hb.len, ← hz1, List.length_append, HB00.out.len, txF_len]; omega
 have HB1 : Hid (BufF w0 none w1 p1 n1 c1 z1) := hid (HB00.out.trans hb)
 have HZ1 := hid hz1
 clear hb hz1 HC x0 x1 x2 x3 x4 x5 x6 x7 x8 x9 x10 x11 x12 HB00
 obtain ⟨x0, x1, x2, x3, x4, x5, x6, x7, x8, x9, x10, x11, x12⟩ := HX.out w1 HB1.out.nil.1
 have HC := hid (refNumF_any p1 n1 c1 z1 many 2 w1 HB1.out.own HB1.out.len (by omega) (by omega) (by omega) (by omega))
 go_wp2_with fail
 refine HC.out.mono ?_
 rintro e w2 ⟨p2, c2, rfl, hb⟩
 obtain ⟨n2, hnn⟩ := eX (n1 + 2)
 rw [hnn] at hb
 try rw [hnn]
 try simp only [Nat.zero_add] at hnn
 try rw [hnn]
 obtain ⟨z2, hz2⟩ := eX (z1 ++ le many 2)
 rw [hz2] at hb
 have hn2 : n2 ≤ 28 := by rw [← hb.len, ← hz2, List.length_append, HB1.out.len, le_length]; omega
 have HB2 : Hid (BufF w0 none w2 p2 n2 c2 z2) := hid (HB1.out.trans hb)
 have HZ2 := hid hz2
 clear hb hz2 HC x0 x1 x2 x3 x4 x5 x6 x7 x8 x9 x10 x11 x12 HB1 hnn
 go_wp2_with fail
 try go_returns
 refine HP.out _ _ _ _ ?_
 have hB := HB0.out.trans HB2.out
 rw [← HZ2.out, ← HZ1.out] at hB
 unfold bodyPk
 simpa using hB
theorem refBody_6 (r : Rc) (P : List Pr) (K D : List Int) (w : World) (hr : RcOk w r P K D) (hkd : r.kind = 6) (hm : MayCn r) :
  Calls Tryz.prog 35 #[.agg r.arr] w fun e w' => ∃ p n c, e = .returned (.slice p n c) ∧ BufF w none w' p n c (bodyCn r) := by
 obtain ⟨PO, hPO⟩ : ∃ PO : Ending → World → Prop, (fun e w' => ∃ p n c, e = .returned (.slice p n c) ∧ BufF w none w' p n c (bodyCn r)) = PO := ⟨_, rfl⟩
 rw [hPO]
 have HP : Hid (∀ p n c w', BufF w none w' p n c (bodyCn r) → PO (.returned (.slice p n c)) w') := hid (fun p n c w' h => by rw [← hPO]; exact ⟨p, n, c, rfl, h⟩)
 obtain ⟨w0, hw0⟩ := eX (w.alloc (.cells r.arr 26))
 have hrow := heap_alloc_new w (.cells r.arr 26)
 have hf0 : Frm [] w w0 := by rw [← hw0]; exact (Frm.refl _ _).alloc _
 obtain ⟨bx, hbx⟩ := eX (w.heap.size)
 rw [hw0, hbx] at hrow
 have HX := hid (fun V (hf : Frm [] w0 V) => rc_cells (hf.heap hrow (by simp)))
 have HR := hid (fun V (hf : Frm [] w0 V) => hr.k0 (hf0.trans hf (by simp)))
 have HF0 := hid hf0
 have HW0 := hid hw0
 have HBX := hid hbx
 have HPL := hid hr.pl
 have HKL := hid hr.kl
 have HDL := hid hr.dn
 have HB00 : Hid (BufF w0 none w0 none 0 0 []) := hid (BufF.self (Own.nil _ _) rfl)
 have HB0 : Hid (BufF w none w0 none 0 0 []) := hid ⟨Own.nil _ _, rfl, hf0.mono (by simp), by simp [blk]⟩
 have hmy0 := hm.1
 have hmy1 := hm.2
 clear hPO hw0 hrow hf0 hbx hr hm
 obtain ⟨kind, name, typ, frm, guid, origin, snap, pp, pn, pc, obj, at_, many, kp, kn, kc, dp, dl, dc⟩ := r
 simp only at hkd
 subst hkd
 unfold Rc.arr at HW0 ⊢
 simp only at HX HR HW0 HPL HKL HDL HP hmy0 hmy1 ⊢
 go_enter Tryz.func35, Tryz.ntmps35
 go_upto_region 1 with fail
 try rw [HW0.out]
 try rw [HBX.out]
 clear HW0 HBX
 obtain ⟨x0, x1, x2, x3, x4, x5, x6, x7, x8, x9, x10, x11, x12⟩ := HX.out w0 HB00.out.nil.1
 have HC := hid (refNumF_any none 0 0 [] many 4 w0 HB00.out.own HB00.out.len (by omega) (by omega) (by omega) (by omega))
 go_wp2_with fail
 refine HC.out.mono ?_
 rintro e w1 ⟨p1, c1, rfl, hb⟩
 obtain ⟨n1, hnn⟩ := eX (0 + 4)
 rw [hnn] at hb
 try rw [hnn]
 try simp only [Nat.zero_add] at hnn
 try rw [hnn]
 obtain ⟨z1, hz1⟩ := eX ([] ++ le many 4)
 rw [hz1] at hb
 have hn1 : n1 ≤ 4 := by rw [← hb.len, ← hz1, List.length_append, HB00.out.len, le_length]; omega
 have HB1 : Hid (BufF w0 none w1 p1 n1 c1 z1) := hid (HB00.out.trans hb)
 have HZ1 := hid hz1
 clear hb hz1 HC x0 x1 x2 x3 x4 x5 x6 x7 x8 x9 x10 x11 x12 HB00 hnn
 go_wp2_with fail
 try go_returns
 refine HP.out _ _ _ _ ?_
 have hB := HB0.out.trans HB1.out
 rw [← HZ1.out] at hB
 unfold bodyCn
 simpa using hB
theorem refBody_7 (r : Rc) (P : List Pr) (K D : List Int) (w : World) (hr : RcOk w r P K D) (hkd : r.kind = 7) (hm : MayCn r) :
  Calls Tryz.prog 35 #[.agg r.arr] w fun e w' => ∃ p n c, e = .returned (.slice p n c) ∧ BufF w none w' p n c (bodyCn r) := by
 obtain ⟨PO, hPO⟩ : ∃ PO : Ending → World → Prop, (fun e w' => ∃ p n c, e = .returned (.slice p n c) ∧ BufF w none w' p n c (bodyCn r)) = PO := ⟨_, rfl⟩
 rw [hPO]
 have HP : Hid (∀ p n c w', BufF w none w' p n c (bodyCn r) → PO (.returned (.slice p n c)) w') := hid (fun p n c w' h => by rw [← hPO]; exact ⟨p, n, c, rfl, h⟩)
 obtain ⟨w0, hw0⟩ := eX (w.alloc (.cells r.arr 26))
 have hrow := heap_alloc_new w (.cells r.arr 26)
 have hf0 : Frm [] w w0 := by rw [← hw0]; exact (Frm.refl _ _).alloc _
 obtain ⟨bx, hbx⟩ := eX (w.heap.size)
 rw [hw0, hbx] at hrow
 have HX := hid (fun V (hf : Frm [] w0 V) => rc_cells (hf.heap hrow (by simp)))
 have HR := hid (fun V (hf : Frm [] w0 V) => hr.k0 (hf0.trans hf (by simp)))
 have HF0 := hid hf0
 have HW0 := hid hw0
 have HBX := hid hbx
 have HPL := hid hr.pl
 have HKL := hid hr.kl
 have HDL := hid hr.dn
 have HB00 : Hid (BufF w0 none w0 none 0 0 []) := hid (BufF.self (Own.nil _ _) rfl)
 have HB0 : Hid (BufF w none w0 none 0 0 []) := hid ⟨Own.nil _ _, rfl, hf0.mono (by simp), by simp [blk]⟩
 have hmy0 := hm.1
 have hmy1 := hm.2
 clear hPO hw0 hrow hf0 hbx hr hm
 obtain ⟨kind, name, typ, frm, guid, origin, snap, pp, pn, pc, obj, at_, many, kp, kn, kc, dp, dl, dc⟩ := r
 simp only at hkd
 subst hkd
 unfold Rc.arr at HW0 ⊢
 simp only at HX HR HW0 HPL HKL HDL HP hmy0 hmy1 ⊢
 go_enter Tryz.func35, Tryz.ntmps35
 go_upto_region 1 with fail
 try rw [HW0.out]
 try rw [HBX.out]
 clear HW0 HBX
 obtain ⟨x0, x1, x2, x3, x4, x5, x6, x7, x8, x9, x10, x11, x12⟩ := HX.out w0 HB00.out.nil.1
 have HC := hid (refNumF_any none 0 0 [] many 4 w0 HB00.out.own HB00.out.len (by omega) (by omega) (by omega) (by omega))
 go_wp2_with fail
 refine HC.out.mono ?_
 rintro e w1 ⟨p1, c1, rfl, hb⟩
 obtain ⟨n1, hnn⟩ := eX (0 + 4)
 rw [hnn] at hb
 try rw [hnn]
 try simp only [Nat.zero_add] at hnn
 try rw [hnn]
 obtain ⟨z1, hz1⟩ := eX ([] ++ le many 4)
 rw [hz1] at hb
 have hn1 : n1 ≤ 4 := by rw [← hb.len, ← hz1, List.length_append, HB00.out.len, le_length]; omega
 have HB1 : Hid (BufF w0 none w1 p1 n1 c1 z1) := hid (HB00.out.trans hb)
 have HZ1 := hid hz1
 clear hb hz1 HC x0 x1 x2 x3 x4 x5 x6 x7 x8 x9 x10 x11 x12 HB00 hnn
 go_wp2_with fail
 try go_returns
 refine HP.out _ _ _ _ ?_
 have hB := HB0.out.trans HB1.out
 rw [← HZ1.out] at hB
 unfold bodyCn
 simpa using hB
theorem refBody_5 (r : Rc) (P : List Pr) (K D : List Int) (w : World) (hr : RcOk w r P K D) (hkd : r.kind = 5) (hm : MayWr r) :
  Calls Tryz.prog 35 #[.agg r.arr] w fun e w' => ∃ p n c, e = .returned (.slice p n c) ∧ BufF w none w' p n c (bodyWr r D) := by
 obtain ⟨PO, hPO⟩ : ∃ PO : Ending → World → Prop, (fun e w' => ∃ p n c, e = .returned (.slice p n c) ∧ BufF w none w' p n c (bodyWr r D)) = PO := ⟨_, rfl⟩
 rw [hPO]
 have HP : Hid (∀ p n c w', BufF w none w' p n c (bodyWr r D) → PO (.returned (.slice p n c)) w') := hid (fun p n c w' h => by rw [← hPO]; exact ⟨p, n, c, rfl, h⟩)
 obtain ⟨w0, hw0⟩ := eX (w.alloc (.cells r.arr 26))
 have hrow := heap_alloc_new w (.cells r.arr 26)
 have hf0 : Frm [] w w0 := by rw [← hw0]; exact (Frm.refl _ _).alloc _
 obtain ⟨bx, hbx⟩ := eX (w.heap.size)
 rw [hw0, hbx] at hrow
 have HX := hid (fun V (hf : Frm [] w0 V) => rc_cells (hf.heap hrow (by simp)))
 have HR := hid (fun V (hf : Frm [] w0 V) => hr.k0 (hf0.trans hf (by simp)))
 have HF0 := hid hf0
 have HW0 := hid hw0
 have HBX := hid hbx
 have HPL := hid hr.pl
 have HKL := hid hr.kl
 have HDL := hid hr.dn
 have HB00 : Hid (BufF w0 none w0 none 0 0 []) := hid (BufF.self (Own.nil _ _) rfl)
 have HB0 : Hid (BufF w none w0 none 0 0 []) := hid ⟨Own.nil _ _, rfl, hf0.mono (by simp), by simp [blk]⟩
 have hmy0 := hm.1.1
 have hmy1 := hm.1.2
 have hmy2 := hm.2.1.1
 have hmy3 := hm.2.1.2
 have hmy4 := hm.2.2.1
 have hmy5 := hm.2.2.2
 clear hPO hw0 hrow hf0 hbx hr hm
 obtain ⟨kind, name, typ, frm, guid, origin, snap, pp, pn, pc, obj, at_, many, kp, kn, kc, dp, dl, dc⟩ := r
 simp only at hkd
 subst hkd
 unfold Rc.arr at HW0 ⊢
 simp only at HX HR HW0 HPL HKL HDL HP hmy0 hmy1 hmy2 hmy3 hmy4 hmy5 ⊢
 go_enter Tryz.func35, Tryz.ntmps35
 go_upto_region 1 with fail
 try rw [HW0.out]
 try rw [HBX.out]
 clear HW0 HBX
 obtain ⟨x0, x1, x2, x3, x4, x5, x6, x7, x8, x9, x10, x11, x12⟩ := HX.out w0 HB00.out.nil.1
 have HC := hid (refNumF_any none 0 0 [] obj 4 w0 HB00.out.own HB00.out.len (by omega) (by omega) (by omega) (by omega))
 go_wp2_with fail
 refine HC.out.mono ?_
 rintro e w1 ⟨p1, c1, rfl, hb⟩
 obtain ⟨n1, hnn⟩ := eX (0 + 4)
 rw [hnn] at hb
 try rw [hnn]
 try simp only [Nat.zero_add] at hnn
 try rw [hnn]
 obtain ⟨z1, hz1⟩ := eX ([] ++ le obj 4)
 rw [hz1] at hb
 have hn1 : n1 ≤ 4 := by rw [← hb.len, ← hz1, List.length_append, HB00.out.len, le_length]; omega
 have HB1 : Hid (BufF w0 none w1 p1 n1 c1 z1) := hid (HB00.out.trans hb)
 have HZ1 := hid hz1
 clear hb hz1 HC x0 x1 x2 x3 x4 x5 x6 x7 x8 x9 x10 x11 x12 HB00 hnn
 obtain ⟨x0, x1, x2, x3, x4, x5, x6, x7, x8, x9, x10, x11, x12⟩ := HX.out w1 HB1.out.nil.1
 have HC := hid (refNumF_any p1 n1 c1 z1 (at_ + 1) 2 w1 HB1.out.own HB1.out.len (by omega) (by omega) (by omega) (by omega))
 go_wp2_with fail
 refine HC.out.mono ?_
 rintro e w2 ⟨p2, c2, rfl, hb⟩
 obtain ⟨n2, hnn⟩ := eX (n1 + 2)
 rw [hnn] at hb
 try rw [hnn]
 try simp only [Nat.zero_add] at hnn
 try rw [hnn]
 obtain ⟨z2, hz2⟩ := eX (z1 ++ le (at_ + 1) 2)
 rw [hz2] at hb
 have hn2 : n2 ≤ 6 := by rw [← hb.len, ← hz2, List.length_append, HB1.out.len, le_length]; omega
 have HB2 : Hid (BufF w0 none w2 p2 n2 c2 z2) := hid (HB1.out.trans hb)
 have HZ2 := hid hz2
 clear hb hz2 HC x0 x1 x2 x3 x4 x5 x6 x7 x8 x9 x10 x11 x12 HB1 hnn
 obtain ⟨x0, x1, x2, x3, x4, x5, x6, x7, x8, x9, x10, x11, x12⟩ := HX.out w2 HB2.out.nil.1
 have HC := hid (refNumF_any p2 n2 c2 z2 (dl : Int) 2 w2 HB2.out.own HB2.out.len (by omega) (by omega) (by omega) (by omega))
 go_wp2_with fail
 refine HC.out.mono ?_
 rintro e w3 ⟨p3, c3, rfl, hb⟩
 obtain ⟨n3, hnn⟩ := eX (n2 + 2)
 rw [hnn] at hb
 try rw [hnn]
 try simp only [Nat.zero_add] at hnn
 try rw [hnn]
 obtain ⟨z3, hz3⟩ := eX (z2 ++ le (dl : Int) 2)
 rw [hz3] at hb
 have hn3 : n3 ≤ 8 := by rw [← hb.len, ← hz3, List.length_append, HB2.out.len, le_length]; omega
 have HB3 : Hid (BufF w0 none w3 p3 n3 c3 z3) := hid (HB2.out.trans hb)
 have HZ3 := hid hz3
 clear hb hz3 HC x0 x1 x2 x3 x4 x5 x6 x7 x8 x9 x10 x11 x12 HB2 hnn
 obtain ⟨x0, x1, x2, x3, x4, x5, x6, x7, x8, x9, x10, x11, x12⟩ := HX.out w3 HB3.out.nil.1
 have hdr := (HR.out w3 HB3.out.nil.1).dr
 simp only at hdr
 have HDR := hid hdr
 clear hdr
 go_wp2_with (at_builtin; refine wpList_appB rfl _ _ 24 rfl 5 Tryz.underlying24 infoE p3 n3 c3 z3 rfl HB3.out.len.symm (by rw [HB3.out.len]; exact HB3.out.own) dp dl dc D rfl HDL.out.symm (fun h => absurd HDL.out (by rw [h]; simp; omega)) HDR.out (by rw [HB3.out.len, HDL.out]; omega) ?_)
 intro xs p4 c4 w4 hxs ho4 hf4 hfr4
 clear x0 x1 x2 x3 x4 x5 x6 x7 x8 x9 x10 x11 x12
 go_wp2_with fail
 try go_returns
 have he : xs = bodyWr ⟨5, name, typ, frm, guid, origin, snap, pp, pn, pc, obj, at_, many, kp, kn, kc, dp, dl, dc⟩ D := by
  rw [hxs.out, ← HZ3.out, ← HZ2.out, ← HZ1.out]
  unfold bodyWr
  simp
 refine HP.out _ _ _ _ ?_
 rw [← he]
 exact HB0.out.trans (HB3.out.trans (⟨ho4.out, rfl, hf4.out, hfr4.out⟩ : BufF w3 p3 w4 p4 xs.length c4 xs))
theorem refBody_3 (r : Rc) (P : List Pr) (K D : List Int) (w : World) (hr : RcOk w r P K D) (hkd : r.kind = 3) (hm : MayLv r K) :
  Calls Tryz.prog 35 #[.agg r.arr] w fun e w' => ∃ p n c, e = .returned (.slice p n c) ∧ BufF w none w' p n c (bodyLv K) := by
 obtain ⟨PO, hPO⟩ : ∃ PO : Ending → World → Prop, (fun e w' => ∃ p n c, e = .returned (.slice p n c) ∧ BufF w none w' p n c (bodyLv K)) = PO := ⟨_, rfl⟩
 rw [hPO]
 have HP : Hid (∀ p n c w', BufF w none w' p n c (bodyLv K) → PO (.returned (.slice p n c)) w') := hid (fun p n c w' h => by rw [← hPO]; exact ⟨p, n, c, rfl, h⟩)
 obtain ⟨w0, hw0⟩ := eX (w.alloc (.cells r.arr 26))
 have hrow := heap_alloc_new w (.cells r.arr 26)
 have hf0 : Frm [] w w0 := by rw [← hw0]; exact (Frm.refl _ _).alloc _
 obtain ⟨bx, hbx⟩ := eX (w.heap.size)
 rw [hw0, hbx] at hrow
 have HX := hid (fun V (hf : Frm [] w0 V) => rc_cells (hf.heap hrow (by simp)))
 have HR := hid (fun V (hf : Frm [] w0 V) => hr.k0 (hf0.trans hf (by simp)))
 have HF0 := hid hf0
 have HW0 := hid hw0
 have HBX := hid hbx
 have HPL := hid hr.pl
 have HKL := hid hr.kl
 have HDL := hid hr.dn
 have HB00 : Hid (BufF w0 none w0 none 0 0 []) := hid (BufF.self (Own.nil _ _) rfl)
 have HB0 : Hid (BufF w none w0 none 0 0 []) := hid ⟨Own.nil _ _, rfl, hf0.mono (by simp), by simp [blk]⟩
 have hmy0 := hm.1
 have HRI := hid hm.2
 clear hPO hw0 hrow hf0 hbx hr hm
 obtain ⟨kind, name, typ, frm, guid, origin, snap, pp, pn, pc, obj, at_, many, kp, kn, kc, dp, dl, dc⟩ := r
 simp only at hkd
 subst hkd
 unfold Rc.arr at HW0 ⊢
 simp only at HX HR HW0 HPL HKL HDL HP hmy0 ⊢
 go_enter Tryz.func35, Tryz.ntmps35
 go_upto_region 1 with fail
 try rw [HW0.out]
 try rw [HBX.out]
 clear HW0 HBX
 obtain ⟨x0, x1, x2, x3, x4, x5, x6, x7, x8, x9, x10, x11, x12⟩ := HX.out w0 HB00.out.nil.1
 have HC := hid (refNumF_any none 0 0 [] (kn : Int) 2 w0 HB00.out.own HB00.out.len (by omega) (by omega) (by omega) (by omega))
 go_wp2_with fail
 refine HC.out.mono ?_
 rintro e w1 ⟨p1, c1, rfl, hb⟩
 obtain ⟨n1, hnn⟩ := eX (0 + 2)
 rw [hnn] at hb
 try rw [hnn]
 try simp only [Nat.zero_add] at hnn
 try rw [hnn]
 obtain ⟨z1, hz1⟩ := eX ([] ++ le (kn : Int) 2)
 rw [hz1] at hb
 have hn1 : n1 ≤ 2 := by rw [← hb.len, ← hz1, List.length_append, HB00.out.len, le_length]; omega
 have HB1 : Hid (BufF w0 none w1 p1 n1 c1 z1) := hid (HB00.out.trans hb)
 have HZ1 := hid hz1
 clear hb hz1 HC x0 x1 x2 x3 x4 x5 x6 x7 x8 x9 x10 x11 x12 HB00 hnn
 obtain ⟨x0, x1, x2, x3, x4, x5, x6, x7, x8, x9, x10, x11, x12⟩ := HX.out w1 HB1.out.nil.1
 go_wp2_with fail
 clear x0 x1 x2 x3 x4 x5 x6 x7 x8 x9 x10 x11 x12
 go_loopw [3, 5] (fun bv i wr => ∃ (t : Nat) (p : Option Addr) (n c : Nat), t ≤ kn ∧ i = .int .i64 (t : Int) ∧ bv = .slice p n c ∧ n ≤ 2 + 4 * t ∧ Hid (BufF w0 none wr p n c (z1 ++ kpT K 0 4 t))) (fun _ i _ => kn - (intOf i).toNat)
 case atStart => exact ⟨0, p1, n1, c1, Nat.zero_le _, rfl, rfl, by omega, hid (by rw [show z1 ++ kpT K 0 4 0 = z1 by simp [kpT]]; exact HB1.out)⟩
 case round =>
  obtain ⟨t, p, n, c, ht, rfl, rfl, hn, hb⟩ := hrel
  have HB := hid hb.out
  clear hb
  by_cases hlt : t < kn
  case neg =>
   obtain rfl : t = kn := by omega
   obtain ⟨x0, x1, x2, x3, x4, x5, x6, x7, x8, x9, x10, x11, x12⟩ := HX.out wr HB.out.nil.1
   go_wp2_with fail
   try go_returns
   refine HP.out _ _ _ _ ?_
   have hB := HB0.out.trans HB.out
   rw [← HZ1.out] at hB
   unfold bodyLv keepB
   rw [HKL.out]
   simpa using hB
  have t1 : (t : Int) < (kn : Int) := by omega
  have hri := (HR.out wr HB.out.nil.1).kr
  simp only at hri
  obtain ⟨g, o, rfl, hc⟩ := hri.at (i := t) (by rw [HKL.out]; exact hlt)
  have z0 := hc t (by rw [HKL.out]; exact hlt)
  have hv := (HRI.out t (by rw [HKL.out]; exact hlt)).1
  have HNX : Hid (kpT K 0 4 (t + 1) = kpT K 0 4 t ++ le (zA K t + 0) 4) := hid rfl
  obtain ⟨x, hx⟩ := eX (zA K t)
  rw [hx] at z0 hv HNX
  obtain ⟨hv0, hv1⟩ := hv
  clear hc hri hx
  obtain ⟨x0, x1, x2, x3, x4, x5, x6, x7, x8, x9, x10, x11, x12⟩ := HX.out wr HB.out.nil.1
  have HC := hid (refNumF_any p n c (z1 ++ kpT K 0 4 t) x 4 wr HB.out.own HB.out.len (by omega) (by omega) (by omega) (by omega))
  go_wp2_with fail
  refine HC.out.mono ?_
  rintro e wn ⟨q, d, rfl, hb⟩
  have HBN := hid (HB.out.trans hb)
  obtain ⟨nn, hnn⟩ := eX (n + 4)
  rw [hnn] at HBN
  try rw [hnn]
  have hn2 : nn ≤ 2 + 4 * (t + 1) := by omega
  have HN2 := hid hn2
  clear hb hnn hn2 HC x0 x1 x2 x3 x4 x5 x6 x7 x8 x9 x10 x11 x12 z0
  go_wp2_with fail
  go_roundw
  case rel => exact ⟨t + 1, q, nn, d, by omega, by go_num, rfl, HN2.out, hid (by rw [HNX.out, ← List.append_assoc]; rw [Int.add_zero]; exact HBN.out)⟩
  case measure => simp [intOf] <;> omega
theorem refBody_4 (r : Rc) (P : List Pr) (K D : List Int) (w : World) (hr : RcOk w r P K D) (hkd : r.kind = 4) (hm : MayNd r K) :
  Calls Tryz.prog 35 #[.agg r.arr] w fun e w' => ∃ p n c, e = .returned (.slice p n c) ∧ BufF w none w' p n c (bodyNd r K) := by
 obtain ⟨PO, hPO⟩ : ∃ PO : Ending → World → Prop, (fun e w' => ∃ p n c, e = .returned (.slice p n c) ∧ BufF w none w' p n c (bodyNd r K)) = PO := ⟨_, rfl⟩
 rw [hPO]
 have HP : Hid (∀ p n c w', BufF w none w' p n c (bodyNd r K) → PO (.returned (.slice p n c)) w') := hid (fun p n c w' h => by rw [← hPO]; exact ⟨p, n, c, rfl, h⟩)
 obtain ⟨w0, hw0⟩ := eX (w.alloc (.cells r.arr 26))
 have hrow := heap_alloc_new w (.cells r.arr 26)
 have hf0 : Frm [] w w0 := by rw [← hw0]; exact (Frm.refl _ _).alloc _
 obtain ⟨bx, hbx⟩ := eX (w.heap.size)
 rw [hw0, hbx] at hrow
 have HX := hid (fun V (hf : Frm [] w0 V) => rc_cells (hf.heap hrow (by simp)))
 have HR := hid (fun V (hf : Frm [] w0 V) => hr.k0 (hf0.trans hf (by simp)))
 have HF0 := hid hf0
 have HW0 := hid hw0
 have HBX := hid hbx
 have HPL := hid hr.pl
 have HKL := hid hr.kl
 have HDL := hid hr.dn
 have HB00 : Hid (BufF w0 none w0 none 0 0 []) := hid (BufF.self (Own.nil _ _) rfl)
 have HB0 : Hid (BufF w none w0 none 0 0 []) := hid ⟨Own.nil _ _, rfl, hf0.mono (by simp), by simp [blk]⟩
 have hmy0 := hm.1.1
 have hmy1 := hm.1.2
 have hmy2 := hm.2.1.1
 have hmy3 := hm.2.1.2
 have HRI := hid hm.2.2
 clear hPO hw0 hrow hf0 hbx hr hm
 obtain ⟨kind, name, typ, frm, guid, origin, snap, pp, pn, pc, obj, at_, many, kp, kn, kc, dp, dl, dc⟩ := r
 simp only at hkd
 subst hkd
 unfold Rc.arr at HW0 ⊢
 simp only at HX HR HW0 HPL HKL HDL HP hmy0 hmy1 hmy2 hmy3 ⊢
 go_enter Tryz.func35, Tryz.ntmps35
 go_upto_region 1 with fail
 try rw [HW0.out]
 try rw [HBX.out]
 clear HW0 HBX
 obtain ⟨x0, x1, x2, x3, x4, x5, x6, x7, x8, x9, x10, x11, x12⟩ := HX.out w0 HB00.out.nil.1
 have HC := hid (refNumF_any none 0 0 [] obj 4 w0 HB00.out.own HB00.out.len (by omega) (by omega) (by omega) (by omega))
 go_wp2_with fail
 refine HC.out.mono ?_
 rintro e w1 ⟨p1, c1, rfl, hb⟩
 obtain ⟨n1, hnn⟩ := eX (0 + 4)
 rw [hnn] at hb
 try rw [hnn]
 try simp only [Nat.zero_add] at hnn
 try rw [hnn]
 obtain ⟨z1, hz1⟩ := eX ([] ++ le obj 4)
 rw [hz1] at hb
 have hn1 : n1 ≤ 4 := by rw [← hb.len, ← hz1, List.length_append, HB00.out.len, le_length]; omega
 have HB1 : Hid (BufF w0 none w1 p1 n1 c1 z1) := hid (HB00.out.trans hb)
 have HZ1 := hid hz1
 clear hb hz1 HC x0 x1 x2 x3 x4 x5 x6 x7 x8 x9 x10 x11 x12 HB00 hnn
 obtain ⟨x0, x1, x2, x3, x4, x5, x6, x7, x8, x9, x10, x11, x12⟩ := HX.out w1 HB1.out.nil.1
 have HC := hid (refNumF_any p1 n1 c1 z1 (kn : Int) 2 w1 HB1.out.own HB1.out.len (by omega) (by omega) (by omega) (by omega))
 go_wp2_with fail
 refine HC.out.mono ?_
 rintro e w2 ⟨p2, c2, rfl, hb⟩
 obtain ⟨n2, hnn⟩ := eX (n1 + 2)
 rw [hnn] at hb
 try rw [hnn]
 try simp only [Nat.zero_add] at hnn
 try rw [hnn]
 obtain ⟨z2, hz2⟩ := eX (z1 ++ le (kn : Int) 2)
 rw [hz2] at hb
 have hn2 : n2 ≤ 6 := by rw [← hb.len, ← hz2, List.length_append, HB1.out.len, le_length]; omega
 have HB2 : Hid (BufF w0 none w2 p2 n2 c2 z2) := hid (HB1.out.trans hb)
 have HZ2 := hid hz2
 clear hb hz2 HC x0 x1 x2 x3 x4 x5 x6 x7 x8 x9 x10 x11 x12 HB1 hnn
 obtain ⟨x0, x1, x2, x3, x4, x5, x6, x7, x8, x9, x10, x11, x12⟩ := HX.out w2 HB2.out.nil.1
 go_wp2_with fail
 clear x0 x1 x2 x3 x4 x5 x6 x7 x8 x9 x10 x11 x12
 go_loopw [3, 6] (fun bv i wr => ∃ (t : Nat) (p : Option Addr) (n c : Nat), t ≤ kn ∧ i = .int .i64 (t : Int) ∧ bv = .slice p n c ∧ n ≤ 6 + 2 * t ∧ Hid (BufF w0 none wr p n c (z2 ++ kpT K 1 2 t))) (fun _ i _ => kn - (intOf i).toNat)
 case atStart => exact ⟨0, p2, n2, c2, Nat.zero_le _, rfl, rfl, by omega, hid (by rw [show z2 ++ kpT K 1 2 0 = z2 by simp [kpT]]; exact HB2.out)⟩
 case round =>
  obtain ⟨t, p, n, c, ht, rfl, rfl, hn, hb⟩ := hrel
  have HB := hid hb.out
  clear hb
  by_cases hlt : t < kn
  case neg =>
   obtain rfl : t = kn := by omega
   obtain ⟨x0, x1, x2, x3, x4, x5, x6, x7, x8, x9, x10, x11, x12⟩ := HX.out wr HB.out.nil.1
   go_wp2_with fail
   try go_returns
   refine HP.out _ _ _ _ ?_
   have hB := HB0.out.trans HB.out
   rw [← HZ2.out, ← HZ1.out] at hB
   unfold bodyNd keepB
   rw [HKL.out]
   simpa using hB
  have t1 : (t : Int) < (kn : Int) := by omega
  have hri := (HR.out wr HB.out.nil.1).kr
  simp only at hri
  obtain ⟨g, o, rfl, hc⟩ := hri.at (i := t) (by rw [HKL.out]; exact hlt)
  have z0 := hc t (by rw [HKL.out]; exact hlt)
  have hv := (HRI.out t (by rw [HKL.out]; exact hlt)).1
  have HNX : Hid (kpT K 1 2 (t + 1) = kpT K 1 2 t ++ le (zA K t + 1) 2) := hid rfl
  obtain ⟨x, hx⟩ := eX (zA K t)
  rw [hx] at z0 hv HNX
  obtain ⟨hv0, hv1⟩ := hv
  clear hc hri hx
  obtain ⟨x0, x1, x2, x3, x4, x5, x6, x7, x8, x9, x10, x11, x12⟩ := HX.out wr HB.out.nil.1
  have HC := hid (refNumF_any p n c (z2 ++ kpT K 1 2 t) (x + 1) 2 wr HB.out.own HB.out.len (by omega) (by omega) (by omega) (by omega))
  go_wp2_with fail
  refine HC.out.mono ?_
  rintro e wn ⟨q, d, rfl, hb⟩
  have HBN := hid (HB.out.trans hb)
  obtain ⟨nn, hnn⟩ := eX (n + 2)
  rw [hnn] at HBN
  try rw [hnn]
  have hn2 : nn ≤ 6 + 2 * (t + 1) := by omega
  have HN2 := hid hn2
  clear hb hnn hn2 HC x0 x1 x2 x3 x4 x5 x6 x7 x8 x9 x10 x11 x12 z0
  go_wp2_with fail
  go_roundw
  case rel => exact ⟨t + 1, q, nn, d, by omega, by go_num, rfl, HN2.out, hid (by rw [HNX.out, ← List.append_assoc]; exact HBN.out)⟩
  case measure => simp [intOf] <;> omega
theorem refBody_2 (r : Rc) (P : List Pr) (K D : List Int) (w : World) (hr : RcOk w r P K D) (hkd : r.kind = 2) (hm : MayBg r P) :
  Calls Tryz.prog 35 #[.agg r.arr] w fun e w' => ∃ p n c, e = .returned (.slice p n c) ∧ BufF w none w' p n c (bodyBg r P) := by
 obtain ⟨PO, hPO⟩ : ∃ PO : Ending → World → Prop, (fun e w' => ∃ p n c, e = .returned (.slice p n c) ∧ BufF w none w' p n c (bodyBg r P)) = PO := ⟨_, rfl⟩
 rw [hPO]
 have HP : Hid (∀ p n c w', BufF w none w' p n c (bodyBg r P) → PO (.returned (.slice p n c)) w') := hid (fun p n c w' h => by rw [← hPO]; exact ⟨p, n, c, rfl, h⟩)
 obtain ⟨w0, hw0⟩ := eX (w.alloc (.cells r.arr 26))
 have hrow := heap_alloc_new w (.cells r.arr 26)
 have hf0 : Frm [] w w0 := by rw [← hw0]; exact (Frm.refl _ _).alloc _
 obtain ⟨bx, hbx⟩ := eX (w.heap.size)
 rw [hw0, hbx] at hrow
 have HX := hid (fun V (hf : Frm [] w0 V) => rc_cells (hf.heap hrow (by simp)))
 have HR := hid (fun V (hf : Frm [] w0 V) => hr.k0 (hf0.trans hf (by simp)))
 have HF0 := hid hf0
 have HW0 := hid hw0
 have HBX := hid hbx
 have HPL := hid hr.pl
 have HKL := hid hr.kl
 have HDL := hid hr.dn
 have HB00 : Hid (BufF w0 none w0 none 0 0 []) := hid (BufF.self (Own.nil _ _) rfl)
 have HB0 : Hid (BufF w none w0 none 0 0 []) := hid ⟨Own.nil _ _, rfl, hf0.mono (by simp), by simp [blk]⟩
 have hnm := nmOk_len hm.1
 have HRI := hid hm.2.1
 obtain ⟨_, _, mt, mf, mg, mo, ms, mp⟩ := hm
 have hsn := tx_len24 ms
 have hmt : 1 ≤ r.typ ∧ r.typ ≤ 2 := by omega
 have hmo : 0 ≤ r.origin ∧ r.origin ≤ 1 := by omega
 obtain ⟨mt0, mt1⟩ := hmt
 obtain ⟨mo0, mo1⟩ := hmo
 obtain ⟨mf0, mf1⟩ := mf
 obtain ⟨mg0, mg1⟩ := mg
 clear mt mo ms
 clear hPO hw0 hrow hf0 hbx hr
 obtain ⟨kind, name, typ, frm, guid, origin, snap, pp, pn, pc, obj, at_, many, kp, kn, kc, dp, dl, dc⟩ := r
 simp only at hkd
 subst hkd
 unfold Rc.arr at HW0 ⊢
 simp only at HX HR HW0 HPL HKL HDL HP hnm hsn mt0 mt1 mo0 mo1 mf0 mf1 mg0 mg1 mp ⊢
 go_enter Tryz.func35, Tryz.ntmps35
 go_upto_region 1 with fail
 try rw [HW0.out]
 try rw [HBX.out]
 clear HW0 HBX
 obtain ⟨x0, x1, x2, x3, x4, x5, x6, x7, x8, x9, x10, x11, x12⟩ := HX.out w0 HB00.out.nil.1
 have HC := hid (refTextF_any none 0 0 [] name w0 HB00.out.own HB00.out.len (by omega) (by omega))
 go_wp2_with fail
 refine HC.out.mono ?_
 rintro e w1 ⟨p1, n1, c1, rfl, hb⟩
 obtain ⟨z1, hz1⟩ := eX ([] ++ txF name)
 rw [hz1] at hb
 have hn1 : n1 ≤ 242 := by rw [← hb.len, ← hz1, List.length_append, HB00.out.len, txF_len]; omega
 have HB1 : Hid (BufF w0 none w1 p1 n1 c1 z1) := hid (HB00.out.trans hb)
 have HZ1 := hid hz1
 clear hb hz1 HC x0 x1 x2 x3 x4 x5 x6 x7 x8 x9 x10 x11 x12 HB00
 obtain ⟨x0, x1, x2, x3, x4, x5, x6, x7, x8, x9, x10, x11, x12⟩ := HX.out w1 HB1.out.nil.1
 have HC := hid (refNumF_any p1 n1 c1 z1 typ 1 w1 HB1.out.own HB1.out.len (by omega) (by omega) (by omega) (by omega))
 go_wp2_with fail
 refine HC.out.mono ?_
 rintro e w2 ⟨p2, c2, rfl, hb⟩
 obtain ⟨n2, hnn⟩ := eX (n1 + 1)
 rw [hnn] at hb
 try rw [hnn]
 try simp only [Nat.zero_add] at hnn
 try rw [hnn]
 obtain ⟨z2, hz2⟩ := eX (z1 ++ le typ 1)
 rw [hz2] at hb
 have hn2 : n2 ≤ 243 := by rw [← hb.len, ← hz2, List.length_append, HB1.out.len, le_length]; omega
 have HB2 : Hid (BufF w0 none w2 p2 n2 c2 z2) := hid (HB1.out.trans hb)
 have HZ2 := hid hz2
 clear hb hz2 HC x0 x1 x2 x3 x4 x5 x6 x7 x8 x9 x10 x11 x12 HB1 hnn
 obtain ⟨x0, x1, x2, x3, x4, x5, x6, x7, x8, x9, x10, x11, x12⟩ := HX.out w2 HB2.out.nil.1
 have HC := hid (refNumF_any p2 n2 c2 z2 frm 6 w2 HB2.out.own HB2.out.len (by omega) (by omega) (by omega) (by omega))
 go_wp2_with fail
 refine HC.out.mono ?_
 rintro e w3 ⟨p3, c3, rfl, hb⟩
 obtain ⟨n3, hnn⟩ := eX (n2 + 6)
 rw [hnn] at hb
 try rw [hnn]
 try simp only [Nat.zero_add] at hnn
 try rw [hnn]
 obtain ⟨z3, hz3⟩ := eX (z2 ++ le frm 6)
 rw [hz3] at hb
 have hn3 : n3 ≤ 249 := by rw [← hb.len, ← hz3, List.length_append, HB2.out.len, le_length]; omega
 have HB3 : Hid (BufF w0 none w3 p3 n3 c3 z3) := hid (HB2.out.trans hb)
 have HZ3 := hid hz3
 clear hb hz3 HC x0 x1 x2 x3 x4 x5 x6 x7 x8 x9 x10 x11 x12 HB2 hnn
 obtain ⟨x0, x1, x2, x3, x4, x5, x6, x7, x8, x9, x10, x11, x12⟩ := HX.out w3 HB3.out.nil.1
 have HC := hid (refNumF_any p3 n3 c3 z3 guid 6 w3 HB3.out.own HB3.out.len (by omega) (by omega) (by omega) (by omega))
 go_wp2_with fail
 refine HC.out.mono ?_
 rintro e w4 ⟨p4, c4, rfl, hb⟩
 obtain ⟨n4, hnn⟩ := eX (n3 + 6)
 rw [hnn] at hb
 try rw [hnn]
 try simp only [Nat.zero_add] at hnn
 try rw [hnn]
 obtain ⟨z4, hz4⟩ := eX (z3 ++ le guid 6)
 rw [hz4] at hb
 have hn4 : n4 ≤ 255 := by rw [← hb.len, ← hz4, List.length_append, HB3.out.len, le_length]; omega
 have HB4 : Hid (BufF w0 none w4 p4 n4 c4 z4) := hid (HB3.out.trans hb)
 have HZ4 := hid hz4
 clear hb hz4 HC x0 x1 x2 x3 x4 x5 x6 x7 x8 x9 x10 x11 x12 HB3 hnn
 obtain ⟨x0, x1, x2, x3, x4, x5, x6, x7, x8, x9, x10, x11, x12⟩ := HX.out w4 HB4.out.nil.1
 have HC := hid (refNumF_any p4 n4 c4 z4 origin 1 w4 HB4.out.own HB4.out.len (by omega) (by omega) (by omega) (by omega))
 go_wp2_with fail
 refine HC.out.mono ?_
 rintro e w5 ⟨p5, c5, rfl, hb⟩
 obtain ⟨n5, hnn⟩ := eX (n4 + 1)
 rw [hnn] at hb
 try rw [hnn]
 try simp only [Nat.zero_add] at hnn
 try rw [hnn]
 obtain ⟨z5, hz5⟩ := eX (z4 ++ le origin 1)
 rw [hz5] at hb
 have hn5 : n5 ≤ 256 := by rw [← hb.len, ← hz5, List.length_append, HB4.out.len, le_length]; omega
 have HB5 : Hid (BufF w0 none w5 p5 n5 c5 z5) := hid (HB4.out.trans hb)
 have HZ5 := hid hz5
 clear hb hz5 HC x0 x1 x2 x3 x4 x5 x6 x7 x8 x9 x10 x11 x12 HB4 hnn
 obtain ⟨x0, x1, x2, x3, x4, x5, x6, x7, x8, x9, x10, x11, x12⟩ := HX.out w5 HB5.out.nil.1
 have HC := hid (refTextF_any p5 n5 c5 z5 snap w5 HB5.out.own HB5.out.len (by omega) (by omega))
 go_wp2_with fail
 refine HC.out.mono ?_
 rintro e w6 ⟨p6, n6, c6, rfl, hb⟩
 obtain ⟨z6, hz6⟩ := eX (z5 ++ txF snap)
 rw [hz6] at hb
 have hn6 : n6 ≤ 282 := by rw [← hb.len, ← hz6, List.length_append, HB5.out.len, txF_len]; omega
 have HB6 : Hid (BufF w0 none w6 p6 n6 c6 z6) := hid (HB5.out.trans hb)
 have HZ6 := hid hz6
 clear hb hz6 HC x0 x1 x2 x3 x4 x5 x6 x7 x8 x9 x10 x11 x12 HB5
 obtain ⟨x0, x1, x2, x3, x4, x5, x6, x7, x8, x9, x10, x11, x12⟩ := HX.out w6 HB6.out.nil.1
 have HC := hid (refNumF_any p6 n6 c6 z6 (pn : Int) 1 w6 HB6.out.own HB6.out.len (by omega) (by omega) (by omega) (by omega))
 go_wp2_with fail
 refine HC.out.mono ?_
 rintro e w7 ⟨p7, c7, rfl, hb⟩
 obtain ⟨n7, hnn⟩ := eX (n6 + 1)
 rw [hnn] at hb
 try rw [hnn]
 try simp only [Nat.zero_add] at hnn
 try rw [hnn]
 obtain ⟨z7, hz7⟩ := eX (z6 ++ le (pn : Int) 1)
 rw [hz7] at hb
 have hn7 : n7 ≤ 283 := by rw [← hb.len, ← hz7, List.length_append, HB6.out.len, le_length]; omega
 have HB7 : Hid (BufF w0 none w7 p7 n7 c7 z7) := hid (HB6.out.trans hb)
 have HZ7 := hid hz7
 clear hb hz7 HC x0 x1 x2 x3 x4 x5 x6 x7 x8 x9 x10 x11 x12 HB6 hnn
 obtain ⟨x0, x1, x2, x3, x4, x5, x6, x7, x8, x9, x10, x11, x12⟩ := HX.out w7 HB7.out.nil.1
 go_wp2_with fail
 clear x0 x1 x2 x3 x4 x5 x6 x7 x8 x9 x10 x11 x12
 go_loopw [3, 4] (fun bv i wr => ∃ (t : Nat) (p : Option Addr) (n c : Nat), t ≤ pn ∧ i = .int .i64 (t : Int) ∧ bv = .slice p n c ∧ n ≤ 283 + 92 * t ∧ Hid (BufF w0 none wr p n c (z7 ++ prT P t))) (fun _ i _ => pn - (intOf i).toNat)
 case atStart => exact ⟨0, p7, n7, c7, Nat.zero_le _, rfl, rfl, by omega, hid (by rw [show z7 ++ prT P 0 = z7 by simp [prT]]; exact HB7.out)⟩
 case round =>
  obtain ⟨t, p, n, c, ht, rfl, rfl, hn, hb⟩ := hrel
  have HB := hid hb.out
  clear hb
  by_cases hlt : t < pn
  case neg =>
   obtain rfl : t = pn := by omega
   obtain ⟨x0, x1, x2, x3, x4, x5, x6, x7, x8, x9, x10, x11, x12⟩ := HX.out wr HB.out.nil.1
   go_wp2_with fail
   try go_returns
   refine HP.out _ _ _ _ ?_
   have hB := HB0.out.trans HB.out
   rw [← HZ7.out, ← HZ6.out, ← HZ5.out, ← HZ4.out, ← HZ3.out, ← HZ2.out, ← HZ1.out] at hB
   unfold bodyBg
   rw [HPL.out]
   simpa using hB
  have t1 : (t : Int) < (pn : Int) := by omega
  have hri := (HR.out wr HB.out.nil.1).pr
  simp only at hri
  obtain ⟨g, o, rfl, hc⟩ := hri.at (i := t) (by rw [HPL.out]; exact hlt)
  obtain ⟨z0, z1⟩ := hc t (by rw [HPL.out]; exact hlt)
  rw [prA_get (by rw [HPL.out]; exact hlt)] at z0 z1
  have hq := HRI.out t (by rw [HPL.out]; exact hlt)
  have hs1 := tx_len24 hq.1
  have hs2 := tx_len64 hq.2.1
  have HNX : Hid (prT P (t + 1) = prT P t ++ (txF (prA P t).1 ++ txF (prA P t).2)) := hid rfl
  obtain ⟨nm, hnm1⟩ := eX ((prA P t).1)
  obtain ⟨vl, hvl1⟩ := eX ((prA P t).2)
  rw [hnm1] at z0 hs1 HNX
  rw [hvl1] at z1 hs2 HNX
  have HVL := hid hvl1
  clear hc hri hnm1 hvl1 hq z1
  obtain ⟨x0, x1, x2, x3, x4, x5, x6, x7, x8, x9, x10, x11, x12⟩ := HX.out wr HB.out.nil.1
  have HC := hid (refTextF_any p n c (z7 ++ prT P t) nm wr HB.out.own HB.out.len (by omega) (by omega))
  go_wp2_with fail
  refine HC.out.mono ?_
  rintro e wn ⟨q, nn, d, rfl, hb⟩
  have HBN := hid (HB.out.trans hb)
  have hn2 : nn ≤ 283 + 92 * t + 26 := by rw [← hb.len, List.length_append, HB.out.len, txF_len]; omega
  have hri2 := (HR.out wn HBN.out.nil.1).pr
  simp only at hri2
  obtain ⟨g2, o2, he2, hc2⟩ := hri2.at (i := t) (by rw [HPL.out]; exact hlt)
  simp only [Option.some.injEq, Addr.mk.injEq, and_true] at he2
  obtain ⟨rfl, rfl⟩ := he2
  have z1 := (hc2 t (by rw [HPL.out]; exact hlt)).2
  rw [prA_get (by rw [HPL.out]; exact hlt), HVL.out] at z1
  clear hc2 hri2
  clear hb HC x0 x1 x2 x3 x4 x5 x6 x7 x8 x9 x10 x11 x12 z0
  obtain ⟨x0, x1, x2, x3, x4, x5, x6, x7, x8, x9, x10, x11, x12⟩ := HX.out wn HBN.out.nil.1
  have HC := hid (refTextF_any q nn d (z7 ++ prT P t ++ txF nm) vl wn HBN.out.own HBN.out.len (by omega) (by omega))
  go_wp2_with fail
  refine HC.out.mono ?_
  rintro e wo ⟨q2, n2, d2, rfl, hb⟩
  have HBO := hid (HBN.out.trans hb)
  have hn3 : n2 ≤ 283 + 92 * (t + 1) := by rw [← hb.len, List.length_append, HBN.out.len, txF_len]; omega
  have HN3 := hid hn3
  clear hb HC x0 x1 x2 x3 x4 x5 x6 x7 x8 x9 x10 x11 x12 z1 hn3
  go_wp2_with fail
  go_roundw
  case rel => exact ⟨t + 1, q2, n2, d2, by omega, by go_num, rfl, HN3.out, hid (by rw [HNX.out, ← List.append_assoc, ← List.append_assoc]; exact HBO.out)⟩
  case measure => simp [intOf] <;> omega
theorem refBody_any (r : Rc) (P : List Pr) (K D : List Int) (w : World) (hr : RcOk w r P K D) (hm : RcMay r P K D) :
  Calls Tryz.prog 35 #[.agg r.arr] w fun e w' => ∃ p n c, e = .returned (.slice p n c) ∧ BufF w none w' p n c (bodyR r P K D) := by
 have h7 := rcMay_kind hm
 have h7 : r.kind = 1 ∨ r.kind = 2 ∨ r.kind = 3 ∨ r.kind = 4 ∨ r.kind = 5 ∨ r.kind = 6 ∨ r.kind = 7 := by omega
 rcases h7 with h | h | h | h | h | h | h
 ·rw [bodyR_1 P K D h]; exact refBody_1 r P K D w hr h ((rcMay_1 P K D h).1 hm).1
 ·rw [bodyR_2 P K D h]; exact refBody_2 r P K D w hr h ((rcMay_2 P K D h).1 hm).1
 ·rw [bodyR_3 P K D h]; exact refBody_3 r P K D w hr h ((rcMay_3 P K D h).1 hm).1
 ·rw [bodyR_4 P K D h]; exact refBody_4 r P K D w hr h ((rcMay_4 P K D h).1 hm).1
 ·rw [bodyR_5 P K D h]; exact refBody_5 r P K D w hr h ((rcMay_5 P K D h).1 hm).1
 ·rw [bodyR_6 P K D h]; exact refBody_6 r P K D w hr h ((rcMay_6 P K D h).1 hm).1
 ·rw [bodyR_7 P K D h]; exact refBody_7 r P K D w hr h ((rcMay_7 P K D h).1 hm).1
end
section
open Go.RowKit Go.Lib
def selV (s : S4) : List Int := [s.a, s.b, s.c, s.d]
theorem selV_bd {s : S4} (h : s.Bd) (t : Nat) : 0 ≤ (selV s).getD t 0 ∧ (selV s).getD t 0 < 18446744073709551616 := by
 unfold selV
 match t with
 | 0 => exact h.a
 | 1 => exact h.b
 | 2 => exact h.c
 | 3 => exact h.d
 | t + 4 => exact ⟨by simp, by simp⟩
theorem selV_all (s : S4) : sumT (selV s) 4 = selL s := sumT_all s.a s.b s.c s.d
theorem refSealBytes_any (s : S4) (hs : s.Bd) (w : World) :
  Calls Tryz.prog 38 #[.agg s.arr] w fun e w' => ∃ p c, e = .returned (.slice p 32 c) ∧ BufF w none w' p 32 c (selL s) := by
 obtain ⟨PO, hPO⟩ : ∃ PO : Ending → World → Prop, (fun e w' => ∃ p c, e = .returned (.slice p 32 c) ∧ BufF w none w' p 32 c (selL s)) = PO := ⟨_, rfl⟩
 rw [hPO]
 have HP : Hid (∀ p c w', BufF w none w' p 32 c (selL s) → PO (.returned (.slice p 32 c)) w') := hid (fun p c w' h => by rw [← hPO]; exact ⟨p, c, rfl, h⟩)
 have hrow := heap_alloc_new w (.cells s.arr 29)
 have hfa : Frm [] w (w.alloc (.cells s.arr 29)) := (Frm.refl _ _).alloc _
 obtain ⟨wa, hwa⟩ := eX (w.alloc (.cells s.arr 29))
 obtain ⟨ba, hba⟩ := eX (w.heap.size)
 rw [hwa, hba] at hrow
 rw [hwa] at hfa
 have hrw2 := heap_alloc_new wa (.cells s.arr 27)
 have hfb : Frm [] wa (wa.alloc (.cells s.arr 27)) := (Frm.refl _ _).alloc _
 obtain ⟨wb, hwb⟩ := eX (wa.alloc (.cells s.arr 27))
 obtain ⟨bb, hbb⟩ := eX (wa.heap.size)
 rw [hwb, hbb] at hrw2
 rw [hwb] at hfb
 have HEL : Hid (∀ V, Frm [] wb V → ∀ t, t < 4 → V.cell? ⟨bb, t, none⟩ = some (.int .u64 ((selV s).getD t 0))) := hid (fun V hf t ht => by
  rw [cell_of_row _ _ _ _ _ _ (hf.heap hrw2 (by simp))]
  have h4 : t = 0 ∨ t = 1 ∨ t = 2 ∨ t = 3 := by omega
  rcases h4 with rfl | rfl | rfl | rfl <;> rfl)
 have HBD : Hid (∀ t, 0 ≤ (selV s).getD t 0 ∧ (selV s).getD t 0 < 18446744073709551616) := hid (selV_bd hs)
 have HFB : Hid (Frm [] w wb) := hid (hfa.trans hfb (by simp))
 have HAL : Hid (sumT (selV s) 4 = selL s) := hid (selV_all s)
 have HSU : Hid (∀ t, sumT (selV s) (t + 1) = sumT (selV s) t ++ le ((selV s).getD t 0) 8) := hid (fun t => rfl)
 have HB0 : Hid (BufF w none wb none 0 0 []) := hid ⟨Own.nil _ _, rfl, HFB.out.mono (by simp), by simp [blk]⟩
 have HWA := hid hwa
 have HWB := hid hwb
 have HBA := hid hba
 have HBB := hid hbb
 have x0 := cR 0 (.int .u64 s.a) hrow
 have x1 := cR 1 (.int .u64 s.b) hrow
 have x2 := cR 2 (.int .u64 s.c) hrow
 have x3 := cR 3 (.int .u64 s.d) hrow
 obtain ⟨vs, hvs⟩ := eX (selV s)
 rw [hvs] at HEL HBD HAL HSU
 clear hPO hrow hfa hwa hba hrw2 hfb hwb hbb hs hvs
 obtain ⟨s0, s1, s2, s3⟩ := s
 unfold S4.arr at HWA HWB ⊢
 simp only at HWA HWB x0 x1 x2 x3 ⊢
 go_enter Tryz.func38, Tryz.ntmps38
 go_upto_region 2 with fail
 try rw [HWA.out]
 try rw [HBA.out]
 go_upto_region 3 with fail
 try rw [HWB.out]
 try rw [HBB.out]
 clear x0 x1 x2 x3 HWA HWB HBA HBB
 go_wp2_with fail
 go_loopw [3, 5] (fun b i wr => ∃ (t : Nat) (p : Option Addr) (n c : Nat), t ≤ 4 ∧ i = .int .i64 (t : Int) ∧ b = .slice p n c ∧ n ≤ 8 * t ∧ Hid (BufF wb none wr p n c (sumT vs t))) (fun _ i _ => 4 - (intOf i).toNat)
 case atStart => exact ⟨0, none, 0, 0, Nat.zero_le _, rfl, rfl, Nat.le_refl _, hid (BufF.self (Own.nil _ _) rfl)⟩
 case round =>
  obtain ⟨t, p, n, c, ht, rfl, rfl, hn, hb⟩ := hrel
  have HB := hid hb.out
  clear hb
  by_cases hlt : t < 4
  case neg =>
   obtain rfl : t = 4 := by omega
   have hn32 : n = 32 := by rw [← HB.out.len, HAL.out, selL_len]
   subst hn32
   go_wp2_with fail
   try go_returns
   refine HP.out _ _ _ ?_
   have hB := HB0.out.trans HB.out
   rw [HAL.out] at hB
   exact hB
  have t1 : (t : Int) < 4 := by omega
  have z0 := HEL.out wr HB.out.nil.1 t hlt
  have hv := HBD.out t
  have HSX := hid (HSU.out t)
  obtain ⟨v, hvv⟩ := eX (vs.getD t 0)
  rw [hvv] at z0 hv HSX
  have HV := hid hv
  clear hvv hv
  go_upto_region 8 with fail
  clear z0
  obtain ⟨zs, hzs⟩ := eX (sumT vs t)
  rw [hzs] at HB HSX
  have HB1 := hid HB.out
  clear hzs HB
  go_loopw [3, 6, 7] (fun b nv i wx => ∃ (j : Nat) (q : Option Addr) (d : Nat), j ≤ 8 ∧ i = .int .i64 (j : Int) ∧ nv = .int .u64 (v / 2 ^ (8 * j)) ∧ b = .slice q (n + j) d ∧ Hid (BufF wb none wx q (n + j) d (zs ++ le v j))) (fun _ _ i _ => 8 - (intOf i).toNat)
  case atStart => exact ⟨0, p, c, Nat.zero_le _, rfl, by simp, rfl, hid (by rw [show zs ++ le v 0 = zs by simp [le]]; exact HB1.out)⟩
  case round =>
   obtain ⟨j, q, d, hj, rfl, rfl, rfl, hb⟩ := hrel
   have hv := HV.out
   have hq : 0 ≤ v / 2 ^ (8 * j) ∧ v / 2 ^ (8 * j) < 18446744073709551616 := by
    refine ⟨Int.ediv_nonneg hv.1 (Int.pow_nonneg (by decide)), ?_⟩
    exact Int.lt_of_le_of_lt (Int.ediv_le_self _ hv.1) hv.2
   have hsucc : v / 2 ^ (8 * (j + 1)) = v / 2 ^ (8 * j) / 256 := by
    rw [Int.ediv_ediv_of_nonneg (Int.pow_nonneg (by decide)), Nat.mul_add, Int.pow_add]; rfl
   have HS := hid hsucc
   have HLE := hid (le_succ v j)
   have HBJ := hid hb.out
   clear hsucc hv hb
   obtain ⟨x, hxx⟩ := eX (v / 2 ^ (8 * j))
   rw [hxx] at hq HS HLE ⊢
   clear hxx
   obtain ⟨hq0, hq1⟩ := hq
   by_cases hlt8 : j < 8
   ·have hrd : Rd (wr.alloc (.cells #[.int .u8 (x % 256)] 5)) (some ⟨wr.heap.size, 0, none⟩) [x % 256] :=
     (own_of_block (E := 5) (zs := [x % 256]) (heap_alloc_new wr _) (by simp [maxLen])).rd
    have HRD := hid hrd
    have HFA := hid ((Frm.refl [] wr).alloc (.cells #[.int .u8 (x % 256)] 5))
    have HO := hid (HBJ.out.own.kept HFA.out (by simp))
    have htm : Int.tmod x 256 = x % 256 := Int.tmod_eq_emod_of_nonneg hq0
    have htd : Int.tdiv x 256 = x / 256 := Int.tdiv_eq_ediv_of_nonneg hq0
    clear hrd
    go_wp2_with (at_builtin; refine wpList_appB rfl _ _ 24 rfl 5 Tryz.underlying24 infoE q _ d (zs ++ le v j) rfl HBJ.out.len.symm (by rw [HBJ.out.len]; exact HO.out) (some ⟨wr.heap.size, 0, none⟩) 1 1 [x % 256] rfl rfl (by simp) HRD.out (by rw [HBJ.out.len]; simp; omega) ?_)
    intro xs p2 c2 w2 hxs ho2 hf2 hfr2
    have hxe : xs = zs ++ le v (j + 1) := by rw [hxs.out, HLE.out]
    have hxl : xs.length = n + (j + 1) := by
     have h1 := HBJ.out.len
     rw [List.length_append, le_length] at h1
     rw [hxe, List.length_append, le_length]; omega
    rw [hxl]
    have HXL := hid hxl
    have HXE := hid hxe
    clear hxl hxe
    go_wp2_with fail
    go_roundw
    case rel =>
     refine ⟨j + 1, p2, c2, by omega, by go_num, by rw [HS.out], rfl, hid ?_⟩
     have h := ho2.out
     rw [HXL.out, HXE.out] at h
     exact HBJ.out.trans (BufF.pre HFA.out ⟨h, by rw [← HXE.out, HXL.out], hf2.out, fun i hi => (hfr2.out i hi).imp id (fun h => by simpa using h)⟩)
    case measure => simp [intOf] <;> omega
   ·obtain rfl : j = 8 := by omega
    go_wp2_with fail
    go_roundw
    case rel => exact ⟨t + 1, q, n + 8, d, by omega, by go_num, rfl, by omega, hid (by rw [HSX.out]; exact HBJ.out)⟩
    case measure => simp [intOf] <;> omega
end
section
open Go.RowKit
theorem lowW_val {a b c d : Int} (ha : 0 ≤ a ∧ a < 256) (hb : 0 ≤ b ∧ b < 256) (hc : 0 ≤ c ∧ c < 256) (hd : 0 ≤ d ∧ d < 256) : lowW a b c d = a + 256 * b + 65536 * c + 16777216 * d := by
 obtain ⟨a, rfl⟩ : ∃ n : Nat, a = n := ⟨a.toNat, by omega⟩
 obtain ⟨b, rfl⟩ : ∃ n : Nat, b = n := ⟨b.toNat, by omega⟩
 obtain ⟨c, rfl⟩ : ∃ n : Nat, c = n := ⟨c.toNat, by omega⟩
 obtain ⟨d, rfl⟩ : ∃ n : Nat, d = n := ⟨d.toNat, by omega⟩
 unfold lowW
 have e1 : (b : Int) * 256 = ((2 ^ 8 * b : Nat) : Int) := by omega
 have e2 : (c : Int) * 65536 = ((2 ^ 16 * c : Nat) : Int) := by omega
 have e3 : (d : Int) * 16777216 = ((2 ^ 24 * d : Nat) : Int) := by omega
 have f1 : a ||| 2 ^ 8 * b = 2 ^ 8 * b + a := by rw [Nat.or_comm, ← Nat.two_pow_add_eq_or_of_lt (by omega)]
 have f2 : (2 ^ 8 * b + a) ||| 2 ^ 16 * c = 2 ^ 16 * c + (2 ^ 8 * b + a) := by rw [Nat.or_comm, ← Nat.two_pow_add_eq_or_of_lt (by omega)]
 have f3 : (2 ^ 16 * c + (2 ^ 8 * b + a)) ||| 2 ^ 24 * d = 2 ^ 24 * d + (2 ^ 16 * c + (2 ^ 8 * b + a)) := by rw [Nat.or_comm, ← Nat.two_pow_add_eq_or_of_lt (by omega)]
 rw [e1, u32_or_nat _ _ (by omega) (by omega), f1, e2, u32_or_nat _ _ (by omega) (by omega), f2, e3, u32_or_nat _ _ (by omega) (by omega), f3]
 omega
def wv4 (zs : List Int) (k : Nat) : Int := lowW (zA zs (4 * k)) (zA zs (4 * k + 1)) (zA zs (4 * k + 2)) (zA zs (4 * k + 3))
def sA (zs : List Int) : Nat → Int
 | 0 => 0
 | m + 1 => sA zs m + wv4 zs m
end
section
open Go.RowKit
def wdD (zs : List Int) (i : Nat) : Nat → Int
 | 0 => 0
 | t + 1 => 256 * wdD zs i t + zA zs (i + (3 - t))
theorem wdD_bd {zs : List Int} (hb : ∀ i, 0 ≤ zA zs i ∧ zA zs i < 256) (i t : Nat) : 0 ≤ wdD zs i t ∧ wdD zs i t < 256 ^ t := by
 induction t with
 | zero => simp [wdD]
 | succ t ih =>
  have h := hb (i + (3 - t))
  rw [wdD, Int.pow_succ]
  omega
theorem wdD_four {zs : List Int} (hb : ∀ i, 0 ≤ zA zs i ∧ zA zs i < 256) (i : Nat) : wdD zs i 4 = lowW (zA zs i) (zA zs (i + 1)) (zA zs (i + 2)) (zA zs (i + 3)) := by
 rw [lowW_val (hb _) (hb _) (hb _) (hb _)]
 simp only [wdD, Nat.sub_zero, Nat.sub_self, Nat.add_zero, show 3 - 1 = 2 from rfl, show 3 - 2 = 1 from rfl]
 omega
theorem zA_out {zs : List Int} {i : Nat} (h : zs.length ≤ i) : zA zs i = 0 := by
 unfold zA
 rw [List.getD_eq_getElem?_getD, List.getElem?_eq_none h]
 rfl
theorem fl_up (zs : List Int) : flW Z4 zs ((zs.length + 3) / 4) = fletch zs := by
 unfold fletch
 by_cases h : zs.length % 4 = 0
 ·rw [if_pos h, show (zs.length + 3) / 4 = zs.length / 4 by omega]
 ·rw [if_neg h, show (zs.length + 3) / 4 = zs.length / 4 + 1 by omega, flW, zA_out (i := 4 * (zs.length / 4) + 3) (by omega)]
structure StF (w0 w : World) (s : S4) : Prop where
 h0 : w.heap[w0.heap.size]? = some (.cells #[.int .u64 0, .int .u64 0, .int .u64 0, .int .u64 0] 29 (0, 0))
 h1 : w.heap[w0.heap.size + 1]? = some (.cells s.arr 29 (0, 0))
 fr : Frm [] w0 w
theorem refFl_any (p : Option Addr) (n c : Nat) (zs : List Int) (w : World) (hn : zs.length = n) (hnb : n ≤ 9223372036854775790) (hrd : Rd w p zs) (hb : ∀ z ∈ zs, 0 ≤ z ∧ z < 256) :
  Calls Tryz.prog 84 #[.slice p n c] w fun e w' => e = .returned (.agg (fletch zs).arr) ∧ Frm [] w w' := by
 have HRD := hid hrd
 have HN := hid hn
 have HZ := hid (zA_bd hb)
 have HU := hid (fl_up zs)
 rw [hn] at HU
 have hfa : Frm [] w (w.alloc (.cells #[.int .u64 0, .int .u64 0, .int .u64 0, .int .u64 0] 29)) := (Frm.refl _ _).alloc _
 have hfb : Frm [] (w.alloc (.cells #[.int .u64 0, .int .u64 0, .int .u64 0, .int .u64 0] 29)) ((w.alloc (.cells #[.int .u64 0, .int .u64 0, .int .u64 0, .int .u64 0] 29)).alloc (.cells #[.int .u64 0, .int .u64 0, .int .u64 0, .int .u64 0] 29)) := (Frm.refl _ _).alloc _
 have HS0 : Hid (StF w ((w.alloc (.cells #[.int .u64 0, .int .u64 0, .int .u64 0, .int .u64 0] 29)).alloc (.cells #[.int .u64 0, .int .u64 0, .int .u64 0, .int .u64 0] 29)) (flW Z4 zs 0)) := hid ⟨hfb.heap (heap_alloc_new _ _) (by simp), heap_alloc_to _ _ (by simp), hfa.trans hfb (by simp)⟩
 clear hrd hb hn hfa hfb
 go_enter Tryz.func84, Tryz.ntmps84
 go_wp2_with fail
 go_loopw [4] (fun i wr => ∃ k : Nat, Hid (4 * k ≤ n + 3) ∧ i = .int .i64 (4 * (k : Int)) ∧ Hid (StF w wr (flW Z4 zs k))) (fun i _ => n + 3 - (intOf i).toNat)
 case atStart => exact ⟨0, hid (by omega), rfl, HS0⟩
 case round =>
  clear HS0
  obtain ⟨k, hk, rfl, hst⟩ := hrel
  have hk' := hk.out
  by_cases hlt : 4 * (k : Int) < (n : Int)
  ·go_wp2_with fail
   go_loopw [5, 6] (fun x y wi => ∃ t : Nat, t ≤ 4 ∧ Hid (x = .int .u64 (wdD zs (4 * k) t)) ∧ y = .int .i64 (3 - (t : Int)) ∧ Hid (StF w wi (flW Z4 zs k))) (fun x y _ => (intOf y + 1).toNat)
   case atStart => exact ⟨0, by omega, hid rfl, rfl, hst⟩
   case round =>
    clear hst
    obtain ⟨t, ht, hx, rfl, hst⟩ := hrel
    obtain rfl := hx.out
    by_cases ht4 : t < 4
    ·obtain ⟨W, hW⟩ := eX (wdD zs (4 * k) t)
     have hWb := wdD_bd HZ.out (4 * k) t
     have hp : (256 : Int) ^ t ≤ 16777216 := by
      have h3 : t = 0 ∨ t = 1 ∨ t = 2 ∨ t = 3 := by omega
      rcases h3 with rfl | rfl | rfl | rfl <;> decide
     have hnx : wdD zs (4 * k) (t + 1) = 256 * W + zA zs (4 * k + (3 - t)) := by rw [wdD, hW]
     rw [hW] at hWb ⊢
     have hWlt : W < 16777216 := Int.lt_of_lt_of_le hWb.2 hp
     have hWge := hWb.1
     clear hWb
     obtain ⟨J, hJ⟩ := eX (4 * k + (3 - t))
     have hJi : IntKind.i64.wrap (4 * (k : Int) + (3 - (t : Int))) = (J : Int) := by rw [IntWalk.i64_in _ (by omega)]; omega
     have hz := HZ.out J
     rw [hJ] at hnx
     have q0 : IntKind.u64.wrap (256 * W) = 256 * W := IntWalk.u64_in _ (by omega)
     have q1 : IntKind.i64.wrap (3 - (t : Int) - 1) = 3 - ((t + 1 : Nat) : Int) := by rw [IntWalk.i64_in _ (by omega)]; omega
     have HNX := hid hnx
     have g3 : (0 : Int) ≤ 3 - (t : Int) := by omega
     clear hnx hx hW hp
     by_cases hJn : (J : Int) < (n : Int)
     ·obtain ⟨g, o, rfl, hc⟩ := rd_byte (i := J) (HRD.out.kept hst.out.fr (by simp)) (by rw [HN.out]; omega)
      have hc' : wr.cell? ⟨g, o + J, none⟩ = some (.int .u8 (zA zs J)) := hc
      obtain ⟨z, hzz⟩ := eX (zA zs J)
      rw [hzz] at hz hc'
      have q2 : IntKind.u64.wrap z = z := IntWalk.u64_in _ (by omega)
      have q3 : IntKind.u64.wrap (256 * W + z) = 256 * W + z := IntWalk.u64_in _ (by omega)
      have HZZ := hid hzz
      clear hc hzz hJ
      go_wp2_with fail
      go_roundw
      case rel => exact ⟨t + 1, by omega, hid (by rw [HNX.out, HZZ.out]), rfl, hst⟩
      case measure => simp [intOf]; omega
     ·have hz0 : zA zs J = 0 := zA_out (by rw [HN.out]; omega)
      have HZZ := hid hz0
      clear hz0 hJ
      go_wp2_with fail
      go_roundw
      case rel => exact ⟨t + 1, by omega, hid (by rw [HNX.out, HZZ.out, Int.add_zero]), rfl, hst⟩
      case measure => simp [intOf]; omega
    ·obtain rfl : t = 4 := by omega
     rw [wdD_four HZ.out]
     have hlb := lowW_bd (zA zs (4 * k)) (zA zs (4 * k + 1)) (zA zs (4 * k + 2)) (zA zs (4 * k + 3))
     have hnx : wordS (flW Z4 zs k) (lowW (zA zs (4 * k)) (zA zs (4 * k + 1)) (zA zs (4 * k + 2)) (zA zs (4 * k + 3))) = flW Z4 zs (k + 1) := rfl
     obtain ⟨L, hL⟩ := eX (lowW (zA zs (4 * k)) (zA zs (4 * k + 1)) (zA zs (4 * k + 2)) (zA zs (4 * k + 3)))
     obtain ⟨cur, hcur⟩ := eX (flW Z4 zs k)
     rw [hL] at hlb hnx ⊢
     rw [hcur] at hnx hst
     have HNX := hid hnx
     have l1 := lt_of_heap hst.out.h1
     have e0 : wr.cell? ⟨w.heap.size + 1, 0, none⟩ = some (.int .u64 cur.a) := by rw [cell_of_row wr _ _ _ _ _ hst.out.h1]; rfl
     have e1 : wr.cell? ⟨w.heap.size + 1, 1, none⟩ = some (.int .u64 cur.b) := by rw [cell_of_row wr _ _ _ _ _ hst.out.h1]; rfl
     have e2 : wr.cell? ⟨w.heap.size + 1, 2, none⟩ = some (.int .u64 cur.c) := by rw [cell_of_row wr _ _ _ _ _ hst.out.h1]; rfl
     have e3 : wr.cell? ⟨w.heap.size + 1, 3, none⟩ = some (.int .u64 cur.d) := by rw [cell_of_row wr _ _ _ _ _ hst.out.h1]; rfl
     have z0 : wr.frozen? ⟨w.heap.size + 1, 0, none⟩ = false := fZ 0 hst.out.h1
     have z1 : wr.frozen? ⟨w.heap.size + 1, 1, none⟩ = false := fZ 1 hst.out.h1
     have z2 : wr.frozen? ⟨w.heap.size + 1, 2, none⟩ = false := fZ 2 hst.out.h1
     have z3 : wr.frozen? ⟨w.heap.size + 1, 3, none⟩ = false := fZ 3 hst.out.h1
     have HS4 := hid (set4 (y0 := .int .u64 (wordS cur L).a) (y1 := .int .u64 (wordS cur L).b) (y2 := .int .u64 (wordS cur L).c) (y3 := .int .u64 (wordS cur L).d) hst.out.h1)
     have q1 : IntKind.i64.wrap (4 * (k : Int) + 4) = 4 * ((k + 1 : Nat) : Int) := by rw [IntWalk.i64_in _ (by omega)]; omega
     rw [show (3 - ((4 : Nat) : Int)) = -1 from rfl]
     have HST0 := hid (And.intro hst.out.h0 hst.out.fr)
     clear hnx hL hcur hx hst ht ht4
     go_wp2_with fail
     go_roundw
     case rel =>
      obtain ⟨h4, f4⟩ := HS4.out
      refine ⟨k + 1, hid (by omega), rfl, hid ⟨f4.heap HST0.out.1 (by simp), ?_, HST0.out.2.trans f4 (fun i hi hl => by simp at hi; omega)⟩⟩
      rw [← HNX.out]
      exact h4
     case measure => simp [intOf]; omega
  ·have hkq : k = (n + 3) / 4 := by omega
   have hst' := hst.out
   rw [hkq, HU.out] at hst'
   obtain ⟨S, hS⟩ := eX (fletch zs)
   rw [hS] at hst'
   have HS := hid hS
   have e0 : wr.cell? ⟨w.heap.size + 1, 0, none⟩ = some (.int .u64 S.a) := by rw [cell_of_row wr _ _ _ _ _ hst'.h1]; rfl
   have e1 : wr.cell? ⟨w.heap.size + 1, 1, none⟩ = some (.int .u64 S.b) := by rw [cell_of_row wr _ _ _ _ _ hst'.h1]; rfl
   have e2 : wr.cell? ⟨w.heap.size + 1, 2, none⟩ = some (.int .u64 S.c) := by rw [cell_of_row wr _ _ _ _ _ hst'.h1]; rfl
   have e3 : wr.cell? ⟨w.heap.size + 1, 3, none⟩ = some (.int .u64 S.d) := by rw [cell_of_row wr _ _ _ _ _ hst'.h1]; rfl
   have r0 : wr.cell? ⟨w.heap.size, 0, none⟩ = some (.int .u64 0) := by rw [cell_of_row wr _ _ _ _ _ hst'.h0]; rfl
   have r1 : wr.cell? ⟨w.heap.size, 1, none⟩ = some (.int .u64 0) := by rw [cell_of_row wr _ _ _ _ _ hst'.h0]; rfl
   have r2 : wr.cell? ⟨w.heap.size, 2, none⟩ = some (.int .u64 0) := by rw [cell_of_row wr _ _ _ _ _ hst'.h0]; rfl
   have r3 : wr.cell? ⟨w.heap.size, 3, none⟩ = some (.int .u64 0) := by rw [cell_of_row wr _ _ _ _ _ hst'.h0]; rfl
   have z0 : wr.frozen? ⟨w.heap.size, 0, none⟩ = false := fZ 0 hst'.h0
   have z1 : wr.frozen? ⟨w.heap.size, 1, none⟩ = false := fZ 1 hst'.h0
   have z2 : wr.frozen? ⟨w.heap.size, 2, none⟩ = false := fZ 2 hst'.h0
   have z3 : wr.frozen? ⟨w.heap.size, 3, none⟩ = false := fZ 3 hst'.h0
   have HS4 := hid (set4 (y0 := .int .u64 S.a) (y1 := .int .u64 S.b) (y2 := .int .u64 S.c) (y3 := .int .u64 S.d) hst'.h0)
   have HFR := hid hst'.fr
   clear hkq hst hst' hS hk'
   go_wp2_with fail
   obtain ⟨h4, f4⟩ := HS4.out
   obtain ⟨wz, hwz⟩ := eX ((((wr.setCell ⟨w.heap.size, 0, none⟩ (.int .u64 S.a)).setCell ⟨w.heap.size, 1, none⟩ (.int .u64 S.b)).setCell ⟨w.heap.size, 2, none⟩ (.int .u64 S.c)).setCell ⟨w.heap.size, 3, none⟩ (.int .u64 S.d))
   rw [hwz] at h4 f4 ⊢
   have hfz : Frm [] w wz := HFR.out.trans f4 (fun i hi hl => by simp at hi; omega)
   have g0 : wz.cell? ⟨w.heap.size, 0, none⟩ = some (.int .u64 S.a) := by rw [cell_of_row wz _ _ _ _ _ h4]; rfl
   have g1 : wz.cell? ⟨w.heap.size, 1, none⟩ = some (.int .u64 S.b) := by rw [cell_of_row wz _ _ _ _ _ h4]; rfl
   have g2 : wz.cell? ⟨w.heap.size, 2, none⟩ = some (.int .u64 S.c) := by rw [cell_of_row wz _ _ _ _ _ h4]; rfl
   have g3 : wz.cell? ⟨w.heap.size, 3, none⟩ = some (.int .u64 S.d) := by rw [cell_of_row wz _ _ _ _ _ h4]; rfl
   refine bodyPost_ret (v := .agg #[.int .u64 S.a, .int .u64 S.b, .int .u64 S.c, .int .u64 S.d]) (by simp [results, Tryz.results84, go_sem, g0, g1, g2, g3]) rfl ⟨?_, hfz⟩
   rw [HS.out]
   rfl
end
section
open Go.RowKit
def lowD (a b c d : Int) : Int := bits .or .u32 (bits .or .u32 (bits .or .u32 (a * 16777216) (b * 65536)) (c * 256)) d
theorem or_nat {a b : Int} (ha : 0 ≤ a ∧ a < 4294967296) (hb : 0 ≤ b ∧ b < 4294967296) : ∃ x y : Nat, a = (x : Int) ∧ b = (y : Int) ∧ x < 4294967296 ∧ y < 4294967296 ∧ bits .or .u32 a b = ((x ||| y : Nat) : Int) ∧ x ||| y < 4294967296 :=
 ⟨a.toNat, b.toNat, by omega, by omega, by omega, by omega, u32_or a b ha.1 ha.2 hb.1 hb.2, Nat.or_lt_two_pow (n := 32) (by omega) (by omega)⟩
theorem lowD_eq (a b c d : Int) (ha : 0 ≤ a ∧ a < 256) (hb : 0 ≤ b ∧ b < 256) (hc : 0 ≤ c ∧ c < 256) (hd : 0 ≤ d ∧ d < 256) : lowD a b c d = lowW d c b a := by
 unfold lowD lowW
 obtain ⟨x, y, e1, e2, l1, l2, h1, g1⟩ := or_nat (a := a * 16777216) (b := b * 65536) (by omega) (by omega)
 obtain ⟨x2, y2, f1, f2, _, _, h2, g2⟩ := or_nat (a := ((x ||| y : Nat) : Int)) (b := c * 256) (by omega) (by omega)
 obtain ⟨x3, y3, k1, k2, _, _, h3, g3⟩ := or_nat (a := ((x2 ||| y2 : Nat) : Int)) (b := d) (by omega) (by omega)
 rw [h1, h2, h3]
 rw [e1, e2, f2, k2]
 rw [u32_or_nat y3 y2 (by omega) (by omega), u32_or_nat (y3 ||| y2) y (Nat.or_lt_two_pow (n := 32) (by omega) (by omega)) (by omega), u32_or_nat (y3 ||| y2 ||| y) x (Nat.or_lt_two_pow (n := 32) (Nat.or_lt_two_pow (n := 32) (by omega) (by omega)) (by omega)) (by omega)]
 have hx2 : x2 = x ||| y := by omega
 have hx3 : x3 = x2 ||| y2 := by omega
 subst hx3
 subst hx2
 congr 1
 simp only [Nat.or_assoc]
 rw [Nat.or_comm, Nat.or_comm y, Nat.or_assoc, Nat.or_comm y2, Nat.or_assoc]
structure StW (w0 w : World) (y : Nat) (cur : List Int) : Prop where
 h2 : w.heap[y]? = some (.cells (wv cur).toArray 123 (0, 0))
 len : cur.length = 64
 hy : w0.heap.size ≤ y
 fr : Frm [] w0 w
theorem StW.drew {w0 w : World} {y : Nat} {cur : List Int} (h : StW w0 w y cur) : StW w0 w.drew y cur := ⟨h.h2, h.len, h.hy, h.fr.drew⟩
theorem StW.set {w0 w : World} {y : Nat} {cur : List Int} (h : StW w0 w y cur) (t : Nat) (z : Int) : StW w0 (w.setCell ⟨y, t, none⟩ (.int .u32 z)) y (cur.set t z) := by
 have f : Frm [y] w (w.setCell ⟨y, t, none⟩ (.int .u32 z)) := (Frm.refl _ _).setCell _ _ (by simp)
 have e := h.hy
 refine ⟨?_, by simp [h.len], e, h.fr.trans f (fun i hi hl => by simp at hi; omega)⟩
 rw [heap_setCell_same w y t _ _ _ h.h2]
 congr 2
 apply Array.ext'
 simp [wv, List.map_set]
theorem StW.at {w0 w : World} {y : Nat} {cur : List Int} (h : StW w0 w y cur) (t : Nat) (ht : t < 64) : w.cell? ⟨y, t, none⟩ = some (.int .u32 (zA cur t)) := by
 rw [cell_of_row w _ _ _ _ _ h.h2]
 have := h.len
 simp [wv, zA, List.getD_eq_getElem?_getD, show t < cur.length by omega]
theorem StW.free {w0 w : World} {y : Nat} {cur : List Int} (h : StW w0 w y cur) (t : Nat) : w.frozen? ⟨y, t, none⟩ = false := fZ t h.h2
theorem make_words (w : World) : (Instr.makeSlice 126 (.int .i64 64) (.int .i64 64)).run Tryz.prog w = .ok (.slice (some ⟨w.heap.size, 0, none⟩) 64 64) (w.alloc (.cells (wv (List.replicate 64 0)).toArray 123)) := by
 have hI : (Tryz.prog.info? 123).map (fun i => (i.zero, i.size, i.bytes)) = some (some (.int .u32 0), 1, 4) := by kernel_rfl
 obtain ⟨i, hi, h⟩ := Option.map_eq_some_iff.1 hI
 simp only [Prod.mk.injEq] at h
 obtain ⟨hz, h1, h2⟩ := h
 have hr := run_make (P := Tryz.prog) w 126 123 i (.int .u32 0) Tryz.underlying126 hi hz .i64 .i64 64 64 (by omega) (by omega) (by rw [h2]; omega) (by omega)
 rw [h1, show (Value.int .u32 0).cells = #[Value.int .u32 0] from rfl] at hr
 have e : madeCells #[Value.int .u32 0] 64 = (wv (List.replicate 64 0)).toArray := by kernel_rfl
 simpa [e] using hr
theorem words_any (p : Option Addr) (n c : Nat) (zs : List Int) (w : World) (hn : zs.length = n) (h64 : n = 64) (hrd : Rd w p zs) (hb : ∀ z ∈ zs, 0 ≤ z ∧ z < 256) :
  Calls Tryz.prog 110 #[.slice p n c] w fun e w' => ∃ y, e = .returned (.slice (some ⟨y, 0, none⟩) 64 64) ∧ StW w w' y (wB (wA zs 16) 48) := by
 have HRD := hid hrd
 have HZB := hid hb
 have HN := hid hn
 have hnn : 64 ≤ n ∧ n ≤ 64 := by omega
 clear hrd hb hn h64
 have hmk := make_words w
 have HS0 : Hid (StW w (w.alloc (.cells (wv (List.replicate 64 0)).toArray 123)) w.heap.size (wA zs 0)) := hid ⟨heap_alloc_new _ _, by simp [wA], Nat.le_refl _, (Frm.refl _ _).alloc _⟩
 obtain ⟨wm, hwm⟩ := eX (w.alloc (.cells (wv (List.replicate 64 0)).toArray 123))
 rw [hwm] at hmk HS0
 clear hwm
 obtain ⟨xb, hxb⟩ := eX (w.heap.size)
 rw [hxb] at hmk HS0
 clear hxb
 go_enter Tryz.func110, Tryz.ntmps110
 go_wp2_with fail
 go_loopw [4] (fun i wr => ∃ t : Nat, t ≤ 16 ∧ i = .int .i64 t ∧ Hid (StW w wr xb (wA zs t))) (fun i _ => 16 - (intOf i).toNat)
 case atStart => exact ⟨0, by omega, rfl, HS0⟩
 case round =>
  clear HS0
  obtain ⟨t, ht, rfl, hst⟩ := hrel
  by_cases hlt : t < 16
  ·have rd : ∀ i, i < n → ∃ g o, p = some ⟨g, o, none⟩ ∧ wr.cell? ⟨g, o + i, none⟩ = some (.int .u8 (zA zs i)) ∧ (0 ≤ zA zs i ∧ zA zs i < 256) := fun i hi => by
    obtain ⟨g, o, e1, e2⟩ := rd_byte (i := i) (HRD.out.kept hst.out.fr (by simp)) (by rw [HN.out]; exact hi)
    refine ⟨g, o, e1, e2, HZB.out _ ?_⟩
    unfold zA
    rw [List.getD_eq_getElem?_getD, List.getElem?_eq_getElem (by rw [HN.out]; exact hi)]
    exact List.getElem_mem _
   obtain ⟨g, o, rfl, c0, b0⟩ := rd (4 * t) (by omega)
   obtain ⟨_, _, e1, c1, b1⟩ := rd (4 * t + 1) (by omega)
   obtain ⟨_, _, e2, c2, b2⟩ := rd (4 * t + 2) (by omega)
   obtain ⟨_, _, e3, c3, b3⟩ := rd (4 * t + 3) (by omega)
   simp only [Option.some.injEq, Addr.mk.injEq, and_true] at e1 e2 e3
   obtain ⟨rfl, rfl⟩ := e1
   obtain ⟨rfl, rfl⟩ := e2
   obtain ⟨rfl, rfl⟩ := e3
   have hnx : (wA zs t).set t (lowW (zA zs (4 * t + 3)) (zA zs (4 * t + 2)) (zA zs (4 * t + 1)) (zA zs (4 * t))) = wA zs (t + 1) := rfl
   rw [← lowD_eq _ _ _ _ b0 b1 b2 b3] at hnx
   have HNX := hid hnx
   clear hnx
   generalize zA zs (4 * t) = y0 at c0 b0 HNX
   generalize zA zs (4 * t + 1) = y1 at c1 b1 HNX
   generalize zA zs (4 * t + 2) = y2 at c2 b2 HNX
   generalize zA zs (4 * t + 3) = y3 at c3 b3 HNX
   obtain ⟨b00, b01⟩ := b0
   obtain ⟨b10, b11⟩ := b1
   obtain ⟨b20, b21⟩ := b2
   obtain ⟨b30, b31⟩ := b3
   have cw := hst.out.at t (by omega)
   have fz := hst.out.free t
   have s0 : (0 : Int) ≤ (t : Int) := by omega
   have s1 : (t : Int) < 64 := by omega
   have s2 : (4 * (t : Int)).toNat = 4 * t := by omega
   have s3 : (4 * (t : Int) + 1).toNat = 4 * t + 1 := by omega
   have s4 : (4 * (t : Int) + 2).toNat = 4 * t + 2 := by omega
   have s5 : (4 * (t : Int) + 3).toNat = 4 * t + 3 := by omega
   have i0 : 4 * (t : Int) < (n : Int) := by omega
   have i1 : 4 * (t : Int) + 1 < (n : Int) := by omega
   have i2 : 4 * (t : Int) + 2 < (n : Int) := by omega
   have i3 : 4 * (t : Int) + 3 < (n : Int) := by omega
   have j0 : (0 : Int) ≤ 4 * (t : Int) := by omega
   have j1 : (0 : Int) ≤ 4 * (t : Int) + 1 := by omega
   have j2 : (0 : Int) ≤ 4 * (t : Int) + 2 := by omega
   have j3 : (0 : Int) ≤ 4 * (t : Int) + 3 := by omega
   have k0 : IntKind.i64.wrap (4 * (t : Int)) = 4 * (t : Int) := IntWalk.i64_in _ (by omega)
   have k1 : IntKind.i64.wrap (4 * (t : Int) + 1) = 4 * (t : Int) + 1 := IntWalk.i64_in _ (by omega)
   have k2 : IntKind.i64.wrap (4 * (t : Int) + 2) = 4 * (t : Int) + 2 := IntWalk.i64_in _ (by omega)
   have k3 : IntKind.i64.wrap (4 * (t : Int) + 3) = 4 * (t : Int) + 3 := IntWalk.i64_in _ (by omega)
   clear rd
   go_wp2_with fail
   go_still_tail 36, (by kernel_rfl)
   change wpList _ _ _ _ _ wr.drew
   have HS4 := hid hst.out.drew
   obtain ⟨w4, hw4⟩ := eX (wr.drew)
   have cw4 : w4.cell? ⟨xb, t, none⟩ = some (.int .u32 (zA (wA zs t) t)) := by rw [← hw4]; exact cw
   have fz4 : w4.frozen? ⟨xb, t, none⟩ = false := by rw [← hw4]; exact fz
   rw [hw4] at HS4 ⊢
   clear hw4 c0 c1 c2 c3 cw fz
   go_wp2_with fail
   go_roundw
   case rel => exact ⟨t + 1, by omega, by go_num, hid (by have h := HS4.out.set t (lowD y0 y1 y2 y3); rwa [HNX.out] at h)⟩
   case measure => simp [intOf]; omega
  ·obtain rfl : t = 16 := by omega
   clear hlt
   rw [show ((16 : Nat) : Int) = 16 from rfl]
   go_wp2_with fail
   go_loopw [5] (fun i wr => ∃ t u : Nat, Hid (t = 16 + u) ∧ 16 ≤ t ∧ t ≤ 64 ∧ i = .int .i64 t ∧ Hid (StW w wr xb (wB (wA zs 16) u))) (fun i _ => 64 - (intOf i).toNat)
   case atStart => exact ⟨16, 0, hid rfl, by omega, by omega, rfl, hst⟩
   case round =>
    clear hst
    obtain ⟨t, u, htu, ht6, ht, rfl, hst⟩ := hrel
    by_cases hlt : t < 64
    ·have hnx : (wB (wA zs 16) u).set t (wN (wB (wA zs 16) u) t) = wB (wA zs 16) (u + 1) := by rw [htu.out]; rfl
     have HNX := hid hnx
     obtain ⟨cur, hcur⟩ := eX (wB (wA zs 16) u)
     rw [hcur] at hst HNX
     have HC : Hid (∀ w', StW w w' xb cur → w'.cell? ⟨xb, t - 16, none⟩ = some (.int .u32 (zA cur (t - 16))) ∧ w'.cell? ⟨xb, t - 15, none⟩ = some (.int .u32 (zA cur (t - 15))) ∧ w'.cell? ⟨xb, t - 7, none⟩ = some (.int .u32 (zA cur (t - 7))) ∧ w'.cell? ⟨xb, t - 2, none⟩ = some (.int .u32 (zA cur (t - 2))) ∧ w'.cell? ⟨xb, t, none⟩ = some (.int .u32 (zA cur t)) ∧ w'.frozen? ⟨xb, t, none⟩ = false) := hid (fun w' h => ⟨h.at _ (by omega), h.at _ (by omega), h.at _ (by omega), h.at _ (by omega), h.at _ (by omega), h.free t⟩)
     unfold wN sg0 sg1 at HNX
     generalize zA cur (t - 16) = x16 at HC HNX
     generalize zA cur (t - 15) = x15 at HC HNX
     generalize zA cur (t - 7) = x7 at HC HNX
     generalize zA cur (t - 2) = x2 at HC HNX
     generalize zA cur t = xt at HC
     obtain ⟨c16, c15, c7, c2, cw, fz⟩ := HC.out wr hst.out
     have k16 : IntKind.i64.wrap ((t : Int) - 16) = (t : Int) - 16 := IntWalk.i64_in _ (by omega)
     have k15 : IntKind.i64.wrap ((t : Int) - 15) = (t : Int) - 15 := IntWalk.i64_in _ (by omega)
     have k7 : IntKind.i64.wrap ((t : Int) - 7) = (t : Int) - 7 := IntWalk.i64_in _ (by omega)
     have k2 : IntKind.i64.wrap ((t : Int) - 2) = (t : Int) - 2 := IntWalk.i64_in _ (by omega)
     have n16 : ((t : Int) - 16).toNat = t - 16 := by omega
     have n15 : ((t : Int) - 15).toNat = t - 15 := by omega
     have n7 : ((t : Int) - 7).toNat = t - 7 := by omega
     have n2 : ((t : Int) - 2).toNat = t - 2 := by omega
     have a16 : (0 : Int) ≤ (t : Int) - 16 := by omega
     have a15 : (0 : Int) ≤ (t : Int) - 15 := by omega
     have a7 : (0 : Int) ≤ (t : Int) - 7 := by omega
     have a2 : (0 : Int) ≤ (t : Int) - 2 := by omega
     have b16 : (t : Int) - 16 < 64 := by omega
     have b15 : (t : Int) - 15 < 64 := by omega
     have b7 : (t : Int) - 7 < 64 := by omega
     have b2 : (t : Int) - 2 < 64 := by omega
     have s0 : (0 : Int) ≤ (t : Int) := by omega
     have s1 : (t : Int) < 64 := by omega
     have q16 : (16 : Int) ≤ (t : Int) := by omega
     have q7 : (7 : Int) ≤ (t : Int) := by omega
     clear hnx hcur
     go_wp2_with fail
     go_still_tail 32, (by kernel_rfl)
     refine wpStill_step (fun K hK => ?_)
     go_simp
     refine ⟨_, turned_all _ _ rfl _, hK _ ?_⟩
     clear hK K
     repeat still_step
     refine wpStill_step (fun K hK => ?_)
     go_simp
     refine ⟨_, turned_all _ _ rfl _, hK _ ?_⟩
     clear hK K
     repeat still_step
     refine wpStill_step (fun K hK => ?_)
     go_simp
     refine ⟨_, turned_all _ _ rfl _, hK _ ?_⟩
     clear hK K
     repeat still_step
     refine wpStill_step (fun K hK => ?_)
     go_simp
     refine ⟨_, turned_all _ _ rfl _, hK _ ?_⟩
     clear hK K
     repeat still_step
     refine wpStill_nil ?_
     change wpList _ _ _ _ _ wr.drew
     have HS7 := hid (hst.out.drew)
     obtain ⟨w7, hw7⟩ := eX (wr.drew)
     rw [hw7] at HS7 ⊢
     clear c16 c15 c7 c2 cw fz hw7 hst
     obtain ⟨_, _, _, _, cw, fz⟩ := HC.out w7 HS7.out
     go_wp2_with fail
     go_roundw
     case rel => exact ⟨t + 1, u + 1, hid (by have := htu.out; omega), by omega, by omega, by go_num, hid (by rw [← HNX.out]; exact HS7.out.set t _)⟩
     case measure => simp [intOf]; omega
    ·obtain rfl : t = 64 := by omega
     clear hlt
     obtain rfl : u = 48 := by have := htu.out; omega
     rw [show ((64 : Nat) : Int) = 64 from rfl]
     go_wp2_with fail
     go_returns
     exact ⟨xb, rfl, hst.out⟩
end
end Go.Proofs.YtajfjkfnmmfhmaaGreatDoor
