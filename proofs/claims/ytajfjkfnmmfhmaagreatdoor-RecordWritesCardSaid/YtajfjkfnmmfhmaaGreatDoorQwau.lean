/- Records, the document's side: a record's body. -/
import Derived.Test.YtajfjkfnmmfhmaaGreatDoorQwag
import Derived.Test.YtajfjkfnmmfhmaaGreatDoorQwat
namespace Go.Proofs.YtajfjkfnmmfhmaaGreatDoor
section
open Go.RowKit Go.Lib
set_option maxRecDepth 100000
theorem tx_len24 {s : ByteArray} (h : PartL (tx s)) : s.size ≤ 24 := by have := h.1.2; rw [tx_length] at this; exact this
theorem tx_len64 {s : ByteArray} (h : ValL (tx s)) : s.size ≤ 64 := by have := h.1.2; rw [tx_length] at this; exact this
theorem nmOk_len {s : ByteArray} (h : NmOk s.data.toList) : s.size ≤ 240 := by
  have hsz : s.data.toList.length = s.size := by have h : s.data.size = s.size := rfl; rw [Array.length_toList]; exact h
  rw [← hsz]
  rcases (nameU_root _).1 h with h | ⟨_, h, _⟩
  · rw [h]; simp
  · simp only [List.length_cons] at h; omega
set_option maxHeartbeats 12800000 in
theorem refBody_1 (r : Rc) (P : List Pr) (K D : List Int) (w : World) (hr : RcOk w r P K D) (hkd : r.kind = 1) (hm : MayPk r) :
    Calls Tryz.prog 35 #[.agg r.arr] w fun e w' => ∃ p n c, e = .returned (.slice p n c) ∧ BufF w none w' p n c (bodyPk r) := by
  obtain ⟨PO, hPO⟩ : ∃ PO : Ending → World → Prop, (fun e w' => ∃ p n c, e = .returned (.slice p n c) ∧ BufF w none w' p n c (bodyPk r)) = PO := ⟨_, rfl⟩
  rw [hPO]
  have HP : Hid (∀ p n c w', BufF w none w' p n c (bodyPk r) → PO (.returned (.slice p n c)) w') := hid (fun p n c w' h => by rw [← hPO]; exact ⟨p, n, c, rfl, h⟩)
  obtain ⟨w0, hw0⟩ : ∃ z, w.alloc (.cells r.arr 26) = z := ⟨_, rfl⟩
  have hrow := heap_alloc_new w (.cells r.arr 26)
  have hf0 : Frm [] w w0 := by rw [← hw0]; exact (Frm.refl _ _).alloc _
  obtain ⟨bx, hbx⟩ : ∃ z, w.heap.size = z := ⟨_, rfl⟩
  rw [hw0, hbx] at hrow
  have HX := hid (fun V (hf : Frm [] w0 V) => rc_cells (hf.heap hrow (by simp)))
  have HR := hid (fun V (hf : Frm [] w0 V) => hr.k0 (hf0.trans hf (by simp)))
  have HF0 := hid hf0
  have HW0 := hid hw0
  have HBX := hid hbx
  have HPL := hid hr.pl
  have HKL := hid hr.kl
  have HDL := hid hr.dn
  have HB00 : Hid (BufF w0 none w0 none 0 0 []) := hid (BufF.self (Own.nil _ _) rfl)
  have HB0 : Hid (BufF w none w0 none 0 0 []) := hid ⟨Own.nil _ _, rfl, hf0.mono (by simp), by simp [blk]⟩
  have hnm := tx_len24 hm.1
  have hmy0 := hm.2.1
  have hmy1 := hm.2.2
  clear hPO hw0 hrow hf0 hbx hr hm
  obtain ⟨kind, name, typ, frm, guid, origin, snap, pp, pn, pc, obj, at_, many, kp, kn, kc, dp, dl, dc⟩ := r
  simp only at hkd
  subst hkd
  unfold Rc.arr at HW0 ⊢
  simp only at HX HR HW0 HPL HKL HDL HP hnm hmy0 hmy1 ⊢
  go_enter Tryz.func35, Tryz.ntmps35
  go_upto_region 1 with fail
  first | rw [HW0.out] | skip
  first | rw [HBX.out] | skip
  clear HW0 HBX
  obtain ⟨x0, x1, x2, x3, x4, x5, x6, x7, x8, x9, x10, x11, x12⟩ := HX.out w0 HB00.out.nil.1
  have HC := hid (refTextF_any none 0 0 [] name w0 HB00.out.own HB00.out.len (by omega) (by omega))
  go_wp2_with fail
  refine HC.out.mono ?_
  rintro e w1 ⟨p1, n1, c1, rfl, hb⟩
  obtain ⟨z1, hz1⟩ : ∃ z, [] ++ txF name = z := ⟨_, rfl⟩
  rw [hz1] at hb
  have hn1 : n1 ≤ 26 := by rw [← hb.len, ← hz1, List.length_append, HB00.out.len, txF_len]; omega
  have HB1 : Hid (BufF w0 none w1 p1 n1 c1 z1) := hid (HB00.out.trans hb)
  have HZ1 := hid hz1
  clear hb hz1 HC x0 x1 x2 x3 x4 x5 x6 x7 x8 x9 x10 x11 x12 HB00
  obtain ⟨x0, x1, x2, x3, x4, x5, x6, x7, x8, x9, x10, x11, x12⟩ := HX.out w1 HB1.out.nil.1
  have HC := hid (refNumF_any p1 n1 c1 z1 many 2 w1 HB1.out.own HB1.out.len (by omega) (by omega) (by omega) (by omega))
  go_wp2_with fail
  refine HC.out.mono ?_
  rintro e w2 ⟨p2, c2, rfl, hb⟩
  obtain ⟨n2, hnn⟩ : ∃ z, n1 + 2 = z := ⟨_, rfl⟩
  rw [hnn] at hb
  try rw [hnn]
  try simp only [Nat.zero_add] at hnn
  try rw [hnn]
  obtain ⟨z2, hz2⟩ : ∃ z, z1 ++ le many 2 = z := ⟨_, rfl⟩
  rw [hz2] at hb
  have hn2 : n2 ≤ 28 := by rw [← hb.len, ← hz2, List.length_append, HB1.out.len, le_length]; omega
  have HB2 : Hid (BufF w0 none w2 p2 n2 c2 z2) := hid (HB1.out.trans hb)
  have HZ2 := hid hz2
  clear hb hz2 HC x0 x1 x2 x3 x4 x5 x6 x7 x8 x9 x10 x11 x12 HB1 hnn
  go_wp2_with fail
  first | go_returns | skip
  refine HP.out _ _ _ _ ?_
  have hB := HB0.out.trans HB2.out
  rw [← HZ2.out, ← HZ1.out] at hB
  unfold bodyPk
  simpa using hB
set_option maxHeartbeats 12800000 in
theorem refBody_6 (r : Rc) (P : List Pr) (K D : List Int) (w : World) (hr : RcOk w r P K D) (hkd : r.kind = 6) (hm : MayCn r) :
    Calls Tryz.prog 35 #[.agg r.arr] w fun e w' => ∃ p n c, e = .returned (.slice p n c) ∧ BufF w none w' p n c (bodyCn r) := by
  obtain ⟨PO, hPO⟩ : ∃ PO : Ending → World → Prop, (fun e w' => ∃ p n c, e = .returned (.slice p n c) ∧ BufF w none w' p n c (bodyCn r)) = PO := ⟨_, rfl⟩
  rw [hPO]
  have HP : Hid (∀ p n c w', BufF w none w' p n c (bodyCn r) → PO (.returned (.slice p n c)) w') := hid (fun p n c w' h => by rw [← hPO]; exact ⟨p, n, c, rfl, h⟩)
  obtain ⟨w0, hw0⟩ : ∃ z, w.alloc (.cells r.arr 26) = z := ⟨_, rfl⟩
  have hrow := heap_alloc_new w (.cells r.arr 26)
  have hf0 : Frm [] w w0 := by rw [← hw0]; exact (Frm.refl _ _).alloc _
  obtain ⟨bx, hbx⟩ : ∃ z, w.heap.size = z := ⟨_, rfl⟩
  rw [hw0, hbx] at hrow
  have HX := hid (fun V (hf : Frm [] w0 V) => rc_cells (hf.heap hrow (by simp)))
  have HR := hid (fun V (hf : Frm [] w0 V) => hr.k0 (hf0.trans hf (by simp)))
  have HF0 := hid hf0
  have HW0 := hid hw0
  have HBX := hid hbx
  have HPL := hid hr.pl
  have HKL := hid hr.kl
  have HDL := hid hr.dn
  have HB00 : Hid (BufF w0 none w0 none 0 0 []) := hid (BufF.self (Own.nil _ _) rfl)
  have HB0 : Hid (BufF w none w0 none 0 0 []) := hid ⟨Own.nil _ _, rfl, hf0.mono (by simp), by simp [blk]⟩
  have hmy0 := hm.1
  have hmy1 := hm.2
  clear hPO hw0 hrow hf0 hbx hr hm
  obtain ⟨kind, name, typ, frm, guid, origin, snap, pp, pn, pc, obj, at_, many, kp, kn, kc, dp, dl, dc⟩ := r
  simp only at hkd
  subst hkd
  unfold Rc.arr at HW0 ⊢
  simp only at HX HR HW0 HPL HKL HDL HP hmy0 hmy1 ⊢
  go_enter Tryz.func35, Tryz.ntmps35
  go_upto_region 1 with fail
  first | rw [HW0.out] | skip
  first | rw [HBX.out] | skip
  clear HW0 HBX
  obtain ⟨x0, x1, x2, x3, x4, x5, x6, x7, x8, x9, x10, x11, x12⟩ := HX.out w0 HB00.out.nil.1
  have HC := hid (refNumF_any none 0 0 [] many 4 w0 HB00.out.own HB00.out.len (by omega) (by omega) (by omega) (by omega))
  go_wp2_with fail
  refine HC.out.mono ?_
  rintro e w1 ⟨p1, c1, rfl, hb⟩
  obtain ⟨n1, hnn⟩ : ∃ z, 0 + 4 = z := ⟨_, rfl⟩
  rw [hnn] at hb
  try rw [hnn]
  try simp only [Nat.zero_add] at hnn
  try rw [hnn]
  obtain ⟨z1, hz1⟩ : ∃ z, [] ++ le many 4 = z := ⟨_, rfl⟩
  rw [hz1] at hb
  have hn1 : n1 ≤ 4 := by rw [← hb.len, ← hz1, List.length_append, HB00.out.len, le_length]; omega
  have HB1 : Hid (BufF w0 none w1 p1 n1 c1 z1) := hid (HB00.out.trans hb)
  have HZ1 := hid hz1
  clear hb hz1 HC x0 x1 x2 x3 x4 x5 x6 x7 x8 x9 x10 x11 x12 HB00 hnn
  go_wp2_with fail
  first | go_returns | skip
  refine HP.out _ _ _ _ ?_
  have hB := HB0.out.trans HB1.out
  rw [← HZ1.out] at hB
  unfold bodyCn
  simpa using hB
set_option maxHeartbeats 12800000 in
theorem refBody_7 (r : Rc) (P : List Pr) (K D : List Int) (w : World) (hr : RcOk w r P K D) (hkd : r.kind = 7) (hm : MayCn r) :
    Calls Tryz.prog 35 #[.agg r.arr] w fun e w' => ∃ p n c, e = .returned (.slice p n c) ∧ BufF w none w' p n c (bodyCn r) := by
  obtain ⟨PO, hPO⟩ : ∃ PO : Ending → World → Prop, (fun e w' => ∃ p n c, e = .returned (.slice p n c) ∧ BufF w none w' p n c (bodyCn r)) = PO := ⟨_, rfl⟩
  rw [hPO]
  have HP : Hid (∀ p n c w', BufF w none w' p n c (bodyCn r) → PO (.returned (.slice p n c)) w') := hid (fun p n c w' h => by rw [← hPO]; exact ⟨p, n, c, rfl, h⟩)
  obtain ⟨w0, hw0⟩ : ∃ z, w.alloc (.cells r.arr 26) = z := ⟨_, rfl⟩
  have hrow := heap_alloc_new w (.cells r.arr 26)
  have hf0 : Frm [] w w0 := by rw [← hw0]; exact (Frm.refl _ _).alloc _
  obtain ⟨bx, hbx⟩ : ∃ z, w.heap.size = z := ⟨_, rfl⟩
  rw [hw0, hbx] at hrow
  have HX := hid (fun V (hf : Frm [] w0 V) => rc_cells (hf.heap hrow (by simp)))
  have HR := hid (fun V (hf : Frm [] w0 V) => hr.k0 (hf0.trans hf (by simp)))
  have HF0 := hid hf0
  have HW0 := hid hw0
  have HBX := hid hbx
  have HPL := hid hr.pl
  have HKL := hid hr.kl
  have HDL := hid hr.dn
  have HB00 : Hid (BufF w0 none w0 none 0 0 []) := hid (BufF.self (Own.nil _ _) rfl)
  have HB0 : Hid (BufF w none w0 none 0 0 []) := hid ⟨Own.nil _ _, rfl, hf0.mono (by simp), by simp [blk]⟩
  have hmy0 := hm.1
  have hmy1 := hm.2
  clear hPO hw0 hrow hf0 hbx hr hm
  obtain ⟨kind, name, typ, frm, guid, origin, snap, pp, pn, pc, obj, at_, many, kp, kn, kc, dp, dl, dc⟩ := r
  simp only at hkd
  subst hkd
  unfold Rc.arr at HW0 ⊢
  simp only at HX HR HW0 HPL HKL HDL HP hmy0 hmy1 ⊢
  go_enter Tryz.func35, Tryz.ntmps35
  go_upto_region 1 with fail
  first | rw [HW0.out] | skip
  first | rw [HBX.out] | skip
  clear HW0 HBX
  obtain ⟨x0, x1, x2, x3, x4, x5, x6, x7, x8, x9, x10, x11, x12⟩ := HX.out w0 HB00.out.nil.1
  have HC := hid (refNumF_any none 0 0 [] many 4 w0 HB00.out.own HB00.out.len (by omega) (by omega) (by omega) (by omega))
  go_wp2_with fail
  refine HC.out.mono ?_
  rintro e w1 ⟨p1, c1, rfl, hb⟩
  obtain ⟨n1, hnn⟩ : ∃ z, 0 + 4 = z := ⟨_, rfl⟩
  rw [hnn] at hb
  try rw [hnn]
  try simp only [Nat.zero_add] at hnn
  try rw [hnn]
  obtain ⟨z1, hz1⟩ : ∃ z, [] ++ le many 4 = z := ⟨_, rfl⟩
  rw [hz1] at hb
  have hn1 : n1 ≤ 4 := by rw [← hb.len, ← hz1, List.length_append, HB00.out.len, le_length]; omega
  have HB1 : Hid (BufF w0 none w1 p1 n1 c1 z1) := hid (HB00.out.trans hb)
  have HZ1 := hid hz1
  clear hb hz1 HC x0 x1 x2 x3 x4 x5 x6 x7 x8 x9 x10 x11 x12 HB00 hnn
  go_wp2_with fail
  first | go_returns | skip
  refine HP.out _ _ _ _ ?_
  have hB := HB0.out.trans HB1.out
  rw [← HZ1.out] at hB
  unfold bodyCn
  simpa using hB
set_option maxHeartbeats 12800000 in
theorem refBody_5 (r : Rc) (P : List Pr) (K D : List Int) (w : World) (hr : RcOk w r P K D) (hkd : r.kind = 5) (hm : MayWr r) :
    Calls Tryz.prog 35 #[.agg r.arr] w fun e w' => ∃ p n c, e = .returned (.slice p n c) ∧ BufF w none w' p n c (bodyWr r D) := by
  obtain ⟨PO, hPO⟩ : ∃ PO : Ending → World → Prop, (fun e w' => ∃ p n c, e = .returned (.slice p n c) ∧ BufF w none w' p n c (bodyWr r D)) = PO := ⟨_, rfl⟩
  rw [hPO]
  have HP : Hid (∀ p n c w', BufF w none w' p n c (bodyWr r D) → PO (.returned (.slice p n c)) w') := hid (fun p n c w' h => by rw [← hPO]; exact ⟨p, n, c, rfl, h⟩)
  obtain ⟨w0, hw0⟩ : ∃ z, w.alloc (.cells r.arr 26) = z := ⟨_, rfl⟩
  have hrow := heap_alloc_new w (.cells r.arr 26)
  have hf0 : Frm [] w w0 := by rw [← hw0]; exact (Frm.refl _ _).alloc _
  obtain ⟨bx, hbx⟩ : ∃ z, w.heap.size = z := ⟨_, rfl⟩
  rw [hw0, hbx] at hrow
  have HX := hid (fun V (hf : Frm [] w0 V) => rc_cells (hf.heap hrow (by simp)))
  have HR := hid (fun V (hf : Frm [] w0 V) => hr.k0 (hf0.trans hf (by simp)))
  have HF0 := hid hf0
  have HW0 := hid hw0
  have HBX := hid hbx
  have HPL := hid hr.pl
  have HKL := hid hr.kl
  have HDL := hid hr.dn
  have HB00 : Hid (BufF w0 none w0 none 0 0 []) := hid (BufF.self (Own.nil _ _) rfl)
  have HB0 : Hid (BufF w none w0 none 0 0 []) := hid ⟨Own.nil _ _, rfl, hf0.mono (by simp), by simp [blk]⟩
  have hmy0 := hm.1.1
  have hmy1 := hm.1.2
  have hmy2 := hm.2.1.1
  have hmy3 := hm.2.1.2
  have hmy4 := hm.2.2.1
  have hmy5 := hm.2.2.2
  clear hPO hw0 hrow hf0 hbx hr hm
  obtain ⟨kind, name, typ, frm, guid, origin, snap, pp, pn, pc, obj, at_, many, kp, kn, kc, dp, dl, dc⟩ := r
  simp only at hkd
  subst hkd
  unfold Rc.arr at HW0 ⊢
  simp only at HX HR HW0 HPL HKL HDL HP hmy0 hmy1 hmy2 hmy3 hmy4 hmy5 ⊢
  go_enter Tryz.func35, Tryz.ntmps35
  go_upto_region 1 with fail
  first | rw [HW0.out] | skip
  first | rw [HBX.out] | skip
  clear HW0 HBX
  obtain ⟨x0, x1, x2, x3, x4, x5, x6, x7, x8, x9, x10, x11, x12⟩ := HX.out w0 HB00.out.nil.1
  have HC := hid (refNumF_any none 0 0 [] obj 4 w0 HB00.out.own HB00.out.len (by omega) (by omega) (by omega) (by omega))
  go_wp2_with fail
  refine HC.out.mono ?_
  rintro e w1 ⟨p1, c1, rfl, hb⟩
  obtain ⟨n1, hnn⟩ : ∃ z, 0 + 4 = z := ⟨_, rfl⟩
  rw [hnn] at hb
  try rw [hnn]
  try simp only [Nat.zero_add] at hnn
  try rw [hnn]
  obtain ⟨z1, hz1⟩ : ∃ z, [] ++ le obj 4 = z := ⟨_, rfl⟩
  rw [hz1] at hb
  have hn1 : n1 ≤ 4 := by rw [← hb.len, ← hz1, List.length_append, HB00.out.len, le_length]; omega
  have HB1 : Hid (BufF w0 none w1 p1 n1 c1 z1) := hid (HB00.out.trans hb)
  have HZ1 := hid hz1
  clear hb hz1 HC x0 x1 x2 x3 x4 x5 x6 x7 x8 x9 x10 x11 x12 HB00 hnn
  obtain ⟨x0, x1, x2, x3, x4, x5, x6, x7, x8, x9, x10, x11, x12⟩ := HX.out w1 HB1.out.nil.1
  have HC := hid (refNumF_any p1 n1 c1 z1 (at_ + 1) 2 w1 HB1.out.own HB1.out.len (by omega) (by omega) (by omega) (by omega))
  go_wp2_with fail
  refine HC.out.mono ?_
  rintro e w2 ⟨p2, c2, rfl, hb⟩
  obtain ⟨n2, hnn⟩ : ∃ z, n1 + 2 = z := ⟨_, rfl⟩
  rw [hnn] at hb
  try rw [hnn]
  try simp only [Nat.zero_add] at hnn
  try rw [hnn]
  obtain ⟨z2, hz2⟩ : ∃ z, z1 ++ le (at_ + 1) 2 = z := ⟨_, rfl⟩
  rw [hz2] at hb
  have hn2 : n2 ≤ 6 := by rw [← hb.len, ← hz2, List.length_append, HB1.out.len, le_length]; omega
  have HB2 : Hid (BufF w0 none w2 p2 n2 c2 z2) := hid (HB1.out.trans hb)
  have HZ2 := hid hz2
  clear hb hz2 HC x0 x1 x2 x3 x4 x5 x6 x7 x8 x9 x10 x11 x12 HB1 hnn
  obtain ⟨x0, x1, x2, x3, x4, x5, x6, x7, x8, x9, x10, x11, x12⟩ := HX.out w2 HB2.out.nil.1
  have HC := hid (refNumF_any p2 n2 c2 z2 (dl : Int) 2 w2 HB2.out.own HB2.out.len (by omega) (by omega) (by omega) (by omega))
  go_wp2_with fail
  refine HC.out.mono ?_
  rintro e w3 ⟨p3, c3, rfl, hb⟩
  obtain ⟨n3, hnn⟩ : ∃ z, n2 + 2 = z := ⟨_, rfl⟩
  rw [hnn] at hb
  try rw [hnn]
  try simp only [Nat.zero_add] at hnn
  try rw [hnn]
  obtain ⟨z3, hz3⟩ : ∃ z, z2 ++ le (dl : Int) 2 = z := ⟨_, rfl⟩
  rw [hz3] at hb
  have hn3 : n3 ≤ 8 := by rw [← hb.len, ← hz3, List.length_append, HB2.out.len, le_length]; omega
  have HB3 : Hid (BufF w0 none w3 p3 n3 c3 z3) := hid (HB2.out.trans hb)
  have HZ3 := hid hz3
  clear hb hz3 HC x0 x1 x2 x3 x4 x5 x6 x7 x8 x9 x10 x11 x12 HB2 hnn
  obtain ⟨x0, x1, x2, x3, x4, x5, x6, x7, x8, x9, x10, x11, x12⟩ := HX.out w3 HB3.out.nil.1
  have hdr := (HR.out w3 HB3.out.nil.1).dr
  simp only at hdr
  have HDR := hid hdr
  clear hdr
  go_wp2_with (at_builtin; refine wpList_appB rfl _ _ 24 rfl 5 Tryz.underlying24 infoE p3 n3 c3 z3 rfl HB3.out.len.symm (by rw [HB3.out.len]; exact HB3.out.own) dp dl dc D rfl HDL.out.symm (fun h => absurd HDL.out (by rw [h]; simp; omega)) HDR.out (by rw [HB3.out.len, HDL.out]; omega) ?_)
  intro xs p4 c4 w4 hxs ho4 hf4 hfr4
  clear x0 x1 x2 x3 x4 x5 x6 x7 x8 x9 x10 x11 x12
  go_wp2_with fail
  first | go_returns | skip
  have he : xs = bodyWr ⟨5, name, typ, frm, guid, origin, snap, pp, pn, pc, obj, at_, many, kp, kn, kc, dp, dl, dc⟩ D := by
    rw [hxs.out, ← HZ3.out, ← HZ2.out, ← HZ1.out]
    unfold bodyWr
    simp
  refine HP.out _ _ _ _ ?_
  rw [← he]
  exact HB0.out.trans (HB3.out.trans (⟨ho4.out, rfl, hf4.out, hfr4.out⟩ : BufF w3 p3 w4 p4 xs.length c4 xs))
set_option maxHeartbeats 12800000 in
theorem refBody_3 (r : Rc) (P : List Pr) (K D : List Int) (w : World) (hr : RcOk w r P K D) (hkd : r.kind = 3) (hm : MayLv r K) :
    Calls Tryz.prog 35 #[.agg r.arr] w fun e w' => ∃ p n c, e = .returned (.slice p n c) ∧ BufF w none w' p n c (bodyLv K) := by
  obtain ⟨PO, hPO⟩ : ∃ PO : Ending → World → Prop, (fun e w' => ∃ p n c, e = .returned (.slice p n c) ∧ BufF w none w' p n c (bodyLv K)) = PO := ⟨_, rfl⟩
  rw [hPO]
  have HP : Hid (∀ p n c w', BufF w none w' p n c (bodyLv K) → PO (.returned (.slice p n c)) w') := hid (fun p n c w' h => by rw [← hPO]; exact ⟨p, n, c, rfl, h⟩)
  obtain ⟨w0, hw0⟩ : ∃ z, w.alloc (.cells r.arr 26) = z := ⟨_, rfl⟩
  have hrow := heap_alloc_new w (.cells r.arr 26)
  have hf0 : Frm [] w w0 := by rw [← hw0]; exact (Frm.refl _ _).alloc _
  obtain ⟨bx, hbx⟩ : ∃ z, w.heap.size = z := ⟨_, rfl⟩
  rw [hw0, hbx] at hrow
  have HX := hid (fun V (hf : Frm [] w0 V) => rc_cells (hf.heap hrow (by simp)))
  have HR := hid (fun V (hf : Frm [] w0 V) => hr.k0 (hf0.trans hf (by simp)))
  have HF0 := hid hf0
  have HW0 := hid hw0
  have HBX := hid hbx
  have HPL := hid hr.pl
  have HKL := hid hr.kl
  have HDL := hid hr.dn
  have HB00 : Hid (BufF w0 none w0 none 0 0 []) := hid (BufF.self (Own.nil _ _) rfl)
  have HB0 : Hid (BufF w none w0 none 0 0 []) := hid ⟨Own.nil _ _, rfl, hf0.mono (by simp), by simp [blk]⟩
  have hmy0 := hm.1
  have HRI := hid hm.2
  clear hPO hw0 hrow hf0 hbx hr hm
  obtain ⟨kind, name, typ, frm, guid, origin, snap, pp, pn, pc, obj, at_, many, kp, kn, kc, dp, dl, dc⟩ := r
  simp only at hkd
  subst hkd
  unfold Rc.arr at HW0 ⊢
  simp only at HX HR HW0 HPL HKL HDL HP hmy0 ⊢
  go_enter Tryz.func35, Tryz.ntmps35
  go_upto_region 1 with fail
  first | rw [HW0.out] | skip
  first | rw [HBX.out] | skip
  clear HW0 HBX
  obtain ⟨x0, x1, x2, x3, x4, x5, x6, x7, x8, x9, x10, x11, x12⟩ := HX.out w0 HB00.out.nil.1
  have HC := hid (refNumF_any none 0 0 [] (kn : Int) 2 w0 HB00.out.own HB00.out.len (by omega) (by omega) (by omega) (by omega))
  go_wp2_with fail
  refine HC.out.mono ?_
  rintro e w1 ⟨p1, c1, rfl, hb⟩
  obtain ⟨n1, hnn⟩ : ∃ z, 0 + 2 = z := ⟨_, rfl⟩
  rw [hnn] at hb
  try rw [hnn]
  try simp only [Nat.zero_add] at hnn
  try rw [hnn]
  obtain ⟨z1, hz1⟩ : ∃ z, [] ++ le (kn : Int) 2 = z := ⟨_, rfl⟩
  rw [hz1] at hb
  have hn1 : n1 ≤ 2 := by rw [← hb.len, ← hz1, List.length_append, HB00.out.len, le_length]; omega
  have HB1 : Hid (BufF w0 none w1 p1 n1 c1 z1) := hid (HB00.out.trans hb)
  have HZ1 := hid hz1
  clear hb hz1 HC x0 x1 x2 x3 x4 x5 x6 x7 x8 x9 x10 x11 x12 HB00 hnn
  obtain ⟨x0, x1, x2, x3, x4, x5, x6, x7, x8, x9, x10, x11, x12⟩ := HX.out w1 HB1.out.nil.1
  go_wp2_with fail
  clear x0 x1 x2 x3 x4 x5 x6 x7 x8 x9 x10 x11 x12
  go_loopw [3, 5] (fun bv i wr => ∃ (t : Nat) (p : Option Addr) (n c : Nat), t ≤ kn ∧ i = .int .i64 (t : Int) ∧ bv = .slice p n c ∧ n ≤ 2 + 4 * t ∧ Hid (BufF w0 none wr p n c (z1 ++ kpT K 0 4 t))) (fun _ i _ => kn - (intOf i).toNat)
  case atStart => exact ⟨0, p1, n1, c1, Nat.zero_le _, rfl, rfl, by omega, hid (by rw [show z1 ++ kpT K 0 4 0 = z1 by simp [kpT]]; exact HB1.out)⟩
  case round =>
    obtain ⟨t, p, n, c, ht, rfl, rfl, hn, hb⟩ := hrel
    have HB := hid hb.out
    clear hb
    by_cases hlt : t < kn
    case neg =>
      obtain rfl : t = kn := by omega
      obtain ⟨x0, x1, x2, x3, x4, x5, x6, x7, x8, x9, x10, x11, x12⟩ := HX.out wr HB.out.nil.1
      go_wp2_with fail
      first | go_returns | skip
      refine HP.out _ _ _ _ ?_
      have hB := HB0.out.trans HB.out
      rw [← HZ1.out] at hB
      unfold bodyLv keepB
      rw [HKL.out]
      simpa using hB
    have t1 : (t : Int) < (kn : Int) := by omega
    have hri := (HR.out wr HB.out.nil.1).kr
    simp only at hri
    obtain ⟨g, o, rfl, hc⟩ := hri.at (i := t) (by rw [HKL.out]; exact hlt)
    have z0 := hc t (by rw [HKL.out]; exact hlt)
    have hv := (HRI.out t (by rw [HKL.out]; exact hlt)).1
    have HNX : Hid (kpT K 0 4 (t + 1) = kpT K 0 4 t ++ le (zA K t + 0) 4) := hid rfl
    obtain ⟨x, hx⟩ : ∃ x, zA K t = x := ⟨_, rfl⟩
    rw [hx] at z0 hv HNX
    obtain ⟨hv0, hv1⟩ := hv
    clear hc hri hx
    obtain ⟨x0, x1, x2, x3, x4, x5, x6, x7, x8, x9, x10, x11, x12⟩ := HX.out wr HB.out.nil.1
    have HC := hid (refNumF_any p n c (z1 ++ kpT K 0 4 t) x 4 wr HB.out.own HB.out.len (by omega) (by omega) (by omega) (by omega))
    go_wp2_with fail
    refine HC.out.mono ?_
    rintro e wn ⟨q, d, rfl, hb⟩
    have HBN := hid (HB.out.trans hb)
    obtain ⟨nn, hnn⟩ : ∃ z, n + 4 = z := ⟨_, rfl⟩
    rw [hnn] at HBN
    try rw [hnn]
    have hn2 : nn ≤ 2 + 4 * (t + 1) := by omega
    have HN2 := hid hn2
    clear hb hnn hn2 HC x0 x1 x2 x3 x4 x5 x6 x7 x8 x9 x10 x11 x12 z0
    go_wp2_with fail
    go_roundw
    case rel => exact ⟨t + 1, q, nn, d, by omega, by go_num, rfl, HN2.out, hid (by rw [HNX.out, ← List.append_assoc]; rw [Int.add_zero]; exact HBN.out)⟩
    case measure => first | (simp [intOf]; done) | (simp [intOf]; omega)
set_option maxHeartbeats 12800000 in
theorem refBody_4 (r : Rc) (P : List Pr) (K D : List Int) (w : World) (hr : RcOk w r P K D) (hkd : r.kind = 4) (hm : MayNd r K) :
    Calls Tryz.prog 35 #[.agg r.arr] w fun e w' => ∃ p n c, e = .returned (.slice p n c) ∧ BufF w none w' p n c (bodyNd r K) := by
  obtain ⟨PO, hPO⟩ : ∃ PO : Ending → World → Prop, (fun e w' => ∃ p n c, e = .returned (.slice p n c) ∧ BufF w none w' p n c (bodyNd r K)) = PO := ⟨_, rfl⟩
  rw [hPO]
  have HP : Hid (∀ p n c w', BufF w none w' p n c (bodyNd r K) → PO (.returned (.slice p n c)) w') := hid (fun p n c w' h => by rw [← hPO]; exact ⟨p, n, c, rfl, h⟩)
  obtain ⟨w0, hw0⟩ : ∃ z, w.alloc (.cells r.arr 26) = z := ⟨_, rfl⟩
  have hrow := heap_alloc_new w (.cells r.arr 26)
  have hf0 : Frm [] w w0 := by rw [← hw0]; exact (Frm.refl _ _).alloc _
  obtain ⟨bx, hbx⟩ : ∃ z, w.heap.size = z := ⟨_, rfl⟩
  rw [hw0, hbx] at hrow
  have HX := hid (fun V (hf : Frm [] w0 V) => rc_cells (hf.heap hrow (by simp)))
  have HR := hid (fun V (hf : Frm [] w0 V) => hr.k0 (hf0.trans hf (by simp)))
  have HF0 := hid hf0
  have HW0 := hid hw0
  have HBX := hid hbx
  have HPL := hid hr.pl
  have HKL := hid hr.kl
  have HDL := hid hr.dn
  have HB00 : Hid (BufF w0 none w0 none 0 0 []) := hid (BufF.self (Own.nil _ _) rfl)
  have HB0 : Hid (BufF w none w0 none 0 0 []) := hid ⟨Own.nil _ _, rfl, hf0.mono (by simp), by simp [blk]⟩
  have hmy0 := hm.1.1
  have hmy1 := hm.1.2
  have hmy2 := hm.2.1.1
  have hmy3 := hm.2.1.2
  have HRI := hid hm.2.2
  clear hPO hw0 hrow hf0 hbx hr hm
  obtain ⟨kind, name, typ, frm, guid, origin, snap, pp, pn, pc, obj, at_, many, kp, kn, kc, dp, dl, dc⟩ := r
  simp only at hkd
  subst hkd
  unfold Rc.arr at HW0 ⊢
  simp only at HX HR HW0 HPL HKL HDL HP hmy0 hmy1 hmy2 hmy3 ⊢
  go_enter Tryz.func35, Tryz.ntmps35
  go_upto_region 1 with fail
  first | rw [HW0.out] | skip
  first | rw [HBX.out] | skip
  clear HW0 HBX
  obtain ⟨x0, x1, x2, x3, x4, x5, x6, x7, x8, x9, x10, x11, x12⟩ := HX.out w0 HB00.out.nil.1
  have HC := hid (refNumF_any none 0 0 [] obj 4 w0 HB00.out.own HB00.out.len (by omega) (by omega) (by omega) (by omega))
  go_wp2_with fail
  refine HC.out.mono ?_
  rintro e w1 ⟨p1, c1, rfl, hb⟩
  obtain ⟨n1, hnn⟩ : ∃ z, 0 + 4 = z := ⟨_, rfl⟩
  rw [hnn] at hb
  try rw [hnn]
  try simp only [Nat.zero_add] at hnn
  try rw [hnn]
  obtain ⟨z1, hz1⟩ : ∃ z, [] ++ le obj 4 = z := ⟨_, rfl⟩
  rw [hz1] at hb
  have hn1 : n1 ≤ 4 := by rw [← hb.len, ← hz1, List.length_append, HB00.out.len, le_length]; omega
  have HB1 : Hid (BufF w0 none w1 p1 n1 c1 z1) := hid (HB00.out.trans hb)
  have HZ1 := hid hz1
  clear hb hz1 HC x0 x1 x2 x3 x4 x5 x6 x7 x8 x9 x10 x11 x12 HB00 hnn
  obtain ⟨x0, x1, x2, x3, x4, x5, x6, x7, x8, x9, x10, x11, x12⟩ := HX.out w1 HB1.out.nil.1
  have HC := hid (refNumF_any p1 n1 c1 z1 (kn : Int) 2 w1 HB1.out.own HB1.out.len (by omega) (by omega) (by omega) (by omega))
  go_wp2_with fail
  refine HC.out.mono ?_
  rintro e w2 ⟨p2, c2, rfl, hb⟩
  obtain ⟨n2, hnn⟩ : ∃ z, n1 + 2 = z := ⟨_, rfl⟩
  rw [hnn] at hb
  try rw [hnn]
  try simp only [Nat.zero_add] at hnn
  try rw [hnn]
  obtain ⟨z2, hz2⟩ : ∃ z, z1 ++ le (kn : Int) 2 = z := ⟨_, rfl⟩
  rw [hz2] at hb
  have hn2 : n2 ≤ 6 := by rw [← hb.len, ← hz2, List.length_append, HB1.out.len, le_length]; omega
  have HB2 : Hid (BufF w0 none w2 p2 n2 c2 z2) := hid (HB1.out.trans hb)
  have HZ2 := hid hz2
  clear hb hz2 HC x0 x1 x2 x3 x4 x5 x6 x7 x8 x9 x10 x11 x12 HB1 hnn
  obtain ⟨x0, x1, x2, x3, x4, x5, x6, x7, x8, x9, x10, x11, x12⟩ := HX.out w2 HB2.out.nil.1
  go_wp2_with fail
  clear x0 x1 x2 x3 x4 x5 x6 x7 x8 x9 x10 x11 x12
  go_loopw [3, 6] (fun bv i wr => ∃ (t : Nat) (p : Option Addr) (n c : Nat), t ≤ kn ∧ i = .int .i64 (t : Int) ∧ bv = .slice p n c ∧ n ≤ 6 + 2 * t ∧ Hid (BufF w0 none wr p n c (z2 ++ kpT K 1 2 t))) (fun _ i _ => kn - (intOf i).toNat)
  case atStart => exact ⟨0, p2, n2, c2, Nat.zero_le _, rfl, rfl, by omega, hid (by rw [show z2 ++ kpT K 1 2 0 = z2 by simp [kpT]]; exact HB2.out)⟩
  case round =>
    obtain ⟨t, p, n, c, ht, rfl, rfl, hn, hb⟩ := hrel
    have HB := hid hb.out
    clear hb
    by_cases hlt : t < kn
    case neg =>
      obtain rfl : t = kn := by omega
      obtain ⟨x0, x1, x2, x3, x4, x5, x6, x7, x8, x9, x10, x11, x12⟩ := HX.out wr HB.out.nil.1
      go_wp2_with fail
      first | go_returns | skip
      refine HP.out _ _ _ _ ?_
      have hB := HB0.out.trans HB.out
      rw [← HZ2.out, ← HZ1.out] at hB
      unfold bodyNd keepB
      rw [HKL.out]
      simpa using hB
    have t1 : (t : Int) < (kn : Int) := by omega
    have hri := (HR.out wr HB.out.nil.1).kr
    simp only at hri
    obtain ⟨g, o, rfl, hc⟩ := hri.at (i := t) (by rw [HKL.out]; exact hlt)
    have z0 := hc t (by rw [HKL.out]; exact hlt)
    have hv := (HRI.out t (by rw [HKL.out]; exact hlt)).1
    have HNX : Hid (kpT K 1 2 (t + 1) = kpT K 1 2 t ++ le (zA K t + 1) 2) := hid rfl
    obtain ⟨x, hx⟩ : ∃ x, zA K t = x := ⟨_, rfl⟩
    rw [hx] at z0 hv HNX
    obtain ⟨hv0, hv1⟩ := hv
    clear hc hri hx
    obtain ⟨x0, x1, x2, x3, x4, x5, x6, x7, x8, x9, x10, x11, x12⟩ := HX.out wr HB.out.nil.1
    have HC := hid (refNumF_any p n c (z2 ++ kpT K 1 2 t) (x + 1) 2 wr HB.out.own HB.out.len (by omega) (by omega) (by omega) (by omega))
    go_wp2_with fail
    refine HC.out.mono ?_
    rintro e wn ⟨q, d, rfl, hb⟩
    have HBN := hid (HB.out.trans hb)
    obtain ⟨nn, hnn⟩ : ∃ z, n + 2 = z := ⟨_, rfl⟩
    rw [hnn] at HBN
    try rw [hnn]
    have hn2 : nn ≤ 6 + 2 * (t + 1) := by omega
    have HN2 := hid hn2
    clear hb hnn hn2 HC x0 x1 x2 x3 x4 x5 x6 x7 x8 x9 x10 x11 x12 z0
    go_wp2_with fail
    go_roundw
    case rel => exact ⟨t + 1, q, nn, d, by omega, by go_num, rfl, HN2.out, hid (by rw [HNX.out, ← List.append_assoc]; exact HBN.out)⟩
    case measure => first | (simp [intOf]; done) | (simp [intOf]; omega)
set_option maxHeartbeats 12800000 in
theorem refBody_2 (r : Rc) (P : List Pr) (K D : List Int) (w : World) (hr : RcOk w r P K D) (hkd : r.kind = 2) (hm : MayBg r P) :
    Calls Tryz.prog 35 #[.agg r.arr] w fun e w' => ∃ p n c, e = .returned (.slice p n c) ∧ BufF w none w' p n c (bodyBg r P) := by
  obtain ⟨PO, hPO⟩ : ∃ PO : Ending → World → Prop, (fun e w' => ∃ p n c, e = .returned (.slice p n c) ∧ BufF w none w' p n c (bodyBg r P)) = PO := ⟨_, rfl⟩
  rw [hPO]
  have HP : Hid (∀ p n c w', BufF w none w' p n c (bodyBg r P) → PO (.returned (.slice p n c)) w') := hid (fun p n c w' h => by rw [← hPO]; exact ⟨p, n, c, rfl, h⟩)
  obtain ⟨w0, hw0⟩ : ∃ z, w.alloc (.cells r.arr 26) = z := ⟨_, rfl⟩
  have hrow := heap_alloc_new w (.cells r.arr 26)
  have hf0 : Frm [] w w0 := by rw [← hw0]; exact (Frm.refl _ _).alloc _
  obtain ⟨bx, hbx⟩ : ∃ z, w.heap.size = z := ⟨_, rfl⟩
  rw [hw0, hbx] at hrow
  have HX := hid (fun V (hf : Frm [] w0 V) => rc_cells (hf.heap hrow (by simp)))
  have HR := hid (fun V (hf : Frm [] w0 V) => hr.k0 (hf0.trans hf (by simp)))
  have HF0 := hid hf0
  have HW0 := hid hw0
  have HBX := hid hbx
  have HPL := hid hr.pl
  have HKL := hid hr.kl
  have HDL := hid hr.dn
  have HB00 : Hid (BufF w0 none w0 none 0 0 []) := hid (BufF.self (Own.nil _ _) rfl)
  have HB0 : Hid (BufF w none w0 none 0 0 []) := hid ⟨Own.nil _ _, rfl, hf0.mono (by simp), by simp [blk]⟩
  have hnm := nmOk_len hm.1
  have HRI := hid hm.2.1
  obtain ⟨_, _, mt, mf, mg, mo, ms, mp⟩ := hm
  have hsn := tx_len24 ms
  have hmt : 1 ≤ r.typ ∧ r.typ ≤ 2 := by omega
  have hmo : 0 ≤ r.origin ∧ r.origin ≤ 1 := by omega
  obtain ⟨mt0, mt1⟩ := hmt
  obtain ⟨mo0, mo1⟩ := hmo
  obtain ⟨mf0, mf1⟩ := mf
  obtain ⟨mg0, mg1⟩ := mg
  clear mt mo ms
  clear hPO hw0 hrow hf0 hbx hr
  obtain ⟨kind, name, typ, frm, guid, origin, snap, pp, pn, pc, obj, at_, many, kp, kn, kc, dp, dl, dc⟩ := r
  simp only at hkd
  subst hkd
  unfold Rc.arr at HW0 ⊢
  simp only at HX HR HW0 HPL HKL HDL HP hnm hsn mt0 mt1 mo0 mo1 mf0 mf1 mg0 mg1 mp ⊢
  go_enter Tryz.func35, Tryz.ntmps35
  go_upto_region 1 with fail
  first | rw [HW0.out] | skip
  first | rw [HBX.out] | skip
  clear HW0 HBX
  obtain ⟨x0, x1, x2, x3, x4, x5, x6, x7, x8, x9, x10, x11, x12⟩ := HX.out w0 HB00.out.nil.1
  have HC := hid (refTextF_any none 0 0 [] name w0 HB00.out.own HB00.out.len (by omega) (by omega))
  go_wp2_with fail
  refine HC.out.mono ?_
  rintro e w1 ⟨p1, n1, c1, rfl, hb⟩
  obtain ⟨z1, hz1⟩ : ∃ z, [] ++ txF name = z := ⟨_, rfl⟩
  rw [hz1] at hb
  have hn1 : n1 ≤ 242 := by rw [← hb.len, ← hz1, List.length_append, HB00.out.len, txF_len]; omega
  have HB1 : Hid (BufF w0 none w1 p1 n1 c1 z1) := hid (HB00.out.trans hb)
  have HZ1 := hid hz1
  clear hb hz1 HC x0 x1 x2 x3 x4 x5 x6 x7 x8 x9 x10 x11 x12 HB00
  obtain ⟨x0, x1, x2, x3, x4, x5, x6, x7, x8, x9, x10, x11, x12⟩ := HX.out w1 HB1.out.nil.1
  have HC := hid (refNumF_any p1 n1 c1 z1 typ 1 w1 HB1.out.own HB1.out.len (by omega) (by omega) (by omega) (by omega))
  go_wp2_with fail
  refine HC.out.mono ?_
  rintro e w2 ⟨p2, c2, rfl, hb⟩
  obtain ⟨n2, hnn⟩ : ∃ z, n1 + 1 = z := ⟨_, rfl⟩
  rw [hnn] at hb
  try rw [hnn]
  try simp only [Nat.zero_add] at hnn
  try rw [hnn]
  obtain ⟨z2, hz2⟩ : ∃ z, z1 ++ le typ 1 = z := ⟨_, rfl⟩
  rw [hz2] at hb
  have hn2 : n2 ≤ 243 := by rw [← hb.len, ← hz2, List.length_append, HB1.out.len, le_length]; omega
  have HB2 : Hid (BufF w0 none w2 p2 n2 c2 z2) := hid (HB1.out.trans hb)
  have HZ2 := hid hz2
  clear hb hz2 HC x0 x1 x2 x3 x4 x5 x6 x7 x8 x9 x10 x11 x12 HB1 hnn
  obtain ⟨x0, x1, x2, x3, x4, x5, x6, x7, x8, x9, x10, x11, x12⟩ := HX.out w2 HB2.out.nil.1
  have HC := hid (refNumF_any p2 n2 c2 z2 frm 6 w2 HB2.out.own HB2.out.len (by omega) (by omega) (by omega) (by omega))
  go_wp2_with fail
  refine HC.out.mono ?_
  rintro e w3 ⟨p3, c3, rfl, hb⟩
  obtain ⟨n3, hnn⟩ : ∃ z, n2 + 6 = z := ⟨_, rfl⟩
  rw [hnn] at hb
  try rw [hnn]
  try simp only [Nat.zero_add] at hnn
  try rw [hnn]
  obtain ⟨z3, hz3⟩ : ∃ z, z2 ++ le frm 6 = z := ⟨_, rfl⟩
  rw [hz3] at hb
  have hn3 : n3 ≤ 249 := by rw [← hb.len, ← hz3, List.length_append, HB2.out.len, le_length]; omega
  have HB3 : Hid (BufF w0 none w3 p3 n3 c3 z3) := hid (HB2.out.trans hb)
  have HZ3 := hid hz3
  clear hb hz3 HC x0 x1 x2 x3 x4 x5 x6 x7 x8 x9 x10 x11 x12 HB2 hnn
  obtain ⟨x0, x1, x2, x3, x4, x5, x6, x7, x8, x9, x10, x11, x12⟩ := HX.out w3 HB3.out.nil.1
  have HC := hid (refNumF_any p3 n3 c3 z3 guid 6 w3 HB3.out.own HB3.out.len (by omega) (by omega) (by omega) (by omega))
  go_wp2_with fail
  refine HC.out.mono ?_
  rintro e w4 ⟨p4, c4, rfl, hb⟩
  obtain ⟨n4, hnn⟩ : ∃ z, n3 + 6 = z := ⟨_, rfl⟩
  rw [hnn] at hb
  try rw [hnn]
  try simp only [Nat.zero_add] at hnn
  try rw [hnn]
  obtain ⟨z4, hz4⟩ : ∃ z, z3 ++ le guid 6 = z := ⟨_, rfl⟩
  rw [hz4] at hb
  have hn4 : n4 ≤ 255 := by rw [← hb.len, ← hz4, List.length_append, HB3.out.len, le_length]; omega
  have HB4 : Hid (BufF w0 none w4 p4 n4 c4 z4) := hid (HB3.out.trans hb)
  have HZ4 := hid hz4
  clear hb hz4 HC x0 x1 x2 x3 x4 x5 x6 x7 x8 x9 x10 x11 x12 HB3 hnn
  obtain ⟨x0, x1, x2, x3, x4, x5, x6, x7, x8, x9, x10, x11, x12⟩ := HX.out w4 HB4.out.nil.1
  have HC := hid (refNumF_any p4 n4 c4 z4 origin 1 w4 HB4.out.own HB4.out.len (by omega) (by omega) (by omega) (by omega))
  go_wp2_with fail
  refine HC.out.mono ?_
  rintro e w5 ⟨p5, c5, rfl, hb⟩
  obtain ⟨n5, hnn⟩ : ∃ z, n4 + 1 = z := ⟨_, rfl⟩
  rw [hnn] at hb
  try rw [hnn]
  try simp only [Nat.zero_add] at hnn
  try rw [hnn]
  obtain ⟨z5, hz5⟩ : ∃ z, z4 ++ le origin 1 = z := ⟨_, rfl⟩
  rw [hz5] at hb
  have hn5 : n5 ≤ 256 := by rw [← hb.len, ← hz5, List.length_append, HB4.out.len, le_length]; omega
  have HB5 : Hid (BufF w0 none w5 p5 n5 c5 z5) := hid (HB4.out.trans hb)
  have HZ5 := hid hz5
  clear hb hz5 HC x0 x1 x2 x3 x4 x5 x6 x7 x8 x9 x10 x11 x12 HB4 hnn
  obtain ⟨x0, x1, x2, x3, x4, x5, x6, x7, x8, x9, x10, x11, x12⟩ := HX.out w5 HB5.out.nil.1
  have HC := hid (refTextF_any p5 n5 c5 z5 snap w5 HB5.out.own HB5.out.len (by omega) (by omega))
  go_wp2_with fail
  refine HC.out.mono ?_
  rintro e w6 ⟨p6, n6, c6, rfl, hb⟩
  obtain ⟨z6, hz6⟩ : ∃ z, z5 ++ txF snap = z := ⟨_, rfl⟩
  rw [hz6] at hb
  have hn6 : n6 ≤ 282 := by rw [← hb.len, ← hz6, List.length_append, HB5.out.len, txF_len]; omega
  have HB6 : Hid (BufF w0 none w6 p6 n6 c6 z6) := hid (HB5.out.trans hb)
  have HZ6 := hid hz6
  clear hb hz6 HC x0 x1 x2 x3 x4 x5 x6 x7 x8 x9 x10 x11 x12 HB5
  obtain ⟨x0, x1, x2, x3, x4, x5, x6, x7, x8, x9, x10, x11, x12⟩ := HX.out w6 HB6.out.nil.1
  have HC := hid (refNumF_any p6 n6 c6 z6 (pn : Int) 1 w6 HB6.out.own HB6.out.len (by omega) (by omega) (by omega) (by omega))
  go_wp2_with fail
  refine HC.out.mono ?_
  rintro e w7 ⟨p7, c7, rfl, hb⟩
  obtain ⟨n7, hnn⟩ : ∃ z, n6 + 1 = z := ⟨_, rfl⟩
  rw [hnn] at hb
  try rw [hnn]
  try simp only [Nat.zero_add] at hnn
  try rw [hnn]
  obtain ⟨z7, hz7⟩ : ∃ z, z6 ++ le (pn : Int) 1 = z := ⟨_, rfl⟩
  rw [hz7] at hb
  have hn7 : n7 ≤ 283 := by rw [← hb.len, ← hz7, List.length_append, HB6.out.len, le_length]; omega
  have HB7 : Hid (BufF w0 none w7 p7 n7 c7 z7) := hid (HB6.out.trans hb)
  have HZ7 := hid hz7
  clear hb hz7 HC x0 x1 x2 x3 x4 x5 x6 x7 x8 x9 x10 x11 x12 HB6 hnn
  obtain ⟨x0, x1, x2, x3, x4, x5, x6, x7, x8, x9, x10, x11, x12⟩ := HX.out w7 HB7.out.nil.1
  go_wp2_with fail
  clear x0 x1 x2 x3 x4 x5 x6 x7 x8 x9 x10 x11 x12
  go_loopw [3, 4] (fun bv i wr => ∃ (t : Nat) (p : Option Addr) (n c : Nat), t ≤ pn ∧ i = .int .i64 (t : Int) ∧ bv = .slice p n c ∧ n ≤ 283 + 92 * t ∧ Hid (BufF w0 none wr p n c (z7 ++ prT P t))) (fun _ i _ => pn - (intOf i).toNat)
  case atStart => exact ⟨0, p7, n7, c7, Nat.zero_le _, rfl, rfl, by omega, hid (by rw [show z7 ++ prT P 0 = z7 by simp [prT]]; exact HB7.out)⟩
  case round =>
    obtain ⟨t, p, n, c, ht, rfl, rfl, hn, hb⟩ := hrel
    have HB := hid hb.out
    clear hb
    by_cases hlt : t < pn
    case neg =>
      obtain rfl : t = pn := by omega
      obtain ⟨x0, x1, x2, x3, x4, x5, x6, x7, x8, x9, x10, x11, x12⟩ := HX.out wr HB.out.nil.1
      go_wp2_with fail
      first | go_returns | skip
      refine HP.out _ _ _ _ ?_
      have hB := HB0.out.trans HB.out
      rw [← HZ7.out, ← HZ6.out, ← HZ5.out, ← HZ4.out, ← HZ3.out, ← HZ2.out, ← HZ1.out] at hB
      unfold bodyBg
      rw [HPL.out]
      simpa using hB
    have t1 : (t : Int) < (pn : Int) := by omega
    have hri := (HR.out wr HB.out.nil.1).pr
    simp only at hri
    obtain ⟨g, o, rfl, hc⟩ := hri.at (i := t) (by rw [HPL.out]; exact hlt)
    obtain ⟨z0, z1⟩ := hc t (by rw [HPL.out]; exact hlt)
    rw [prA_get (by rw [HPL.out]; exact hlt)] at z0 z1
    have hq := HRI.out t (by rw [HPL.out]; exact hlt)
    have hs1 := tx_len24 hq.1
    have hs2 := tx_len64 hq.2.1
    have HNX : Hid (prT P (t + 1) = prT P t ++ (txF (prA P t).1 ++ txF (prA P t).2)) := hid rfl
    obtain ⟨nm, hnm1⟩ : ∃ x, (prA P t).1 = x := ⟨_, rfl⟩
    obtain ⟨vl, hvl1⟩ : ∃ x, (prA P t).2 = x := ⟨_, rfl⟩
    rw [hnm1] at z0 hs1 HNX
    rw [hvl1] at z1 hs2 HNX
    have HVL := hid hvl1
    clear hc hri hnm1 hvl1 hq z1
    obtain ⟨x0, x1, x2, x3, x4, x5, x6, x7, x8, x9, x10, x11, x12⟩ := HX.out wr HB.out.nil.1
    have HC := hid (refTextF_any p n c (z7 ++ prT P t) nm wr HB.out.own HB.out.len (by omega) (by omega))
    go_wp2_with fail
    refine HC.out.mono ?_
    rintro e wn ⟨q, nn, d, rfl, hb⟩
    have HBN := hid (HB.out.trans hb)
    have hn2 : nn ≤ 283 + 92 * t + 26 := by rw [← hb.len, List.length_append, HB.out.len, txF_len]; omega
    have hri2 := (HR.out wn HBN.out.nil.1).pr
    simp only at hri2
    obtain ⟨g2, o2, he2, hc2⟩ := hri2.at (i := t) (by rw [HPL.out]; exact hlt)
    simp only [Option.some.injEq, Addr.mk.injEq, and_true] at he2
    obtain ⟨rfl, rfl⟩ := he2
    have z1 := (hc2 t (by rw [HPL.out]; exact hlt)).2
    rw [prA_get (by rw [HPL.out]; exact hlt), HVL.out] at z1
    clear hc2 hri2
    clear hb HC x0 x1 x2 x3 x4 x5 x6 x7 x8 x9 x10 x11 x12 z0
    obtain ⟨x0, x1, x2, x3, x4, x5, x6, x7, x8, x9, x10, x11, x12⟩ := HX.out wn HBN.out.nil.1
    have HC := hid (refTextF_any q nn d (z7 ++ prT P t ++ txF nm) vl wn HBN.out.own HBN.out.len (by omega) (by omega))
    go_wp2_with fail
    refine HC.out.mono ?_
    rintro e wo ⟨q2, n2, d2, rfl, hb⟩
    have HBO := hid (HBN.out.trans hb)
    have hn3 : n2 ≤ 283 + 92 * (t + 1) := by rw [← hb.len, List.length_append, HBN.out.len, txF_len]; omega
    have HN3 := hid hn3
    clear hb HC x0 x1 x2 x3 x4 x5 x6 x7 x8 x9 x10 x11 x12 z1 hn3
    go_wp2_with fail
    go_roundw
    case rel => exact ⟨t + 1, q2, n2, d2, by omega, by go_num, rfl, HN3.out, hid (by rw [HNX.out, ← List.append_assoc, ← List.append_assoc]; exact HBO.out)⟩
    case measure => first | (simp [intOf]; done) | (simp [intOf]; omega)
theorem refBody_any (r : Rc) (P : List Pr) (K D : List Int) (w : World) (hr : RcOk w r P K D) (hm : RcMay r P K D) :
    Calls Tryz.prog 35 #[.agg r.arr] w fun e w' => ∃ p n c, e = .returned (.slice p n c) ∧ BufF w none w' p n c (bodyR r P K D) := by
  have h7 := rcMay_kind hm
  have h7 : r.kind = 1 ∨ r.kind = 2 ∨ r.kind = 3 ∨ r.kind = 4 ∨ r.kind = 5 ∨ r.kind = 6 ∨ r.kind = 7 := by omega
  rcases h7 with h | h | h | h | h | h | h
  · rw [bodyR_1 P K D h]; exact refBody_1 r P K D w hr h ((rcMay_1 P K D h).1 hm).1
  · rw [bodyR_2 P K D h]; exact refBody_2 r P K D w hr h ((rcMay_2 P K D h).1 hm).1
  · rw [bodyR_3 P K D h]; exact refBody_3 r P K D w hr h ((rcMay_3 P K D h).1 hm).1
  · rw [bodyR_4 P K D h]; exact refBody_4 r P K D w hr h ((rcMay_4 P K D h).1 hm).1
  · rw [bodyR_5 P K D h]; exact refBody_5 r P K D w hr h ((rcMay_5 P K D h).1 hm).1
  · rw [bodyR_6 P K D h]; exact refBody_6 r P K D w hr h ((rcMay_6 P K D h).1 hm).1
  · rw [bodyR_7 P K D h]; exact refBody_7 r P K D w hr h ((rcMay_7 P K D h).1 hm).1
end
end Go.Proofs.YtajfjkfnmmfhmaaGreatDoor
