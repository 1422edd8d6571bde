/- Contracts of the document's ptr: Encode of a pointer. -/
import Derived.Test.YtdnnbinmippkdaaDoorPtrF
import Derived.Test.YtdnnbinmippkdaaDoorPtrE
namespace Go.Proofs.YtdnnbinmippkdaaDoor
open Go.RowKit
set_option maxRecDepth 100000

theorem le_one' (v : Int) (h0 : 0 ≤ v) (h1 : v < 256) : le v 1 = [v] := by
  simp [le, List.range_succ]
  omega
/-- What the document's encoding answers: the error, or bytes of its own. -/
def EncD (w : World) (zs : List Int) (err : Int) (e : Ending) (w' : World) : Prop :=
  (err ≠ 0 ∧ e = .returned (.tuple #[.slice none 0 0, .int .i64 err]) ∧ Frm [] w w') ∨
  (err = 0 ∧ ∃ q n c, e = .returned (.tuple #[.slice q n c, .int .i64 0]) ∧ n = zs.length ∧ Own w' 5 (.slice q n c) zs ∧ Frm [] w w' ∧ ∀ i ∈ blk q, w.heap.size ≤ i)
set_option maxHeartbeats 3200000 in
theorem refEncode_any (p : P9) (hp : p.ok) (w : World) :
    Calls Tryd.prog 11 #[.agg p.arr] w (EncD w (ptrB p) (checkP p)) := by
  have HP := hid hp
  have HCK := hid (fun W => refCheck9_any p W)
  obtain ⟨C, hC⟩ : ∃ C, checkP p = C := ⟨_, rfl⟩
  rw [hC] at HCK ⊢
  have HC := hid hC
  obtain ⟨PO, hPO⟩ : ∃ PO, EncD w (ptrB p) C = PO := ⟨_, rfl⟩
  rw [hPO]
  have HPO := hid hPO
  have HROW := hid (heap_alloc_new w (.cells p.arr 26))
  have HFA : Hid (Frm [] w (w.alloc (.cells p.arr 26))) := hid ((Frm.refl _ _).alloc _)
  clear hp hC hPO
  unfold P9.arr at HCK HROW HFA ⊢
  obtain ⟨pb, hpb⟩ : ∃ pb, w.heap.size = pb := ⟨_, rfl⟩
  obtain ⟨wa, hwa⟩ : ∃ wa, w.alloc (.cells #[.int .i64 p.top, .int .i64 p.at_, .int .i64 p.bytes, .int .u64 p.birth, .int .i64 p.kind, .int .u64 p.sa, .int .u64 p.sb, .int .u64 p.sc, .int .u64 p.sd] 26) = wa := ⟨_, rfl⟩
  rw [hwa] at HFA
  rw [hwa, hpb] at HROW
  have HPB := hid hpb
  obtain ⟨q0, q1, q2, q3, q4, q5, q6, q7, q8⟩ := ptr_cells HROW.out
  go_enter Tryd.func11, Tryd.ntmps11
  go_wp2_with fail
  refine (HCK.out wa).mono ?_
  rintro e w1 ⟨rfl, hf1⟩
  have HF1 := hid (HFA.out.trans hf1 (by simp))
  have hr1 := hf1.heap HROW.out (by simp)
  have HR1 := hid hr1
  clear hf1 q0 q1 q2 q3 q4 q5 q6 q7 q8
  by_cases hC0 : C = 0
  case neg =>
    have hb : (C != 0) = true := by simpa using hC0
    go_wp2_with fail
    rw [← HPO.out]
    exact Or.inl ⟨hC0, rfl, HF1.out⟩
  subst hC0
  have HFT : Hid p.fits := hid (fits_of_check HP.out HC.out)
  obtain ⟨t0, t1⟩ := HFT.out.top
  obtain ⟨d0, d1⟩ := HFT.out.kind
  have e1 : IntKind.u8.wrap p.top = p.top := IntWalk.u8_in _ (by omega)
  have e2 : IntKind.u8.wrap p.kind = p.kind := IntWalk.u8_in _ (by omega)
  have e3 : IntKind.u64.wrap p.bytes = p.bytes := IntWalk.u64_in _ (by have := HFT.out.bytes; omega)
  obtain ⟨q0, q1, q2, q3, q4, q5, q6, q7, q8⟩ := ptr_cells hr1
  clear hr1
  have hfb : Frm [] w1 (w1.alloc (.cells #[.int .u8 p.top, .int .u8 p.kind] 5)) := (Frm.refl _ _).alloc _
  have ho := own_of_block (E := 5) (zs := [p.top, p.kind]) (heap_alloc_new w1 _) (by simp [maxLen])
  obtain ⟨gb, hgb⟩ : ∃ gb, w1.heap.size = gb := ⟨_, rfl⟩
  obtain ⟨wb, hwb⟩ : ∃ wb, w1.alloc (.cells #[.int .u8 p.top, .int .u8 p.kind] 5) = wb := ⟨_, rfl⟩
  have hwb' : w1.alloc (.cells (bv [p.top, p.kind]).toArray 5) = wb := hwb
  rw [hwb] at hfb
  rw [hwb', hgb] at ho
  have HB0 : Hid (BufN wb (some ⟨gb, 0, none⟩) wb (some ⟨gb, 0, none⟩) 2 2 [p.top, p.kind]) := hid ⟨ho, rfl, Frm.refl _ _, fun i hi => Or.inl hi⟩
  have HFB := hid (HF1.out.trans hfb (by simp))
  have HRB := hid (hfb.heap HR1.out (by simp))
  have HNB0 : Hid (pb ∉ blk (some ⟨gb, 0, none⟩)) := hid (by simp [blk]; have := lt_of_heap HR1.out; omega)
  have HGB : Hid (w.heap.size ≤ gb) := hid (by have := HF1.out.size; omega)
  have HPW : Hid (pb < wb.heap.size) := hid (lt_of_heap HRB.out)
  clear hfb ho hwb' HR1
  obtain ⟨r0, r1, r2, r3, r4, r5, r6, r7, r8⟩ := ptr_cells HRB.out
  go_wp2_with fail
  clear q0 q1 q2 q3 q4 q5 q6 q7 q8 r0 r1 r2 r3 r4 r5 r6 r7 r8 hwb hgb e1 e2 e3
  have h1 := refNum_any (some ⟨gb, 0, none⟩) (2) 2 _ p.bytes 2 wb HB0.out.own (by have := HFT.out.bytes; omega) (by omega) (by omega)
  refine h1.mono ?_
  rintro e x1 ⟨p1, c1, rfl, b1⟩
  have B1 := hid (HB0.out.trans b1)
  have hr1 := b1.fr.heap HRB.out HNB0.out
  have R1 := hid hr1
  have N1 : Hid (pb ∉ blk p1) := hid (fun h => (b1.bk pb h).elim HNB0.out (fun h => by have := lt_of_heap HRB.out; omega))
  clear h1 b1 HB0 HNB0 HRB
  obtain ⟨q0, q1, q2, q3, q4, q5, q6, q7, q8⟩ := ptr_cells hr1
  clear hr1
  have e3 : IntKind.u64.wrap p.at_ = p.at_ := IntWalk.u64_in _ (by have := HFT.out.at_; omega)
  go_wp2_with fail
  have h2 := refNum_any p1 (2 + 2) c1 _ p.at_ 4 x1 B1.out.own (by have := HFT.out.at_; omega) (by omega) (by omega)
  refine h2.mono ?_
  rintro e x2 ⟨p2, c2, rfl, b2⟩
  have B2 := hid (B1.out.trans b2)
  have hr2 := b2.fr.heap R1.out N1.out
  have R2 := hid hr2
  have N2 : Hid (pb ∉ blk p2) := hid (fun h => (b2.bk pb h).elim N1.out (fun h => by have := lt_of_heap R1.out; omega))
  clear h2 b2 q0 q1 q2 q3 q4 q5 q6 q7 q8 e3 B1 N1 R1
  obtain ⟨q0, q1, q2, q3, q4, q5, q6, q7, q8⟩ := ptr_cells hr2
  clear hr2
  go_wp2_with fail
  have h3 := refNum_any p2 (2 + 2 + 4) c2 _ p.birth 8 x2 B2.out.own (by have := HFT.out.birth; omega) (by omega) (by omega)
  refine h3.mono ?_
  rintro e x3 ⟨p3, c3, rfl, b3⟩
  have B3 := hid (B2.out.trans b3)
  have hr3 := b3.fr.heap R2.out N2.out
  have R3 := hid hr3
  have N3 : Hid (pb ∉ blk p3) := hid (fun h => (b3.bk pb h).elim N2.out (fun h => by have := lt_of_heap R2.out; omega))
  clear h3 b3 q0 q1 q2 q3 q4 q5 q6 q7 q8 B2 N2 R2
  obtain ⟨q0, q1, q2, q3, q4, q5, q6, q7, q8⟩ := ptr_cells hr3
  clear hr3
  go_wp2_with fail
  have h4 := refSums_any p3 (2 + 2 + 4 + 8) c3 _ p.sa p.sb p.sc p.sd x3 B3.out.own HFT.out.sa HFT.out.sb HFT.out.sc HFT.out.sd (by omega)
  refine h4.mono ?_
  rintro e x4 ⟨p4, c4, rfl, b4⟩
  have B4 := hid (B3.out.trans b4)
  clear h4 b4 q0 q1 q2 q3 q4 q5 q6 q7 q8 B3 N3 R3
  go_wp2_with fail
  have h5 := refPad_any p4 (2 + 2 + 4 + 8 + 32) c4 _ 64 x4 B4.out.own (by omega) (by omega)
  refine h5.mono ?_
  rintro e x5 ⟨p5, c5, rfl, b5⟩
  have B5 : Hid (BufN wb (some ⟨gb, 0, none⟩) x5 p5 64 c5 (ptrB p)) := hid (by
    have h := B4.out.trans b5
    unfold ptrB bodyP
    rw [le_one' p.top t0 (by omega), le_one' p.kind d0 (by omega)]
    simpa only [List.append_assoc, List.cons_append, List.nil_append] using h)
  clear h5 b5 B4
  go_wp2_with fail
  rw [← HPO.out]
  refine Or.inr ⟨rfl, p5, 64, c5, rfl, (ptrB_length p).symm, B5.out.own, HFB.out.trans B5.out.fr (fun i hi hl => by simp [blk] at hi; have := HGB.out; omega), fun i hi => ?_⟩
  rcases B5.out.bk i hi with h | h
  · simp [blk] at h
    have := HGB.out
    omega
  · have := HFB.out.size
    omega
end Go.Proofs.YtdnnbinmippkdaaDoor
