/- The document's forms: a number behind letters; a body and its sum; Check of an uberblock. The document's Encode of an uberblock. -/
import Derived.Test.YtdnnbinmippkdaaDoorPtrX
import Derived.Test.YtdnnbinmippkdaaDoorPtrH
import Derived.Test.YtdnnbinmippkdaaDoorSumAg
namespace Go.Proofs.YtdnnbinmippkdaaDoor
section
open Go.RowKit
set_option maxRecDepth 100000

section
variable {P : Program} {w : World}
/-- append of bytes to a full row that is only read: a new block of one's own. -/
theorem run_appC (t ty E : TypeId) (ht : P.underlying t = some (.slice E)) (hI : (P.info? E).map (fun i => (i.zero, i.size, i.bytes)) = some (some (.int .u8 0), 1, 1))
    (g o : Nat) (zs : List Int) (hz : Rd w (some ⟨g, o, none⟩) zs) (p : Option Addr) (c : Nat) (ns : List Int) (hne : ns ≠ []) (hrd : Rd w p ns) (hsz : zs.length + ns.length ≤ 1000000) :
    ∃ v' w', (Builtin.append_ #[t, t] ty #[.slice (some ⟨g, o, none⟩) zs.length zs.length, .slice p ns.length c]).run P w = .ok v' w' ∧ Own w' E v' (zs ++ ns) ∧ Frm [] w w' ∧ (∀ k ∈ v'.ownBlock.toList, w.heap.size ≤ k) := by
  obtain ⟨i, hi, hz0, h1, h2⟩ := info_parts hI
  obtain ⟨ad, rfl, hnews⟩ := bytes_at hrd hne
  have holds : ∀ j u, (bv zs)[j]? = some u → w.cell? ((⟨g, o, none⟩ : Addr).add j) = some u := by
    by_cases hzn : zs = []
    · subst hzn
      intro j u hu
      simp [bv] at hu
    · obtain ⟨ad', he, h⟩ := bytes_at hz hzn
      obtain rfl := Option.some.inj he
      exact h
  have hpos : 0 < ns.length := List.length_pos_iff.2 hne
  have hr := run_append_grow (P := P) w t ty E i (.int .u8 0) ht hi hz0 ⟨g, o, none⟩ zs.length zs.length (bv zs) (by simp [bv, h1]) holds ad ns.length c (bv ns) (by simp [bv, h1]) hnews (by omega) (by omega) (growslice_fits (by omega) (by rw [h2]; omega))
  have hge := grownCap_ge w (zs.length + ns.length) zs.length E
  have hcm := grownCap_le_maxLen w (zs.length + ns.length) zs.length E (by unfold maxLen; omega)
  have he : (zs ++ ns).length = zs.length + ns.length := List.length_append
  refine ⟨_, _, hr, ?_, (Frm.refl [] w).drew.alloc _, ?_⟩
  · unfold Own
    rw [he, bv_append]
    refine ⟨by simp [bv], .inr ⟨w.heap.size, _, _, rfl, Nat.zero_le _, heap_alloc_new w.drew _, hge, hcm, ?_, ?_⟩⟩
    · simp only [Array.size_append, List.size_toArray, size_zeroCells, bv_length]
      rw [show (Value.int IntKind.u8 0).cells.size = 1 from rfl]
      omega
    · simp only [Array.toList_append, List.append_assoc]
      rw [← List.append_assoc]
      have hl : (bv zs ++ bv ns).length = (zs.length + ns.length) * 1 := by simp [bv]
      rw [← hl]
      exact List.take_left
  · intro k hk
    simp [Value.ownBlock] at hk
    omega
theorem wpList_appC {ops : Array Oper} {rest : List Oper} {o : Oper} {a : Act} {Q : Exit → Act → World → Prop} (hgd : o.guard = none) (s x : Operand) (t : TypeId)
    (ho : o.op = .call { callee := .builtin .append, args := #[s, x], argTypes := #[t, t] })
    (E : TypeId) (ht : P.underlying t = some (.slice E)) (hI : (P.info? E).map (fun i => (i.zero, i.size, i.bytes)) = some (some (.int .u8 0), 1, 1))
    (g0 f0 n0 : Nat) (zs : List Int) (hs : a.eval s = .slice (some ⟨g0, f0, none⟩) n0 n0) (hn0 : n0 = zs.length) (hz : Rd w (some ⟨g0, f0, none⟩) zs)
    (p : Option Addr) (n c : Nat) (ns : List Int) (hx : a.eval x = .slice p n c) (hn : n = ns.length) (hne : ns ≠ []) (hrd : Rd w p ns) (hsz : zs.length + ns.length ≤ 1000000)
    (h : ∀ xs p2 c2 w', Hid (xs = zs ++ ns) → Hid (Own w' E (.slice p2 xs.length c2) xs) → Hid (Frm [] w w') → Hid (∀ k ∈ blk p2, w.heap.size ≤ k) → wpList P ops Q rest (a.put o.dst (.slice p2 xs.length c2)) w') :
    wpList P ops Q (o :: rest) a w := by
  refine wpList_plain hgd fun K hK => ?_
  subst hn
  subst hn0
  obtain ⟨v', w', hrun, h1, h2, h3⟩ := run_appC (P := P) (w := w) t o.type E ht hI g0 f0 zs hz p c ns hne hrd hsz
  obtain ⟨xs, hxs⟩ : ∃ xs, xs = zs ++ ns := ⟨_, rfl⟩
  rw [← hxs] at h1
  obtain ⟨p2, c2, rfl, _, _, _, hb⟩ := h1.shape
  rw [hb] at h3
  unfold Oper.wp
  simp [execOp, ho, resolve, invoke, builtin, hs, hx, hrun, Result.andThen]
  exact hK _ _ (h xs p2 c2 w' hxs h1 h2 h3)
end
set_option maxHeartbeats 1600000 in
/-- A number behind a full row that is only read. -/
theorem refNumC_any (g n : Nat) (zs : List Int) (v : Int) (k : Nat) (w : World) (hz : Rd w (some ⟨g, 0, none⟩) zs) (hl : zs.length = n) (hv : 0 ≤ v ∧ v < 18446744073709551616) (hk : k ≤ 8) (hk1 : 1 ≤ k) (hn : n ≤ 100000) :
    Calls Tryd.prog 32 #[.slice (some ⟨g, 0, none⟩) n n, .int .u64 v, .int .i64 (k : Int)] w fun e w' => ∃ p' c', e = .returned (.slice p' (n + k) c') ∧ Own w' 5 (.slice p' (n + k) c') (zs ++ le v k) ∧ Frm [] w w' ∧ ∀ i ∈ blk p', w.heap.size ≤ i := by
  have HZ := hid hz
  have HF := hid (form_any v k hv.1 hv.2 hk w)
  clear hz
  go_enter Tryd.func32, Tryd.ntmps32
  go_wp2_with fail
  refine HF.out.mono ?_
  rintro e w1 ⟨q, d, ok, rfl, ho1, _, hf1, hb1⟩
  have HZ1 := hid (HZ.out.kept hf1 (by simp))
  have HQ := hid ho1
  have HF1 := hid hf1
  have hne : le v k ≠ [] := fun h => by have := le_length v k; rw [h] at this; simp at this; omega
  clear ho1 hf1 hb1 HF
  go_wp2_with (at_builtin; refine wpList_appC rfl _ _ 28 rfl 5 Tryd.underlying28 infoB g 0 n zs rfl hl.symm HZ1.out q k d (le v k) rfl (le_length v k).symm hne HQ.out.rd (by rw [hl, le_length]; omega) ?_)
  intro xs p2 c2 w2 hxs ho hf hfr
  have hx := hxs.out
  have hxl : xs.length = n + k := by rw [hx, List.length_append, hl, le_length]
  have HB : Hid (Own w2 5 (.slice p2 (n + k) c2) (zs ++ le v k)) := hid (by
    have h1 := ho.out
    rwa [hxl, hx] at h1)
  have HF2 := hid (HF1.out.trans hf.out (by simp))
  have HNW : Hid (∀ i ∈ blk p2, w.heap.size ≤ i) := hid (fun i hi => Nat.le_trans HF1.out.size (hfr.out i hi))
  rw [hxl]
  clear hxs ho hf hfr hx hxl hne
  go_wp2_with fail
  go_returns
  exact ⟨p2, c2, rfl, HB.out, HF2.out, HNW.out⟩
set_option maxHeartbeats 1600000 in
theorem refCheckU_any (u : U12) (w : World) :
    Calls Tryd.prog 23 #[.agg u.arr] w fun e w' => e = .returned (.int .i64 (checkU u)) ∧ Frm [] w w' := by
  have HCK := hid (fun W => refCheck9_any u.root W)
  obtain ⟨C, hC⟩ : ∃ C, checkP u.root = C := ⟨_, rfl⟩
  obtain ⟨R, hR⟩ : ∃ R, checkU u = R := ⟨_, rfl⟩
  have HR : Hid ((1 ≤ u.txg ∧ u.txg ≤ 281474976710656 ∧ C = 0 ∧ u.root.birth ≤ u.txg ∧ R = 0) ∨ (¬ (1 ≤ u.txg ∧ u.txg ≤ 281474976710656 ∧ C = 0 ∧ u.root.birth ≤ u.txg) ∧ R = 44)) := hid (by
    rw [← hR, ← hC]
    unfold checkU
    by_cases h : 1 ≤ u.txg ∧ u.txg ≤ 281474976710656 ∧ checkP u.root = 0 ∧ u.root.birth ≤ u.txg
    · rw [if_pos h]; exact Or.inl ⟨h.1, h.2.1, h.2.2.1, h.2.2.2, rfl⟩
    · rw [if_neg h]; exact Or.inr ⟨h, rfl⟩)
  rw [hC] at HCK
  rw [hR]
  have HROW := hid (heap_alloc_new w (.cells #[.int .u64 u.pool, .int .u64 u.txg, .int .u64 u.note, .int .i64 u.root.top, .int .i64 u.root.at_, .int .i64 u.root.bytes, .int .u64 u.root.birth, .int .i64 u.root.kind, .int .u64 u.root.sa, .int .u64 u.root.sb, .int .u64 u.root.sc, .int .u64 u.root.sd] 45))
  have HFA : Hid (Frm [] w (w.alloc (.cells #[.int .u64 u.pool, .int .u64 u.txg, .int .u64 u.note, .int .i64 u.root.top, .int .i64 u.root.at_, .int .i64 u.root.bytes, .int .u64 u.root.birth, .int .i64 u.root.kind, .int .u64 u.root.sa, .int .u64 u.root.sb, .int .u64 u.root.sc, .int .u64 u.root.sd] 45))) := hid ((Frm.refl _ _).alloc _)
  unfold P9.arr at HCK
  unfold U12.arr
  clear hC hR
  go_enter Tryd.func23, Tryd.ntmps23
  go_wp2_with fail
  refine (HCK.out _).mono ?_
  rintro e w1 ⟨rfl, hf1⟩
  have hr1 := hf1.heap HROW.out (by simp)
  obtain ⟨q0, q1, q2, q3, q4, q5, q6, q7, q8, q9, q10, q11⟩ := uber_cells hr1
  have HF1 := hid (HFA.out.trans hf1 (by simp))
  clear hr1 hf1 HCK HROW q0 q2 q3 q4 q5 q7 q8 q9 q10 q11
  by_cases h1 : u.txg < 1
  · go_wp2_with fail
    go_returns
    exact ⟨by have h := HR.out; rw [show R = 44 by omega]; rfl, HF1.out⟩
  by_cases h2 : u.txg ≤ 281474976710656
  case neg =>
    have h2' : 281474976710656 < u.txg := by omega
    go_wp2_with fail
    go_returns
    exact ⟨by have h := HR.out; rw [show R = 44 by omega]; rfl, HF1.out⟩
  by_cases h3 : C = 0
  case neg =>
    have hb : (C != 0) = true := by simpa using h3
    go_wp2_with fail
    go_returns
    exact ⟨by have h := HR.out; rw [show R = 44 by omega]; rfl, HF1.out⟩
  subst h3
  by_cases h4 : u.txg < u.root.birth
  · go_wp2_with fail
    go_returns
    exact ⟨by have h := HR.out; rw [show R = 44 by omega]; rfl, HF1.out⟩
  · go_wp2_with fail
    go_returns
    have hR0 : R = 0 := by
      rcases HR.out with h | h
      · exact h.2.2.2.2
      · exact absurd (by refine ⟨by omega, by omega, ?_, by omega⟩; first | rfl | trivial | assumption) h.1
    exact ⟨by rw [hR0]; rfl, HF1.out⟩
set_option maxHeartbeats 1600000 in
theorem refSummed_any (p : Option Addr) (n c : Nat) (zs : List Int) (w : World) (ho : Own w 5 (.slice p n c) zs) (hb : ∀ z ∈ zs, 0 ≤ z ∧ z < 256) (hn : n ≤ 96) :
    Calls Tryd.prog 38 #[.slice p n c] w fun e w' => ∃ p' c', e = .returned (.slice p' 128 c') ∧ BufN w p w' p' 128 c' (sealB (zs ++ List.replicate (96 - n) 0)) := by
  have HPD := hid (refPad_any p n c zs 96 w ho hn (by omega))
  have hzb : ∀ z ∈ zs ++ List.replicate (96 - n) 0, 0 ≤ z ∧ z < 256 := app_byte hb (rep_byte _)
  obtain ⟨ys, hys⟩ : ∃ ys, zs ++ List.replicate (96 - n) 0 = ys := ⟨_, rfl⟩
  rw [hys] at HPD hzb
  rw [hys]
  have HZB := hid hzb
  have HFO := hid (fletch_ok ys)
  have HSB : Hid (sealB ys = ys ++ sumL (fletch ys).a (fletch ys).b (fletch ys).c (fletch ys).d) := hid rfl
  have HFL := hid (fun q d W (h : Rd W q ys) (hl : ys.length = 96) => refFl_any q 96 d ys W hl (by omega) h hzb)
  obtain ⟨X, hX⟩ : ∃ X, fletch ys = X := ⟨_, rfl⟩
  rw [hX] at HFO HSB HFL
  unfold S4.arr at HFL
  clear ho hb hzb hys hX
  go_enter Tryd.func38, Tryd.ntmps38
  go_wp2_with fail
  refine HPD.out.mono ?_
  rintro e w1 ⟨p1, c1, rfl, b1⟩
  have B1 := hid b1
  clear b1 HPD
  go_wp2_with fail
  refine (HFL.out p1 c1 w1 B1.out.own.rd B1.out.len).mono ?_
  rintro e w2 ⟨rfl, hf2⟩
  have B2 := hid (B1.out.post hf2)
  clear hf2 B1 HFL
  go_wp2_with fail
  refine (refSums_any p1 96 c1 ys X.a X.b X.c X.d w2 B2.out.own HFO.out.1 HFO.out.2.1 HFO.out.2.2.1 HFO.out.2.2.2 (by omega)).mono ?_
  rintro e w3 ⟨p3, c3, rfl, b3⟩
  have B3 : Hid (BufN w p w3 p3 128 c3 (sealB ys)) := hid (by rw [HSB.out]; exact B2.out.trans b3)
  clear b3 B2
  go_wp2_with fail
  go_returns
  exact ⟨p3, c3, rfl, B3.out⟩
end
section
open Go.RowKit
set_option maxRecDepth 100000

theorem uberB_parts (u : U12) : ([85, 67, 85, 66] ++ le u.pool 8 ++ le u.txg 8 ++ le u.note 8 ++ ptrB u.root) ++ List.replicate 4 0 = uberB u := by
  have h : (List.replicate 16 (0 : Int)) ++ List.replicate 4 0 = List.replicate 20 0 := rfl
  unfold uberB bodyU ptrB
  simp only [List.append_assoc, h]
set_option maxHeartbeats 3200000 in
theorem refEncodeU_any (u : U12) (hu : u.ok) (w : World) :
    Calls Tryd.prog 21 #[.agg u.arr] w (EncD w (sealB (uberB u)) (checkU u)) := by
  have HU := hid hu
  have HCK := hid (fun W => refCheckU_any u W)
  have HEP := hid (fun W => refEncode_any u.root hu.root W)
  have HCR : Hid (checkU u = 0 → checkP u.root = 0) := hid checkU_root
  obtain ⟨C, hC⟩ : ∃ C, checkU u = C := ⟨_, rfl⟩
  rw [hC] at HCK HCR ⊢
  obtain ⟨PO, hPO⟩ : ∃ PO, EncD w (sealB (uberB u)) C = PO := ⟨_, rfl⟩
  rw [hPO]
  have HPO := hid hPO
  have HROW := hid (heap_alloc_new w (.cells u.arr 45))
  have HFA : Hid (Frm [] w (w.alloc (.cells u.arr 45))) := hid ((Frm.refl _ _).alloc _)
  clear hu hC hPO
  unfold U12.arr at HCK HROW HFA ⊢
  unfold P9.arr at HEP
  obtain ⟨pb, hpb⟩ : ∃ pb, w.heap.size = pb := ⟨_, rfl⟩
  obtain ⟨wa, hwa⟩ : ∃ wa, w.alloc (.cells #[.int .u64 u.pool, .int .u64 u.txg, .int .u64 u.note, .int .i64 u.root.top, .int .i64 u.root.at_, .int .i64 u.root.bytes, .int .u64 u.root.birth, .int .i64 u.root.kind, .int .u64 u.root.sa, .int .u64 u.root.sb, .int .u64 u.root.sc, .int .u64 u.root.sd] 45) = wa := ⟨_, rfl⟩
  rw [hwa] at HFA
  rw [hwa, hpb] at HROW
  have HPB := hid hpb
  obtain ⟨q0, q1, q2, q3, q4, q5, q6, q7, q8, q9, q10, q11⟩ := uber_cells HROW.out
  go_enter Tryd.func21, Tryd.ntmps21
  go_wp2_with fail
  refine (HCK.out wa).mono ?_
  rintro e w1 ⟨rfl, hf1⟩
  have HF1 := hid (HFA.out.trans hf1 (by simp))
  have HR1 := hid (hf1.heap HROW.out (by simp))
  clear hf1 q0 q1 q2 q3 q4 q5 q6 q7 q8 q9 q10 q11 hwa hpb HROW HFA
  by_cases hC0 : C = 0
  case neg =>
    have hb : (C != 0) = true := by simpa using hC0
    go_wp2_with fail
    rw [← HPO.out]
    exact Or.inl ⟨hC0, rfl, HF1.out⟩
  subst hC0
  have HC0 := hid (HCR.out rfl)
  have hfb : Frm [] w1 (w1.alloc (.cells #[.int .u8 85, .int .u8 67, .int .u8 85, .int .u8 66] 5 (4, 5))) := (Frm.refl _ _).alloc _
  have hcv := conv_const w1 #[.int .u8 85, .int .u8 67, .int .u8 85, .int .u8 66] 4 4
  have HRD := hid (rd_markP (w := w1) (zs := [85, 67, 85, 66]) (E := 5) (fr := (4, 5)))
  have hrb := hfb.heap HR1.out (by simp)
  have q0 := (uber_cells hrb).1
  have HRB := hid hrb
  have HFB := hid (HF1.out.trans hfb (by simp))
  clear hfb hrb HR1 HCR
  go_wp2_with fail
  obtain ⟨gb, hgb⟩ : ∃ gb, w1.heap.size = gb := ⟨_, rfl⟩
  obtain ⟨wb, hwb⟩ : ∃ wb, w1.alloc (.cells #[.int .u8 85, .int .u8 67, .int .u8 85, .int .u8 66] 5 (4, 5)) = wb := ⟨_, rfl⟩
  have hrd : Rd (w1.alloc (.cells #[.int .u8 85, .int .u8 67, .int .u8 85, .int .u8 66] 5 (4, 5))) (some ⟨w1.heap.size, 0, none⟩) [85, 67, 85, 66] := HRD.out
  rw [hwb] at HRB HFB hrd
  rw [hgb] at hrd
  rw [hwb, hgb]
  have HRD2 := hid hrd
  clear hrd HRD hcv q0 hwb hgb
  have h1 := refNumC_any gb 4 [85, 67, 85, 66] u.pool 8 wb HRD2.out rfl HU.out.pool (by omega) (by omega) (by omega)
  refine h1.mono ?_
  rintro e x1 ⟨p1, c1, rfl, o1, f1, n1⟩
  have B1 : Hid (BufN x1 p1 x1 p1 (4 + 8) c1 ([85, 67, 85, 66] ++ le u.pool 8)) := hid ⟨o1, by simp [le_length], Frm.refl _ _, fun i hi => Or.inl hi⟩
  have hr1 := f1.heap HRB.out (by simp)
  have R1 := hid hr1
  have HFX := hid (HFB.out.trans f1 (by simp))
  have HG1 : Hid (∀ i ∈ blk p1, w.heap.size ≤ i ∧ pb < i) := hid (fun i hi => by have h1 := n1 i hi; have h2 := lt_of_heap HRB.out; have h3 := HFB.out.size; exact ⟨by omega, by omega⟩)
  have N1 : Hid (pb ∉ blk p1) := hid (fun h => by have := (HG1.out _ h).2; omega)
  clear h1 o1 f1 n1 HRB HFB HRD2 HF1
  obtain ⟨q0, q1, q2, q3, q4, q5, q6, q7, q8, q9, q10, q11⟩ := uber_cells hr1
  clear hr1
  go_wp2_with fail
  have h2 := refNum_any p1 (4 + 8) c1 _ u.txg 8 x1 B1.out.own HU.out.txg (by omega) (by omega)
  refine h2.mono ?_
  rintro e x2 ⟨p2, c2, rfl, b2⟩
  have B2 := hid (B1.out.trans b2)
  have hr2 := b2.fr.heap R1.out N1.out
  have R2 := hid hr2
  have N2 : Hid (pb ∉ blk p2) := hid (fun h => (b2.bk pb h).elim N1.out (fun h => by have := lt_of_heap R1.out; omega))
  clear h2 b2 q0 q1 q2 q3 q4 q5 q6 q7 q8 q9 q10 q11 B1 N1 R1
  obtain ⟨q0, q1, q2, q3, q4, q5, q6, q7, q8, q9, q10, q11⟩ := uber_cells hr2
  clear hr2
  go_wp2_with fail
  have h3 := refNum_any p2 (4 + 8 + 8) c2 _ u.note 8 x2 B2.out.own HU.out.note (by omega) (by omega)
  refine h3.mono ?_
  rintro e x3 ⟨p3, c3, rfl, b3⟩
  have B3 := hid (B2.out.trans b3)
  have hr3 := b3.fr.heap R2.out N2.out
  have R3 := hid hr3
  have N3 : Hid (pb ∉ blk p3) := hid (fun h => (b3.bk pb h).elim N2.out (fun h => by have := lt_of_heap R2.out; omega))
  clear h3 b3 q0 q1 q2 q3 q4 q5 q6 q7 q8 q9 q10 q11 B2 N2 R2
  obtain ⟨q0, q1, q2, q3, q4, q5, q6, q7, q8, q9, q10, q11⟩ := uber_cells hr3
  clear hr3
  go_wp2_with fail
  refine (HEP.out x3).mono ?_
  rintro e x4 (⟨he, _⟩ | ⟨_, q, n, c, rfl, hn, hq, hf4, hs4⟩)
  · exact absurd HC0.out he
  obtain rfl : n = 64 := by rw [hn, ptrB_length]
  have HQ := hid hq
  have B4 := hid (B3.out.post hf4)
  have hqc := (own_capF hq).2.2
  clear hf4 hs4 hn hq q0 q1 q2 q3 q4 q5 q6 q7 q8 q9 q10 q11 B3 HEP
  obtain ⟨Z, hZ⟩ : ∃ Z, [85, 67, 85, 66] ++ le u.pool 8 ++ le u.txg 8 ++ le u.note 8 = Z := ⟨_, rfl⟩
  have hzl : Z.length = 4 + 8 + 8 + 8 := by rw [← hZ]; simp [le_length]
  rw [hZ] at B4
  have HZZ := hid hZ
  clear hZ
  go_wp2_with (at_builtin; refine wpList_appB rfl _ _ 28 rfl 5 Tryd.underlying28 infoB p3 _ c3 Z rfl hzl.symm (by rw [hzl]; exact B4.out.own) q 64 c (ptrB u.root) rfl (ptrB_length _).symm (fun _ => hqc) HQ.out.rd (by rw [hzl, ptrB_length]; omega) ?_)
  intro xs p5 c5 x5 hxs ho5 hf5 hfr5
  obtain ⟨Y, hY⟩ : ∃ Y, Z ++ ptrB u.root = Y := ⟨_, rfl⟩
  have hx : xs = Y := by rw [hxs.out, hY]
  have hxl : xs.length = 92 := by rw [hxs.out, List.length_append, hzl, ptrB_length]
  have HYB : Hid (∀ z ∈ Y, 0 ≤ z ∧ z < 256) := hid (by rw [← hY, ← HZZ.out]; exact app_byte (app_byte (app_byte (app_byte (by simp) (le_byte _ _)) (le_byte _ _)) (le_byte _ _)) (app_byte (bodyP_byte _) (rep_byte 16)))
  have HYU : Hid (Y ++ List.replicate (96 - 92) 0 = uberB u) := hid (by rw [← hY, ← HZZ.out]; exact uberB_parts u)
  have B5 : Hid (BufN x1 p1 x5 p5 92 c5 Y) := hid (by
    have h1 := ho5.out
    rw [hxl, hx] at h1
    exact B4.out.trans ⟨h1, by rw [← hx]; exact hxl, hf5.out, hfr5.out⟩)
  rw [hxl]
  clear hxs ho5 hf5 hfr5 hx hxl hzl hY hqc B4 HQ
  go_wp2_with fail
  refine (refSummed_any p5 92 c5 Y x5 B5.out.own HYB.out (by omega)).mono ?_
  rintro e x6 ⟨p6, c6, rfl, b6⟩
  rw [HYU.out] at b6
  have B6 := hid (B5.out.trans b6)
  clear b6 B5
  go_wp2_with fail
  rw [← HPO.out]
  refine Or.inr ⟨rfl, p6, 128, c6, rfl, B6.out.len.symm, B6.out.own, HFX.out.trans B6.out.fr (fun i hi hl => by have := (HG1.out i hi).1; omega), fun i hi => ?_⟩
  rcases B6.out.bk i hi with h | h
  · exact (HG1.out i h).1
  · exact Nat.le_trans HFX.out.size h
end
end Go.Proofs.YtdnnbinmippkdaaDoor
