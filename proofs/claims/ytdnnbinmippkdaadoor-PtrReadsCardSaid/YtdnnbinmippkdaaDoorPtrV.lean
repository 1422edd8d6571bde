/- Contracts of package ptr: Decode of a label. -/
import Derived.Test.YtdnnbinmippkdaaDoorPtrU
import Derived.Test.YtdnnbinmippkdaaDoorPtrS
namespace Go.Proofs.YtdnnbinmippkdaaDoor
open Go.RowKit
set_option maxRecDepth 100000

def zeroL : LabV := ⟨0, none, 0, 0, 0, 0, []⟩
/-- A label's block. -/
def labAt (bs : List Int) (p : Option Addr) (c : Nat) : LabV := ⟨valAt bs 4 8, p, manyL bs, c, valAt bs 12 1, valAt bs 13 1, topsAt bs (manyL bs)⟩
/-- What a body of 96 bytes is taken for. -/
def decBL (bs : List Int) : LabV × Int :=
  if okL bs = false then (zeroL, 43) else if (bs.drop (15 + 6 * manyL bs)).all (· == 0) = false then (zeroL, 43) else if checkL (labAt bs none 0) = 0 then (labAt bs none 0, 0) else (zeroL, checkL (labAt bs none 0))
/-- The same label, whatever its list's place. -/
def LabV.same (a b : LabV) : Prop := a.pool = b.pool ∧ a.n = b.n ∧ a.top = b.top ∧ a.place = b.place ∧ a.ts = b.ts
/-- What a label's decoding answers. -/
def DecA (w : World) (R : LabV × Int) (e : Ending) (w' : World) : Prop :=
  ∃ l : LabV, e = .returned (.tuple #[.agg l.arr, .int .i64 R.2]) ∧ l.ok w' ∧ l.same R.1 ∧ (∀ k ∈ blk l.p, w.heap.size ≤ k) ∧ Frm [] w w'
theorem zeroL_ok (w : World) : zeroL.ok w := ⟨rfl, Or.inl rfl, Nat.le_refl _, by show (0 : Nat) ≤ 9223372036854775807; omega, by show (0 : Int) ≤ 0 ∧ (0 : Int) < 18446744073709551616; omega, by show (-9223372036854775808 : Int) ≤ 0 ∧ (0 : Int) ≤ 9223372036854775807; omega⟩
theorem spT_get (ts : List T3) : ∀ i, i < ts.length → (spT ts)[i * 3]? = some (.int .i64 (ts.getD i default).kind) ∧ (spT ts)[i * 3 + 1]? = some (.int .i64 (ts.getD i default).leaves) ∧ (spT ts)[i * 3 + 2]? = some (.int .i64 (ts.getD i default).sectors) := by
  induction ts with
  | nil => intro i hi; simp at hi
  | cons t ts ih =>
    intro i hi
    have he : spT (t :: ts) = [.int .i64 t.kind, .int .i64 t.leaves, .int .i64 t.sectors] ++ spT ts := rfl
    cases i with
    | zero => rw [he]; exact ⟨rfl, rfl, rfl⟩
    | succ i =>
      obtain ⟨h0, h1, h2⟩ := ih i (by simpa using hi)
      rw [he, show (i + 1) * 3 = 3 + i * 3 by omega]
      refine ⟨?_, ?_, ?_⟩
      · rw [List.getElem?_append_right (by simp)]; simpa using h0
      · rw [show 3 + i * 3 + 1 = 3 + (i * 3 + 1) by omega, List.getElem?_append_right (by simp)]; simpa using h1
      · rw [show 3 + i * 3 + 2 = 3 + (i * 3 + 2) by omega, List.getElem?_append_right (by simp)]; simpa using h2
theorem rdT_of_own {w : World} {p : Option Addr} {c m : Nat} {ts : List T3} (h : w.ownsRow 0 39 3 (.slice p m c) m (spT ts)) (hl : ts.length = m) : RdT w p ts ∧ m ≤ c ∧ c ≤ maxLen := by
  have h' := h
  obtain ⟨_, h1 | ⟨g, cap, cur, he, _, _, hc1, hc2, _⟩⟩ := h
  · simp only [Value.slice.injEq] at h1
    obtain ⟨⟨rfl, rfl, rfl⟩, _⟩ := h1
    exact ⟨Or.inl (List.eq_nil_of_length_eq_zero hl), Nat.le_refl _, by unfold maxLen; omega⟩
  · simp only [Value.slice.injEq] at he
    obtain ⟨rfl, _, rfl⟩ := he
    refine ⟨Or.inr ⟨g, 0, rfl, fun i hi => ?_⟩, hc1, hc2⟩
    obtain ⟨h0, h1, h2⟩ := spT_get ts i hi
    have hl3 := spT_length ts
    refine ⟨?_, ?_, ?_⟩
    · rw [Nat.zero_add, World.ownsRow.cellAt h' (i * 3) (by omega), h0]
    · rw [Nat.zero_add, World.ownsRow.cellAt h' (i * 3 + 1) (by omega), h1]
    · rw [Nat.zero_add, World.ownsRow.cellAt h' (i * 3 + 2) (by omega), h2]
/-- A label is stored. -/
def st4 (w : World) (b : Nat) (l : LabV) : World :=
  ((((w.setCell ⟨b, 0, none⟩ (.int .u64 l.pool)).setCell ⟨b, 1, none⟩ (.slice l.p l.n l.c)).setCell ⟨b, 2, none⟩ (.int .i64 l.top)).setCell ⟨b, 3, none⟩ (.int .i64 l.place))
theorem st4_row {w : World} {b : Nat} {T : TypeId} (l q : LabV) (h : w.heap[b]? = some (.cells q.arr T (0, 0))) : (st4 w b l).heap[b]? = some (.cells l.arr T (0, 0)) ∧ Frm [b] w (st4 w b l) := by
  have h4 := sets_row b T [(0, .int .u64 l.pool), (1, .slice l.p l.n l.c), (2, .int .i64 l.top), (3, .int .i64 l.place)] w q.arr h
  unfold LabV.arr at h4 ⊢
  simp only [List.foldl, List.setIfInBounds_toArray, List.set_cons_zero, List.set_cons_succ] at h4
  exact h4
theorem lb_row {W : World} {pb : Nat} {l : LabV} {T : TypeId} (h : W.heap[pb]? = some (.cells l.arr T (0, 0))) :
    W.cell? ⟨pb, 0, none⟩ = some (.int .u64 l.pool) ∧ W.cell? ⟨pb, 1, none⟩ = some (.slice l.p l.n l.c) ∧ W.cell? ⟨pb, 2, none⟩ = some (.int .i64 l.top) ∧ W.cell? ⟨pb, 3, none⟩ = some (.int .i64 l.place) := by
  refine ⟨?_, ?_, ?_, ?_⟩ <;> (rw [cell_of_row W _ _ _ _ _ h]; rfl)
theorem lb_froz {W : World} {pb : Nat} {l : LabV} {T : TypeId} (h : W.heap[pb]? = some (.cells l.arr T (0, 0))) :
    W.frozen? ⟨pb, 0, none⟩ = false ∧ W.frozen? ⟨pb, 1, none⟩ = false ∧ W.frozen? ⟨pb, 2, none⟩ = false ∧ W.frozen? ⟨pb, 3, none⟩ = false :=
  ⟨frozen_of_row W pb 0 _ _ h, frozen_of_row W pb 1 _ _ h, frozen_of_row W pb 2 _ _ h, frozen_of_row W pb 3 _ _ h⟩
set_option maxHeartbeats 3200000 in
theorem takeLabel_any (ad : Option Addr) (c0 : Nat) (bs : List Int) (w : World) (hn : bs.length = 96) (hrd : Rd w ad bs) (hb : ∀ z ∈ bs, 0 ≤ z ∧ z < 256) :
    Calls Tryd.prog 49 #[.slice ad 96 c0, .int .i64 96, .func (.func 50) #[] #[], .int .i64 43, .func (.func 18) #[] #[]] w (DecA w (decBL bs)) := by
  have HRD := hid hrd
  have HB := hid hb
  have HN := hid hn
  obtain ⟨vb0, vb1⟩ := valAt_bd hb 4 8 (by omega)
  obtain ⟨tb0, tb1⟩ := valAt_bd hb 12 1 (by omega)
  simp only [Nat.reduceMul, Int.reducePow] at vb1 tb1
  have HBD : Hid ((0 ≤ valAt bs 4 8 ∧ valAt bs 4 8 < 18446744073709551616) ∧ (0 ≤ valAt bs 12 1 ∧ valAt bs 12 1 < 256)) := hid ⟨⟨vb0, vb1⟩, tb0, tb1⟩
  clear hrd hb hn vb0 vb1 tb0 tb1
  have hZ : zeroL.arr = #[.int .u64 0, .slice none 0 0, .int .i64 0, .int .i64 0] := rfl
  have HZ := hid hZ
  have hcf0 := fun b W => callable (P := Tryd.prog) Tryd.func50 (by kernel_rfl) (by kernel_rfl) #[.pointer (some ⟨b, 0, none⟩)] W
  obtain ⟨R, hR⟩ : ∃ R, decBL bs = R := ⟨_, rfl⟩
  obtain ⟨C, hC⟩ : ∃ C, checkL (labAt bs none 0) = C := ⟨_, rfl⟩
  have hR0 : okL bs = false → R = (zeroL, 43) := fun h => by rw [← hR]; unfold decBL; rw [if_pos h]
  have hR1 : okL bs = true → (bs.drop (15 + 6 * manyL bs)).all (· == 0) = false → R = (zeroL, 43) := fun h0 h => by rw [← hR]; unfold decBL; rw [if_neg (by rw [h0]; simp), if_pos h]
  have hR2 : okL bs = true → (bs.drop (15 + 6 * manyL bs)).all (· == 0) = true → C = 0 → R = (labAt bs none 0, 0) := fun h1 h h0 => by rw [← hR]; unfold decBL; rw [if_neg (by rw [h1]; simp), if_neg (by rw [h]; simp), hC, if_pos h0]
  have hR3 : okL bs = true → (bs.drop (15 + 6 * manyL bs)).all (· == 0) = true → C ≠ 0 → R = (zeroL, C) := fun h1 h h0 => by rw [← hR]; unfold decBL; rw [if_neg (by rw [h1]; simp), if_neg (by rw [h]; simp), hC, if_neg h0]
  have HR0 := hid hR0
  have HR1 := hid hR1
  have HR2 := hid hR2
  have HR3 := hid hR3
  have HC := hid hC
  have HG := hid (fun b g W (h : IsR W b g bs 0 0) => getLabel_any b g bs HB.out W h HN.out)
  have HBN := hid (GP2.bornA (T := 37) w zeroL.arr)
  obtain ⟨PO, hPO⟩ : ∃ PO, DecA w R = PO := ⟨_, rfl⟩
  rw [hR, hPO]
  have HPO := hid hPO
  rw [hZ] at HBN
  clear hZ hR0 hR1 hR2 hR3 hC hR hPO
  go_enter Tryd.func49, Tryd.ntmps49
  go_wp2_with fail
  obtain ⟨rb, hrb⟩ : ∃ rb, w.heap.size = rb := ⟨_, rfl⟩
  obtain ⟨wa, hwa⟩ : ∃ wa, (w.alloc (.cells #[.int .u64 0, .slice none 0 0, .int .i64 0, .int .i64 0] 37)).alloc (.cells #[.int .u64 0, .slice none 0 0, .int .i64 0, .int .i64 0] 37) = wa := ⟨_, rfl⟩
  rw [hwa, hrb] at HBN
  rw [hwa, hrb]
  have HRB := hid hrb
  clear hwa hrb
  have h1 := newReader_any ad c0 bs wa (HRD.out.kept HBN.out.2.2 (by simp)) (by rw [HN.out]; omega)
  rw [HN.out] at h1
  refine h1.mono ?_
  rintro e w1 ⟨b, g, rfl, hr, hf, hb1, hg1⟩
  have HBN1 := hid (And.intro (hf.heap HBN.out.1 (by simp)) (And.intro (hf.heap HBN.out.2.1 (by simp)) (HBN.out.2.2.trans hf (by simp))))
  have HRR := hid hr
  have hlt := lt_of_heap HBN.out.2.1
  have HBG : Hid (rb + 1 < b ∧ rb + 1 < g) := hid ⟨by omega, by omega⟩
  clear h1 hr hf hb1 hg1 HBN hlt
  go_wp2_with fail
  have HLT1 := hid (And.intro (lt_of_heap HRR.out.1) (lt_of_heap HRR.out.2.1))
  refine (HG.out b g w1 HRR.out).mono ?_
  rintro e w2 ⟨hf2, ⟨hok, rfl, hr2⟩ | ⟨hok, p, c, rfl, ho2, hnew, hr2⟩⟩
  · have HR2' := hid hr2
    have HOK := hid hok
    have HBN2 := hid (And.intro (hf2.heap HBN1.out.1 (by simp; have := HBG.out; omega)) (And.intro (hf2.heap HBN1.out.2.1 (by simp; have := HBG.out; omega)) (HBN1.out.2.2.trans hf2 (fun i hi hl => by simp at hi; have := HBG.out; have := HRB.out; omega))))
    have HLT := hid (And.intro (lt_of_heap hr2.1) (lt_of_heap hr2.2.1))
    clear hr2 hf2 HBN1 HRR hok
    go_wp2_with fail
    obtain ⟨tb, htb⟩ : ∃ tb, w2.heap.size = tb := ⟨_, rfl⟩
    have hfa : Frm [] w2 (w2.alloc (.cells #[.int .u64 0, .slice none 0 0, .int .i64 0, .int .i64 0] 37)) := (Frm.refl _ _).alloc _
    have htr := heap_alloc_new w2 (.cells #[.int .u64 0, .slice none 0 0, .int .i64 0, .int .i64 0] 37)
    obtain ⟨w3, hw3⟩ : ∃ w3, w2.alloc (.cells #[.int .u64 0, .slice none 0 0, .int .i64 0, .int .i64 0] 37) = w3 := ⟨_, rfl⟩
    rw [hw3] at hfa
    rw [hw3, htb] at htr
    have HLT2 : Hid (b < tb ∧ g < tb) := hid (by rw [← htb]; exact HLT.out)
    rw [hw3, htb]
    have HT : Hid (TK w w3 37 #[.int .u64 0, .slice none 0 0, .int .i64 0, .int .i64 0] #[.int .u64 0, .slice none 0 0, .int .i64 0, .int .i64 0] rb tb) := hid ⟨hfa.heap HBN2.out.1 (by simp), hfa.heap HBN2.out.2.1 (by simp), htr, HBN2.out.2.2.trans hfa (by simp), by rw [HRB.out]; exact Nat.le_refl _⟩
    have HR3' := hid (HR2'.out.kept hfa (by simp) (by simp))
    clear hfa htr hw3 htb HBN2 HLT HR2'
    refine (padR_any b g 15 bs 0 96 w3 HR3'.out (by omega) (by omega)).mono ?_
    rintro e w4 ⟨rfl, _, hf4⟩
    have HT4 := hid (HT.out.call hf4 (by simp; have := HBG.out; omega) (by simp; have := HBG.out; omega) (by simp; have := HLT2.out; omega) (fun i hi => by simp at hi; have := HBG.out; have := HRB.out; omega))
    clear hf4 HT
    obtain ⟨q0, q1, q2, q3⟩ := lb_row (l := zeroL) HT4.out.nr
    obtain ⟨y0, y1, y2, y3⟩ := lb_row (l := zeroL) HT4.out.rr
    obtain ⟨z0, z1, z2, z3⟩ := lb_froz (l := zeroL) HT4.out.rr
    go_wp2_with fail
    show bodyPost _ _ _ _ _ (st4 w4 rb zeroL)
    obtain ⟨h9, f9⟩ := st4_row zeroL zeroL HT4.out.rr
    obtain ⟨wz, hwz⟩ : ∃ wz, st4 w4 rb zeroL = wz := ⟨_, rfl⟩
    rw [hwz] at h9 f9 ⊢
    obtain ⟨g0, g1, g2, g3⟩ := lb_row (l := zeroL) h9
    unfold zeroL at g0 g1 g2 g3
    clear hwz
    have hfz : Frm [] w wz := HT4.out.fr.trans f9 (fun i hi hl => by simp at hi; have := HT4.out.hr; omega)
    exact bodyPost_ret (v := .tuple #[.agg #[.int .u64 0, .slice none 0 0, .int .i64 0, .int .i64 0], .int .i64 43]) (by simp [results, Tryd.results49, go_sem, g0, g1, g2, g3]) rfl (by rw [← HPO.out]; refine ⟨zeroL, by rw [HR0.out HOK.out]; rfl, zeroL_ok wz, by rw [HR0.out HOK.out]; exact ⟨rfl, rfl, rfl, rfl, rfl⟩, by simp [zeroL, blk], hfz⟩)
  · have HOK := hid hok
    have hmany : manyL bs ≤ 4 := by
      have h := hok
      unfold okL at h
      simp only [Bool.and_eq_true, decide_eq_true_eq] at h
      exact h.2
    obtain ⟨l, hl⟩ : ∃ l, labAt bs p c = l := ⟨_, rfl⟩
    have hlp : l.p = p ∧ l.n = manyL bs ∧ l.c = c ∧ l.ts = topsAt bs (manyL bs) ∧ l.pool = valAt bs 4 8 ∧ l.top = valAt bs 12 1 ∧ l.place = valAt bs 13 1 := by rw [← hl]; exact ⟨rfl, rfl, rfl, rfl, rfl, rfl, rfl⟩
    have HCC : Hid (checkL l = C) := hid (by rw [← hl, ← HC.out]; rfl)
    have HLP := hid hlp
    obtain ⟨e1, e2, e3, e4, e5, e6, e7⟩ := hlp
    rw [← e5, ← e1, ← e2, ← e3, ← e6, ← e7]
    rw [← e1, ← e2, ← e3] at ho2
    rw [show topsAt bs l.n = l.ts by rw [e4, e2]] at ho2
    rw [← e1] at hnew
    obtain ⟨q, hq⟩ : ∃ q, 15 + 6 * manyL bs = q := ⟨_, rfl⟩
    have hq96 : q ≤ 96 := by omega
    rw [← e2] at hr2
    rw [show 15 + 6 * l.n = q by rw [e2]; exact hq] at hr2
    have HQ := hid hq
    have HO2 := hid ho2
    have HNEW : Hid (∀ k ∈ blk l.p, w.heap.size ≤ k ∧ k ≠ b ∧ rb < k) := hid (fun k hk => by have h := hnew k hk; have h2 := HBN1.out.2.2.size; exact ⟨by omega, by have := HLT1.out.1; omega, by have := HLT1.out.1; have := HBG.out.1; omega⟩)
    clear e1 e2 e3 e4 e5 e6 e7 hnew ho2 hl hq hmany
    have HR2' := hid hr2
    have HBN2 := hid (And.intro (hf2.heap HBN1.out.1 (by simp; have := HBG.out; omega)) (And.intro (hf2.heap HBN1.out.2.1 (by simp; have := HBG.out; omega)) (HBN1.out.2.2.trans hf2 (fun i hi hl => by simp at hi; have := HBG.out; have := HRB.out; omega))))
    have HLT := hid (And.intro (lt_of_heap hr2.1) (lt_of_heap hr2.2.1))
    clear hr2 hf2 HBN1 HRR hok
    go_wp2_with fail
    obtain ⟨tb, htb⟩ : ∃ tb, w2.heap.size = tb := ⟨_, rfl⟩
    have hfa : Frm [] w2 (w2.alloc (.cells #[.int .u64 l.pool, .slice l.p l.n l.c, .int .i64 l.top, .int .i64 l.place] 37)) := (Frm.refl _ _).alloc _
    have htr := heap_alloc_new w2 (.cells #[.int .u64 l.pool, .slice l.p l.n l.c, .int .i64 l.top, .int .i64 l.place] 37)
    obtain ⟨w3, hw3⟩ : ∃ w3, w2.alloc (.cells #[.int .u64 l.pool, .slice l.p l.n l.c, .int .i64 l.top, .int .i64 l.place] 37) = w3 := ⟨_, rfl⟩
    rw [hw3] at hfa
    rw [hw3, htb] at htr
    have HLT2 : Hid (b < tb ∧ g < tb) := hid (by rw [← htb]; exact HLT.out)
    rw [hw3, htb]
    have HT : Hid (TK w w3 37 #[.int .u64 0, .slice none 0 0, .int .i64 0, .int .i64 0] #[.int .u64 l.pool, .slice l.p l.n l.c, .int .i64 l.top, .int .i64 l.place] rb tb) := hid ⟨hfa.heap HBN2.out.1 (by simp), hfa.heap HBN2.out.2.1 (by simp), htr, HBN2.out.2.2.trans hfa (by simp), by rw [HRB.out]; exact Nat.le_refl _⟩
    have HR3' := hid (HR2'.out.kept hfa (by simp) (by simp))
    have HO3 := hid (ownsRow_kept HO2.out hfa (by simp))
    clear hfa htr hw3 htb HBN2 HLT HR2'
    have hpe : readS () q 0 (padT (bs.drop q) q 96) = if (bs.drop q).all (· == 0) then ((), 96, 0) else ((), q, 14) := pad_end bs q 96 HN.out hq96
    have h4 := padR_any b g q bs 0 96 w3 HR3'.out (by omega) (by omega)
    rw [hpe] at h4
    refine h4.mono ?_
    clear h4 hpe HR3'
    rintro e w4 ⟨rfl, hr4, hf4⟩
    have HT4 := hid (HT.out.call hf4 (by simp; have := HBG.out; omega) (by simp; have := HBG.out; omega) (by simp; have := HLT2.out; omega) (fun i hi => by simp at hi; have := HBG.out; have := HRB.out; omega))
    have HO4 := hid (ownsRow_kept HO3.out hf4 (fun k hk hm => by simp at hm; exact (HNEW.out k hk).2.1 hm))
    clear hf4 HT HO3 HO2
    by_cases hall : (bs.drop q).all (· == 0) = true
    · rw [if_pos hall] at hr4
      have HR4 := hid hr4
      rw [← HQ.out] at hall
      have HA := hid hall
      clear hr4 hall
      go_wp2_with fail
      have h5 := doneR_any b g 96 bs 0 w4 HR4.out
      rw [show doneS bs.length 96 0 = 0 by unfold doneS; rw [if_neg (by rw [HN.out]; omega)]] at h5
      refine h5.mono ?_
      clear h5
      rintro e w5 ⟨rfl, nq, hq⟩
      have hf5 : Frm [] w4 w5 := by rw [hq]; exact (Frm.refl _ _).drewN _
      have HT5 := hid (HT4.out.call hf5 (by simp) (by simp) (by simp) (by simp))
      have ho5 := ownsRow_kept HO4.out hf5 (by simp)
      have HLO5 : Hid (l.ok w5) := hid (by
        obtain ⟨e1, e2, e3, e4, e5, e6, e7⟩ := HLP.out
        have hlen : l.ts.length = l.n := by rw [e4, topsAt_length, e2]
        obtain ⟨hrt, hm1, hm2⟩ := rdT_of_own ho5 hlen
        exact ⟨hlen, hrt, hm1, by unfold maxLen at hm2; omega, by rw [e5]; exact HBD.out.1, by rw [e6]; have := HBD.out.2; omega⟩)
      have HCK := hid (checkL_any l w5 HLO5.out)
      rw [HCC.out] at HCK
      unfold LabV.arr at HCK
      clear hq hf5 HT4 HR4 HO4 ho5
      obtain ⟨q0, q1, q2, q3⟩ := lb_row (l := l) HT5.out.tr
      go_wp2_with fail
      refine HCK.out.mono ?_
      rintro e w6 ⟨rfl, hf6⟩
      have HT6 := hid (HT5.out.call hf6 (by simp) (by simp) (by simp) (by simp))
      have HLO := hid (HLO5.out.kept hf6)
      have HNR : Hid (rb ∉ blk l.p) := hid (fun h => by have := (HNEW.out _ h).2.2; omega)
      clear hf6 HT5 q0 q1 q2 q3 HCK HLO5
      by_cases hC0 : C = 0
      · subst hC0
        obtain ⟨q0, q1, q2, q3⟩ := lb_row (l := l) HT6.out.tr
        obtain ⟨y0, y1, y2, y3⟩ := lb_row (l := zeroL) HT6.out.rr
        obtain ⟨z0, z1, z2, z3⟩ := lb_froz (l := zeroL) HT6.out.rr
        go_wp2_with fail
        show bodyPost _ _ _ _ _ (st4 w6 rb l)
        obtain ⟨h9, f9⟩ := st4_row l zeroL HT6.out.rr
        obtain ⟨wz, hwz⟩ : ∃ wz, st4 w6 rb l = wz := ⟨_, rfl⟩
        rw [hwz] at h9 f9 ⊢
        obtain ⟨g0, g1, g2, g3⟩ := lb_row (l := l) h9
        clear hwz
        have hfz : Frm [] w wz := HT6.out.fr.trans f9 (fun i hi hl => by simp at hi; have := HT6.out.hr; omega)
        exact bodyPost_ret (v := .tuple #[.agg #[.int .u64 l.pool, .slice l.p l.n l.c, .int .i64 l.top, .int .i64 l.place], .int .i64 0]) (by simp [results, Tryd.results49, go_sem, g0, g1, g2, g3]) rfl (by rw [← HPO.out, HR2.out HOK.out HA.out (by first | rfl | trivial)]; exact ⟨l, rfl, ⟨HLO.out.len, HLO.out.rd.kept f9 (fun k hk hm => by simp at hm; subst hm; exact HNR.out hk), HLO.out.le, HLO.out.mx, HLO.out.pool, HLO.out.top⟩, by obtain ⟨e1, e2, e3, e4, e5, e6, e7⟩ := HLP.out; exact ⟨e5, e2, e6, e7, e4⟩, fun k hk => (HNEW.out k hk).1, hfz⟩)
      · have hb : (C != 0) = true := by simpa using hC0
        obtain ⟨q0, q1, q2, q3⟩ := lb_row (l := zeroL) HT6.out.nr
        obtain ⟨y0, y1, y2, y3⟩ := lb_row (l := zeroL) HT6.out.rr
        obtain ⟨z0, z1, z2, z3⟩ := lb_froz (l := zeroL) HT6.out.rr
        go_wp2_with fail
        show bodyPost _ _ _ _ _ (st4 w6 rb zeroL)
        obtain ⟨h9, f9⟩ := st4_row zeroL zeroL HT6.out.rr
        obtain ⟨wz, hwz⟩ : ∃ wz, st4 w6 rb zeroL = wz := ⟨_, rfl⟩
        rw [hwz] at h9 f9 ⊢
        obtain ⟨g0, g1, g2, g3⟩ := lb_row (l := zeroL) h9
        unfold zeroL at g0 g1 g2 g3
        clear hwz
        have hfz : Frm [] w wz := HT6.out.fr.trans f9 (fun i hi hl => by simp at hi; have := HT6.out.hr; omega)
        exact bodyPost_ret (v := .tuple #[.agg #[.int .u64 0, .slice none 0 0, .int .i64 0, .int .i64 0], .int .i64 C]) (by simp [results, Tryd.results49, go_sem, g0, g1, g2, g3]) rfl (by rw [← HPO.out]; refine ⟨zeroL, by rw [HR3.out HOK.out HA.out hC0]; rfl, zeroL_ok wz, by rw [HR3.out HOK.out HA.out hC0]; exact ⟨rfl, rfl, rfl, rfl, rfl⟩, by simp [zeroL, blk], hfz⟩)
    · rw [if_neg hall] at hr4
      have HR4 := hid hr4
      rw [← HQ.out] at hall
      have HAN := hid (HR1.out HOK.out (by simpa using hall))
      clear hr4 hall
      go_wp2_with fail
      have h5 := doneR_any b g q bs 14 w4 HR4.out
      rw [show doneS bs.length q 14 = 14 by unfold doneS; rw [if_neg (by omega)]] at h5
      refine h5.mono ?_
      clear h5
      rintro e w5 ⟨rfl, nq, hq⟩
      have hf5 : Frm [] w4 w5 := by rw [hq]; exact (Frm.refl _ _).drewN _
      have HT6 := hid (HT4.out.call hf5 (by simp) (by simp) (by simp) (by simp))
      clear hq hf5 HT4 HR4
      obtain ⟨q0, q1, q2, q3⟩ := lb_row (l := zeroL) HT6.out.nr
      obtain ⟨y0, y1, y2, y3⟩ := lb_row (l := zeroL) HT6.out.rr
      obtain ⟨z0, z1, z2, z3⟩ := lb_froz (l := zeroL) HT6.out.rr
      go_wp2_with fail
      show bodyPost _ _ _ _ _ (st4 w5 rb zeroL)
      obtain ⟨h9, f9⟩ := st4_row zeroL zeroL HT6.out.rr
      obtain ⟨wz, hwz⟩ : ∃ wz, st4 w5 rb zeroL = wz := ⟨_, rfl⟩
      rw [hwz] at h9 f9 ⊢
      obtain ⟨g0, g1, g2, g3⟩ := lb_row (l := zeroL) h9
      unfold zeroL at g0 g1 g2 g3
      clear hwz
      have hfz : Frm [] w wz := HT6.out.fr.trans f9 (fun i hi hl => by simp at hi; have := HT6.out.hr; omega)
      exact bodyPost_ret (v := .tuple #[.agg #[.int .u64 0, .slice none 0 0, .int .i64 0, .int .i64 0], .int .i64 43]) (by simp [results, Tryd.results49, go_sem, g0, g1, g2, g3]) rfl (by rw [← HPO.out]; refine ⟨zeroL, by rw [HAN.out]; rfl, zeroL_ok wz, by rw [HAN.out]; exact ⟨rfl, rfl, rfl, rfl, rfl⟩, by simp [zeroL, blk], hfz⟩)
end Go.Proofs.YtdnnbinmippkdaaDoor
