/- The law PtrLabels. -/
import Derived.Test.YtdnnbinmippkdaaDoorPtrBo
import Derived.Test.YtdnnbinmippkdaaDoorPtrAd
import Derived.Test.YtdnnbinmippkdaaDoorPtrAe
namespace Go.Proofs.YtdnnbinmippkdaaDoor
open Go.RowKit
set_option maxRecDepth 100000

theorem spT_app (a b : List T3) : spT (a ++ b) = spT a ++ spT b := by simp [spT]
theorem rv_of_rdT {w : World} {p : Option Addr} {ts : List T3} (h : RdT w p ts) : Rv w p (spT ts) := by
  rcases h with rfl | ⟨g, o, rfl, h⟩
  · exact Or.inl rfl
  · by_cases hn : ts = []
    · subst hn
      exact Or.inl rfl
    · refine Or.inr ⟨g, o, rfl, fun j u hu => ?_⟩
      have hl : j < ts.length * 3 := by have h1 := (List.getElem?_eq_some_iff.1 hu).1; rwa [spT_length] at h1
      obtain ⟨s0, s1, s2⟩ := spT_get ts (j / 3) (by omega)
      obtain ⟨c0, c1, c2⟩ := h (j / 3) (by omega)
      have h3 : j % 3 = 0 ∨ j % 3 = 1 ∨ j % 3 = 2 := by omega
      rcases h3 with h3 | h3 | h3
      · have e : j = j / 3 * 3 := by omega
        rw [e] at hu ⊢
        rw [c0, ← s0]
        exact hu
      · have e : j = j / 3 * 3 + 1 := by omega
        rw [e] at hu ⊢
        rw [← Nat.add_assoc, c1, ← s1]
        exact hu
      · have e : j = j / 3 * 3 + 2 := by omega
        rw [e] at hu ⊢
        rw [← Nat.add_assoc, c2, ← s2]
        exact hu
theorem spT_one (ts : List T3) : ∀ u ∈ spT ts, u.oneCell' = true := by
  intro u hu
  simp only [spT, List.mem_flatMap] at hu
  obtain ⟨t, _, hu⟩ := hu
  simp at hu
  rcases hu with rfl | rfl | rfl <;> rfl
theorem rdT_left {w : World} {p : Option Addr} {a b : List T3} (h : RdT w p (a ++ b)) : RdT w p a := by
  rcases h with h | ⟨g, o, rfl, h⟩
  · exact Or.inl (List.append_eq_nil_iff.1 h).1
  · refine Or.inr ⟨g, o, rfl, fun i hi => ?_⟩
    have h1 := h i (by rw [List.length_append]; omega)
    have e : (a ++ b).getD i default = a.getD i default := by
      rw [List.getD_eq_getElem?_getD, List.getD_eq_getElem?_getD, List.getElem?_append_left hi]
    rwa [e] at h1
set_option maxHeartbeats 6400000 in
theorem ptrlabels_any (l : LabV) (w : World) (hl : l.ok w) (hn : l.n ≤ 5864062014634) (hnc : l.ts = [] → l.p = none → l.c = 0) :
    Calls Tryd.prog 4 #[.agg l.arr] w fun e w' => e = .returned (.bool true) ∧ Frm [] w w' := by
  have HAW := hid awake4_any
  have HOK := hid hl
  have hle := hl.le
  have hmx := hl.mx
  have HLN : Hid (checkL l = 0 → (sealB (labB l)).length = 128) := hid (fun h => by rw [sealB_length, labB_length (checkL_ok hl h).n])
  have HNC : Hid (l.n = 0 → l.p = none → l.c = 0) := hid (fun h => hnc (List.eq_nil_of_length_eq_zero (by rw [hl.len]; exact h)))
  have HROW := hid (heap_alloc_new w (.cells l.arr 37))
  have HFA : Hid (Frm [] w (w.alloc (.cells l.arr 37))) := hid ((Frm.refl _ _).alloc _)
  clear hl hnc
  unfold LabV.arr at HROW HFA ⊢
  obtain ⟨lb, hlb⟩ : ∃ lb, w.heap.size = lb := ⟨_, rfl⟩
  obtain ⟨wa, hwa⟩ : ∃ wa, w.alloc (.cells #[.int .u64 l.pool, .slice l.p l.n l.c, .int .i64 l.top, .int .i64 l.place] 37) = wa := ⟨_, rfl⟩
  rw [hwa] at HFA
  rw [hwa, hlb] at HROW
  go_enter Tryd.func4, Tryd.ntmps4
  go_wp2_with fail
  clear hlb hwa
  refine (HAW.out wa).mono ?_
  rintro e w1 ⟨rfl, hf⟩
  have HR1 := hid (hf.heap HROW.out (by simp))
  have HF1 := hid (HFA.out.trans hf (by simp))
  clear hf HROW HFA HAW
  obtain ⟨q0, q1, q2, q3⟩ := lb_row (l := l) HR1.out
  have HRV := hid (rv_of_rdT (HOK.out.rd.kept HF1.out (by simp)))
  have hsl : (spT l.ts).length = l.n * 3 := by rw [spT_length, HOK.out.len]
  have HSL := hid hsl
  clear hsl
  go_wp2_with (at_builtin; refine wpList_appV rfl _ _ 35 rfl 39 3 24 _ Tryd.underlying35 infoTop rfl (by decide) none 0 0 [] rfl (World.ownsRow_nil w1 0 39 3) l.p l.n l.c (spT l.ts) rfl HSL.out HNC.out HRV.out (spT_one _) (by unfold maxLen; omega) (by omega) ?_)
  intro p1 c1 w2 ho2 hf2 hfr2
  have HO2 := hid ho2.out
  have HFR2 : Hid (∀ k ∈ blk p1, w1.heap.size ≤ k) := hid (fun k hk => (hfr2.out k hk).elim (fun h => by simp [blk] at h) id)
  have hr2 := hf2.out.heap HR1.out (by simp [blk])
  have HF2 := hid (HF1.out.trans hf2.out (by simp [blk]))
  have HLB1 : Hid (lb < w1.heap.size) := hid (lt_of_heap HR1.out)
  have HS12 : Hid (w1.heap.size ≤ w2.heap.size) := hid hf2.out.size
  have HR2 := hid hr2
  have HRZ : Hid (Rv (w2.alloc (.cells #[.int .i64 (-7), .int .i64 0, .int .i64 0] 39)) (some ⟨w2.heap.size, 0, none⟩) [.int .i64 (-7), .int .i64 0, .int .i64 0]) := hid (rv_block (cs := #[.int .i64 (-7), .int .i64 0, .int .i64 0]) (heap_alloc_new _ _))
  have HOA : Hid ((w2.alloc (.cells #[.int .i64 (-7), .int .i64 0, .int .i64 0] 39)).ownsRow 0 39 3 (.slice p1 l.n c1) l.n (spT l.ts)) := hid (ownsRow_kept HO2.out ((Frm.refl [] w2).alloc _) (by simp))
  have HFL : Hid (Frm [] w2 (w2.alloc (.cells #[.int .i64 (-7), .int .i64 0, .int .i64 0] 39))) := hid ((Frm.refl _ _).alloc _)
  clear ho2 hf2 hfr2 hr2 HR1 HRV q0 q1 q2 q3
  go_wp2_with (at_builtin; refine wpList_appV rfl _ _ 35 rfl 39 3 24 _ Tryd.underlying35 infoTop rfl (by decide) p1 l.n c1 (spT l.ts) rfl HOA.out (some ⟨w2.heap.size, 0, none⟩) 1 1 [.int .i64 (-7), .int .i64 0, .int .i64 0] rfl rfl (by simp) HRZ.out (by intro u hu; simp at hu; rcases hu with rfl | rfl | rfl <;> rfl) (by unfold maxLen; omega) (by omega) ?_)
  intro p2 c2 w3 ho3 hf3 hfr3
  have HT : Hid (w3.ownsRow 0 39 3 (.slice p2 (l.n + 1) c2) (l.n + 1) (spT (l.ts ++ [⟨-7, 0, 0⟩]))) := hid (by rw [spT_app]; exact ho3.out)
  have hsz12 : w1.heap.size ≤ w2.heap.size := HS12.out
  obtain ⟨tg, rfl⟩ : ∃ tg, p2 = some ⟨tg, 0, none⟩ := by
    rcases HT.out.2 with ⟨h, _⟩ | ⟨g, _, _, h, _⟩
    · simp at h
    · simp only [Value.slice.injEq] at h
      exact ⟨g, h.1⟩
  have htg : w1.heap.size ≤ tg := by
    rcases hfr3.out tg (by simp [blk]) with h | h
    · exact HFR2.out tg h
    · omega
  have hr3 := hf3.out.heap (HFL.out.heap HR2.out (by simp)) (fun h => by have := HFR2.out _ h; have := HLB1.out; omega)
  have HF3 := hid ((HF2.out.trans HFL.out (by simp)).trans hf3.out (fun i hi hlt => by have h1 := HFR2.out i hi; have h2 := HF1.out.size; omega))
  have HR3 := hid hr3
  obtain ⟨hrt, hc2, hm2⟩ := rdT_of_own HT.out (by rw [List.length_append, HOK.out.len]; rfl)
  have hts := (rdT_of_own HT.out (by rw [List.length_append, HOK.out.len]; rfl)).1
  have HRT := hid (rdT_left hrt)
  have HTG : Hid (w3.cell? ⟨tg, l.n * 3, none⟩ = some (.int .i64 (-7))) := hid (by
    rcases hts with h | ⟨g, o, e, h⟩
    · simp at h
    · simp only [Option.some.injEq, Addr.mk.injEq, and_true] at e
      obtain ⟨rfl, rfl⟩ := e
      have h1 := (h l.n (by rw [List.length_append, HOK.out.len]; simp)).1
      rw [Nat.zero_add] at h1
      rw [h1, List.getD_eq_getElem?_getD, List.getElem?_append_right (by rw [HOK.out.len]; omega), HOK.out.len, Nat.sub_self]
      rfl)
  have HTL := hid (show tg < w3.heap.size from World.block_lt_of_cell? w3 _ HTG.out)
  obtain ⟨q0, q1, q2, q3⟩ := lb_row (l := l) hr3
  have hlt := lt_of_heap hr3
  have hnc : l.n ≤ c2 := by omega
  have hmx2 : c2 ≤ 9223372036854775807 := by unfold maxLen at hm2; omega
  clear hf3 ho3 hfr3 hr3 hts hrt HO2 HOA HRZ HFL HR2 HF2 hm2
  go_wp2_with fail
  obtain ⟨mb, hmb⟩ : ∃ mb, w3.heap.size = mb := ⟨_, rfl⟩
  have hfa : Frm [] w3 (w3.alloc (.cells #[.int .u64 l.pool, .slice (some ⟨tg, 0, none⟩) l.n c2, .int .i64 l.top, .int .i64 l.place] 37)) := (Frm.refl _ _).alloc _
  have hra := heap_alloc_new w3 (.cells #[.int .u64 l.pool, .slice (some ⟨tg, 0, none⟩) l.n c2, .int .i64 l.top, .int .i64 l.place] 37)
  obtain ⟨w4, hw4⟩ : ∃ W, w3.alloc (.cells #[.int .u64 l.pool, .slice (some ⟨tg, 0, none⟩) l.n c2, .int .i64 l.top, .int .i64 l.place] 37) = W := ⟨_, rfl⟩
  rw [hw4] at hfa
  rw [hw4, hmb] at hra
  rw [hw4, hmb]
  obtain ⟨M, hM⟩ : ∃ M : LabV, M = ⟨l.pool, some ⟨tg, 0, none⟩, l.n, c2, l.top, l.place, l.ts⟩ := ⟨_, rfl⟩
  have HMA : Hid (M.arr = #[.int .u64 l.pool, .slice (some ⟨tg, 0, none⟩) l.n c2, .int .i64 l.top, .int .i64 l.place]) := hid (by rw [hM]; rfl)
  have HMC : Hid (checkL M = checkL l ∧ sealB (labB M) = sealB (labB l) ∧ l.same M) := hid (by rw [hM]; exact ⟨rfl, rfl, rfl, rfl, rfl, rfl, rfl⟩)
  have HM4 : Hid (M.ok w4) := hid (by rw [hM]; exact ⟨HOK.out.len, HRT.out.kept hfa (by simp), hnc, hmx2, HOK.out.pool, HOK.out.top⟩)
  have HRM4 := hid hra
  have HRL4 := hid (hfa.heap HR3.out (by simp))
  have HTG4 : Hid (w4.cell? ⟨tg, l.n * 3, none⟩ = some (.int .i64 (-7))) := hid ((hfa.cell (p := ⟨tg, l.n * 3, none⟩) HTL.out (by simp)).trans HTG.out)
  have HF4 := hid (HF3.out.trans hfa (by simp))
  have HMB4 : Hid (lb < w4.heap.size ∧ mb < w4.heap.size ∧ tg < w4.heap.size) := hid ⟨lt_of_heap HRL4.out, lt_of_heap hra, Nat.lt_of_lt_of_le HTL.out hfa.size⟩
  clear hmb hfa hra hw4 hM q0 q1 q2 q3 hlt htg hsz12 hnc hmx2 hc2 HRT HTG HR3 HF3 HTL HT HFR2 HLB1 HS12 HF1 HSL HNC
  have HE4 : Hid (Calls Tryd.prog 15 #[.agg #[.int .u64 l.pool, .slice (some ⟨tg, 0, none⟩) l.n c2, .int .i64 l.top, .int .i64 l.place]] w4 fun e w' => ∃ p n c, e = .returned (.tuple #[.slice p n c, .int .i64 (checkL l)]) ∧ Mine w4 w' p n c (if checkL l = 0 then sealB (labB l) else []) ∧ Frm [] w4 w') := hid (by
    have h := encodeL_any M w4 HM4.out
    rw [HMA.out, HMC.out.1, HMC.out.2.1] at h
    refine h.mono fun e w' he => ?_
    by_cases hc : checkL l = 0
    · exact enc_mine he (by rw [HLN.out hc]; omega)
    · rcases he with ⟨h1, rfl, hf⟩ | ⟨h1, _⟩
      · rw [if_neg hc]
        exact ⟨none, 0, 0, rfl, ⟨rfl, Own.nil _ _, by simp [blk]⟩, hf⟩
      · exact absurd h1 hc)
  have HED : Hid (∀ W, Frm [] w W → Calls Tryd.prog 16 #[.agg #[.int .u64 l.pool, .slice l.p l.n l.c, .int .i64 l.top, .int .i64 l.place]] W fun e w' => ∃ p n c, e = .returned (.tuple #[.slice p n c, .int .i64 (checkL l)]) ∧ Mine W w' p n c (if checkL l = 0 then sealB (labB l) else []) ∧ Frm [] W w') := hid (fun W hW => by
    have h := refEncodeL_any l W (HOK.out.kept hW)
    unfold LabV.arr at h
    exact h.mono fun e w' he => encD_mine he)
  have HZL0 : Hid ((if checkL l = 0 then sealB (labB l) else []).length ≤ 128) := hid (by split; (have := HLN.out (by assumption); omega); simp)
  obtain ⟨C, hC⟩ : ∃ C, checkL l = C := ⟨_, rfl⟩
  rw [hC] at HE4 HED HMC HZL0
  have HCL := hid hC
  obtain ⟨Z, hZ⟩ : ∃ Z, (if C = 0 then sealB (labB l) else []) = Z := ⟨_, rfl⟩
  rw [hZ] at HE4 HED HZL0
  clear hC hZ HLN
  refine HE4.out.mono ?_
  clear HE4
  rintro e w5 ⟨b1, n1, c1', rfl, ⟨ml1, mo1, mb1⟩, hf⟩
  have HM5 := hid (HM4.out.kept hf)
  have HRM5 := hid (hf.heap HRM4.out (by simp))
  have HRL5 := hid (hf.heap HRL4.out (by simp))
  have HTG5 : Hid (w5.cell? ⟨tg, l.n * 3, none⟩ = some (.int .i64 (-7))) := hid ((hf.cell (p := ⟨tg, l.n * 3, none⟩) HMB4.out.2.2 (by simp)).trans HTG4.out)
  have HF5 := hid (HF4.out.trans hf (by simp))
  have HO5 := hid mo1
  have HN5 := hid ml1
  have HB5 : Hid (∀ i ∈ blk b1, w.heap.size ≤ i ∧ lb < i ∧ mb < i ∧ tg < i) := hid (fun i hi => by have h1 := mb1 i hi; have h2 := HMB4.out; have h3 := HF4.out.size; exact ⟨by omega, by omega, by omega, by omega⟩)
  have HLT5 := hid hf.size
  clear hf mo1 ml1 mb1 HM4 HRM4 HRL4 HTG4 HF4
  obtain ⟨q0, q1, q2, q3⟩ := lb_row (l := l) HRL5.out
  go_wp2_with fail
  clear q0 q1 q2 q3
  refine (HED.out w5 HF5.out).mono ?_
  clear HED
  rintro e w6 ⟨b2, n2, c2', rfl, ⟨ml2, mo2, mb2⟩, hf⟩
  have HM6 := hid (HM5.out.kept hf)
  have HRM6 := hid (hf.heap HRM5.out (by simp))
  have HRL6 := hid (hf.heap HRL5.out (by simp))
  have HTG6 : Hid (w6.cell? ⟨tg, l.n * 3, none⟩ = some (.int .i64 (-7))) := hid ((hf.cell (p := ⟨tg, l.n * 3, none⟩) (by have := HMB4.out.2.2; have := HLT5.out; show tg < _; omega) (by simp)).trans HTG5.out)
  have HF6 := hid (HF5.out.trans hf (by simp))
  have HO6 := hid (HO5.out.kept hf (by simp))
  have HP6 := hid mo2
  have hn12 : n2 = n1 := by have := HN5.out; omega
  subst hn12
  have HLT6 := hid hf.size
  clear hf mo2 ml2 mb2 HM5 HRM5 HRL5 HTG5 HF5 HO5
  go_wp2_with fail
  refine (own_any b1 b2 n2 c1' c2' Z HN5.out (by have := HZL0.out; have := HN5.out; omega) w6 HO6.out HP6.out.rd).mono ?_
  rintro e w7 ⟨rfl, hf⟩
  have HM7 : Hid (M.ok w7) := hid ⟨HM6.out.len, HM6.out.rd.kept hf (fun k hk hm => by
      have h1 : M.p = some ⟨tg, 0, none⟩ := by
        have h2 := congrArg (fun a : Array Value => a[1]?) HMA.out
        simp [LabV.arr] at h2
        exact h2.1
      rw [h1] at hk
      simp [blk] at hk
      have := (HB5.out k hm).2.2.2
      omega), HM6.out.le, HM6.out.mx, HM6.out.pool, HM6.out.top⟩
  have HRM7 := hid (hf.heap HRM6.out (fun h => by have := (HB5.out _ h).2.2.1; omega))
  have HRL7 := hid (hf.heap HRL6.out (fun h => by have := (HB5.out _ h).2.1; omega))
  have HTG7 : Hid (w7.cell? ⟨tg, l.n * 3, none⟩ = some (.int .i64 (-7))) := hid ((hf.cell (p := ⟨tg, l.n * 3, none⟩) (by have := HMB4.out.2.2; have := HLT5.out; have := HLT6.out; show tg < _; omega) (fun h => by have := (HB5.out _ h).2.2.2; simp at this)).trans HTG6.out)
  have HF7 := hid (HF6.out.trans hf (fun i hi hl => by have := (HB5.out i hi).1; omega))
  have HLT7 := hid hf.size
  clear hf HM6 HRM6 HRL6 HTG6 HF6 HO6 HP6
  obtain ⟨q0, q1, q2, q3⟩ := lb_row (l := l) HRL7.out
  have hrm7 : w7.heap[mb]? = some (.cells M.arr 37 (0, 0)) := by rw [HMA.out]; exact HRM7.out
  have r0 : w7.cell? ⟨mb, 0, none⟩ = some (.int .u64 l.pool) := by rw [cell_of_row w7 _ _ _ _ _ HRM7.out]; rfl
  have r1 : w7.cell? ⟨mb, 1, none⟩ = some (.slice (some ⟨tg, 0, none⟩) l.n c2) := by rw [cell_of_row w7 _ _ _ _ _ HRM7.out]; rfl
  have r2 : w7.cell? ⟨mb, 2, none⟩ = some (.int .i64 l.top) := by rw [cell_of_row w7 _ _ _ _ _ HRM7.out]; rfl
  have r3 : w7.cell? ⟨mb, 3, none⟩ = some (.int .i64 l.place) := by rw [cell_of_row w7 _ _ _ _ _ HRM7.out]; rfl
  clear hrm7
  go_wp2_with fail
  clear q0 q1 q2 q3 r0 r1 r2 r3
  have HSM := same_any l M w7 (HOK.out.kept HF7.out) HM7.out HMC.out.2.2
  rw [HMA.out] at HSM
  unfold LabV.arr at HSM
  refine HSM.mono ?_
  clear HSM
  rintro e wE ⟨rfl, hf⟩
  have HM8 := hid (HM7.out.kept hf)
  have HRM8 := hid (hf.heap HRM7.out (by simp))
  have HRL8 := hid (hf.heap HRL7.out (by simp))
  have HTG8 : Hid (wE.cell? ⟨tg, l.n * 3, none⟩ = some (.int .i64 (-7))) := hid ((hf.cell (p := ⟨tg, l.n * 3, none⟩) (by have := HMB4.out.2.2; have := HLT5.out; have := HLT6.out; have := HLT7.out; show tg < _; omega) (by simp)).trans HTG7.out)
  have HF8 := hid (HF7.out.trans hf (by simp))
  clear hf HM7 HRM7 HRL7 HTG7 HF7
  have HC1 : Hid (∀ W, (W.cell? ⟨lb, 0, none⟩ = some (.int .u64 l.pool) ∧ W.cell? ⟨lb, 1, none⟩ = some (.slice l.p l.n l.c) ∧ W.cell? ⟨lb, 2, none⟩ = some (.int .i64 l.top) ∧ W.cell? ⟨lb, 3, none⟩ = some (.int .i64 l.place) ∧ W.cell? ⟨mb, 0, none⟩ = some (.int .u64 l.pool) ∧ W.cell? ⟨mb, 1, none⟩ = some (.slice (some ⟨tg, 0, none⟩) l.n c2) ∧ W.cell? ⟨mb, 2, none⟩ = some (.int .i64 l.top) ∧ W.cell? ⟨mb, 3, none⟩ = some (.int .i64 l.place) ∧ W.cell? ⟨tg, l.n * 3, none⟩ = some (.int .i64 (-7)) ∧ Frm [] wE W) → Calls Tryd.prog 18 #[.agg #[.int .u64 l.pool, .slice (some ⟨tg, 0, none⟩) l.n c2, .int .i64 l.top, .int .i64 l.place]] W fun e w' => e = .returned (.int .i64 C) ∧ Frm [] W w') := hid (fun W h => by
    have h1 := checkL_any M W (HM8.out.kept h.2.2.2.2.2.2.2.2.2)
    rw [HMA.out, HMC.out.1] at h1
    exact h1)
  have HC2 : Hid (∀ W, (W.cell? ⟨lb, 0, none⟩ = some (.int .u64 l.pool) ∧ W.cell? ⟨lb, 1, none⟩ = some (.slice l.p l.n l.c) ∧ W.cell? ⟨lb, 2, none⟩ = some (.int .i64 l.top) ∧ W.cell? ⟨lb, 3, none⟩ = some (.int .i64 l.place) ∧ W.cell? ⟨mb, 0, none⟩ = some (.int .u64 l.pool) ∧ W.cell? ⟨mb, 1, none⟩ = some (.slice (some ⟨tg, 0, none⟩) l.n c2) ∧ W.cell? ⟨mb, 2, none⟩ = some (.int .i64 l.top) ∧ W.cell? ⟨mb, 3, none⟩ = some (.int .i64 l.place) ∧ W.cell? ⟨tg, l.n * 3, none⟩ = some (.int .i64 (-7)) ∧ Frm [] wE W) → Calls Tryd.prog 19 #[.agg #[.int .u64 l.pool, .slice l.p l.n l.c, .int .i64 l.top, .int .i64 l.place]] W fun e w' => e = .returned (.int .i64 C) ∧ Frm [] W w') := hid (fun W h => by
    have h1 := refCheckL_any l W (HOK.out.kept (HF8.out.trans h.2.2.2.2.2.2.2.2.2 (by simp)))
    rw [HCL.out] at h1
    unfold LabV.arr at h1
    exact h1)
  have HKS : Hid (∀ W W' : World, (W.cell? ⟨lb, 0, none⟩ = some (.int .u64 l.pool) ∧ W.cell? ⟨lb, 1, none⟩ = some (.slice l.p l.n l.c) ∧ W.cell? ⟨lb, 2, none⟩ = some (.int .i64 l.top) ∧ W.cell? ⟨lb, 3, none⟩ = some (.int .i64 l.place) ∧ W.cell? ⟨mb, 0, none⟩ = some (.int .u64 l.pool) ∧ W.cell? ⟨mb, 1, none⟩ = some (.slice (some ⟨tg, 0, none⟩) l.n c2) ∧ W.cell? ⟨mb, 2, none⟩ = some (.int .i64 l.top) ∧ W.cell? ⟨mb, 3, none⟩ = some (.int .i64 l.place) ∧ W.cell? ⟨tg, l.n * 3, none⟩ = some (.int .i64 (-7)) ∧ Frm [] wE W) → Frm [] W W' → (W'.cell? ⟨lb, 0, none⟩ = some (.int .u64 l.pool) ∧ W'.cell? ⟨lb, 1, none⟩ = some (.slice l.p l.n l.c) ∧ W'.cell? ⟨lb, 2, none⟩ = some (.int .i64 l.top) ∧ W'.cell? ⟨lb, 3, none⟩ = some (.int .i64 l.place) ∧ W'.cell? ⟨mb, 0, none⟩ = some (.int .u64 l.pool) ∧ W'.cell? ⟨mb, 1, none⟩ = some (.slice (some ⟨tg, 0, none⟩) l.n c2) ∧ W'.cell? ⟨mb, 2, none⟩ = some (.int .i64 l.top) ∧ W'.cell? ⟨mb, 3, none⟩ = some (.int .i64 l.place) ∧ W'.cell? ⟨tg, l.n * 3, none⟩ = some (.int .i64 (-7)) ∧ Frm [] wE W')) := hid (fun W W' h hf => ⟨(hf.cell (p := ⟨lb, 0, none⟩) (World.block_lt_of_cell? W _ h.1) (by simp)).trans h.1, (hf.cell (p := ⟨lb, 1, none⟩) (World.block_lt_of_cell? W _ h.2.1) (by simp)).trans h.2.1, (hf.cell (p := ⟨lb, 2, none⟩) (World.block_lt_of_cell? W _ h.2.2.1) (by simp)).trans h.2.2.1, (hf.cell (p := ⟨lb, 3, none⟩) (World.block_lt_of_cell? W _ h.2.2.2.1) (by simp)).trans h.2.2.2.1, (hf.cell (p := ⟨mb, 0, none⟩) (World.block_lt_of_cell? W _ h.2.2.2.2.1) (by simp)).trans h.2.2.2.2.1, (hf.cell (p := ⟨mb, 1, none⟩) (World.block_lt_of_cell? W _ h.2.2.2.2.2.1) (by simp)).trans h.2.2.2.2.2.1, (hf.cell (p := ⟨mb, 2, none⟩) (World.block_lt_of_cell? W _ h.2.2.2.2.2.2.1) (by simp)).trans h.2.2.2.2.2.2.1, (hf.cell (p := ⟨mb, 3, none⟩) (World.block_lt_of_cell? W _ h.2.2.2.2.2.2.2.1) (by simp)).trans h.2.2.2.2.2.2.2.1, (hf.cell (p := ⟨tg, l.n * 3, none⟩) (World.block_lt_of_cell? W _ h.2.2.2.2.2.2.2.2.1) (by simp)).trans h.2.2.2.2.2.2.2.2.1, h.2.2.2.2.2.2.2.2.2.trans hf (by simp)⟩)
  obtain ⟨q0, q1, q2, q3⟩ := lb_row (l := l) HRL8.out
  have r0 : wE.cell? ⟨mb, 0, none⟩ = some (.int .u64 l.pool) := by rw [cell_of_row wE _ _ _ _ _ HRM8.out]; rfl
  have r1 : wE.cell? ⟨mb, 1, none⟩ = some (.slice (some ⟨tg, 0, none⟩) l.n c2) := by rw [cell_of_row wE _ _ _ _ _ HRM8.out]; rfl
  have r2 : wE.cell? ⟨mb, 2, none⟩ = some (.int .i64 l.top) := by rw [cell_of_row wE _ _ _ _ _ HRM8.out]; rfl
  have r3 : wE.cell? ⟨mb, 3, none⟩ = some (.int .i64 l.place) := by rw [cell_of_row wE _ _ _ _ _ HRM8.out]; rfl
  have tt := HTG8.out
  have HFD : Hid (Frm [] wE wE.drew) := hid (Frm.refl _ _).drew
  have hcc : (C == C) = true := by simp
  have hix : (l.n : Int) < ((l.n + 1 : Nat) : Int) := by omega
  have hix0 : (0 : Int) ≤ (l.n : Int) := by omega
  have hix1 : (l.n : Int) < (l.n : Int) + 1 := by omega
  have hix2 : l.n < l.n + 1 := by omega
  have hrx : ∀ W : World, (Instr.indexAt 35 (.slice (some ⟨tg, 0, none⟩) (l.n + 1) c2) (.int .i64 (l.n : Int))).run Tryd.prog W = .ok (.pointer (some ⟨tg, l.n * 3, none⟩)) W := by
    intro W
    first | (go_simp; done) | (simp [go_sem]; done)
  clear HM8 HRM8 HRL8 HTG8 HMB4 HLT5 HLT6 HLT7 HB5 HN5 HMC HMA HZL0 HCL
  go_wp2_with fail
  go_region_held3 (fun w' => (w'.cell? ⟨lb, 0, none⟩ = some (.int .u64 l.pool) ∧ w'.cell? ⟨lb, 1, none⟩ = some (.slice l.p l.n l.c) ∧ w'.cell? ⟨lb, 2, none⟩ = some (.int .i64 l.top) ∧ w'.cell? ⟨lb, 3, none⟩ = some (.int .i64 l.place) ∧ w'.cell? ⟨mb, 0, none⟩ = some (.int .u64 l.pool) ∧ w'.cell? ⟨mb, 1, none⟩ = some (.slice (some ⟨tg, 0, none⟩) l.n c2) ∧ w'.cell? ⟨mb, 2, none⟩ = some (.int .i64 l.top) ∧ w'.cell? ⟨mb, 3, none⟩ = some (.int .i64 l.place) ∧ w'.cell? ⟨tg, l.n * 3, none⟩ = some (.int .i64 (-7)) ∧ Frm [] wE w')) (first | (exact ⟨q0, q1, q2, q3, r0, r1, r2, r3, tt, HFD.out⟩) | (exact HKS.out _ _ (by assumption) (by assumption))) (first | ((with_reducible refine (HC1.out _ (by assumption)).mono ?_); rintro e w9 ⟨rfl, hf9⟩) | ((with_reducible refine (HC2.out _ (by assumption)).mono ?_); rintro e w9 ⟨rfl, hf9⟩))
  have hh : (w9.cell? ⟨lb, 0, none⟩ = some (.int .u64 l.pool) ∧ w9.cell? ⟨lb, 1, none⟩ = some (.slice l.p l.n l.c) ∧ w9.cell? ⟨lb, 2, none⟩ = some (.int .i64 l.top) ∧ w9.cell? ⟨lb, 3, none⟩ = some (.int .i64 l.place) ∧ w9.cell? ⟨mb, 0, none⟩ = some (.int .u64 l.pool) ∧ w9.cell? ⟨mb, 1, none⟩ = some (.slice (some ⟨tg, 0, none⟩) l.n c2) ∧ w9.cell? ⟨mb, 2, none⟩ = some (.int .i64 l.top) ∧ w9.cell? ⟨mb, 3, none⟩ = some (.int .i64 l.place) ∧ w9.cell? ⟨tg, l.n * 3, none⟩ = some (.int .i64 (-7)) ∧ Frm [] wE w9) := by assumption
  have HFR := hid hh.2.2.2.2.2.2.2.2.2
  clear hh q0 q1 q2 q3 r0 r1 r2 r3 tt
  go_wp2_with fail
  go_returns
  exact ⟨rfl, HF8.out.trans HFR.out (by simp)⟩
end Go.Proofs.YtdnnbinmippkdaaDoor
