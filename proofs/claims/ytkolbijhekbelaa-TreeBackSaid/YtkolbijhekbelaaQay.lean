/- TreeTables, for any arguments. -/
import Derived.Test.YtkolbijhekbelaaQax
import Derived.Test.YtkolbijhekbelaaQao
namespace Go.Proofs.Ytkolbijhekbelaa
section
open Go.RowKit Go.Lib
set_option maxRecDepth 100000

def tabR (l : List Sl) : List Int := if tabE l = 0 then tabB l else []
theorem TabA.one {w w' : World} {l : List Sl} {e : Ending} (h : TabA w l e w') : ∃ q m c, e = .returned (.tuple #[.slice q m c, .int .i64 (tabE l)]) ∧ Own w' 5 (.slice q m c) (tabR l) ∧ (tabR l).length = m ∧ Frm [] w w' ∧ ∀ k ∈ blk q, w.heap.size ≤ k := by
  obtain ⟨hf, ⟨h1, h2⟩ | ⟨h1, q, m, c, h2, h3, h4, h5⟩⟩ := h
  · have h0 : tabR l = [] := by unfold tabR; rw [if_neg h1]
    rw [h0]
    exact ⟨none, 0, 0, h2, Own.nil _ _, rfl, hf, by simp [blk]⟩
  · have h0 : tabR l = tabB l := by unfold tabR; rw [if_pos h1]
    rw [h0]
    exact ⟨q, m, c, by rw [h2, h1], h4, by rw [tabB_len, h3], hf, h5⟩
def sltR (bs : List Int) : List Sl := if sltE bs = 0 then sltL bs else []
theorem SltA.one {w w' : World} {bs : List Int} {e : Ending} (h : SltA w bs e w') : ∃ q m cq, e = .returned (.tuple #[.slice q m cq, .int .i64 (sltE bs)]) ∧ w'.ownsRow 0 48 11 (.slice q m cq) m (rowsSl (sltR bs)) ∧ m = (sltR bs).length ∧ m ≤ 112 ∧ (∀ k ∈ blk q, w.heap.size ≤ k) ∧ Frm [] w w' := by
  obtain ⟨hf, ⟨h1, h2⟩ | ⟨h1, q, m, cq, h2, h3, h4, h5, h6⟩⟩ := h
  · have h0 : sltR bs = [] := by unfold sltR; rw [h1]; rfl
    rw [h0]
    exact ⟨none, 0, 0, by rw [h2, h1], ⟨rfl, Or.inl ⟨rfl, rfl⟩⟩, rfl, by omega, by simp [blk], hf⟩
  · have h0 : sltR bs = sltL bs := by unfold sltR; rw [if_pos h1]
    rw [h0]
    exact ⟨q, m, cq, by rw [h2, h1], h3, h4, h5, h6, hf⟩
theorem rv_ofSl {w : World} {p : Option Addr} {n c : Nat} {l : List Sl} (h : w.ownsRow 0 48 11 (.slice p n c) n (rowsSl l)) (hl : l.length = n) : Rv w p (rowsSl l) := by
  by_cases hn : n = 0
  · subst hn
    rw [List.eq_nil_of_length_eq_zero hl]
    exact Or.inl rfl
  · rcases h.2 with ⟨_, h0⟩ | ⟨g, c', cur, he, _⟩
    · omega
    · simp only [Value.slice.injEq] at he
      obtain ⟨rfl, _, _⟩ := he
      have hcell := fun i hi => World.ownsRow.cellAt h i hi
      refine Or.inr ⟨g, 0, rfl, fun i u hu => ?_⟩
      have hi := (List.getElem?_eq_some_iff.1 hu).1
      rw [rowsSl_len, hl] at hi
      rw [Nat.zero_add, hcell i hi]
      exact hu
theorem neqSl (s t : Sl) (w : World) : (binOp .neq 48 (.agg s.row.toArray) (.agg t.row.toArray)).run Try.prog w = .ok (.bool (!decide (s = t))) w := by
  rw [run_neq_struct, show (10000 : Nat) = 9993 + 7 from rfl, eqSl]; rfl
set_option maxHeartbeats 12800000 in
theorem treetables_any (p pb : Option Addr) (L c n d : Nat) (l : List Sl) (bs : List Int) (w : World) (hr : Rv w p (rowsSl l)) (hL : l.length = L) (hb : L ≤ 1954687338212) (hok : ∀ s ∈ l, s.root.ok)
    (hrb : Rd w pb bs) (hn : bs.length = n) (hnb : n ≤ 140737488351232) (hd : n ≤ d ∧ d ≤ 9223372036854775807) (hz : ∀ z ∈ bs, 0 ≤ z ∧ z < 256) :
    Calls Try.prog 5 #[.slice p L c, .slice pb n d] w fun e w' => e = .returned (.bool true) ∧ Frm [] w w' := by
  obtain ⟨PO, hPO⟩ : ∃ PO : Ending → World → Prop, (fun e w' => e = .returned (.bool true) ∧ Frm [] w w') = PO := ⟨_, rfl⟩
  rw [hPO]
  have HP : Hid (∀ w', Frm [] w w' → PO (.returned (.bool true)) w') := hid (fun w' h => by rw [← hPO]; exact ⟨rfl, h⟩)
  have HAW := hid (awakeT_any w)
  have HTA := hid (fun W (hf : Frm [] w W) => table_any p L c l W (hr.kept hf (by simp)) hL hb hok)
  have HRT := hid (fun W (hf : Frm [] w W) => refTable_any p L c l W (hr.kept hf (by simp)) hL hb hok)
  have HSL := hid (fun W (hf : Frm [] w W) => slots_any pb n d bs W (hrb.kept hf (by simp)) hn hnb hd hz)
  have HRS := hid (fun W (hf : Frm [] w W) => refSlots_any pb n d bs W (hrb.kept hf (by simp)) hn hnb hd hz)
  obtain ⟨C, hC⟩ : ∃ z, tabE l = z := ⟨_, rfl⟩
  obtain ⟨D, hD⟩ : ∃ z, sltE bs = z := ⟨_, rfl⟩
  obtain ⟨us, hus⟩ : ∃ z, sltR bs = z := ⟨_, rfl⟩
  obtain ⟨ts, hts⟩ : ∃ z, tabR l = z := ⟨_, rfl⟩
  have HCC := hid hC
  have HDD := hid hD
  have HUS := hid hus
  have HTS := hid hts
  clear hr hL hPO hok hrb hn hnb hd hz hC hD hus hts
  go_enter Try.func5, Try.ntmps5
  go_wp2_with fail
  refine HAW.out.mono ?_
  rintro e w1 ⟨rfl, hf1⟩
  have HF1 := hid hf1
  clear hf1 HAW
  go_wp2_with fail
  refine (HTA.out w1 HF1.out).mono ?_
  intro e w2 hta
  obtain ⟨q, m, cq, rfl, ho, hl, hf, _⟩ := hta.one
  rw [HTS.out] at ho hl
  rw [HCC.out]
  have HO := hid ho
  have HLT := hid hl
  have HF2 := hid (HF1.out.trans hf (by simp))
  clear hta ho hl hf HTA
  go_wp2_with fail
  refine (HRT.out w2 HF2.out).mono ?_
  intro e w3 hta
  obtain ⟨q', m', cq', rfl, ho', hl', hf', _⟩ := hta.one
  rw [HTS.out] at ho' hl'
  rw [HCC.out]
  obtain rfl : m' = m := by rw [← hl', HLT.out]
  have HO' := hid ho'
  have HO3 := hid (HO.out.kept hf' (by simp))
  have HF3 := hid (HF2.out.trans hf' (by simp))
  clear hta ho' hl' hf' HRT HO
  go_wp2_with fail
  refine (HSL.out w3 HF3.out).mono ?_
  intro e w4 hua
  obtain ⟨qu, mu, cu, rfl, hu1, hu2, hu3, hu4, hu5⟩ := hua.one
  rw [HUS.out] at hu1 hu2
  rw [HDD.out]
  have HF4 := hid (HF3.out.trans hu5 (by simp))
  have HU1 := hid (rv_ofSl hu1 hu2.symm)
  have HU2 := hid hu2
  have HX4 := hid (HO3.out.kept hu5 (by simp))
  have HY4 := hid (HO'.out.kept hu5 (by simp))
  clear hua hu1 hu2 hu4 hu5 HSL HO3 HO'
  go_wp2_with fail
  refine (HRS.out w4 HF4.out).mono ?_
  intro e w5 hua
  obtain ⟨qv, mv, cv, rfl, hv1, hv2, hv3, hv4, hv5⟩ := hua.one
  rw [HUS.out] at hv1 hv2
  rw [HDD.out]
  obtain rfl : mv = mu := by rw [hv2, HU2.out]
  have HF5 := hid (HF4.out.trans hv5 (by simp))
  have HU5 := hid (HU1.out.kept hv5 (by simp))
  have HV5 := hid (rv_ofSl hv1 hv2.symm)
  have hcv1 := cv_any (P := Try.prog) (w := w5) 22 5 9 Try.underlying22 Try.underlying5 Try.underlying9 ((HX4.out.kept hv5 (by simp)).rd) cq HLT.out
  have hcv2 := cv_any (P := Try.prog) (w := w5) 22 5 9 Try.underlying22 Try.underlying5 Try.underlying9 ((HY4.out.kept hv5 (by simp)).rd) cq' HLT.out
  generalize strOfNums ts = S at hcv1 hcv2
  clear hua hv1 hv2 hv4 hv5 HRS HU1
  go_wp2_with fail
  clear hcv1 hcv2
  go_loopw [14] (fun i wr => ∃ t : Nat, t ≤ mv ∧ i = .int .i64 (t : Int) ∧ Hid (Frm [] w5 wr)) (fun i _ => mv - (intOf i).toNat)
  case atStart => exact ⟨0, Nat.zero_le _, rfl, hid (Frm.refl _ _)⟩
  case round =>
    obtain ⟨t, ht, rfl, hin⟩ := hrel
    have HIN := hid hin.out
    clear hin
    by_cases hlt : t < mv
    · have t1 : (t : Int) < (mv : Int) := by omega
      obtain ⟨v, hv⟩ : ∃ v, us[t]? = some v := ⟨_, List.getElem?_eq_getElem (by rw [← HU2.out]; exact hlt)⟩
      obtain ⟨g, o, hgo, r0, r1, r2, r3, r4, r5, r6, r7, r8, r9, r10⟩ := rowsSl_at (HU5.out.kept HIN.out (by simp)) hv
      obtain ⟨g', o', hgo', q0, q1, q2, q3, q4, q5, q6, q7, q8, q9, q10⟩ := rowsSl_at (HV5.out.kept HIN.out (by simp)) hv
      subst hgo
      subst hgo'
      have hne := fun W => neqSl v v W
      rw [decide_eq_true (p := v = v) rfl] at hne
      simp only [Bool.not_true] at hne
      unfold Sl.row at hne
      obtain ⟨u, z, a0, a1, a2, a3, a4, a5, a6, a7, a8⟩ := v
      simp only at hne r0 r1 r2 r3 r4 r5 r6 r7 r8 r9 r10 q0 q1 q2 q3 q4 q5 q6 q7 q8 q9 q10
      clear hv
      go_wp2_with fail
      go_quiet (fail)
      go_wp2_with fail
      go_roundw
      case rel => exact ⟨t + 1, by omega, by go_num, hid (HIN.out.drewN _)⟩
      case measure => first | (simp [intOf]; done) | (simp [intOf]; omega)
    · obtain rfl : t = mv := by omega
      go_wp2_with fail
      first | go_returns | skip
      exact HP.out _ (HF5.out.trans HIN.out (by simp))
end
end Go.Proofs.Ytkolbijhekbelaa
