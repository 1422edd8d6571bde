/- SumPieces, walked. -/
import Derived.Test.YtcnochabdhdlnaaDoorSumAq
import Derived.Test.YtcnochabdhdlnaaDoorSumAg
import Derived.Test.YtcnochabdhdlnaaDoorSumAi
namespace Go.Proofs.YtcnochabdhdlnaaDoor
open Go.RowKit
set_option maxRecDepth 100000

/-- The two running sums of SumPieces, and the bytes that they have taken in. -/
structure StP (w0 w : World) (rb qb : Nat) (p6 : Option Addr) (n6 c6 : Nat) (p7 : Option Addr) (n7 c7 : Nat) (A T : List Int) : Prop where
  r : RunAt w rb A
  q : RunAt w qb T
  la : A.length = n6
  lt : T.length = n7
  oa : Own w 5 (.slice p6 n6 c6) A
  ot : Own w 5 (.slice p7 n7 c7) T
  fr : Frm [] w0 w
  hr : w0.heap.size ≤ rb
  hq : w0.heap.size ≤ qb
  ne : rb ≠ qb
  ka : ∀ k ∈ blk p6, w0.heap.size ≤ k ∧ k ≠ rb ∧ k ≠ qb ∧ k ∉ blk p7
  kt : ∀ k ∈ blk p7, w0.heap.size ≤ k ∧ k ≠ rb ∧ k ≠ qb
  ba : ∀ z ∈ A, 0 ≤ z ∧ z < 256
  bt : ∀ z ∈ T, 0 ≤ z ∧ z < 256
theorem own_none {w : World} {E : TypeId} {p : Option Addr} {n c : Nat} {zs : List Int} (h : Own w E (.slice p n c) zs) : p = none → c = 0 := by
  obtain ⟨p', c', he, _, hn, _⟩ := h.shape
  simp only [Value.slice.injEq] at he
  obtain ⟨rfl, _, rfl⟩ := he
  exact fun hp => (hn hp).2
theorem own_len {w : World} {E : TypeId} {p : Option Addr} {n c : Nat} {zs : List Int} (h : Own w E (.slice p n c) zs) : zs.length = n ∧ n ≤ c := by
  obtain ⟨p', c', he, hle, _⟩ := h.shape
  simp only [Value.slice.injEq] at he
  obtain ⟨rfl, h2, rfl⟩ := he
  exact ⟨h2.symm, by omega⟩
set_option maxHeartbeats 12800000 in
theorem pieces_any (pp : Option Addr) (np cp tot : Nat) (w : World) (hC : CameP w pp np cp tot) (htot : tot ≤ 1048576) (hpr : Primes w) :
    Calls Tryd.prog 5 #[.slice pp np cp] w fun e w' => e = .returned (.bool true) ∧ Frm [] w w' := by
  obtain ⟨hc1, hc2, ds, hdl, hds, hat⟩ := hC
  have HDL := hid hdl
  have HAT := hid hat
  have HAW := hid (awake2_any w hpr)
  clear hdl hat hpr
  go_enter Tryd.func5, Tryd.ntmps5
  go_wp2_with fail
  refine HAW.out.mono ?_
  rintro e w1 ⟨rfl, hf1⟩
  have HF1 := hid hf1
  clear hf1
  go_wp2_with fail
  refine (new_any w1).mono ?_
  rintro e w2 ⟨rfl, hr2, hf2⟩
  have HR2 := hid hr2
  have HF2 := hid (HF1.out.trans hf2 (by simp))
  have HB2 : Hid (w.heap.size ≤ w1.heap.size) := hid HF1.out.size
  obtain ⟨rb, hrb⟩ : ∃ rb, w1.heap.size = rb := ⟨_, rfl⟩
  rw [hrb] at HR2 HB2 ⊢
  clear hr2 hf2 hrb
  go_wp2_with fail
  refine (clone_any rb [] w2 HR2.out).mono ?_
  rintro e w3 ⟨rfl, hr3, hf3⟩
  have hlt := lt_of_heap HR2.out
  have HST : Hid (StP w w3 rb w2.heap.size none 0 0 none 0 0 [] []) := hid ⟨HR2.out.kept hf3 (by simp), hr3, rfl, rfl, Own.nil _ _, Own.nil _ _, HF2.out.trans hf3 (by simp), HB2.out, by have := HB2.out; omega, by omega, by simp [blk], by simp [blk], by simp, by simp⟩
  obtain ⟨qb, hqb⟩ : ∃ qb, w2.heap.size = qb := ⟨_, rfl⟩
  rw [hqb] at HST ⊢
  clear hr3 hf3 hqb hlt
  have HT0 : Hid (0 + restP ds 0 ≤ 1048576) := hid (by omega)
  go_wp2_with fail
  go_loopw [5, 6, 7, 8] (fun xq x6 x7 i wr => ∃ (j qb n6 c6 n7 c7 : Nat) (p6 p7 : Option Addr) (A T : List Int), j ≤ np ∧ xq = .pointer (some ⟨qb, 0, none⟩) ∧ x6 = .slice p6 n6 c6 ∧ x7 = .slice p7 n7 c7 ∧ i = .int .i64 j ∧ Hid (n6 + restP ds j ≤ 1048576) ∧ Hid (n7 ≤ 1048576) ∧ Hid (StP w wr rb qb p6 n6 c6 p7 n7 c7 A T)) (fun xq x6 x7 i _ => np - (intOf i).toNat)
  case atStart => exact ⟨0, qb, 0, 0, 0, 0, none, none, [], [], by omega, rfl, rfl, rfl, rfl, HT0, hid (by omega), HST⟩
  case round =>
    clear HST HT0
    obtain ⟨j, qb, n6, c6, n7, c7, p6, p7, A, T, hj, rfl, rfl, rfl, rfl, htn, ht7, hst⟩ := hrel
    have htn' := htn.out
    have ht7' := ht7.out
    obtain ⟨wo, rfl⟩ : ∃ x : World, x = wr := ⟨_, rfl⟩
    by_cases hlt : j < np
    · obtain ⟨g, o, rfl, hpi⟩ : ∃ g o, pp = some ⟨g, o, none⟩ ∧ PiAt w g (o + j * 2) (ds.getD j default) := by
        rcases HAT.out with h | ⟨g, o, e, h⟩
        · omega
        · exact ⟨g, o, e, h j hlt⟩
      have hstep := restP_step ds j (by rw [HDL.out]; exact hlt)
      obtain ⟨d, hd⟩ : ∃ d, ds.getD j default = d := ⟨_, rfl⟩
      rw [hd] at hpi hstep
      obtain ⟨q, bl, bc, ns, cpy⟩ := d
      simp only at hstep
      have HPI := hid hpi
      have hpir := hpi.kept hst.out.fr
      have k0 := hpir.c0
      have k1 := hpir.c1
      have hnl := hpi.len
      have hle := hpi.le
      have hmx := hpi.mx
      simp only at k0 k1 hnl hle hmx
      have t1 : (j : Int) < (np : Int) := by omega
      have hbl : bl ≤ 1048576 := by omega
      have hn6 : n6 + bl ≤ 1048576 := by omega
      have HQL : Hid (∀ k ∈ blk q, ns ≠ [] → k < w.heap.size) := hid (fun k hk hne => hpi.rd.lows hne k hk)
      have HNL := hid hnl
      have HT2 : Hid (n6 + bl + restP ds (j + 1) ≤ 1048576) := hid (by omega)
      have HT3 : Hid (n6 + restP ds (j + 1) ≤ 1048576) := hid (by omega)
      clear hpir hd hstep hnl htn' hpi hds
      cases cpy with
      | true =>
        have HST := hst
        have HCL := hid (clone_any rb A wo hst.out.r)
        clear hst
        go_wp2_with fail
        refine HCL.out.mono ?_
        rintro e x1 ⟨rfl, hr1, hf1⟩
        have HR1 := hid hr1
        have HF1' := hid hf1
        have hk0 := (HPI.out.kept (HST.out.fr.trans hf1 (by simp))).c0
        simp only at hk0
        have HQB : Hid (wo.heap.size < x1.heap.size) := hid (lt_of_heap hr1)
        have HRB : Hid (rb < wo.heap.size) := hid (lt_of_heap HST.out.r)
        obtain ⟨qn, hqn⟩ : ∃ qn, wo.heap.size = qn := ⟨_, rfl⟩
        have HQN := hid hqn
        rw [hqn] at HR1 HRB ⊢
        clear hr1 hf1 hqn k0 k1 HCL
        have HWQ : Hid (w.heap.size ≤ qn) := hid (by have := HST.out.fr.size; have := HQN.out; omega)
        have HAD := hid (add_any qn A HST.out.ba q bl bc ns x1 HR1.out HNL.out hle (by omega) (HPI.out.rd.kept (HST.out.fr.trans HF1'.out (by simp)) (by simp)) HPI.out.by_ (fun hne hk => by have := HQL.out qn hk hne; have := HWQ.out; omega))
        go_wp2_with fail
        refine HAD.out.mono ?_
        rintro e x2 ⟨rfl, hr2, hf2⟩
        have HR2' := hid hr2
        have HF02 : Hid (Frm [qn] wo x2) := hid ((HF1'.out.mono (by simp)).trans hf2 (fun i hi _ => hi))
        have HFW2 : Hid (Frm [] w x2) := hid ((HST.out.fr.trans HF1'.out (by simp)).trans hf2 (fun i hi hl => by simp at hi; have := HWQ.out; omega))
        have HOA2 : Hid (Own x2 5 (.slice p6 n6 c6) A) := hid (HST.out.oa.kept HF02.out (by rw [own_blk]; intro k hk hs; have := HST.out.oa.lows k hk; have := HQN.out; simp at hs; omega))
        clear hr2 hf2 hk0 HAD
        have hla := HST.out.la
        go_wp2_with (at_builtin; refine wpList_appB rfl _ _ 22 rfl 5 Tryd.underlying22 infoB none 0 0 [] rfl rfl (Own.nil _ _) p6 n6 c6 A rfl hla.symm (fun _ => own_none HOA2.out) HOA2.out.rd (by rw [hla]; simp; omega) ?_)
        intro xs3 p8 c8 x3 hxs ho3 hf3 hfr3
        have hx3 : xs3 = A := hxs.out
        subst xs3
        rw [hla]
        have HO3 : Hid (Own x3 5 (.slice p8 n6 c8) A) := hid (by have h := ho3.out; rwa [hla] at h)
        have hf3' : Frm [] x2 x3 := hf3.out.mono (by simp [blk])
        have HF03 : Hid (Frm [qn] wo x3) := hid (HF02.out.trans hf3' (by simp))
        have HFW3 := hid (HFW2.out.trans hf3' (by simp))
        have HR3 := hid (HR2'.out.kept hf3' (by simp))
        have HQ2 : Hid (qn < x2.heap.size) := hid (lt_of_heap HR2'.out)
        have HK3 : Hid (∀ k ∈ blk p8, qn < k) := hid (fun k hk => by
          rcases hfr3.out k hk with h | h
          · simp [blk] at h
          · have := HQ2.out; omega)
        have hk0 := (HPI.out.kept HFW3.out).c0
        simp only at hk0
        have hrd3 : Rd x3 q ns := HPI.out.rd.kept HFW3.out (by simp)
        have HRD3 := hid hrd3
        clear ho3 hf3 hfr3 hf3' hrd3
        have hnl := HNL.out
        go_wp2_with (at_builtin; refine wpList_appB rfl _ _ 22 rfl 5 Tryd.underlying22 infoB p8 n6 c8 A rfl hla.symm (by rw [hla]; exact HO3.out) q bl bc ns rfl hnl.symm HPI.out.no HRD3.out (by rw [hla, hnl]; omega) ?_)
        intro xs4 p9 c9 x4 hxs ho4 hf4 hfr4
        have hx4 : xs4 = A ++ ns := hxs.out
        have hxl : xs4.length = n6 + bl := by rw [hx4, List.length_append, hla, hnl]
        rw [hxl]
        have hO4 := ho4.out
        rw [hxl, hx4] at hO4
        have hbA : ∀ z ∈ A ++ ns, 0 ≤ z ∧ z < 256 := fun z hz => by
          rcases List.mem_append.1 hz with hz | hz
          · exact HST.out.ba z hz
          · exact HPI.out.by_ z hz
        have hx3s : qn < x3.heap.size := lt_of_heap HR3.out
        have hF4 : Frm [qn] wo x4 := HF03.out.trans hf4.out (fun i hi hl => by have := HK3.out i hi; have := HQN.out; omega)
        have hno : ∀ k, k < qn → k ∉ blk p8 := fun k hk hm => by have := HK3.out k hm; omega
        have hk9 : ∀ k ∈ blk p9, qn < k := fun k hk => by
          rcases hfr4.out k hk with h | h
          · exact HK3.out k h
          · omega
        have HSE : Hid (StP w x4 rb qn p6 n6 c6 p9 (n6 + bl) c9 A (A ++ ns)) := hid
          ⟨HST.out.r.kept hF4 (by simp; have := HRB.out; omega), HR3.out.kept hf4.out (fun hm => by have := HK3.out _ hm; omega), hla, by rw [← hx4]; exact hxl,
           HST.out.oa.kept hF4 (by rw [own_blk]; intro k hk hs; have := HST.out.oa.lows k hk; have := HQN.out; simp at hs; omega), hO4,
           HFW3.out.trans hf4.out (fun i hi hl => by have := HK3.out i hi; have := HWQ.out; omega), HST.out.hr, HWQ.out, by have := HRB.out; omega,
           fun k hk => ⟨(HST.out.ka k hk).1, (HST.out.ka k hk).2.1, by have := HST.out.oa.lows k hk; have := HQN.out; omega, fun hm => by have := hk9 k hm; have := HST.out.oa.lows k hk; have := HQN.out; omega⟩,
           fun k hk => by have := hk9 k hk; have := HWQ.out; have := HRB.out; exact ⟨by omega, by omega, by omega⟩, HST.out.ba, hbA⟩
        clear hxs ho4 hf4 hfr4 hx4 hxl hO4 hbA hx3s hF4 hno hk9 HST HF1' HR1 HF02 HFW2 HOA2 HO3 HF03 HFW3 HR3 HQ2 HK3 HRD3 hk0 hla HR2'
        have HVR := hid (value_any2 rb (A) HSE.out.ba x4 HSE.out.r)
        have HRF := hid (fun W (h : Frm [] x4 W) => refFl_any p6 (n6) c6 (A) W HSE.out.la (by omega) (HSE.out.oa.rd.kept h (by simp)) HSE.out.ba)
        have HVQ := hid (fun W (h : Frm [] x4 W) => value_any2 qn (A ++ ns) HSE.out.bt W (HSE.out.q.kept h (by simp)))
        have HRT := hid (fun W (h : Frm [] x4 W) => refFl_any p9 (n6 + bl) c9 (A ++ ns) W HSE.out.lt (by omega) (HSE.out.ot.rd.kept h (by simp)) HSE.out.bt)
        obtain ⟨X, hX⟩ : ∃ X, fletch (A) = X := ⟨_, rfl⟩
        obtain ⟨Y, hY⟩ : ∃ Y, fletch (A ++ ns) = Y := ⟨_, rfl⟩
        rw [hX] at HVR HRF
        rw [hY] at HVQ HRT
        unfold S4.arr at HVR HRF HVQ HRT
        have HKP := hid (fun W (h : Frm [] x4 W) => show StP w W rb qn p6 (n6) c6 p9 (n6 + bl) c9 (A) (A ++ ns) from ⟨HSE.out.r.kept h (by simp), HSE.out.q.kept h (by simp), HSE.out.la, HSE.out.lt, HSE.out.oa.kept h (by simp), HSE.out.ot.kept h (by simp), HSE.out.fr.trans h (by simp), HSE.out.hr, HSE.out.hq, HSE.out.ne, HSE.out.ka, HSE.out.kt, HSE.out.ba, HSE.out.bt⟩)
        clear hX hY HSE
        go_wp2_with fail
        refine HVR.out.mono ?_
        rintro e v1 ⟨rfl, hg1⟩
        have HG1 := hid hg1
        clear hg1
        go_wp2_with fail
        refine (HRF.out _ HG1.out).mono ?_
        rintro e v2 ⟨rfl, hg2⟩
        have HG2 := hid (HG1.out.trans hg2 (by simp))
        clear hg2
        go_wp2_with fail
        refine (HVQ.out _ HG2.out).mono ?_
        rintro e v3 ⟨rfl, hg3⟩
        have HG3 := hid (HG2.out.trans hg3 (by simp))
        clear hg3
        go_wp2_with fail
        refine (HRT.out _ HG3.out).mono ?_
        rintro e v4 ⟨rfl, hg4⟩
        have HG4 := hid (HG3.out.trans hg4 (by simp))
        clear hg4
        go_wp2_with fail
        go_roundw
        case rel => exact ⟨j + 1, qn, n6, c6, n6 + bl, c9, p6, p9, A, A ++ ns, by omega, rfl, rfl, rfl, by go_num, HT3, hid (by omega), hid (HKP.out _ HG4.out)⟩
        case measure => simp [intOf]; omega
      | false =>
        have HST := hst
        have HLE := hid (lent2_any q bl bc ns wo HNL.out HPI.out.no (by omega) (HPI.out.rd.kept hst.out.fr (by simp)))
        clear hst
        go_wp2_with fail
        refine HLE.out.mono ?_
        rintro e x1 ⟨g1, d1, rfl, hd1, ho1, hf1, hg1⟩
        have hrd1 : Rd x1 (some ⟨g1, 0, none⟩) ns := by
          have h2 := ho1.rd.take bl
          rwa [show (ns ++ [77, 78] : List Int).take bl = ns by rw [← HNL.out, List.take_left]] at h2
        have HRB : Hid (rb < wo.heap.size) := hid (lt_of_heap HST.out.r)
        have HQB : Hid (qb < wo.heap.size) := hid (lt_of_heap HST.out.q)
        have HG1 := hid hg1
        have HD1 := hid hd1
        have HF1' := hid hf1
        have HWW : Hid (w.heap.size ≤ wo.heap.size) := hid HST.out.fr.size
        have HAD := hid (add_any rb A HST.out.ba (some ⟨g1, 0, none⟩) bl d1 ns x1 (HST.out.r.kept hf1 (by simp)) HNL.out (by omega) (by omega) hrd1 HPI.out.by_ (fun _ hk => by simp [blk] at hk; have := HRB.out; omega))
        have HO1 := hid ho1
        clear ho1 hf1 hg1 hd1 hrd1 k0 k1 HLE
        go_wp2_with fail
        refine HAD.out.mono ?_
        rintro e x2 ⟨rfl, hr2, hf2⟩
        have HR2' := hid hr2
        have HF02 : Hid (Frm [rb] wo x2) := hid ((HF1'.out.mono (by simp)).trans hf2 (fun i hi _ => hi))
        have HFW2 : Hid (Frm [] w x2) := hid (HST.out.fr.trans HF02.out (fun i hi hl => by simp at hi; have := HST.out.hr; omega))
        have hO2 : Own x2 5 (.slice (some ⟨g1, 0, none⟩) (bl + 2) d1) (ns ++ [77, 78]) := HO1.out.kept hf2 (by rw [own_blk]; intro k hk hs; simp [blk] at hk hs; have := HG1.out; have := HRB.out; omega)
        have HO2 := hid hO2
        have HSL := hid (still2_any g1 bl d1 q bc ns x2 HNL.out (by omega) HD1.out hO2.rd (HPI.out.rd.kept HFW2.out (by simp)))
        have hk0 := (HPI.out.kept HFW2.out).c0
        simp only at hk0
        clear hr2 hf2 hO2 HAD HO1
        go_wp2_with fail
        refine HSL.out.mono ?_
        rintro e x3 ⟨rfl, hf3⟩
        have HR3 := hid (HR2'.out.kept hf3 (by simp))
        have HF03 := hid (HF02.out.trans hf3 (by simp))
        have HO3 := hid (HO2.out.kept hf3 (by simp))
        clear hf3 hk0 HSL HO2 HF02 HFW2 HR2'
        go_wp2_with fail
        go_loopw [11] (fun k wr => ∃ (t : Nat) (ys : List Int), t ≤ bl ∧ k = .int .i64 t ∧ Hid (ys.length = bl + 2) ∧ Hid (Own wr 5 (.slice (some ⟨g1, 0, none⟩) (bl + 2) d1) ys) ∧ Hid (RunAt wr rb (A ++ ns)) ∧ Hid (Frm [rb] wo wr)) (fun k _ => bl - (intOf k).toNat)
        case atStart => exact ⟨0, ns ++ [77, 78], by omega, rfl, hid (by rw [List.length_append, HNL.out]; rfl), HO3, HR3, HF03⟩
        case round =>
          clear HO3 HR3 HF03
          obtain ⟨t, ys, ht, rfl, hyl, hoy, hrr, hfk⟩ := hrel
          by_cases htl : t < bl
          · obtain ⟨g2, e2, hg2, hce, hfz, hset⟩ := hoy.out.setAt hyl.out (show t < bl + 2 by omega)
            simp only [Option.some.injEq, Addr.mk.injEq, and_true] at e2
            subst e2
            have t2 : (t : Int) < (bl : Int) := by omega
            have hgn : g1 ≠ rb := by have := HG1.out; have := HRB.out; omega
            obtain ⟨z, hz⟩ : ∃ z, ys.getD t 0 = z := ⟨_, rfl⟩
            rw [hz] at hce
            have HSET := hid hset
            clear hset hz hg2
            go_wp2_with fail
            go_roundw
            case rel =>
              refine ⟨t + 1, _, by omega, by go_num, hid (by rw [List.length_set]; exact hyl.out), hid (HSET.out _), hid (hrr.out.kept ((Frm.refl [g1] _).setCell _ _ (by simp)) (by simp; omega)), hid ?_⟩
              exact hfk.out.setCell _ _ (fun hl => by have := HG1.out; simp at hl; omega)
            case measure => simp [intOf]; omega
          · obtain rfl : t = bl := by omega
            have HFW4 : Hid (Frm [] w wr) := hid (HST.out.fr.trans hfk.out (fun i hi hl => by simp at hi; have := HST.out.hr; omega))
            have hk0 := (HPI.out.kept HFW4.out).c0
            simp only at hk0
            have hla := HST.out.la
            have hnl := HNL.out
            have HOA4 : Hid (Own wr 5 (.slice p6 n6 c6) A) := hid (HST.out.oa.kept hfk.out (by rw [own_blk]; intro k hk hs; simp at hs; exact (HST.out.ka k hk).2.1 hs))
            have HRD4 : Hid (Rd wr q ns) := hid (HPI.out.rd.kept HFW4.out (by simp))
            have HRUN := hrr
            have HFK := hfk
            have HSZK : Hid (wo.heap.size ≤ wr.heap.size) := hid hfk.out.size
            clear htl hyl hoy hrr hfk
            go_wp2_with (at_builtin; refine wpList_appB rfl _ _ 22 rfl 5 Tryd.underlying22 infoB p6 n6 c6 A rfl hla.symm (by rw [hla]; exact HOA4.out) q t bc ns rfl hnl.symm HPI.out.no HRD4.out (by rw [hla, hnl]; omega) ?_)
            intro xs4 p9 c9 x4 hxs ho4 hf4 hfr4
            have hx4 : xs4 = A ++ ns := hxs.out
            have hxl : xs4.length = n6 + t := by rw [hx4, List.length_append, hla, hnl]
            rw [hxl]
            have hO4 := ho4.out
            rw [hxl, hx4] at hO4
            have hbA : ∀ z ∈ A ++ ns, 0 ≤ z ∧ z < 256 := fun z hz => by
              rcases List.mem_append.1 hz with hz | hz
              · exact HST.out.ba z hz
              · exact HPI.out.by_ z hz
            have hF4 : ∀ k, k < wo.heap.size → k ≠ rb → k ∉ blk p6 → x4.heap[k]? = wo.heap[k]? := fun k h1 h2 h3 =>
              (hf4.out.block k (by have := HSZK.out; omega) h3).trans (HFK.out.block k h1 (by simpa using h2))
            have hk9 : ∀ k ∈ blk p9, k ∈ blk p6 ∨ wo.heap.size ≤ k := fun k hk => by
              rcases hfr4.out k hk with h | h
              · exact Or.inl h
              · have := HSZK.out; exact Or.inr (by omega)
            have hF24 : Frm (rb :: blk p6) wo x4 := (HFK.out.mono (fun i hi _ => by simp at hi; simp [hi])).trans hf4.out (fun i hi _ => by simp [hi])
            have HSE : Hid (StP w x4 rb qb p9 (n6 + t) c9 p7 n7 c7 (A ++ ns) T) := hid
              ⟨HRUN.out.kept hf4.out (fun hm => (HST.out.ka _ hm).2.1 rfl),
               HST.out.q.kept hF24 (by simp only [List.mem_cons, not_or]; exact ⟨fun h => HST.out.ne h.symm, fun hm => (HST.out.ka _ hm).2.2.1 rfl⟩), by rw [← hx4]; exact hxl, HST.out.lt, hO4,
               HST.out.ot.kept hF24 (by rw [own_blk]; intro k hk hs; simp only [List.mem_cons] at hs; rcases hs with h | h; · exact (HST.out.kt k hk).2.1 h
                                        · exact (HST.out.ka k h).2.2.2 hk),
               HFW4.out.trans hf4.out (fun i hi hl => by have := (HST.out.ka i hi).1; omega), HST.out.hr, HST.out.hq, HST.out.ne,
               fun k hk => by
                 rcases hk9 k hk with h | h
                 · exact HST.out.ka k h
                 · refine ⟨by have := HWW.out; omega, by have := HRB.out; omega, by have := HQB.out; omega, fun hm => by have := HST.out.ot.lows k hm; omega⟩,
               HST.out.kt, hbA, HST.out.bt⟩
            clear hxs ho4 hf4 hfr4 hx4 hxl hO4 hbA hF4 hk9 hF24 HST HFW4 hk0 hla HOA4 HRD4 HRUN HFK HSZK
            have HVR := hid (value_any2 rb (A ++ ns) HSE.out.ba x4 HSE.out.r)
            have HRF := hid (fun W (h : Frm [] x4 W) => refFl_any p9 (n6 + t) c9 (A ++ ns) W HSE.out.la (by omega) (HSE.out.oa.rd.kept h (by simp)) HSE.out.ba)
            have HVQ := hid (fun W (h : Frm [] x4 W) => value_any2 qb (T) HSE.out.bt W (HSE.out.q.kept h (by simp)))
            have HRT := hid (fun W (h : Frm [] x4 W) => refFl_any p7 (n7) c7 (T) W HSE.out.lt (by omega) (HSE.out.ot.rd.kept h (by simp)) HSE.out.bt)
            obtain ⟨X, hX⟩ : ∃ X, fletch (A ++ ns) = X := ⟨_, rfl⟩
            obtain ⟨Y, hY⟩ : ∃ Y, fletch (T) = Y := ⟨_, rfl⟩
            rw [hX] at HVR HRF
            rw [hY] at HVQ HRT
            unfold S4.arr at HVR HRF HVQ HRT
            have HKP := hid (fun W (h : Frm [] x4 W) => show StP w W rb qb p9 (n6 + t) c9 p7 (n7) c7 (A ++ ns) (T) from ⟨HSE.out.r.kept h (by simp), HSE.out.q.kept h (by simp), HSE.out.la, HSE.out.lt, HSE.out.oa.kept h (by simp), HSE.out.ot.kept h (by simp), HSE.out.fr.trans h (by simp), HSE.out.hr, HSE.out.hq, HSE.out.ne, HSE.out.ka, HSE.out.kt, HSE.out.ba, HSE.out.bt⟩)
            clear hX hY HSE
            go_wp2_with fail
            refine HVR.out.mono ?_
            rintro e v1 ⟨rfl, hg1⟩
            have HG1 := hid hg1
            clear hg1
            go_wp2_with fail
            refine (HRF.out _ HG1.out).mono ?_
            rintro e v2 ⟨rfl, hg2⟩
            have HG2 := hid (HG1.out.trans hg2 (by simp))
            clear hg2
            go_wp2_with fail
            refine (HVQ.out _ HG2.out).mono ?_
            rintro e v3 ⟨rfl, hg3⟩
            have HG3 := hid (HG2.out.trans hg3 (by simp))
            clear hg3
            go_wp2_with fail
            refine (HRT.out _ HG3.out).mono ?_
            rintro e v4 ⟨rfl, hg4⟩
            have HG4 := hid (HG3.out.trans hg4 (by simp))
            clear hg4
            go_wp2_with fail
            go_roundw
            case rel => exact ⟨j + 1, qb, n6 + t, c9, n7, c7, p9, p7, A ++ ns, T, by omega, rfl, rfl, rfl, by go_num, HT2, ht7, hid (HKP.out _ HG4.out)⟩
            case measure => simp [intOf]; omega
    · obtain rfl : j = np := by omega
      have HVR := hid (value_any2 rb A hst.out.ba wo hst.out.r)
      have HRF := hid (fun W (h : Frm [] wo W) => refFl_any p6 n6 c6 A W hst.out.la (by omega) (hst.out.oa.rd.kept h (by simp)) hst.out.ba)
      obtain ⟨X, hX⟩ : ∃ X, fletch A = X := ⟨_, rfl⟩
      rw [hX] at HVR HRF
      unfold S4.arr at HVR HRF
      have HFW := hid hst.out.fr
      clear hX hst hlt
      go_wp2_with fail
      refine HVR.out.mono ?_
      rintro e w4 ⟨rfl, hf4⟩
      have HF4 := hid (HFW.out.trans hf4 (by simp))
      have HG4 := hid hf4
      clear hf4
      go_wp2_with fail
      refine (HRF.out _ HG4.out).mono ?_
      rintro e w5 ⟨rfl, hf5⟩
      have HF5 := hid (HF4.out.trans hf5 (by simp))
      clear hf5
      go_wp2_with fail
      go_returns
      exact ⟨by first | rfl | simp, HF5.out⟩
end Go.Proofs.YtcnochabdhdlnaaDoor
