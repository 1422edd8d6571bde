/- RecordChain: records of a stream changed about are taken up by both alike. -/
import Derived.Test.YtajfjkfnmmfhmaaGreatDoorQcaq
import Derived.Test.YtajfjkfnmmfhmaaGreatDoorQcau
import Derived.Test.YtajfjkfnmmfhmaaGreatDoorQcak
import Derived.Test.YtajfjkfnmmfhmaaGreatDoorRows
import Derived.LaidLaws
import Derived.Lib.LaidTab
import Derived.Test.YtajfjkfnmmfhmaaGreatDoorQcac
import Derived.Test.YtajfjkfnmmfhmaaGreatDoorQcao
import Derived.LaidSub
import Derived.Test.YtajfjkfnmmfhmaaGreatDoorQcad
import Derived.Test.YtajfjkfnmmfhmaaGreatDoorQcam
namespace Go.Proofs.YtajfjkfnmmfhmaaGreatDoor
set_option maxRecDepth 100000
set_option maxHeartbeats 25600000
section
open Go.RowKit Go.Lib
theorem refEncodeV_any (r : Rc) (P : List Pr) (K D : List Int) (a : S4) (ha : a.Bd) (w : World) (hr : RcOk w r P K D) (hs : r.name.size ≤ 140737488355328) (hv : PvOk P) (hvs : Vars w) :
  Calls Tryz.prog 14 #[.agg r.arr, .agg a.arr] w fun e w' => ∃ p c, e = .returned (.tuple #[.slice p (encB a r P K D).length c, .agg (encS a r P K D).arr, .int .i64 (encE r P K D)]) ∧ Own w' 5 (.slice p (encB a r P K D).length c) (encB a r P K D) ∧ (∀ k ∈ blk p, w.heap.size ≤ k ∧ k < w'.heap.size) ∧ Frm [] w w' := by
 by_cases hm : RcMay r P K D
 ·refine (refEncode_ok r P K D a w hr hs hv hm ha hvs).mono fun e w' h => ?_
  obtain ⟨q, n, d, rfl, hn, hb⟩ := h
  unfold encB encS encE
  simp only [if_pos hm]
  exact ⟨q, d, by rw [hn], by rw [← hn]; exact hb.own, fun k hk => ⟨hb.nil.2 k hk, hb.own.lows k hk⟩, hb.nil.1⟩
 ·refine (refEncode_bad r P K D a w hr hs hv hm).mono fun e w' h => ?_
  obtain ⟨rfl, hf⟩ := h
  unfold encB encS encE
  simp only [if_neg hm]
  exact ⟨none, 0, rfl, Own.nil _ _, by simp [blk], hf⟩
theorem encB_of {r : Rc} {P : List Pr} {K D : List Int} (a : S4) (he : encE r P K D = 0) (h1 : P.length = r.pn) (h2 : K.length = r.kn) (h3 : D.length = r.dl) (hd : ∀ z ∈ D, 0 ≤ z ∧ z < 256) : encS a r P K D = selR a r P K D ∧ 0 < (encB a r P K D).length ∧ (encB a r P K D).length ≤ 2100 ∧ ∀ z ∈ encB a r P K D, 0 ≤ z ∧ z < 256 := by
 have hm : RcMay r P K D := by
  unfold encE at he
  split at he
  ·assumption
  ·omega
 have e1 : encB a r P K D = recB a r P K D := by unfold encB; rw [if_pos hm]
 rw [e1]
 refine ⟨by unfold encS; rw [if_pos hm], ?_, ?_, recB_bd hd⟩
 ·unfold recB; rw [recL_len]; omega
 ·have := bodyR_len hm h1 h2 h3
  unfold recB; rw [recL_len]; omega
def PcOk (x : Bk) : Prop := 0 < x.bs.length ∧ x.bs.length ≤ 2100 ∧ ∀ z ∈ x.bs, 0 ≤ z ∧ z < 256
theorem recordChain_any (p : Option Addr) (n c : Nat) (L : List Rk) (i k : Int) (hi1 : -9223372036854775808 ≤ i) (hi2 : i ≤ 9223372036854775807) (hk1 : -9223372036854775808 ≤ k) (hk2 : k ≤ 9223372036854775807) (w : World) (hn : L.length = n) (hnb : n ≤ 1048576) (hrd : RdRk w p L) (hpv : ∀ i, i < n → PvOk (rkA L i).P) (hpr : Primes w) (hvs : Vars w) :
  Calls Tryz.prog 6 #[.slice p n c, .int .i64 i, .int .i64 k] w fun e w' => e = .returned (.bool true) ∧ Frm [] w w' := by
 obtain ⟨PO, hPO⟩ : ∃ PO : Ending → World → Prop, (fun e w' => e = .returned (.bool true) ∧ Frm [] w w') = PO := ⟨_, rfl⟩
 rw [hPO]
 have HP : Hid (∀ w', Frm [] w w' → PO (.returned (.bool true)) w') := hid (fun w' h => by rw [← hPO]; exact ⟨rfl, h⟩)
 have HAW := hid (awake20_any w hpr)
 have HRC := hid (fun V (hf : Frm [] w V) q (m d : Nat) bs (hm : bs.length = m) (hmd : m ≤ d) (hm9 : m ≤ 140737488351232) (hr : Rd V q bs) (hb : ∀ z ∈ bs, 0 ≤ z ∧ z < 256) => (records_any q m d bs V hm hmd (by omega) hr hb (hpr.kept hf)).mono (fun e w' h => rcs_val h))
 have HRF := hid (fun V (hf : Frm [] w V) q (m d : Nat) bs (hm : bs.length = m) (hmd : m ≤ d) (hm9 : m ≤ 140737488351232) (hr : Rd V q bs) (hb : ∀ z ∈ bs, 0 ≤ z ∧ z < 256) => (refRecords_any q m d bs V hm hmd (by omega) hr hb (hvs.kept hf)).mono (fun e w' h => rcs_val h))
 unfold RcsV at HRC HRF
 have HRD := hid hrd
 have HLN := hid hn
 have HPV := hid hpv
 have HVS := hid hvs
 have hbr4 : ∀ V, (Instr.build 29 #[]).run Tryz.prog V = .ok (.agg #[.int .u64 0, .int .u64 0, .int .u64 0, .int .u64 0]) V := fun V => run_build V _ _ _ (by kernel_rfl)
 clear hPO hn hrd hpv hpr hvs
 go_enter Tryz.func6, Tryz.ntmps6
 go_wp2_with fail
 refine HAW.out.mono ?_
 rintro e w1 ⟨rfl, hf1⟩
 have HF1 := hid hf1
 clear hf1 HAW
 by_cases hb1 : i < 0
 ·have HX := hid (HP.out w1 HF1.out)
  go_wp2_with fail
  try go_returns
  exact HX.out
 by_cases hb2 : k < 0
 ·have HX := hid (HP.out w1 HF1.out)
  go_wp2_with fail
  try go_returns
  exact HX.out
 obtain ⟨i0, rfl⟩ : ∃ i0 : Nat, i = (i0 : Int) := ⟨i.toNat, by omega⟩
 obtain ⟨k0, rfl⟩ : ∃ k0 : Nat, k = (k0 : Int) := ⟨k.toNat, by omega⟩
 by_cases hb3 : n ≤ i0
 ·have HX := hid (HP.out w1 HF1.out)
  have e3 : (n : Int) ≤ (i0 : Int) := by omega
  go_wp2_with fail
  try go_returns
  exact HX.out
 by_cases hb4 : n ≤ k0
 ·have HX := hid (HP.out w1 HF1.out)
  have e3 : ¬ (n : Int) ≤ (i0 : Int) := by omega
  have e4 : (n : Int) ≤ (k0 : Int) := by omega
  go_wp2_with fail
  try go_returns
  exact HX.out
 by_cases hb5 : k0 ≤ i0
 ·have HX := hid (HP.out w1 HF1.out)
  have e3 : ¬ (n : Int) ≤ (i0 : Int) := by omega
  have e4 : ¬ (n : Int) ≤ (k0 : Int) := by omega
  have e5 : (k0 : Int) ≤ (i0 : Int) := by omega
  go_wp2_with fail
  try go_returns
  exact HX.out
 have e3 : ¬ (n : Int) ≤ (i0 : Int) := by omega
 have e4 : ¬ (n : Int) ≤ (k0 : Int) := by omega
 have e5 : ¬ (k0 : Int) ≤ (i0 : Int) := by omega
 have hrow := heap_alloc_new w1 (.cells #[.int .u64 0, .int .u64 0, .int .u64 0, .int .u64 0] 29)
 have hfs : Frm [] w1 (w1.alloc (.cells #[.int .u64 0, .int .u64 0, .int .u64 0, .int .u64 0] 29)) := (Frm.refl _ _).alloc _
 obtain ⟨ws, hws⟩ := eX (w1.alloc (.cells #[.int .u64 0, .int .u64 0, .int .u64 0, .int .u64 0] 29))
 obtain ⟨xs, hbs⟩ := eX (w1.heap.size)
 rw [hws, hbs] at hrow
 rw [hws] at hfs
 have q0 := cR 0 (.int .u64 0) hrow
 have m0 := fZ 0 hrow
 have q1 := cR 1 (.int .u64 0) hrow
 have m1 := fZ 1 hrow
 have q2 := cR 2 (.int .u64 0) hrow
 have m2 := fZ 2 hrow
 have q3 := cR 3 (.int .u64 0) hrow
 have m3 := fZ 3 hrow
 go_upto_region 7 with fail
 try rw [hws]
 try rw [hbs]
 go_upto_region 8 with fail
 obtain ⟨h4, f4⟩ := set4 (y0 := .int .u64 0) (y1 := .int .u64 0) (y2 := .int .u64 0) (y3 := .int .u64 0) hrow
 obtain ⟨W4, hW4⟩ := eX (((((ws.setCell ⟨xs, 0, none⟩ (.int .u64 0)).setCell ⟨xs, 1, none⟩ (.int .u64 0)).setCell ⟨xs, 2, none⟩ (.int .u64 0)).setCell ⟨xs, 3, none⟩ (.int .u64 0)))
 rw [hW4] at h4 f4
 try rw [hW4]
 have HROW := hid h4
 have HBS : Hid (w.heap.size ≤ xs) := hid (by have := HF1.out.size; omega)
 have HFS : Hid (Frm [] w W4) := hid ((HF1.out.trans hfs (by simp)).trans f4 (fun i hi hl => by rw [List.mem_singleton] at hi; have := HBS.out; omega))
 clear h4 f4 hW4 hrow hfs hbs hws HF1 q0 m0 q1 m1 q2 m2 q3 m3 hb1 hb2
 go_loopw [9, 11] (fun pv nv wr => ∃ (t cq : Nat) (q : Option Addr) (ls : List Bk), t ≤ n ∧ pv = .slice q t cq ∧ nv = .int .i64 (t : Int) ∧ Hid (OwnK wr q t cq ls) ∧ Hid (∀ x ∈ ls, PcOk x) ∧ Hid (NewK (xs + 1) q ls) ∧ Hid (wr.heap[xs]? = some (.cells (strS L t).arr 29 (0, 0))) ∧ Hid (xs < wr.heap.size) ∧ Hid (Frm [] w wr)) (fun _ nv _ => n - (intOf nv).toNat)
 case atStart => exact ⟨0, 0, none, [], Nat.zero_le _, rfl, rfl, hid (OwnK.nil _), hid (by simp), hid ⟨by simp [blk], by simp⟩, hid HROW.out, hid (lt_of_heap HROW.out), HFS⟩
 case round =>
  obtain ⟨t, cq, q, ls, ht, rfl, rfl, how, hpc, hnw, hsr, hbl, hf⟩ := hrel
  have HOW := hid how.out
  have HPC := hid hpc.out
  have HNW := hid hnw.out
  have HSR := hid hsr.out
  have HBL := hid hbl.out
  have HF := hid hf.out
  clear how hpc hnw hsr hbl hf
  by_cases hlt : t < n
  case neg =>
   obtain rfl : t = n := by omega
   have hik : i0 < t ∧ k0 < t ∧ i0 < k0 := by omega
   clear hlt e3 e4 e5 hb3 hb4 hb5
   obtain ⟨xi, hxi⟩ : ∃ y, ls[i0]? = some y := ⟨_, List.getElem?_eq_getElem (by rw [HOW.out.ln]; exact hik.1)⟩
   obtain ⟨xk, hxk⟩ : ∃ y, ls[k0]? = some y := ⟨_, List.getElem?_eq_getElem (by rw [HOW.out.ln]; exact hik.2.1)⟩
   obtain ⟨g, cur, rfl, hg, ci⟩ := HOW.out.at hxi
   obtain ⟨g', cur', hg', _, ck⟩ := HOW.out.at hxk
   have hgg : g' = g := by
    simp only [Option.some.injEq, Addr.mk.injEq, and_true] at hg'
    exact hg'.symm
   subst hgg
   clear hg'
   have zi := frozen_of_row wr g' i0 _ _ hg
   have zk := frozen_of_row wr g' k0 _ _ hg
   have hne1 : (⟨g', i0, none⟩ : Addr) ≠ ⟨g', k0, none⟩ := fun h => by simp only [Addr.mk.injEq] at h; omega
   have hne2 : (⟨g', k0, none⟩ : Addr) ≠ ⟨g', i0, none⟩ := fun h => hne1 h.symm
   have hik1 : (i0 : Int) < (t : Int) := by omega
   have hik2 : (k0 : Int) < (t : Int) := by omega
   obtain ⟨W2, hW2⟩ := eX (((wr.setCell ⟨g', i0, none⟩ (.slice xk.p xk.bs.length xk.c)).setCell ⟨g', k0, none⟩ (.slice xi.p xi.bs.length xi.c)))
   have ck1 : (wr.setCell ⟨g', i0, none⟩ (.slice xk.p xk.bs.length xk.c)).cell? ⟨g', k0, none⟩ = some (.slice xk.p xk.bs.length xk.c) := by rw [World.cell?_setCell_other _ _ _ _ hne1]; exact ck
   have HCL : Hid (∀ j, j < t → ∃ x, x ∈ ls ∧ W2.cell? ⟨g', j, none⟩ = some (.slice x.p x.bs.length x.c)) := hid (fun j hj => by
    rw [← hW2]
    by_cases hjk : j = k0
    ·subst hjk
     exact ⟨xi, List.mem_of_getElem? hxi, World.cell?_setCell_same _ _ _ ck1⟩
    ·have hnk : (⟨g', k0, none⟩ : Addr) ≠ ⟨g', j, none⟩ := fun h => by simp only [Addr.mk.injEq] at h; omega
     rw [World.cell?_setCell_other _ _ _ _ hnk]
     by_cases hji : j = i0
     ·subst hji
      exact ⟨xk, List.mem_of_getElem? hxk, World.cell?_setCell_same _ _ _ ci⟩
     ·have hni : (⟨g', i0, none⟩ : Addr) ≠ ⟨g', j, none⟩ := fun h => by simp only [Addr.mk.injEq] at h; omega
      rw [World.cell?_setCell_other _ _ _ _ hni]
      obtain ⟨y, hy⟩ : ∃ y, ls[j]? = some y := ⟨_, List.getElem?_eq_getElem (by rw [HOW.out.ln]; exact hj)⟩
      obtain ⟨g2, _, hg2, _, cy⟩ := HOW.out.at hy
      simp only [Option.some.injEq, Addr.mk.injEq, and_true] at hg2
      subst hg2
      exact ⟨y, List.mem_of_getElem? hy, cy⟩)
   have f2 : Frm [g'] wr W2 := by rw [← hW2]; exact ((Frm.refl _ _).setCell _ _ (by simp)).setCell _ _ (by simp)
   have HIT : Hid (∀ x ∈ ls, Rd W2 x.p x.bs ∧ x.bs.length ≤ x.c ∧ x.c ≤ 9223372036854775807) := hid (fun x hx => by
    obtain ⟨h1, h2⟩ := HOW.out.it x hx
    have h3 := h1.kept f2 (fun k hk hm => h2 k hk (by simpa [blk] using hm))
    exact ⟨h3.rd, h3.cp.1, h3.cp.2⟩)
   have HF2 : Hid (Frm [] w W2) := hid (HF.out.trans f2 (fun i hi hl => by rw [List.mem_singleton] at hi; have h1 := HNW.out.1 i (by simp [blk, hi]); have := HBS.out; omega))
   have HW2 := hid hW2
   clear f2 hW2 HOW HNW HSR HF HBL hg ck1 hxi hxk
   go_upto_region 19 with fail
   try rw [HW2.out]
   clear HW2 ci ck zi zk
   go_loopw [8, 16] (fun ov nv wv => ∃ (s A : Nat) (q : Option Addr) (d : Nat) (zs : List Int), s ≤ t ∧ A ≤ 2100 * s ∧ ov = .slice q A d ∧ nv = .int .i64 (s : Int) ∧ Hid (A = zs.length) ∧ Hid (Own wv 5 (.slice q A d) zs) ∧ Hid (∀ z ∈ zs, 0 ≤ z ∧ z < 256) ∧ Hid (∀ k ∈ blk q, W2.heap.size ≤ k) ∧ Hid (Frm [] W2 wv)) (fun _ nv _ => t - (intOf nv).toNat)
   case atStart => exact ⟨0, 0, none, 0, [], Nat.zero_le _, by omega, rfl, rfl, hid rfl, hid (Own.nil _ _), hid (by simp), hid (by simp [blk]), hid (Frm.refl _ _)⟩
   case round =>
    obtain ⟨s, A, q, d, zs, hs, hA, rfl, rfl, hal, hoz, hzb, hnq, hfv⟩ := hrel
    have HAL := hid hal.out
    have HOZ := hid hoz.out
    have HZB := hid hzb.out
    have HNQ := hid hnq.out
    have HFV := hid hfv.out
    clear hal hoz hzb hnq hfv
    by_cases hlt : s < t
    case pos =>
     have s1 : (s : Int) < (t : Int) := by omega
     obtain ⟨x, hxm, hxc⟩ := HCL.out s hlt
     have cx : wr.cell? ⟨g', s, none⟩ = some (.slice x.p x.bs.length x.c) := (HFV.out.cell (World.block_lt_of_cell? W2 _ hxc) (by simp)).trans hxc
     obtain ⟨hp0, hp1, hp2⟩ := HPC.out x hxm
     obtain ⟨hx1, hx2, hx3⟩ := HIT.out x hxm
     clear hxm hxc hlt
     go_wp2_with (at_builtin; refine wpList_appB rfl _ _ 24 rfl 5 Tryz.underlying24 infoU8S q A d zs rfl HAL.out (by rw [← HAL.out]; exact HOZ.out) x.p x.bs.length x.c x.bs rfl rfl (fun h _ => by rw [h] at hp0; simp at hp0) (hx1.kept HFV.out (by simp)) (by rw [← HAL.out]; omega) ?_)
     intro ys p8 c8 w8 hys ho8 hf8 hb8
     have hxl : ys.length = A + x.bs.length := by rw [hys.out, List.length_append, ← HAL.out]
     rw [hxl]
     have ho9 := ho8.out
     rw [hxl] at ho9
     have HO9 := hid ho9
     have HXL : Hid (A + x.bs.length = ys.length) := hid hxl.symm
     have HF8 : Hid (Frm [] W2 w8) := hid (HFV.out.trans hf8.out (fun i hi hl => by have := HNQ.out i hi; omega))
     have HB8 : Hid (∀ z ∈ ys, 0 ≤ z ∧ z < 256) := hid (fun z hz => by
      rw [hys.out] at hz
      rcases List.mem_append.1 hz with h | h
      ·exact HZB.out z h
      ·exact hp2 z h)
     have HN8 : Hid (∀ k ∈ blk p8, W2.heap.size ≤ k) := hid (fun k hk => by
      rcases hb8.out k hk with h | h
      ·exact HNQ.out k h
      ·have := HFV.out.size; omega)
     have hle : A + x.bs.length ≤ 2100 * (s + 1) := by omega
     clear hys ho8 hf8 hb8 hxl ho9 cx
     go_wp2_with fail
     go_roundw
     case rel => exact ⟨s + 1, A + x.bs.length, p8, c8, ys, by omega, hle, rfl, by go_num, HXL, HO9, HB8, HN8, HF8⟩
     case measure => simp [intOf] <;> omega
    obtain rfl : s = t := by omega
    have HFW : Hid (Frm [] w wr) := hid (HF2.out.trans HFV.out (by simp))
    have hcap := own_caps HOZ.out
    clear hlt HCL HIT HPC
    go_wp2_with fail
    refine (HRC.out wr HFW.out q A d zs HAL.out.symm hcap (by omega) HOZ.out.rd HZB.out).mono ?_
    rintro e w7 ⟨N2, E2, hv, hN, pO, cO, O, rfl, hM1, hM2, hM3, hf7⟩
    have HF7 : Hid (Frm [] w w7) := hid (HFW.out.trans hf7 (by simp))
    have HR7 := hid (HOZ.out.rd.kept hf7 (by simp))
    have HV := hid hv
    have HM1 := hid hM1
    have HM2 := hid hM2
    have HM3 := hid hM3
    clear hf7 hv hM1 hM2 hM3
    go_wp2_with fail
    refine (HRF.out w7 HF7.out q A d zs HAL.out.symm hcap (by omega) HR7.out HZB.out).mono ?_
    rintro e w8 ⟨N2', E2', hv', hN', pS, cS, S, rfl, hK1, hK2, hK3, hf8⟩
    obtain ⟨rfl, rfl⟩ := rcVal_uniq HV.out hv'
    have HF8 : Hid (Frm [] w w8) := hid (HF7.out.trans hf8 (by simp))
    have HSA := hid (sameAll_any pO pS N2' cO cS O S w8 HM1.out hK1 (by omega) (HM2.out.k0 hf8) hK2 (fun j hj => rkOf_same (HM3.out j hj) (hK3 j hj)))
    clear hf8 hv' hN' hK1 hK2 hK3 HF7 HV HM1 HM2 HM3 hN HRC HRF
    go_wp2_with fail
    refine HSA.out.mono ?_
    rintro e w9 ⟨rfl, hf9⟩
    have HF9 : Hid (Frm [] w w9) := hid (HF8.out.trans hf9 (by simp))
    clear hf9 HSA HF8
    go_wp2_with fail
    try go_returns
    exact HP.out _ HF9.out
  have t1 : (t : Int) < (n : Int) := by omega
  obtain ⟨g0, o0, rfl, hcell, hok, hns⟩ := (HRD.out.k0 HF.out).at (t := t) (by rw [HLN.out]; exact hlt)
  have hbd := strS_Bd L t
  have HEN := hid (fun V (hv : Frm [] wr V) => refEncodeV_any (rkA L t).r (rkA L t).P (rkA L t).K (rkA L t).D (strS L t) hbd V (hok.k0 hv) hns (HPV.out t hlt) (HVS.out.kept (HF.out.trans hv (by simp))))
  have HYES : Hid (encE (rkA L t).r (rkA L t).P (rkA L t).K (rkA L t).D = 0 → strS L (t + 1) = encS (strS L t) (rkA L t).r (rkA L t).P (rkA L t).K (rkA L t).D ∧ 0 < (encB (strS L t) (rkA L t).r (rkA L t).P (rkA L t).K (rkA L t).D).length ∧ (encB (strS L t) (rkA L t).r (rkA L t).P (rkA L t).K (rkA L t).D).length ≤ 2100 ∧ ∀ z ∈ encB (strS L t) (rkA L t).r (rkA L t).P (rkA L t).K (rkA L t).D, 0 ≤ z ∧ z < 256) := hid (fun he => by
   obtain ⟨h1, h2⟩ := encB_of (strS L t) he hok.pl hok.kl hok.dn hok.db
   exact ⟨by rw [h1]; rfl, h2⟩)
  obtain ⟨RB, hRB⟩ := eX (encB (strS L t) (rkA L t).r (rkA L t).P (rkA L t).K (rkA L t).D)
  obtain ⟨T, hT⟩ := eX (encS (strS L t) (rkA L t).r (rkA L t).P (rkA L t).K (rkA L t).D)
  obtain ⟨EV, hEV⟩ := eX (encE (rkA L t).r (rkA L t).P (rkA L t).K (rkA L t).D)
  rw [hRB, hT, hEV] at HEN HYES
  obtain ⟨R, hR⟩ := eX ((rkA L t).r)
  obtain ⟨SS, hSS⟩ := eX (strS L t)
  rw [hSS] at HEN HSR
  rw [hR] at HEN hcell
  clear hRB hT hEV hSS hok hns hbd
  have z0 : wr.cell? ⟨g0, o0 + t * 13, none⟩ = some (.int .i64 R.kind) := hcell 0 _ rfl
  have z1 : wr.cell? ⟨g0, o0 + t * 13 + 1, none⟩ = some (.string R.name) := hcell 1 _ rfl
  have z2 : wr.cell? ⟨g0, o0 + t * 13 + 2, none⟩ = some (.int .i64 R.typ) := hcell 2 _ rfl
  have z3 : wr.cell? ⟨g0, o0 + t * 13 + 3, none⟩ = some (.int .i64 R.frm) := hcell 3 _ rfl
  have z4 : wr.cell? ⟨g0, o0 + t * 13 + 4, none⟩ = some (.int .i64 R.guid) := hcell 4 _ rfl
  have z5 : wr.cell? ⟨g0, o0 + t * 13 + 5, none⟩ = some (.int .i64 R.origin) := hcell 5 _ rfl
  have z6 : wr.cell? ⟨g0, o0 + t * 13 + 6, none⟩ = some (.string R.snap) := hcell 6 _ rfl
  have z7 : wr.cell? ⟨g0, o0 + t * 13 + 7, none⟩ = some (.slice R.pp R.pn R.pc) := hcell 7 _ rfl
  have z8 : wr.cell? ⟨g0, o0 + t * 13 + 8, none⟩ = some (.int .i64 R.obj) := hcell 8 _ rfl
  have z9 : wr.cell? ⟨g0, o0 + t * 13 + 9, none⟩ = some (.int .i64 R.at_) := hcell 9 _ rfl
  have z10 : wr.cell? ⟨g0, o0 + t * 13 + 10, none⟩ = some (.int .i64 R.many) := hcell 10 _ rfl
  have z11 : wr.cell? ⟨g0, o0 + t * 13 + 11, none⟩ = some (.slice R.kp R.kn R.kc) := hcell 11 _ rfl
  have z12 : wr.cell? ⟨g0, o0 + t * 13 + 12, none⟩ = some (.slice R.dp R.dl R.dc) := hcell 12 _ rfl
  clear hcell hR
  obtain ⟨kind, name, typ, frm, guid, origin, snap, pp, pn, pc, obj, at_, many, kp, kn, kc, dp, dl, dc⟩ := R
  obtain ⟨s0, s1, s2, s3⟩ := SS
  obtain ⟨t0, t1', t2, t3⟩ := T
  unfold Rc.arr S4.arr at HEN
  unfold S4.arr at HSR
  simp only at HEN HSR z0 z1 z2 z3 z4 z5 z6 z7 z8 z9 z10 z11 z12
  have p0 := cR 0 (.int .u64 s0) HSR.out
  have p1 := cR 1 (.int .u64 s1) HSR.out
  have p2 := cR 2 (.int .u64 s2) HSR.out
  have p3 := cR 3 (.int .u64 s3) HSR.out
  have HSC : Hid (∀ W, Frm [] wr W → W.cell? ⟨g0, o0 + t * 13, none⟩ = some (.int .i64 kind) ∧ W.cell? ⟨g0, o0 + t * 13 + 1, none⟩ = some (.string name) ∧ W.cell? ⟨g0, o0 + t * 13 + 2, none⟩ = some (.int .i64 typ) ∧ W.cell? ⟨g0, o0 + t * 13 + 3, none⟩ = some (.int .i64 frm) ∧ W.cell? ⟨g0, o0 + t * 13 + 4, none⟩ = some (.int .i64 guid) ∧ W.cell? ⟨g0, o0 + t * 13 + 5, none⟩ = some (.int .i64 origin) ∧ W.cell? ⟨g0, o0 + t * 13 + 6, none⟩ = some (.string snap) ∧ W.cell? ⟨g0, o0 + t * 13 + 7, none⟩ = some (.slice pp pn pc) ∧ W.cell? ⟨g0, o0 + t * 13 + 8, none⟩ = some (.int .i64 obj) ∧ W.cell? ⟨g0, o0 + t * 13 + 9, none⟩ = some (.int .i64 at_) ∧ W.cell? ⟨g0, o0 + t * 13 + 10, none⟩ = some (.int .i64 many) ∧ W.cell? ⟨g0, o0 + t * 13 + 11, none⟩ = some (.slice kp kn kc) ∧ W.cell? ⟨g0, o0 + t * 13 + 12, none⟩ = some (.slice dp dl dc) ∧ W.cell? ⟨xs, 0, none⟩ = some (.int .u64 s0) ∧ W.cell? ⟨xs, 1, none⟩ = some (.int .u64 s1) ∧ W.cell? ⟨xs, 2, none⟩ = some (.int .u64 s2) ∧ W.cell? ⟨xs, 3, none⟩ = some (.int .u64 s3)) := hid (fun W hf => by
   have kc : ∀ q v, wr.cell? q = some v → W.cell? q = some v := fun q v hv => (hf.cell (World.block_lt_of_cell? wr _ hv) (by simp)).trans hv
   exact ⟨kc _ _ z0, kc _ _ z1, kc _ _ z2, kc _ _ z3, kc _ _ z4, kc _ _ z5, kc _ _ z6, kc _ _ z7, kc _ _ z8, kc _ _ z9, kc _ _ z10, kc _ _ z11, kc _ _ z12, kc _ _ p0, kc _ _ p1, kc _ _ p2, kc _ _ p3⟩)
  clear z0 z1 z2 z3 z4 z5 z6 z7 z8 z9 z10 z11 z12 p0 p1 p2 p3
  go_upto_region 10 with fail
  go_cut [12, 13, 14] from 48 to 71 (fun b x e wx => ∃ (q2 : Option Addr) (d2 bz : Nat), b = .slice q2 RB.length d2 ∧ x = .pointer (some ⟨bz, 0, none⟩) ∧ e = .int .i64 EV ∧ Hid (wx.heap[bz]? = some (.cells #[.int .u64 t0, .int .u64 t1', .int .u64 t2, .int .u64 t3] 29 (0, 0))) ∧ Hid (Own wx 5 (.slice q2 RB.length d2) RB) ∧ Hid (∀ k ∈ blk q2, wr.heap.size ≤ k) ∧ Hid (wr.heap.size ≤ bz) ∧ Hid (Frm [] wr wx))
  case first =>
   refine wp_region_tail (S := fun W => (W.cell? ⟨g0, o0 + t * 13, none⟩ = some (.int .i64 kind) ∧ W.cell? ⟨g0, o0 + t * 13 + 1, none⟩ = some (.string name) ∧ W.cell? ⟨g0, o0 + t * 13 + 2, none⟩ = some (.int .i64 typ) ∧ W.cell? ⟨g0, o0 + t * 13 + 3, none⟩ = some (.int .i64 frm) ∧ W.cell? ⟨g0, o0 + t * 13 + 4, none⟩ = some (.int .i64 guid) ∧ W.cell? ⟨g0, o0 + t * 13 + 5, none⟩ = some (.int .i64 origin) ∧ W.cell? ⟨g0, o0 + t * 13 + 6, none⟩ = some (.string snap) ∧ W.cell? ⟨g0, o0 + t * 13 + 7, none⟩ = some (.slice pp pn pc) ∧ W.cell? ⟨g0, o0 + t * 13 + 8, none⟩ = some (.int .i64 obj) ∧ W.cell? ⟨g0, o0 + t * 13 + 9, none⟩ = some (.int .i64 at_) ∧ W.cell? ⟨g0, o0 + t * 13 + 10, none⟩ = some (.int .i64 many) ∧ W.cell? ⟨g0, o0 + t * 13 + 11, none⟩ = some (.slice kp kn kc) ∧ W.cell? ⟨g0, o0 + t * 13 + 12, none⟩ = some (.slice dp dl dc) ∧ W.cell? ⟨xs, 0, none⟩ = some (.int .u64 s0) ∧ W.cell? ⟨xs, 1, none⟩ = some (.int .u64 s1) ∧ W.cell? ⟨xs, 2, none⟩ = some (.int .u64 s2) ∧ W.cell? ⟨xs, 3, none⟩ = some (.int .u64 s3))) 13 14 rfl (by kernel_rfl) (by kernel_rfl) ?_
   obtain ⟨wd, hwd⟩ := eX (wr.drew)
   have hF0 : Frm [] wr wd := by rw [← hwd]; exact (Frm.refl _ _).drew
   rw [hwd]
   refine hI (i := 0) (v := ?_) rfl ?_ (HSC.out _ hF0) ?_
   rotate_left 1
   ·rintro W ⟨y0, y1, y2, y3, y4, y5, y6, y7, y8, y9, y10, y11, y12, x0, x1, x2, x3⟩; (try simp only [lA, lZ]); go_simp; try with_reducible rfl
   try simp only [lA, lZ, Act.put, lI, lW, lX]
   refine hI (i := 1) (v := ?_) rfl ?_ (HSC.out _ hF0) ?_
   rotate_left 1
   ·rintro W ⟨y0, y1, y2, y3, y4, y5, y6, y7, y8, y9, y10, y11, y12, x0, x1, x2, x3⟩; (try simp only [lA, lS, lZ]); go_simp; try with_reducible rfl
   try simp only [lA, lS, lZ, Act.put, lI, lW, lX]
   refine hI (i := 2) (v := ?_) rfl ?_ (HSC.out _ hF0) ?_
   rotate_left 1
   ·rintro W ⟨y0, y1, y2, y3, y4, y5, y6, y7, y8, y9, y10, y11, y12, x0, x1, x2, x3⟩; (try simp only [lA, lS, lZ]); go_simp; try with_reducible rfl
   try simp only [lA, lS, lZ, Act.put, lI, lW, lX]
   refine hI (i := 3) (v := ?_) rfl ?_ (HSC.out _ hF0) ?_
   rotate_left 1
   ·rintro W ⟨y0, y1, y2, y3, y4, y5, y6, y7, y8, y9, y10, y11, y12, x0, x1, x2, x3⟩; (try simp only [lA, lS, lZ]); go_simp; try with_reducible rfl
   try simp only [lA, lS, lZ, Act.put, lI, lW, lX]
   refine hI (i := 4) (v := ?_) rfl ?_ (HSC.out _ hF0) ?_
   rotate_left 1
   ·rintro W ⟨y0, y1, y2, y3, y4, y5, y6, y7, y8, y9, y10, y11, y12, x0, x1, x2, x3⟩; (try simp only [lA, lS, lZ]); go_simp; try with_reducible rfl
   try simp only [lA, lS, lZ, Act.put, lI, lW, lX]
   refine wpAnyHT_two (i := 5) (j := 10) rfl rfl (by kernel_rfl) (by kernel_rfl) (by kernel_rfl) (fun K hK => ?_) (fun K hK => ?_)
   ·try simp only [lA, lS, lZ]
    go_simp
    refine (HEN.out wd hF0).mono ?_
    rintro e w2 ⟨q2, d2, rfl, hr2, hb2, hf2⟩
    have hF1 : Frm [] wr w2 := hF0.trans hf2 (by simp)
    refine hK _ _ (HSC.out _ hF1) ?_
    clear hK K
    have hsz2 : wr.heap.size ≤ wd.heap.size := hF0.size
    have hlo2 : ∀ k ∈ blk q2, wr.heap.size ≤ k := fun k hk => by have := hb2 k hk; omega
    refine hI (i := 6) (v := ?_) rfl ?_ (HSC.out _ hF1) ?_
    rotate_left 1
    ·rintro W ⟨y0, y1, y2, y3, y4, y5, y6, y7, y8, y9, y10, y11, y12, x0, x1, x2, x3⟩; (try simp only [lA, lS, lZ]); go_simp; try with_reducible rfl
    try simp only [lA, lS, lZ, Act.put, lI, lW, lX]
    refine hI (i := 7) (v := ?_) rfl ?_ (HSC.out _ hF1) ?_
    rotate_left 1
    ·rintro W ⟨y0, y1, y2, y3, y4, y5, y6, y7, y8, y9, y10, y11, y12, x0, x1, x2, x3⟩; (try simp only [lA, lS, lZ]); go_simp; try with_reducible rfl
    try simp only [lA, lS, lZ, Act.put, lI, lW, lX]
    refine hI (i := 8) (v := ?_) rfl ?_ (HSC.out _ hF1) ?_
    rotate_left 1
    ·rintro W ⟨y0, y1, y2, y3, y4, y5, y6, y7, y8, y9, y10, y11, y12, x0, x1, x2, x3⟩; (try simp only [lA, lS, lZ]); go_simp; try with_reducible rfl
    try simp only [lA, lS, lZ, Act.put, lI, lW, lX]
    refine hI (i := 9) (v := ?_) rfl ?_ (HSC.out _ hF1) ?_
    rotate_left 1
    ·rintro W ⟨y0, y1, y2, y3, y4, y5, y6, y7, y8, y9, y10, y11, y12, x0, x1, x2, x3⟩; (try simp only [lA, lS, lZ]); go_simp; try with_reducible rfl
    try simp only [lA, lS, lZ, Act.put, lI, lW, lX]
    refine wpAnyHT_one (i := 10) rfl (by kernel_rfl) (by kernel_rfl) (fun K hK => ?_)
    try simp only [lA, lS, lZ]
    go_simp
    refine hK _ _ (HSC.out _ (hF1.alloc _)) ?_
    clear hK K
    try simp only [lA, lS, lZ, Act.put, lI, lW, lX]
    have hra := heap_alloc_new w2 (.cells #[.int .u64 0, .int .u64 0, .int .u64 0, .int .u64 0] 29)
    have hfaB : Frm [] w2 (w2.alloc (.cells #[.int .u64 0, .int .u64 0, .int .u64 0, .int .u64 0] 29)) := (Frm.refl _ _).alloc _
    have hF2 := hF1.alloc (.cells #[.int .u64 0, .int .u64 0, .int .u64 0, .int .u64 0] 29)
    obtain ⟨wB, hwB⟩ := eX (w2.alloc (.cells #[.int .u64 0, .int .u64 0, .int .u64 0, .int .u64 0] 29))
    obtain ⟨bB, hbB⟩ := eX (w2.heap.size)
    have hlbB : wr.heap.size ≤ bB := by rw [← hbB]; exact hF1.size
    rw [hwB, hbB] at hra
    rw [hwB] at hfaB hF2
    have rB2 := hra
    clear hra
    have hnB : ∀ k ∈ blk q2, ¬ k = bB := fun k hk => by have := hb2 k hk; omega
    have hr3 := hr2.kept hfaB (by simp)
    try rw [hwB]
    try rw [hbB]
    have hrB := rB2
    have n0 := cR 0 (.int .u64 0) hrB
    have mz0 := fZ 0 hrB
    have n1 := cR 1 (.int .u64 0) hrB
    have mz1 := fZ 1 hrB
    have n2 := cR 2 (.int .u64 0) hrB
    have mz2 := fZ 2 hrB
    have n3 := cR 3 (.int .u64 0) hrB
    have mz3 := fZ 3 hrB
    obtain ⟨Wy, hwy, h6, f6⟩ := sE bB 29 [(0, .int .u64 t0), (1, .int .u64 t1'), (2, .int .u64 t2), (3, .int .u64 t3)] wB _ hrB
    simp only [List.foldl, List.setIfInBounds_toArray, List.set_cons_zero, List.set_cons_succ] at h6
    simp only [setsF] at hwy
    have hWy := hwy
    have hF9 : Frm [] wr Wy := hF2.trans f6 (fun i hi hl => by rw [List.mem_singleton] at hi; omega)
    have hr9 := hr3.kept f6 (by rw [own_blk]; exact fun k hk hm => hnB k hk (List.mem_singleton.1 hm))
    refine wpAnyHT_one (i := 11) rfl (by kernel_rfl) (by kernel_rfl) (fun K hK => ?_)
    try simp only [lA, lS, lZ]
    go_simp
    refine hK _ _ (HSC.out _ hF2) ?_
    clear hK K
    try simp only [lA, lS, lZ, Act.put, lI, lW, lX]
    refine wpAnyHT_one (i := 12) rfl (by kernel_rfl) (by kernel_rfl) (fun K hK => ?_)
    try simp only [lA, lS, lZ]
    go_simp
    try rw [hwy]
    refine hK _ _ (HSC.out _ hF9) ?_
    clear hK K
    try simp only [lA, lS, lZ, Act.put, lI, lW, lX]
    refine wpAnyHT_end (by kernel_rfl) ?_
    simp only [List.drop_succ_cons, List.drop_zero]
    clear n0 mz0 hwy hWy
    go_wp2_with fail
    go_meet
    exact ⟨q2, d2, bB, rfl, rfl, rfl, hid h6, hid hr9, hid hlo2, hid hlbB, hid hF9⟩
   ·try simp only [lA, lS, lZ]
    go_simp
    refine hK _ _ (HSC.out _ (hF0.alloc _)) ?_
    clear hK K
    try simp only [lA, lS, lZ, Act.put, lI, lW, lX]
    have hra := heap_alloc_new wd (.cells #[.int .u64 0, .int .u64 0, .int .u64 0, .int .u64 0] 29)
    have hfaB : Frm [] wd (wd.alloc (.cells #[.int .u64 0, .int .u64 0, .int .u64 0, .int .u64 0] 29)) := (Frm.refl _ _).alloc _
    have hF1 := hF0.alloc (.cells #[.int .u64 0, .int .u64 0, .int .u64 0, .int .u64 0] 29)
    obtain ⟨wB, hwB⟩ := eX (wd.alloc (.cells #[.int .u64 0, .int .u64 0, .int .u64 0, .int .u64 0] 29))
    obtain ⟨bB, hbB⟩ := eX (wd.heap.size)
    have hlbB : wr.heap.size ≤ bB := by rw [← hbB]; exact hF0.size
    rw [hwB, hbB] at hra
    rw [hwB] at hfaB hF1
    have rB1 := hra
    clear hra
    try rw [hwB]
    try rw [hbB]
    refine wpAnyHT_one (i := 5) rfl (by kernel_rfl) (by kernel_rfl) (fun K hK => ?_)
    have hltB := lt_of_heap rB1
    try simp only [lA, lS, lZ]
    go_simp
    refine (HEN.out wB hF1).mono ?_
    rintro e w2 ⟨q2, d2, rfl, hr2, hb2, hf2⟩
    have hF2 : Frm [] wr w2 := hF1.trans hf2 (by simp)
    refine hK _ _ (HSC.out _ hF2) ?_
    clear hK K
    have rB2 := hf2.heap rB1 (by simp)
    have hnB : ∀ k ∈ blk q2, ¬ k = bB := fun k hk => by have := hb2 k hk; omega
    have hsz2 : wr.heap.size ≤ wB.heap.size := hF1.size
    have hlo2 : ∀ k ∈ blk q2, wr.heap.size ≤ k := fun k hk => by have := hb2 k hk; omega
    refine hI (i := 6) (v := ?_) rfl ?_ (HSC.out _ hF2) ?_
    rotate_left 1
    ·rintro W ⟨y0, y1, y2, y3, y4, y5, y6, y7, y8, y9, y10, y11, y12, x0, x1, x2, x3⟩; (try simp only [lA, lS, lZ]); go_simp; try with_reducible rfl
    try simp only [lA, lS, lZ, Act.put, lI, lW, lX]
    refine hI (i := 7) (v := ?_) rfl ?_ (HSC.out _ hF2) ?_
    rotate_left 1
    ·rintro W ⟨y0, y1, y2, y3, y4, y5, y6, y7, y8, y9, y10, y11, y12, x0, x1, x2, x3⟩; (try simp only [lA, lS, lZ]); go_simp; try with_reducible rfl
    try simp only [lA, lS, lZ, Act.put, lI, lW, lX]
    refine hI (i := 8) (v := ?_) rfl ?_ (HSC.out _ hF2) ?_
    rotate_left 1
    ·rintro W ⟨y0, y1, y2, y3, y4, y5, y6, y7, y8, y9, y10, y11, y12, x0, x1, x2, x3⟩; (try simp only [lA, lS, lZ]); go_simp; try with_reducible rfl
    try simp only [lA, lS, lZ, Act.put, lI, lW, lX]
    refine hI (i := 9) (v := ?_) rfl ?_ (HSC.out _ hF2) ?_
    rotate_left 1
    ·rintro W ⟨y0, y1, y2, y3, y4, y5, y6, y7, y8, y9, y10, y11, y12, x0, x1, x2, x3⟩; (try simp only [lA, lS, lZ]); go_simp; try with_reducible rfl
    try simp only [lA, lS, lZ, Act.put, lI, lW, lX]
    have hrB := rB2
    have n0 := cR 0 (.int .u64 0) hrB
    have mz0 := fZ 0 hrB
    have n1 := cR 1 (.int .u64 0) hrB
    have mz1 := fZ 1 hrB
    have n2 := cR 2 (.int .u64 0) hrB
    have mz2 := fZ 2 hrB
    have n3 := cR 3 (.int .u64 0) hrB
    have mz3 := fZ 3 hrB
    obtain ⟨Wy, hwy, h6, f6⟩ := sE bB 29 [(0, .int .u64 t0), (1, .int .u64 t1'), (2, .int .u64 t2), (3, .int .u64 t3)] w2 _ hrB
    simp only [List.foldl, List.setIfInBounds_toArray, List.set_cons_zero, List.set_cons_succ] at h6
    simp only [setsF] at hwy
    have hWy := hwy
    have hF9 : Frm [] wr Wy := hF2.trans f6 (fun i hi hl => by rw [List.mem_singleton] at hi; omega)
    have hr9 := hr2.kept f6 (by rw [own_blk]; exact fun k hk hm => hnB k hk (List.mem_singleton.1 hm))
    refine wpAnyHT_one (i := 11) rfl (by kernel_rfl) (by kernel_rfl) (fun K hK => ?_)
    try simp only [lA, lS, lZ]
    go_simp
    refine hK _ _ (HSC.out _ hF2) ?_
    clear hK K
    try simp only [lA, lS, lZ, Act.put, lI, lW, lX]
    refine wpAnyHT_one (i := 12) rfl (by kernel_rfl) (by kernel_rfl) (fun K hK => ?_)
    try simp only [lA, lS, lZ]
    go_simp
    try rw [hwy]
    refine hK _ _ (HSC.out _ hF9) ?_
    clear hK K
    try simp only [lA, lS, lZ, Act.put, lI, lW, lX]
    refine wpAnyHT_end (by kernel_rfl) ?_
    simp only [List.drop_succ_cons, List.drop_zero]
    clear n0 mz0 hwy hWy
    go_wp2_with fail
    go_meet
    exact ⟨q2, d2, bB, rfl, rfl, rfl, hid h6, hid hr9, hid hlo2, hid hlbB, hid hF9⟩
  obtain ⟨q2, d2, bz, rfl, rfl, rfl, hz, ho2, hb2, hbz, hf2⟩ := hcut
  have HZ := hid hz.out
  have HO2 := hid ho2.out
  have HB2 := hid hb2.out
  have HBZ := hid hbz.out
  have HF2 := hid hf2.out
  clear hz ho2 hb2 hbz hf2 HSC HEN
  by_cases hde : EV = 0
  case neg =>
   have hbE : (EV != 0) = true := by rw [bne_iff_ne]; exact hde
   have HX := hid (HP.out wc (HF.out.trans HF2.out (by simp)))
   clear hde
   go_wp2_with fail
   try go_returns
   exact HX.out
  subst hde
  obtain ⟨hst, hpk⟩ := HYES.out rfl
  have HST := hid hst
  have HPK : Hid (PcOk (⟨q2, d2, RB⟩ : Bk)) := hid hpk
  clear hst hpk HYES
  have HA := hid ((Frm.refl [] wc).alloc (.cells #[.slice q2 RB.length d2] 24))
  have HRV := hid (rv_block (heap_alloc_new wc (.cells #[.slice q2 RB.length d2] 24)))
  have HOW2 := hid (ownsRow_kept HOW.out.ow (HF2.out.trans HA.out (by simp)) (by simp))
  go_wp2_with (at_builtin; refine wpList_appV rfl _ _ 50 rfl 24 1 24 _ Tryz.underlying50 infoK rfl (by decide) q t cq (rowsK ls) rfl HOW2.out (some ⟨wc.heap.size, 0, none⟩) 1 1 [.slice q2 RB.length d2] rfl rfl (by simp) HRV.out (by intro u hu; simp at hu; subst hu; rfl) (by unfold maxLen; omega) (by omega) ?_)
  intro q3 c3 w8 ho8 hf8 hb8
  have hfa8 : Frm (blk q) wc w8 := (HA.out.mono (by simp)).trans hf8.out (fun i hi _ => hi)
  have hlow := ownsRow_low HOW.out.ow
  have e1 : (wc.alloc (.cells #[.slice q2 RB.length d2] 24)).heap.size = wc.heap.size + 1 := by simp
  have HO8 := hid ((HOW.out.k0 HF2.out).app (x := ⟨q2, d2, RB⟩) (BkOk.of_own (x := ⟨q2, d2, RB⟩) HO2.out) (fun j hj hq => by have := HB2.out j hj; have := hlow j hq; omega) (fun y hy j hj hq => by have := HB2.out j hj; have := (HOW.out.it y hy).1.lo j hq; omega) HA.out ho8.out hf8.out (fun j hj => (hb8.out j hj).imp (fun h => h) (fun h => by rw [e1]; exact h)))
  have HPC8 : Hid (∀ x ∈ ls ++ [(⟨q2, d2, RB⟩ : Bk)], PcOk x) := hid (fun x hx => by
   rcases List.mem_append.1 hx with h | h
   ·exact HPC.out x h
   ·rw [List.mem_singleton] at h; rw [h]; exact HPK.out)
  have HNW8 : Hid (NewK (xs + 1) q3 (ls ++ [(⟨q2, d2, RB⟩ : Bk)])) := hid ⟨fun j hj => by
   rcases hb8.out j hj with h | h
   ·exact HNW.out.1 j h
   ·have := HBL.out; have := HF2.out.size; omega, fun y hy j hj => by
   rcases List.mem_append.1 hy with h | h
   ·exact HNW.out.2 y h j hj
   ·rw [List.mem_singleton] at h
    subst h
    have := HB2.out j hj; have := HBL.out; omega⟩
  have HZ8 := hid (hfa8.heap HZ.out (fun hm => by have h1 := hlow bz hm; have := HBZ.out; omega))
  have HS8 := hid (hfa8.heap (HF2.out.heap HSR.out (by simp)) (fun hm => by have := HNW.out.1 xs hm; omega))
  have HF8 : Hid (Frm [] w w8) := hid ((HF.out.trans HF2.out (by simp)).trans hfa8 (fun j hj hl => by have := HNW.out.1 j hj; have := HBS.out; omega))
  have HNE : Hid (xs < bz) := hid (by have := HBZ.out; have := HBL.out; omega)
  clear ho8 hf8 hb8 hfa8 hlow e1 HA HRV HOW2 HZ
  have n0 := cR 0 (.int .u64 t0) HZ8.out
  have n1 := cR 1 (.int .u64 t1') HZ8.out
  have n2 := cR 2 (.int .u64 t2) HZ8.out
  have n3 := cR 3 (.int .u64 t3) HZ8.out
  have mz0 := fZ 0 HS8.out
  have mz1 := fZ 1 HS8.out
  have mz2 := fZ 2 HS8.out
  have mz3 := fZ 3 HS8.out
  have v0 := cR 0 (.int .u64 s0) HS8.out
  have v1 := cR 1 (.int .u64 s1) HS8.out
  have v2 := cR 2 (.int .u64 s2) HS8.out
  have v3 := cR 3 (.int .u64 s3) HS8.out
  obtain ⟨h4, f4⟩ := set4 (y0 := .int .u64 t0) (y1 := .int .u64 t1') (y2 := .int .u64 t2) (y3 := .int .u64 t3) HS8.out
  obtain ⟨W4, hW4⟩ := eX (((((w8.setCell ⟨xs, 0, none⟩ (.int .u64 t0)).setCell ⟨xs, 1, none⟩ (.int .u64 t1')).setCell ⟨xs, 2, none⟩ (.int .u64 t2)).setCell ⟨xs, 3, none⟩ (.int .u64 t3)))
  rw [hW4] at h4 f4
  have HS4 : Hid (W4.heap[xs]? = some (.cells (strS L (t + 1)).arr 29 (0, 0))) := hid (by rw [HST.out]; exact h4)
  have HF4 : Hid (Frm [] w W4) := hid (HF8.out.trans f4 (fun j hj hl => by rw [List.mem_singleton] at hj; have := HBS.out; omega))
  have HO4 := hid (HO8.out.kept f4 (fun j hj hm => by rw [List.mem_singleton] at hm; have := HNW8.out.1 j hj; omega) (fun y hy j hj hm => by rw [List.mem_singleton] at hm; have := HNW8.out.2 y hy j hj; omega))
  have HB4 : Hid (xs < W4.heap.size) := hid (lt_of_heap h4)
  have HWE := hid hW4
  clear h4 f4 hW4 HO8 HF8 HF HF2 HS8 HZ8
  go_wp2_with fail
  go_roundw
  case rel => exact ⟨t + 1, c3, q3, ls ++ [⟨q2, d2, RB⟩], by omega, rfl, by go_num, by rw [HWE.out]; exact HO4, HPC8, HNW8, by rw [HWE.out]; exact HS4, by rw [HWE.out]; exact HB4, by rw [HWE.out]; exact HF4⟩
  case measure => simp [intOf] <;> omega
end
section
open Go.ChangeShapes Go.WideShapes Go.ChangeAt Go.RowKit
theorem g_primes : Tryz.prog.globalNamed "undercroft/sum.primes" = some 2 := by kernel_rfl
theorem g_primesType : (Tryz.prog.globals[2]?).map (·.type) = some 130 := by kernel_rfl
theorem cells_u32 : Tryz.prog.cellsOf 123 = 1 := by kernel_rfl
theorem cells_tab : Tryz.prog.cellsOf 130 = 64 := by kernel_rfl
noncomputable def laidW (os : Os) : World :=
 { World.holding Tryz.prog os ⟨#[], #[], []⟩ with heap := (World.holding Tryz.prog os ⟨#[], #[], []⟩).heap.modify 2 fun
   | .cells _ t frozen => .cells (PR.map fun z => Value.int .u32 z).toArray t frozen
   | o => o }
end
section
open Go.ChangeShapes Go.WideShapes Go.ChangeAt Go.RowKit
def UF : List Int := List.replicate 128 240 ++ List.replicate 66 241 ++ List.replicate 30 2 ++ [19] ++ List.replicate 12 3 ++ [35, 3, 3, 52, 4, 4, 4, 68] ++ List.replicate 11 241
def UA : List Int := [128, 191, 160, 191, 128, 159, 144, 191, 128, 143] ++ List.replicate 22 0
end
section
open Go.ChangeShapes Go.WideShapes Go.ChangeAt Go.RowKit
def FI : List Int := [1779033703, 3144134277, 1013904242, 2773480762, 1359893119, 2600822924, 528734635, 1541459225]
theorem g_first : Tryz.prog.globalNamed "undercroft/undercroftref02.first" = some 0 := by kernel_rfl
theorem g_firstType : (Tryz.prog.globals[0]?).map (·.type) = some 124 := by kernel_rfl
theorem g_rounds : Tryz.prog.globalNamed "undercroft/undercroftref02.rounds" = some 1 := by kernel_rfl
theorem g_roundsType : (Tryz.prog.globals[1]?).map (·.type) = some 130 := by kernel_rfl
theorem cells_tab8 : Tryz.prog.cellsOf 124 = 8 := by kernel_rfl
theorem keep_one {W : World} {l : List (String × DataW Unit)} (name : String) {d : DataW Unit} (h : laidMet Tryz.prog l W) (hl : l.filter (fun x => x.1 == name) = [(name, d)]) : laidMet Tryz.prog [(name, d)] W := by
 have h2 := h.filter (fun x => x.1 == name)
 rwa [hl] at h2
theorem vars_of_laid {W : World} (h : laidMetH Tryz.prog [("undercroft/sum.primes", Rows.laid_undercroft_sum_primes), ("undercroft/undercroftref02.first", Rows.laid_undercroft_undercroftref02_first), ("undercroft/undercroftref02.rounds", Rows.laid_undercroft_undercroftref02_rounds)] W) : Primes W ∧ Vars W := by
 have h2 : laidMet Tryz.prog [("undercroft/sum.primes", Lib.tabData .u32 PR), ("undercroft/undercroftref02.first", Lib.tabData .u32 FI), ("undercroft/undercroftref02.rounds", Lib.tabData .u32 PR)] W := h
 have hT : Lib.TabIs Tryz.prog W "undercroft/sum.primes" .u32 PR := Lib.tabIs_of_head g_primes g_primesType Tryz.underlying130 Tryz.underlying123 cells_u32 cells_tab h2
 have hF : Lib.TabIs Tryz.prog W "undercroft/undercroftref02.first" .u32 FI := Lib.tabIs_of_head (rest := []) g_first g_firstType Tryz.underlying124 Tryz.underlying123 cells_u32 cells_tab8 (keep_one _ h2 rfl)
 have hR : Lib.TabIs Tryz.prog W "undercroft/undercroftref02.rounds" .u32 PR := Lib.tabIs_of_head (rest := []) g_rounds g_roundsType Tryz.underlying130 Tryz.underlying123 cells_u32 cells_tab (keep_one _ h2 rfl)
 refine ⟨fun t ht => hT.cell g_primes t ht, ⟨fun t ht => hR.cell g_rounds t ht, fun t ht => ?_⟩⟩
 rw [hF.cell g_first t ht]
 have h8 : t = 0 ∨ t = 1 ∨ t = 2 ∨ t = 3 ∨ t = 4 ∨ t = 5 ∨ t = 6 ∨ t = 7 := by omega
 rcases h8 with rfl | rfl | rfl | rfl | rfl | rfl | rfl | rfl <;> rfl
noncomputable def laidW3 (os : Os) : World :=
 { laidW os with heap := ((laidW os).heap.modify 0 fun
   | .cells _ t frozen => .cells (FI.map fun z => Value.int .u32 z).toArray t frozen
   | o => o).modify 1 fun
   | .cells _ t frozen => .cells (PR.map fun z => Value.int .u32 z).toArray t frozen
   | o => o }
end
section
open Go.ChangeShapes Go.WideShapes Go.ChangeAt Go.RowKit
theorem vars_of_laid5 {W : World} (h : laidMetH Tryz.prog [("undercroft/sum.primes", Rows.laid_undercroft_sum_primes), ("undercroft/undercroftref02.first", Rows.laid_undercroft_undercroftref02_first), ("undercroft/undercroftref02.rounds", Rows.laid_undercroft_undercroftref02_rounds), ("unicode/utf8.acceptRanges", Rows.laid_unicode_utf8_acceptRanges), ("unicode/utf8.first", Rows.laid_unicode_utf8_first)] W) : Primes W ∧ Vars W := by
 have h2 := h.filter (fun x => x.1 != "unicode/utf8.acceptRanges" && x.1 != "unicode/utf8.first")
 exact vars_of_laid h2
noncomputable def laidW5 (os : Os) : World :=
 { laidW3 os with heap := ((laidW3 os).heap.modify 4 fun
   | .cells _ t frozen => .cells (UF.map fun z => Value.int .u8 z).toArray t frozen
   | o => o).modify 5 fun
   | .cells _ t frozen => .cells (UA.map fun z => Value.int .u8 z).toArray t frozen
   | o => o }
theorem laid_met5 (os : Os) (args : Array Value) : laidMet Tryz.prog [("undercroft/sum.primes", Rows.laid_undercroft_sum_primes), ("undercroft/undercroftref02.first", Rows.laid_undercroft_undercroftref02_first), ("undercroft/undercroftref02.rounds", Rows.laid_undercroft_undercroftref02_rounds), ("unicode/utf8.acceptRanges", Rows.laid_unicode_utf8_acceptRanges), ("unicode/utf8.first", Rows.laid_unicode_utf8_first)] ((laidW5 os).forCall (fun _ _ => 0) ⟨#[], args, []⟩).memory :=
 laidMet_of_run' 8 (by kernel_rfl) (by kernel_rfl)
end
section
open Go.RowKit Go.ChangeShapes Go.WideShapes Go.Deep
theorem list_eachR {α : Type} (z : α) (P : Nat → α → Prop) : ∀ n, (∀ i, i < n → ∃ a, P i a) → ∃ l : List α, l.length = n ∧ ∀ i, i < n → P i (l.getD i z)
 | 0, _ => ⟨[], rfl, fun i hi => by omega⟩
 | n + 1, h => by
  obtain ⟨l, hl, hp⟩ := list_eachR z P n (fun i hi => h i (by omega))
  obtain ⟨a, ha⟩ := h n (by omega)
  refine ⟨l ++ [a], by simp [hl], fun i hi => ?_⟩
  by_cases hin : i < n
  ·have := hp i hin
   rw [List.getD_eq_getElem?_getD, List.getElem?_append_left (by omega), ← List.getD_eq_getElem?_getD]
   exact this
  ·obtain rfl : i = n := by omega
   rw [List.getD_eq_getElem?_getD, List.getElem?_append_right (by omega), hl, Nat.sub_self]
   exact ha
end
section
open Go.RowKit Go.ChangeShapes Go.WideShapes Go.Deep
section
variable {H : Type} {enc : TypeId × Value → H} {W : World}
theorem keeps_cameX {fuel : Nat} {cs : List Value} {x : DataW H × List MemPlace} (h : DataW.trod enc Tryz.prog W 0 (fun _ => true) true fuel 23 cs = some x) (hw : ∀ n ∈ x.1.weights Tryz.prog 23, n ≤ reachBytes) :
  ∃ p len cap K, cs = [.slice p len cap] ∧ K.length = len ∧ RdI W p K ∧ len ≤ 9223372036854775807 ∧ len * 8 ≤ 140737488351232 ∧ (p = none → cap = 0) := by
 have ht1 : Tryz.prog.cellsOf 3 = 1 := by kernel_rfl
 rcases open_slice Tryz.underlying23 h with ⟨hcs, _⟩ | ⟨a, len, cap, m, n, D, Pl, rfl, hb, hl, hm, hmm, rfl, hx⟩
 ·exact ⟨none, 0, 0, [], hcs, rfl, Or.inl rfl, by omega, by omega, fun _ => rfl⟩
 ·simp only [if_true] at hmm
  subst hmm
  have hwl := hw _ (by simp only [DataW.weights, Tryz.underlying23, List.mem_cons]; exact Or.inl rfl)
  have hby : Tryz.prog.bytesOf 3 = 8 := by kernel_rfl
  rw [hby] at hwl
  simp only [List.length_map, List.length_range] at hwl
  have hwl2 : len * 8 ≤ 140737488351232 := by
   have h1 : len * 8 ≤ reachBytes := Nat.le_trans (Nat.mul_le_mul_right 8 (by omega)) hwl
   exact Nat.le_trans h1 (by unfold reachBytes; omega)
  have each : ∀ i, i < len → ∃ s, W.cell? (a.add i) = some (.int .i64 s) := by
   intro i hi
   obtain ⟨cs', h1, h2⟩ := hx i (by omega)
   rw [ht1, Nat.mul_one] at h1
   obtain ⟨_, hlen, hcell⟩ := World.cells?_some h1
   obtain ⟨s, e, _, _⟩ := DataW.trod_int Tryz.underlying3 h2
   subst e
   exact ⟨s, by have := hcell 0 (by omega); simpa [Addr.add] using this⟩
  obtain ⟨L, hLl, hLs⟩ := list_eachR (0 : Int) _ len each
  refine ⟨some a, len, _, L, rfl, hLl, ?_, by unfold maxLen at hm; omega, hwl2, (fun h => nomatch h)⟩
  by_cases h0 : len = 0
  ·subst h0
   rw [List.eq_nil_of_length_eq_zero hLl]
   exact Or.inl rfl
  ·have hs : a.spot = none := by
    have h1 := hLs 0 (by omega)
    exact spot_of_cell (by simpa [Addr.add] using h1)
   refine Or.inr ⟨a.block, a.off, by obtain ⟨g, o, sp⟩ := a; simp only at hs; subst hs; rfl, fun i u hu => ?_⟩
   have hi := (List.getElem?_eq_some_iff.1 hu).1
   rw [List.length_map, hLl] at hi
   have h1 := hLs i hi
   rw [add_of hs] at h1
   rw [h1]
   rw [List.getElem?_map, List.getElem?_eq_getElem (by omega)] at hu
   rw [List.getD_eq_getElem?_getD, List.getElem?_eq_getElem (by omega)]
   exact hu
theorem props_cameX {fuel : Nat} {cs : List Value} {x : DataW H × List MemPlace} (h : DataW.trod enc Tryz.prog W 0 (fun _ => true) true fuel 22 cs = some x) (hw : ∀ n ∈ x.1.weights Tryz.prog 22, n ≤ reachBytes) :
  ∃ p len cap P, cs = [.slice p len cap] ∧ P.length = len ∧ RdP W p P ∧ len ≤ 9223372036854775807 ∧ len * 32 ≤ 140737488351232 ∧ (p = none → cap = 0) ∧ PvOk P := by
 have ht2 : Tryz.prog.cellsOf 70 = 2 := by kernel_rfl
 have hs1 : Tryz.prog.cellsOf 9 = 1 := by kernel_rfl
 rcases open_slice Tryz.underlying22 h with ⟨hcs, _⟩ | ⟨a, len, cap, m, n, D, Pl, rfl, hb, hl, hm, hmm, rfl, hx⟩
 ·exact ⟨none, 0, 0, [], hcs, rfl, Or.inl rfl, by omega, by omega, fun _ => rfl, fun i hi => by simp at hi⟩
 ·simp only [if_true] at hmm
  subst hmm
  have hwl := hw _ (by simp only [DataW.weights, Tryz.underlying22, List.mem_cons]; exact Or.inl rfl)
  have hby : Tryz.prog.bytesOf 70 = 32 := by kernel_rfl
  rw [hby] at hwl
  simp only [List.length_map, List.length_range] at hwl
  have hwl2 : len * 32 ≤ 140737488351232 := by
   have h1 : len * 32 ≤ reachBytes := Nat.le_trans (Nat.mul_le_mul_right 32 (by omega)) hwl
   exact Nat.le_trans h1 (by unfold reachBytes; omega)
  have each : ∀ i, i < len → ∃ s : Pr, W.cell? (a.add (i * 2)) = some (.string s.1) ∧ W.cell? (a.add (i * 2 + 1)) = some (.string s.2) ∧ s.2.size ≤ 9223372036854775807 := by
   intro i hi
   obtain ⟨cs', h1, h2⟩ := hx i (by omega)
   rw [ht2] at h1
   obtain ⟨_, hlen, hcell⟩ := World.cells?_some h1
   have hwi : ∀ n ∈ (D i).weights Tryz.prog 70, n ≤ reachBytes := by
    intro n hn
    refine hw n ?_
    simp only [DataW.weights, Tryz.underlying22, List.mem_cons, List.mem_append]
    exact Or.inr (Or.inl (mem_all (List.mem_map.2 ⟨i, List.mem_range.2 hi, rfl⟩) hn))
   obtain ⟨xs, n2, _, hxe, _, hxl, hF⟩ := DataW.trod_struct Tryz.underlying70 h2
   match cs', hlen with
   | [c0, c1], _ =>
    have g0 := hF 0 _ rfl
    have g1 := hF 1 _ rfl
    match xs, hxl with
    | [x0, x1], _ =>
     simp [hs1] at g0 g1
     obtain ⟨s0, e0, _⟩ := DataW.trod_string Tryz.underlying9 g0
     obtain ⟨s1, e1, d1, _⟩ := DataW.trod_string Tryz.underlying9 g1
     have hs9 : s1.size ≤ reachBytes := hwi s1.size (by
      rw [(Prod.mk.inj hxe).1]
      simp only [DataW.weights, Tryz.underlying70]
      refine DataW.weights_mem_each (j := 1) (d := .lit (.string s1.data.toList)) rfl (by simp [d1]) _ ?_
      simp only [DataW.weights, List.mem_singleton]
      rfl)
     simp only [List.cons.injEq, and_true] at e0 e1
     subst e0 e1
     refine ⟨(s0, s1), ?_, ?_, by unfold reachBytes at hs9; show s1.size ≤ _; omega⟩
     ·have := hcell 0 (by simp); simpa [Addr.add] using this
     ·have := hcell 1 (by simp)
      rw [Addr.add_add] at this
      simpa using this
  obtain ⟨L, hLl, hLs⟩ := list_eachR ((⟨#[]⟩, ⟨#[]⟩) : Pr) _ len each
  refine ⟨some a, len, _, L, rfl, hLl, ?_, by unfold maxLen at hm; omega, hwl2, (fun h => nomatch h), fun i hi => by
   have h := (hLs i (by omega)).2.2
   unfold prA
   exact h⟩
  by_cases h0 : len = 0
  ·subst h0
   rw [List.eq_nil_of_length_eq_zero hLl]
   exact Or.inl rfl
  ·have hs : a.spot = none := by
    have h1 := (hLs 0 (by omega)).1
    exact spot_of_cell (by simpa [Addr.add] using h1)
   refine Or.inr ⟨a.block, a.off, by obtain ⟨g, o, sp⟩ := a; simp only at hs; subst hs; rfl, fun i u hu => ?_⟩
   have hi := (List.getElem?_eq_some_iff.1 hu).1
   rw [hLl] at hi
   obtain ⟨h1, h2, _⟩ := hLs i hi
   rw [add_of hs] at h1 h2
   rw [List.getD_eq_getElem?_getD, hu] at h1 h2
   exact ⟨h1, by rw [Nat.add_assoc]; exact h2⟩
theorem rec_cellsX {fuel : Nat} {cs : List Value} {x : DataW H × List MemPlace} (hf : DataW.trod enc Tryz.prog W 0 (fun _ => true) true fuel 26 cs = some x) (hsz : cs.length = 13) (hw : ∀ n ∈ x.1.weights Tryz.prog 26, n ≤ reachBytes) :
  ∃ y : Rk, cs = y.r.arr.toList ∧ RcOk W y.r y.P y.K y.D ∧ y.r.name.size ≤ 140737488355328 ∧ PvOk y.P ∧ y.r.pn * 32 ≤ 140737488351232 ∧ y.r.kn * 8 ≤ 140737488351232 ∧ y.r.dl ≤ 140737488351232 ∧ (y.r.pp = none → y.r.pc = 0) ∧ (y.r.kp = none → y.r.kc = 0) ∧ (y.r.dp = none → y.r.dc = 0) ∧ y.r.dl ≤ y.r.dc := by
 have hs1 : Tryz.prog.cellsOf 24 = 1 := by kernel_rfl
 have hs2 : Tryz.prog.cellsOf 22 = 1 := by kernel_rfl
 have hs3 : Tryz.prog.cellsOf 23 = 1 := by kernel_rfl
 have hi1 : Tryz.prog.cellsOf 3 = 1 := by kernel_rfl
 have ht1 : Tryz.prog.cellsOf 9 = 1 := by kernel_rfl
 obtain ⟨xs, n, _, hxe, _, hxl, hF⟩ := DataW.trod_struct Tryz.underlying26 hf
 match cs, hsz with
 | [c0, c1, c2, c3, c4, c5, c6, c7, c8, c9, c10, c11, c12], _ =>
  have g0 := hF 0 _ rfl
  have g1 := hF 1 _ rfl
  have g2 := hF 2 _ rfl
  have g3 := hF 3 _ rfl
  have g4 := hF 4 _ rfl
  have g5 := hF 5 _ rfl
  have g6 := hF 6 _ rfl
  have g7 := hF 7 _ rfl
  have g8 := hF 8 _ rfl
  have g9 := hF 9 _ rfl
  have g10 := hF 10 _ rfl
  have g11 := hF 11 _ rfl
  have g12 := hF 12 _ rfl
  match xs, hxl with
  | [x0, x1, x2, x3, x4, x5, x6, x7, x8, x9, x10, x11, x12], _ =>
   simp [hs1, hs2, hs3, hi1, ht1] at g0 g1 g2 g3 g4 g5 g6 g7 g8 g9 g10 g11 g12
   obtain ⟨z0, e0, _, _⟩ := DataW.trod_int Tryz.underlying3 g0
   obtain ⟨z2, e2, _, _⟩ := DataW.trod_int Tryz.underlying3 g2
   obtain ⟨z3, e3, _, _⟩ := DataW.trod_int Tryz.underlying3 g3
   obtain ⟨z4, e4, _, _⟩ := DataW.trod_int Tryz.underlying3 g4
   obtain ⟨z5, e5, _, _⟩ := DataW.trod_int Tryz.underlying3 g5
   obtain ⟨z8, e8, _, _⟩ := DataW.trod_int Tryz.underlying3 g8
   obtain ⟨z9, e9, _, _⟩ := DataW.trod_int Tryz.underlying3 g9
   obtain ⟨z10, e10, _, _⟩ := DataW.trod_int Tryz.underlying3 g10
   obtain ⟨z1, e1, d1, _⟩ := DataW.trod_string Tryz.underlying9 g1
   obtain ⟨z6, e6, _, _⟩ := DataW.trod_string Tryz.underlying9 g6
   obtain ⟨pp, pn, pc, P, e7, hP, hrp, hpn, hp32, hpz, hpv⟩ := props_cameX g7 (fun n hn => hw n (by rw [(Prod.mk.inj hxe).1]; simp only [DataW.weights, Tryz.underlying26]; exact DataW.weights_mem_each (j := 7) rfl (by rfl) n hn))
   obtain ⟨kp, kn, kc, K, e11, hK, hrk, hkn, hk8, hkz⟩ := keeps_cameX g11 (fun n hn => hw n (by rw [(Prod.mk.inj hxe).1]; simp only [DataW.weights, Tryz.underlying26]; exact DataW.weights_mem_each (j := 11) rfl (by rfl) n hn))
   obtain ⟨p, len, cap, e12, ns, hnl, hrd, hnb, hdz, hlc, hld⟩ := came_cells g12
   have hdl2 : len ≤ 140737488351232 := came_len g12 (fun n hn => hw n (by rw [(Prod.mk.inj hxe).1]; simp only [DataW.weights, Tryz.underlying26]; exact DataW.weights_mem_each (j := 12) rfl (by rfl) n hn)) p len cap e12
   have hnm : z1.size ≤ reachBytes := hw z1.size (by
    rw [(Prod.mk.inj hxe).1]
    simp only [DataW.weights, Tryz.underlying26]
    refine DataW.weights_mem_each (j := 1) (d := .lit (.string z1.data.toList)) rfl (by simp [d1]) _ ?_
    simp only [DataW.weights, List.mem_singleton]
    rfl)
   simp only [List.cons.injEq, and_true] at e0 e1 e2 e3 e4 e5 e6 e7 e8 e9 e10 e11 e12
   subst e0 e1 e2 e3 e4 e5 e6 e7 e8 e9 e10 e11 e12
   exact ⟨⟨⟨z0, z1, z2, z3, z4, z5, z6, pp, pn, pc, z8, z9, z10, kp, kn, kc, p, len, cap⟩, P, K, ns⟩, rfl, ⟨hrp, hP, hrk, hK, hrd, hnl, hnb, ⟨hpn, hkn⟩⟩, by unfold reachBytes at hnm; show z1.size ≤ _; omega, hpv, hp32, hk8, hdl2, hpz, hkz, (fun h => hdz (hrd.elim (fun h2 => h2) (fun ⟨_, _, he, _⟩ => by have h3 : p = none := h; rw [h3] at he; cases he)) h), hlc⟩
theorem recs_cameX {fuel : Nat} {cs : List Value} {x : DataW H × List MemPlace} (h : DataW.trod enc Tryz.prog W 0 (fun _ => true) true fuel 43 cs = some x) (hw : ∀ n ∈ x.1.weights Tryz.prog 43, n ≤ reachBytes) :
  ∃ p len cap L, cs = [.slice p len cap] ∧ L.length = len ∧ RdRk W p L ∧ len ≤ 9223372036854775807 ∧ (∀ (i : Nat) (x : Rk), L[i]? = some x → PvOk x.P) := by
 have h13 : Tryz.prog.cellsOf 26 = 13 := by kernel_rfl
 rcases open_slice Tryz.underlying43 h with ⟨hcs, _⟩ | ⟨a, len, cap, m, n, D, Pl, rfl, hb, hl, hm, hmm, rfl, hx⟩
 ·exact ⟨none, 0, 0, [], hcs, rfl, Or.inl rfl, by omega, fun i x hx => by simp at hx⟩
 ·simp only [if_true] at hmm
  subst hmm
  have each : ∀ i, i < len → ∃ y : Rk, (∀ j u, y.r.arr[j]? = some u → W.cell? ((a.add (i * 13)).add j) = some u) ∧ RcOk W y.r y.P y.K y.D ∧ y.r.name.size ≤ 140737488355328 ∧ PvOk y.P := by
   intro i hi
   obtain ⟨cs', h1, h2⟩ := hx i (by omega)
   rw [h13] at h1
   obtain ⟨_, hlen, hcell⟩ := World.cells?_some h1
   have hwi : ∀ n ∈ (D i).weights Tryz.prog 26, n ≤ reachBytes := by
    intro n hn
    refine hw n ?_
    simp only [DataW.weights, Tryz.underlying43, List.mem_cons, List.mem_append]
    exact Or.inr (Or.inl (mem_all (List.mem_map.2 ⟨i, List.mem_range.2 hi, rfl⟩) hn))
   obtain ⟨y, hy, hok, hn, hpv, _⟩ := rec_cellsX h2 hlen hwi
   refine ⟨y, fun j u hu => ?_, hok, hn, hpv⟩
   have hj : j < 13 := (Array.getElem?_eq_some_iff.1 hu).1
   rw [hcell j hj, hy]
   simpa using hu
  obtain ⟨L, hLl, hLs⟩ := list_eachR rk0 _ len each
  refine ⟨some a, len, _, L, rfl, hLl, ?_, by unfold maxLen at hm; omega, fun i x hx => by
   have hi := (List.getElem?_eq_some_iff.1 hx).1
   rw [hLl] at hi
   have h4 := (hLs i hi).2.2.2
   rw [List.getD_eq_getElem?_getD, hx] at h4
   exact h4⟩
  by_cases h0 : len = 0
  ·subst h0
   rw [List.eq_nil_of_length_eq_zero hLl]
   exact Or.inl rfl
  ·have hs : a.spot = none := by
    have h1 := (hLs 0 (by omega)).1 0 _ rfl
    exact spot_of_cell (by simpa [Addr.add] using h1)
   refine Or.inr ⟨a.block, a.off, by obtain ⟨g, o, sp⟩ := a; simp only at hs; subst hs; rfl, fun i u hu => ?_⟩
   have hi := (List.getElem?_eq_some_iff.1 hu).1
   rw [hLl] at hi
   obtain ⟨h1, h2, h3, _⟩ := hLs i hi
   rw [List.getD_eq_getElem?_getD, hu] at h1 h2 h3
   refine ⟨fun j v hv => ?_, h2, h3⟩
   have h4 := h1 j v hv
   rw [add_of hs, add_of rfl] at h4
   exact h4
end
end
section
open Go.ChangeShapes Go.WideShapes Go.ChangeAt Go.RowKit Go.Deep
section
variable {H : Type} {enc : TypeId × Value → H} {W : World}
theorem bulkR_pos : ∀ (d : DataW H), 1 ≤ Rows.uptoBulk d := by
 intro d
 cases d with
 | lit l => cases l <;> simp [Rows.uptoBulk]
 | nil => simp [Rows.uptoBulk]
 | ptr d => simp [Rows.uptoBulk]
 | slice a b => simp [Rows.uptoBulk]
 | agg a => simp [Rows.uptoBulk]
 | iface t d => simp [Rows.uptoBulk]
 | map e => simp [Rows.uptoBulk]
 | held h => simp [Rows.uptoBulk]
theorem bulkR_len : ∀ (l : List (DataW H)), l.length ≤ Rows.uptoBulkAll l := by
 intro l
 induction l with
 | nil => simp [Rows.uptoBulkAll]
 | cons d l ih => have := bulkR_pos d; simp only [Rows.uptoBulkAll, List.length_cons]; omega
theorem recs_cameU {fuel : Nat} {cs : List Value} {x : DataW H × List MemPlace} (h : DataW.trod enc Tryz.prog W 0 (fun _ => true) true fuel 43 cs = some x) (hw : ∀ n ∈ x.1.weights Tryz.prog 43, n ≤ reachBytes) (hk : Rows.uptoBulk x.1 ≤ 1048576) :
  ∃ p len cap L, cs = [.slice p len cap] ∧ L.length = len ∧ RdRk W p L ∧ len ≤ 1048576 ∧ (∀ (i : Nat) (x : Rk), L[i]? = some x → PvOk x.P) := by
 obtain ⟨p, len, cap, L, hcs, h1, h2, _, h4⟩ := recs_cameX h hw
 refine ⟨p, len, cap, L, hcs, h1, h2, ?_, h4⟩
 rcases open_slice Tryz.underlying43 h with ⟨hc, _⟩ | ⟨a, len', cap', m, n, D, Pl, hc, hb, hl, hm, hmm, rfl, hx⟩
 ·rw [hcs] at hc
  simp at hc
  omega
 ·rw [hcs] at hc
  simp only [if_true] at hmm
  subst hmm
  simp only [List.cons.injEq, Value.slice.injEq, and_true] at hc
  obtain ⟨_, rfl, _⟩ := hc
  have hl2 := bulkR_len ((List.range len).map D)
  rw [List.length_map, List.length_range] at hl2
  simp only [Rows.uptoBulk] at hk
  omega
end
end
end Go.Proofs.YtajfjkfnmmfhmaaGreatDoor
