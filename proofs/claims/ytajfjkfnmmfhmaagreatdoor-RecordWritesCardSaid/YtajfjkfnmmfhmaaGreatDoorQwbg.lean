/- RecordWrites: any record is laid down as the document says, or refused as it says. The listed variable of the laws of layer 2: what the row's condition gives; a world that meets it. The three listed variables of the laws of layer 20: what the row's condition gives; a world that meets it. The three listed variables of SumOf: what the row's condition gives; a world that meets it. The five listed variables of four laws of layer 20: what the row's condition gives; a world that meets it. Inputs as they come in: a record. Records: Stream. Inputs as they come in: a record, with the reach of its lists. -/
import Derived.Test.YtajfjkfnmmfhmaaGreatDoorQway
import Derived.Test.YtajfjkfnmmfhmaaGreatDoorQwbc
import Derived.Test.YtajfjkfnmmfhmaaGreatDoorQwbf
import Derived.Test.YtajfjkfnmmfhmaaGreatDoorRows
import Derived.LaidLaws
import Derived.Lib.LaidTab
import Derived.Test.YtajfjkfnmmfhmaaGreatDoorQwad
import Derived.Test.YtajfjkfnmmfhmaaGreatDoorQwaw
import Derived.LaidSub
import Derived.Test.YtajfjkfnmmfhmaaGreatDoorQwak
import Derived.Test.YtajfjkfnmmfhmaaGreatDoorQwat
namespace Go.Proofs.YtajfjkfnmmfhmaaGreatDoor
section
open Go.RowKit Go.Lib
set_option maxRecDepth 100000
/-- What Encode answers: bytes, a seal, an error. -/
def encB (a : S4) (r : Rc) (P : List Pr) (K D : List Int) : List Int := if RcMay r P K D then recB a r P K D else []
def encS (a : S4) (r : Rc) (P : List Pr) (K D : List Int) : S4 := if RcMay r P K D then selR a r P K D else S4.z
def encE (r : Rc) (P : List Pr) (K D : List Int) : Int := if RcMay r P K D then 0 else 200
theorem body_core {r s : Rc} (P : List Pr) (K D : List Int) (hc : r.core = s.core) (h1 : r.pn = s.pn) (h2 : r.kn = s.kn) (h3 : r.dl = s.dl) : bodyR r P K D = bodyR s P K D ∧ r.kind = s.kind := by
  obtain ⟨kind, name, typ, frm, guid, origin, snap, pp, pn, pc, obj, at_, many, kp, kn, kc, dp, dl, dc⟩ := r
  obtain ⟨kind', name', typ', frm', guid', origin', snap', pp', pn', pc', obj', at', many', kp', kn', kc', dp', dl', dc'⟩ := s
  unfold Rc.core at hc
  simp only [Rc.mk.injEq] at hc h1 h2 h3
  obtain ⟨rfl, rfl, rfl, rfl, rfl, rfl, rfl, _, _, _, rfl, rfl, rfl, _⟩ := hc
  subst h1 h2 h3
  exact ⟨rfl, rfl⟩
theorem enc_core (a : S4) {r s : Rc} (P : List Pr) (K D : List Int) (hc : r.core = s.core) (h1 : r.pn = s.pn) (h2 : r.kn = s.kn) (h3 : r.dl = s.dl) : encB a r P K D = encB a s P K D ∧ encS a r P K D = encS a s P K D ∧ encE r P K D = encE s P K D := by
  have hm : RcMay r P K D ↔ RcMay s P K D := rcMay_core hc h1 h2 h3
  obtain ⟨hb, hk⟩ := body_core P K D hc h1 h2 h3
  unfold encB encS encE recB selR
  rw [hb, hk]
  by_cases h : RcMay s P K D
  · simp only [if_pos h, if_pos (hm.2 h), and_self]
  · simp only [if_neg h, if_neg (fun h2 => h (hm.1 h2)), and_self]
/-- Both Encodes' answers in one form. -/
def EncU (w : World) (a : S4) (r : Rc) (P : List Pr) (K D : List Int) (e : Ending) (w' : World) : Prop := ∃ p n c, e = .returned (.tuple #[.slice p n c, .agg (encS a r P K D).arr, .int .i64 (encE r P K D)]) ∧ Rd w' p (encB a r P K D) ∧ (encB a r P K D).length = n ∧ (∀ k ∈ blk p, w.heap.size ≤ k ∧ k < w'.heap.size) ∧ Frm [] w w'
theorem encodeU_any (r : Rc) (P : List Pr) (K D : List Int) (a : S4) (ha : a.Bd) (w : World) (hr : RcOk w r P K D) (hs : r.name.size ≤ 9223372036854775806) (hpr : Primes w) :
    Calls Tryz.prog 10 #[.agg r.arr, .agg a.arr] w (EncU w a r P K D) := by
  refine (encodeR_any r P K D a ha w hr hs hpr).mono fun e w' h => ?_
  obtain ⟨hf, ⟨hm, rfl⟩ | ⟨hm, g, n, rfl, hn, hb, hlo⟩⟩ := h
  · unfold EncU encB encS encE
    simp only [if_neg hm]
    exact ⟨none, 0, 0, rfl, Rd.nil _ _, rfl, by simp [blk], hf⟩
  · unfold EncU encB encS encE
    simp only [if_pos hm]
    refine ⟨_, n, n, rfl, (own_of_block (E := 5) hb (by rw [recB, recL_len]; have := bodyR_len hm hr.pl hr.kl hr.dn; unfold maxLen; omega)).rd, hn.symm, ?_, hf⟩
    intro k hk
    simp [blk] at hk
    subst hk
    exact ⟨hlo, lt_of_heap hb⟩
theorem refEncodeU_any (r : Rc) (P : List Pr) (K D : List Int) (a : S4) (ha : a.Bd) (w : World) (hr : RcOk w r P K D) (hs : r.name.size ≤ 140737488355328) (hv : PvOk P) (hvs : Vars w) :
    Calls Tryz.prog 14 #[.agg r.arr, .agg a.arr] w (EncU w a r P K D) := by
  by_cases hm : RcMay r P K D
  · refine (refEncode_ok r P K D a w hr hs hv hm ha hvs).mono fun e w' h => ?_
    obtain ⟨q, n, d, rfl, hn, hb⟩ := h
    unfold EncU encB encS encE
    simp only [if_pos hm]
    exact ⟨q, n, d, rfl, hb.own.rd, hn.symm, fun k hk => ⟨hb.nil.2 k hk, hb.own.lows k hk⟩, hb.nil.1⟩
  · refine (refEncode_bad r P K D a w hr hs hv hm).mono fun e w' h => ?_
    obtain ⟨rfl, hf⟩ := h
    unfold EncU encB encS encE
    simp only [if_neg hm]
    exact ⟨none, 0, 0, rfl, Rd.nil _ _, rfl, by simp [blk], hf⟩
set_option maxHeartbeats 12800000 in
theorem recordWrites_any (r : Rc) (P : List Pr) (K D : List Int) (a : S4) (ha : a.Bd) (w : World) (hr : RcOk w r P K D) (hs : r.name.size ≤ 140737488355328) (hv : PvOk P) (h1 : r.pn * 32 ≤ 140737488355328) (h2 : r.kn * 8 ≤ 140737488355328) (h3 : r.dl ≤ 140737488355328) (hz1 : r.pp = Option.none → r.pc = 0) (hz2 : r.kp = Option.none → r.kc = 0) (hz3 : r.dp = Option.none → r.dc = 0) (hpr : Primes w) (hvs : Vars w) :
    Calls Tryz.prog 3 #[.agg r.arr, .agg a.arr] w fun e w' => e = .returned (.bool true) ∧ Frm [] w w' := by
  obtain ⟨PO, hPO⟩ : ∃ PO : Ending → World → Prop, (fun e w' => e = .returned (.bool true) ∧ Frm [] w w') = PO := ⟨_, rfl⟩
  rw [hPO]
  have HP : Hid (∀ w', Frm [] w w' → PO (.returned (.bool true)) w') := hid (fun w' h => by rw [← hPO]; exact ⟨rfl, h⟩)
  have hrow := heap_alloc_new w (.cells r.arr 26)
  have hfa : Frm [] w (w.alloc (.cells r.arr 26)) := (Frm.refl _ _).alloc _
  obtain ⟨wa, hwa⟩ : ∃ z, w.alloc (.cells r.arr 26) = z := ⟨_, rfl⟩
  obtain ⟨ba, hba⟩ : ∃ z, w.heap.size = z := ⟨_, rfl⟩
  rw [hwa, hba] at hrow
  rw [hwa] at hfa
  have hrows := heap_alloc_new wa (.cells a.arr 29)
  have hfs : Frm [] wa (wa.alloc (.cells a.arr 29)) := (Frm.refl _ _).alloc _
  obtain ⟨ws, hws⟩ : ∃ z, wa.alloc (.cells a.arr 29) = z := ⟨_, rfl⟩
  obtain ⟨bs, hbs⟩ : ∃ z, wa.heap.size = z := ⟨_, rfl⟩
  rw [hws, hbs] at hrows
  rw [hws] at hfs
  have hb1 : ba + 1 = bs := by rw [← hbs, ← hwa, ← hba]; simp
  have HB1 := hid hb1
  have HFS : Hid (Frm [] w ws) := hid (hfa.trans hfs (by simp))
  have HRS : Hid (∀ V, Frm [] ws V → V.heap[bs]? = some (.cells a.arr 29 (0, 0))) := hid (fun V hf => hf.heap hrows (by simp))
  have HX := hid (fun V (hf : Frm [] ws V) => rc_cells (hf.heap (hfs.heap hrow (by simp)) (by simp)))
  have HOK := hid (fun V (hf : Frm [] ws V) => hr.k0 (HFS.out.trans hf (by simp)))
  have HPR := hid (fun V (hf : Frm [] ws V) => hpr.kept (HFS.out.trans hf (by simp)))
  have HVS := hid (fun V (hf : Frm [] ws V) => hvs.kept (HFS.out.trans hf (by simp)))
  have HAW := hid (fun V (hf : Frm [] ws V) => awake20_any V (HPR.out V hf))
  have HLE := hid (fun V (hf : Frm [] ws V) => lent20_any r P K D V (HOK.out V hf) h1 h2 h3 hz1 hz2 hz3)
  have HCR := hid (fun V (hf : Frm [] ws V) => refCheck_any r P K D V (HOK.out V hf) hs hv)
  have HER := hid (fun V (hf : Frm [] ws V) => refEncodeU_any r P K D a ha V (HOK.out V hf) hs hv (HVS.out V hf))
  have HRR : Hid (∀ V (o : Rc), Frm [] ws V → RcOk V o P K D → o.core = r.core → Calls Tryz.prog 11 #[.agg o.arr, .agg r.arr] V fun e w' => e = .returned (.bool true) ∧ Frm [] V w') := hid (fun V o hf ho hc => sameTrue_any o r P K D V ho (HOK.out V hf) hc)
  have HEC : Hid (∀ o : Rc, o.core = r.core → P.length = o.pn → K.length = o.kn → D.length = o.dl → (encB a o P K D = encB a r P K D ∧ encS a o P K D = encS a r P K D ∧ encE o P K D = encE r P K D) ∧ o.name = r.name ∧ (RcMay o P K D ↔ RcMay r P K D)) := hid (fun o hc g1 g2 g3 => ⟨enc_core a P K D hc (g1.symm.trans hr.pl) (g2.symm.trans hr.kl) (g3.symm.trans hr.dn), by have := congrArg Rc.name hc; exact this, rcMay_core hc (g1.symm.trans hr.pl) (g2.symm.trans hr.kl) (g3.symm.trans hr.dn)⟩)
  obtain ⟨RB, hRB⟩ : ∃ z, encB a r P K D = z := ⟨_, rfl⟩
  obtain ⟨T, hT⟩ : ∃ z, encS a r P K D = z := ⟨_, rfl⟩
  obtain ⟨EV, hEV⟩ : ∃ z, encE r P K D = z := ⟨_, rfl⟩
  have hev : (if RcMay r P K D then (0 : Int) else 200) = EV := hEV
  unfold EncU at HER
  rw [hRB, hT, hEV] at HEC HER
  rw [hev] at HCR
  have HEN : Hid (∀ V (o : Rc), Frm [] ws V → RcOk V o P K D → o.core = r.core → Calls Tryz.prog 10 #[.agg o.arr, .agg a.arr] V fun e w' => ∃ p n c, e = .returned (.tuple #[.slice p n c, .agg T.arr, .int .i64 EV]) ∧ Rd w' p RB ∧ RB.length = n ∧ (∀ k ∈ blk p, V.heap.size ≤ k ∧ k < w'.heap.size) ∧ Frm [] V w') := hid (fun V o hf ho hc => by
    obtain ⟨⟨e1, e2, e3⟩, e4, e5⟩ := HEC.out o hc ho.pl ho.kl ho.dn
    have h := encodeU_any o P K D a ha V ho (by rw [e4]; omega) (HPR.out V hf)
    unfold EncU at h
    rw [e1, e2, e3] at h
    exact h)
  have HCH : Hid (∀ V (o : Rc), Frm [] ws V → RcOk V o P K D → o.core = r.core → Calls Tryz.prog 9 #[.agg o.arr] V fun e w' => e = .returned (.int .i64 EV) ∧ Frm [] V w') := hid (fun V o hf ho hc => by
    obtain ⟨_, e4, e5⟩ := HEC.out o hc ho.pl ho.kl ho.dn
    have h := check_any o P K D V ho (by rw [e4]; omega)
    have h2 : (if RcMay o P K D then (0 : Int) else 200) = EV := by
      rw [← hev]
      by_cases hm : RcMay r P K D
      · rw [if_pos hm, if_pos (e5.2 hm)]
      · rw [if_neg hm, if_neg (fun h => hm (e5.1 h))]
    rw [h2] at h
    exact h)
  have HWS2 : Hid (w.heap.size ≤ ws.heap.size) := hid HFS.out.size
  have HWA := hid hwa
  have HWS := hid hws
  have HBA := hid hba
  have HBS := hid hbs
  clear hPO hrow hfa hwa hba hrows hfs hws hbs hb1 hr ha hs hv h1 h2 h3 hz1 hz2 hz3 hpr hvs HOK HPR HVS HEC hRB hT hEV hev
  obtain ⟨kind, name, typ, frm, guid, origin, snap, pp, pn, pc, obj, at_, many, kp, kn, kc, dp, dl, dc⟩ := r
  obtain ⟨s0, s1, s2, s3⟩ := a
  obtain ⟨t0, t1, t2, t3⟩ := T
  unfold S4.arr at HWS HRS HER HEN
  unfold Rc.arr at HWA HLE HCR HER HRR ⊢
  unfold S4.arr
  simp only at HWA HWS HRS HX HLE HCR HER HRR HEN HCH ⊢
  have HSC : Hid (∀ V, Frm [] ws V → V.cell? ⟨bs, 0, none⟩ = some (.int .u64 s0) ∧ V.cell? ⟨bs, 1, none⟩ = some (.int .u64 s1) ∧ V.cell? ⟨bs, 2, none⟩ = some (.int .u64 s2) ∧ V.cell? ⟨bs, 3, none⟩ = some (.int .u64 s3)) := hid (fun V hf => by
    have h := HRS.out V hf
    refine ⟨?_, ?_, ?_, ?_⟩ <;> (rw [cell_of_row _ _ _ _ _ _ h]; rfl))
  clear HRS
  go_enter Tryz.func3, Tryz.ntmps3
  go_upto_region 1 with fail
  first | rw [HWA.out] | skip
  first | rw [HBA.out] | skip
  first | rw [HWS.out] | skip
  first | rw [HBS.out] | skip
  first | rw [HB1.out] | skip
  clear HWA HBA HWS HBS HB1
  go_wp2_with fail
  refine (HAW.out ws (Frm.refl _ _)).mono ?_
  rintro e w1 ⟨rfl, hf1⟩
  have HF1 := hid hf1
  clear hf1
  obtain ⟨x0, x1, x2, x3, x4, x5, x6, x7, x8, x9, x10, x11, x12⟩ := HX.out w1 HF1.out
  go_wp2_with fail
  refine (HLE.out w1 HF1.out).mono ?_
  rintro e w2 ⟨o, rfl, hoc, hln, hf2⟩
  have HF2 : Hid (Frm [] ws w2) := hid (HF1.out.trans hf2 (by simp))
  have HOC := hid hoc
  have HLN := hid hln
  have HLO : Hid (∀ i ∈ o.B, ws.heap.size ≤ i ∧ i < w2.heap.size) := hid (fun i hi => by
    have h9 := hln.sp.low i hi
    have h8 := HF1.out.size
    unfold Rc.B at hi
    simp only [List.mem_append] at hi
    rcases hi with hi | hi | hi
    · have := hln.pw i hi; omega
    · have := hln.kw i hi; omega
    · have := hln.dw i hi; omega)
  clear x0 x1 x2 x3 x4 x5 x6 x7 x8 x9 x10 x11 x12 hoc hln hf2 HAW HLE
  have hrowo := heap_alloc_new w2 (.cells o.arr 26)
  have hfo : Frm [] w2 (w2.alloc (.cells o.arr 26)) := (Frm.refl _ _).alloc _
  obtain ⟨w3, hw3⟩ : ∃ z, w2.alloc (.cells o.arr 26) = z := ⟨_, rfl⟩
  obtain ⟨bo, hbo⟩ : ∃ z, w2.heap.size = z := ⟨_, rfl⟩
  rw [hw3, hbo] at hrowo
  rw [hw3] at hfo
  have HF3 : Hid (Frm [] ws w3) := hid (HF2.out.trans hfo (by simp))
  have HY := hid (fun V (hf : Frm [] w3 V) => rc_cells (hf.heap hrowo (by simp)))
  have HLN3 := hid (fun V (hf : Frm [] w3 V) => HLN.out.k0 (hfo.trans hf (by simp)))
  have HBO : Hid (∀ i ∈ o.B, i < w3.heap.size) := hid (fun i hi => Nat.lt_of_lt_of_le (HLO.out i hi).2 hfo.size)
  have HSP : Hid (∀ V, Frm [] w3 V → Calls Tryz.prog 12 #[.agg o.arr] V fun e w' => e = .returned (.tuple #[]) ∧ Frm o.B V w') := hid (fun V hf => spoil20_any o V (HLN3.out V hf).sp)
  have HE1 : Hid (∀ V, Frm [] w3 V → Calls Tryz.prog 10 #[.agg o.arr, .agg #[.int .u64 s0, .int .u64 s1, .int .u64 s2, .int .u64 s3]] V fun e w' => ∃ p n c, e = .returned (.tuple #[.slice p n c, .agg #[.int .u64 t0, .int .u64 t1, .int .u64 t2, .int .u64 t3], .int .i64 EV]) ∧ Rd w' p RB ∧ RB.length = n ∧ (∀ k ∈ blk p, V.heap.size ≤ k ∧ k < w'.heap.size) ∧ Frm [] V w') := hid (fun V hf => HEN.out V o (HF3.out.trans hf (by simp)) (HLN3.out V hf).ok HOC.out)
  have HC1 := hid (fun V (hf : Frm [] w3 V) => HCH.out V o (HF3.out.trans hf (by simp)) (HLN3.out V hf).ok HOC.out)
  have HS1 := hid (fun V (hf : Frm [] w3 V) => HRR.out V o (HF3.out.trans hf (by simp)) (HLN3.out V hf).ok HOC.out)
  have HWO := hid hw3
  have HBQ := hid hbo
  clear hrowo hfo hw3 hbo HLN HEN HCH HRR
  obtain ⟨OB, hOB⟩ : ∃ z, o.B = z := ⟨_, rfl⟩
  rw [hOB] at HLO HBO HSP
  clear hOB HOC HLN3
  obtain ⟨okind, oname, otyp, ofrm, oguid, oorigin, osnap, opp, opn, opc, oobj, oat, omany, okp, okn, okc, odp, odl, odc⟩ := o
  unfold Rc.arr at HWO HSP HE1 HC1
  simp only at HWO HY HSP HE1 HC1 HS1 ⊢
  go_upto_region 3 with fail
  first | rw [HWO.out] | skip
  first | rw [HBQ.out] | skip
  clear HWO HBQ
  obtain ⟨y0, y1, y2, y3, y4, y5, y6, y7, y8, y9, y10, y11, y12⟩ := HY.out w3 (Frm.refl _ _)
  go_wp2_with fail
  refine (HC1.out w3 (Frm.refl _ _)).mono ?_
  rintro e w4 ⟨rfl, hf4⟩
  have HF4 := hid hf4
  clear hf4 y0 y1 y2 y3 y4 y5 y6 y7 y8 y9 y10 y11 y12 HC1
  obtain ⟨y0, y1, y2, y3, y4, y5, y6, y7, y8, y9, y10, y11, y12⟩ := HY.out w4 HF4.out
  obtain ⟨q0, q1, q2, q3⟩ := HSC.out w4 (HF3.out.trans HF4.out (by simp))
  go_wp2_with fail
  refine (HE1.out w4 HF4.out).mono ?_
  rintro e w5 ⟨p5, n5, c5, rfl, hrd5, hn5, hlo5, hf5⟩
  have HF5 : Hid (Frm [] w3 w5) := hid (HF4.out.trans hf5 (by simp))
  have HRD5 := hid hrd5
  have HN5 := hid hn5
  have HLO5 : Hid (∀ k ∈ blk p5, w3.heap.size ≤ k ∧ k < w5.heap.size) := hid (fun k hk => by have := hlo5 k hk; have := HF4.out.size; omega)
  clear hrd5 hn5 hlo5 hf5 y0 y1 y2 y3 y4 y5 y6 y7 y8 y9 y10 y11 y12 q0 q1 q2 q3 HE1
  have hrowt := heap_alloc_new w5 (.cells #[.int .u64 t0, .int .u64 t1, .int .u64 t2, .int .u64 t3] 29)
  have hft : Frm [] w5 (w5.alloc (.cells #[.int .u64 t0, .int .u64 t1, .int .u64 t2, .int .u64 t3] 29)) := (Frm.refl _ _).alloc _
  obtain ⟨w6, hw6⟩ : ∃ z, w5.alloc (.cells #[.int .u64 t0, .int .u64 t1, .int .u64 t2, .int .u64 t3] 29) = z := ⟨_, rfl⟩
  obtain ⟨bt, hbt⟩ : ∃ z, w5.heap.size = z := ⟨_, rfl⟩
  rw [hw6, hbt] at hrowt
  rw [hw6] at hft
  have HF6 : Hid (Frm [] w3 w6) := hid (HF5.out.trans hft (by simp))
  have HRD6 := hid (HRD5.out.kept hft (by simp))
  have HRT := hid hrowt
  have HTB : Hid (w3.heap.size ≤ bt) := hid (by have := HF5.out.size; omega)
  have HW6 := hid hw6
  have HBT := hid hbt
  clear hrowt hft hw6 hbt HRD5
  go_upto_region 5 with fail
  first | rw [HW6.out] | skip
  first | rw [HBT.out] | skip
  clear HW6 HBT
  obtain ⟨y0, y1, y2, y3, y4, y5, y6, y7, y8, y9, y10, y11, y12⟩ := HY.out w6 HF6.out
  obtain ⟨x0, x1, x2, x3, x4, x5, x6, x7, x8, x9, x10, x11, x12⟩ := HX.out w6 (HF3.out.trans HF6.out (by simp))
  go_wp2_with fail
  refine (HS1.out w6 HF6.out).mono ?_
  rintro e w7 ⟨rfl, hf7⟩
  have HF67 := hid hf7
  have HF7 : Hid (Frm [] w3 w7) := hid (HF6.out.trans hf7 (by simp))
  clear hf7 y0 y1 y2 y3 y4 y5 y6 y7 y8 y9 y10 y11 y12 x0 x1 x2 x3 x4 x5 x6 x7 x8 x9 x10 x11 x12 HS1
  obtain ⟨y0, y1, y2, y3, y4, y5, y6, y7, y8, y9, y10, y11, y12⟩ := HY.out w7 HF7.out
  go_wp2_with fail
  refine (HSP.out w7 HF7.out).mono ?_
  rintro e w8 ⟨rfl, hf8⟩
  have HF8 : Hid (Frm [] ws w8) := hid ((HF3.out.trans HF7.out (by simp)).trans hf8 (fun i hi hl => by have := HLO.out i hi; omega))
  have HRD8 : Hid (Rd w8 p5 RB) := hid ((HRD6.out.kept HF67.out (by simp)).kept hf8 (fun k hk he => by have h1 := HLO5.out k hk; have h2 := HBO.out k he; omega))
  have HRT8 : Hid (w8.heap[bt]? = some (.cells #[.int .u64 t0, .int .u64 t1, .int .u64 t2, .int .u64 t3] 29 (0, 0))) := hid (hf8.heap (HF67.out.heap HRT.out (by simp)) (fun he => by have h2 := HBO.out bt he; have h3 := HTB.out; omega))
  clear hf8 y0 y1 y2 y3 y4 y5 y6 y7 y8 y9 y10 y11 y12 HSP HY HRD6 HRT HF67
  obtain ⟨x0, x1, x2, x3, x4, x5, x6, x7, x8, x9, x10, x11, x12⟩ := HX.out w8 HF8.out
  go_wp2_with fail
  refine (HCR.out w8 HF8.out).mono ?_
  rintro e w9 ⟨rfl, hf9⟩
  have HF89 := hid hf9
  have HF9 : Hid (Frm [] ws w9) := hid (HF8.out.trans hf9 (by simp))
  clear hf9 x0 x1 x2 x3 x4 x5 x6 x7 x8 x9 x10 x11 x12 HCR
  obtain ⟨x0, x1, x2, x3, x4, x5, x6, x7, x8, x9, x10, x11, x12⟩ := HX.out w9 HF9.out
  obtain ⟨q0, q1, q2, q3⟩ := HSC.out w9 HF9.out
  go_wp2_with fail
  refine (HER.out w9 HF9.out).mono ?_
  rintro e w10 ⟨p6, n6, c6, rfl, hrd6, hn6, _, hf10⟩
  have HF10 : Hid (Frm [] ws w10) := hid (HF9.out.trans hf10 (by simp))
  have HF810 : Hid (Frm [] w8 w10) := hid (HF89.out.trans hf10 (by simp))
  have HRD6 := hid hrd6
  have HN6 := hid hn6
  clear hrd6 hn6 hf10 x0 x1 x2 x3 x4 x5 x6 x7 x8 x9 x10 x11 x12 q0 q1 q2 q3 HER
  have hrowu := heap_alloc_new w10 (.cells #[.int .u64 t0, .int .u64 t1, .int .u64 t2, .int .u64 t3] 29)
  have hfu : Frm [] w10 (w10.alloc (.cells #[.int .u64 t0, .int .u64 t1, .int .u64 t2, .int .u64 t3] 29)) := (Frm.refl _ _).alloc _
  obtain ⟨w11, hw11⟩ : ∃ z, w10.alloc (.cells #[.int .u64 t0, .int .u64 t1, .int .u64 t2, .int .u64 t3] 29) = z := ⟨_, rfl⟩
  obtain ⟨bu, hbu⟩ : ∃ z, w10.heap.size = z := ⟨_, rfl⟩
  rw [hw11, hbu] at hrowu
  rw [hw11] at hfu
  have HF11 : Hid (Frm [] ws w11) := hid (HF10.out.trans hfu (by simp))
  have hrt := (HF810.out.trans hfu (by simp)).heap HRT8.out (by simp)
  have hcv1 := cv_any (P := Tryz.prog) (w := w11) 24 5 9 Tryz.underlying24 Tryz.underlying5 Tryz.underlying9 (n := n5) (HRD8.out.kept (HF810.out.trans hfu (by simp)) (by simp)) c5 HN5.out
  have hcv2 := cv_any (P := Tryz.prog) (w := w11) 24 5 9 Tryz.underlying24 Tryz.underlying5 Tryz.underlying9 (n := n6) (HRD6.out.kept hfu (by simp)) c6 HN6.out
  have z0 : w11.cell? ⟨bt, 0, none⟩ = some (.int .u64 t0) := by rw [cell_of_row _ _ _ _ _ _ hrt]; rfl
  have z1 : w11.cell? ⟨bt, 1, none⟩ = some (.int .u64 t1) := by rw [cell_of_row _ _ _ _ _ _ hrt]; rfl
  have z2 : w11.cell? ⟨bt, 2, none⟩ = some (.int .u64 t2) := by rw [cell_of_row _ _ _ _ _ _ hrt]; rfl
  have z3 : w11.cell? ⟨bt, 3, none⟩ = some (.int .u64 t3) := by rw [cell_of_row _ _ _ _ _ _ hrt]; rfl
  have v0 : w11.cell? ⟨bu, 0, none⟩ = some (.int .u64 t0) := by rw [cell_of_row _ _ _ _ _ _ hrowu]; rfl
  have v1 : w11.cell? ⟨bu, 1, none⟩ = some (.int .u64 t1) := by rw [cell_of_row _ _ _ _ _ _ hrowu]; rfl
  have v2 : w11.cell? ⟨bu, 2, none⟩ = some (.int .u64 t2) := by rw [cell_of_row _ _ _ _ _ _ hrowu]; rfl
  have v3 : w11.cell? ⟨bu, 3, none⟩ = some (.int .u64 t3) := by rw [cell_of_row _ _ _ _ _ _ hrowu]; rfl
  have heq := fun W => eqlS ⟨t0, t1, t2, t3⟩ ⟨t0, t1, t2, t3⟩ W
  simp only [decide_true] at heq
  have HW11 := hid hw11
  have HBU := hid hbu
  clear hrowu hfu hw11 hbu hrt
  go_upto_region 9 with fail
  first | rw [HW11.out] | skip
  first | rw [HBU.out] | skip
  clear HW11 HBU
  go_wp2_with fail
  first | go_returns | skip
  exact HP.out _ (HFS.out.trans HF11.out (by simp))
end
section
open Go.ChangeShapes Go.WideShapes Go.ChangeAt Go.RowKit
set_option maxRecDepth 100000
theorem g_primes : Tryz.prog.globalNamed "undercroft/sum.primes" = some 2 := by kernel_rfl
theorem g_primesType : (Tryz.prog.globals[2]?).map (·.type) = some 130 := by kernel_rfl
theorem cells_u32 : Tryz.prog.cellsOf 123 = 1 := by kernel_rfl
theorem cells_tab : Tryz.prog.cellsOf 130 = 64 := by kernel_rfl
/-- The settled world, the variable holding what its initialiser lays. -/
noncomputable def laidW (os : Os) : World :=
  { World.holding Tryz.prog os ⟨#[], #[], []⟩ with heap := (World.holding Tryz.prog os ⟨#[], #[], []⟩).heap.modify 2 fun
      | .cells _ t frozen => .cells (PR.map fun z => Value.int .u32 z).toArray t frozen
      | o => o }
end
section
open Go.ChangeShapes Go.WideShapes Go.ChangeAt Go.RowKit
set_option maxRecDepth 100000
def UF : List Int := List.replicate 128 240 ++ List.replicate 66 241 ++ List.replicate 30 2 ++ [19] ++ List.replicate 12 3 ++ [35, 3, 3, 52, 4, 4, 4, 68] ++ List.replicate 11 241
def UA : List Int := [128, 191, 160, 191, 128, 159, 144, 191, 128, 143] ++ List.replicate 22 0
end
section
open Go.ChangeShapes Go.WideShapes Go.ChangeAt Go.RowKit
set_option maxRecDepth 100000
def FI : List Int := [1779033703, 3144134277, 1013904242, 2773480762, 1359893119, 2600822924, 528734635, 1541459225]
theorem g_first : Tryz.prog.globalNamed "undercroft/undercroftref02.first" = some 0 := by kernel_rfl
theorem g_firstType : (Tryz.prog.globals[0]?).map (·.type) = some 124 := by kernel_rfl
theorem g_rounds : Tryz.prog.globalNamed "undercroft/undercroftref02.rounds" = some 1 := by kernel_rfl
theorem g_roundsType : (Tryz.prog.globals[1]?).map (·.type) = some 130 := by kernel_rfl
theorem cells_tab8 : Tryz.prog.cellsOf 124 = 8 := by kernel_rfl
theorem keep_one {W : World} {l : List (String × DataW Unit)} (name : String) {d : DataW Unit} (h : laidMet Tryz.prog l W) (hl : l.filter (fun x => x.1 == name) = [(name, d)]) : laidMet Tryz.prog [(name, d)] W := by
  have h2 := h.filter (fun x => x.1 == name)
  rwa [hl] at h2
theorem vars_of_laid {W : World} (h : laidMetH Tryz.prog [("undercroft/sum.primes", Rows.laid_undercroft_sum_primes), ("undercroft/undercroftref02.first", Rows.laid_undercroft_undercroftref02_first), ("undercroft/undercroftref02.rounds", Rows.laid_undercroft_undercroftref02_rounds)] W) : Primes W ∧ Vars W := by
  have h2 : laidMet Tryz.prog [("undercroft/sum.primes", Lib.tabData .u32 PR), ("undercroft/undercroftref02.first", Lib.tabData .u32 FI), ("undercroft/undercroftref02.rounds", Lib.tabData .u32 PR)] W := h
  have hT : Lib.TabIs Tryz.prog W "undercroft/sum.primes" .u32 PR := Lib.tabIs_of_head g_primes g_primesType Tryz.underlying130 Tryz.underlying123 cells_u32 cells_tab h2
  have hF : Lib.TabIs Tryz.prog W "undercroft/undercroftref02.first" .u32 FI := Lib.tabIs_of_head (rest := []) g_first g_firstType Tryz.underlying124 Tryz.underlying123 cells_u32 cells_tab8 (keep_one _ h2 rfl)
  have hR : Lib.TabIs Tryz.prog W "undercroft/undercroftref02.rounds" .u32 PR := Lib.tabIs_of_head (rest := []) g_rounds g_roundsType Tryz.underlying130 Tryz.underlying123 cells_u32 cells_tab (keep_one _ h2 rfl)
  refine ⟨fun t ht => hT.cell g_primes t ht, ⟨fun t ht => hR.cell g_rounds t ht, fun t ht => ?_⟩⟩
  rw [hF.cell g_first t ht]
  have h8 : t = 0 ∨ t = 1 ∨ t = 2 ∨ t = 3 ∨ t = 4 ∨ t = 5 ∨ t = 6 ∨ t = 7 := by omega
  rcases h8 with rfl | rfl | rfl | rfl | rfl | rfl | rfl | rfl <;> rfl
/-- The settled world, the variables holding what their initialisers lay. -/
noncomputable def laidW3 (os : Os) : World :=
  { laidW os with heap := ((laidW os).heap.modify 0 fun
      | .cells _ t frozen => .cells (FI.map fun z => Value.int .u32 z).toArray t frozen
      | o => o).modify 1 fun
      | .cells _ t frozen => .cells (PR.map fun z => Value.int .u32 z).toArray t frozen
      | o => o }
end
section
open Go.ChangeShapes Go.WideShapes Go.ChangeAt Go.RowKit
set_option maxRecDepth 100000
theorem vars_of_laid5 {W : World} (h : laidMetH Tryz.prog [("undercroft/sum.primes", Rows.laid_undercroft_sum_primes), ("undercroft/undercroftref02.first", Rows.laid_undercroft_undercroftref02_first), ("undercroft/undercroftref02.rounds", Rows.laid_undercroft_undercroftref02_rounds), ("unicode/utf8.acceptRanges", Rows.laid_unicode_utf8_acceptRanges), ("unicode/utf8.first", Rows.laid_unicode_utf8_first)] W) : Primes W ∧ Vars W := by
  have h2 := h.filter (fun x => x.1 != "unicode/utf8.acceptRanges" && x.1 != "unicode/utf8.first")
  exact vars_of_laid h2
/-- The settled world, the variables holding what their initialisers lay. -/
noncomputable def laidW5 (os : Os) : World :=
  { laidW3 os with heap := ((laidW3 os).heap.modify 4 fun
      | .cells _ t frozen => .cells (UF.map fun z => Value.int .u8 z).toArray t frozen
      | o => o).modify 5 fun
      | .cells _ t frozen => .cells (UA.map fun z => Value.int .u8 z).toArray t frozen
      | o => o }
theorem laid_met5 (os : Os) (args : Array Value) : laidMet Tryz.prog [("undercroft/sum.primes", Rows.laid_undercroft_sum_primes), ("undercroft/undercroftref02.first", Rows.laid_undercroft_undercroftref02_first), ("undercroft/undercroftref02.rounds", Rows.laid_undercroft_undercroftref02_rounds), ("unicode/utf8.acceptRanges", Rows.laid_unicode_utf8_acceptRanges), ("unicode/utf8.first", Rows.laid_unicode_utf8_first)] ((laidW5 os).forCall (fun _ _ => 0) ⟨#[], args, []⟩).memory :=
  laidMet_of_run' 8 (by kernel_rfl) (by kernel_rfl)
end
section
open Go.RowKit Go.ChangeShapes Go.WideShapes Go.Deep
set_option maxRecDepth 100000
theorem list_eachR {α : Type} (z : α) (P : Nat → α → Prop) : ∀ n, (∀ i, i < n → ∃ a, P i a) → ∃ l : List α, l.length = n ∧ ∀ i, i < n → P i (l.getD i z)
  | 0, _ => ⟨[], rfl, fun i hi => by omega⟩
  | n + 1, h => by
    obtain ⟨l, hl, hp⟩ := list_eachR z P n (fun i hi => h i (by omega))
    obtain ⟨a, ha⟩ := h n (by omega)
    refine ⟨l ++ [a], by simp [hl], fun i hi => ?_⟩
    by_cases hin : i < n
    · have := hp i hin
      rw [List.getD_eq_getElem?_getD, List.getElem?_append_left (by omega), ← List.getD_eq_getElem?_getD]
      exact this
    · obtain rfl : i = n := by omega
      rw [List.getD_eq_getElem?_getD, List.getElem?_append_right (by omega), hl, Nat.sub_self]
      exact ha
end
section
open Go.RowKit Go.Lib
set_option maxRecDepth 100000
/-- A record as it lies in memory, and what its lists hold. -/
structure Rk where
  r : Rc
  P : List Pr
  K : List Int
  D : List Int
def Rk.may (x : Rk) : Prop := RcMay x.r x.P x.K x.D
instance (x : Rk) : Decidable x.may := by unfold Rk.may; infer_instance
end
section
open Go.RowKit Go.ChangeShapes Go.WideShapes Go.Deep
set_option maxRecDepth 100000
section
variable {H : Type} {enc : TypeId × Value → H} {W : World}
theorem keeps_cameX {fuel : Nat} {cs : List Value} {x : DataW H × List MemPlace} (h : DataW.trod enc Tryz.prog W 0 (fun _ => true) true fuel 23 cs = some x) (hw : ∀ n ∈ x.1.weights Tryz.prog 23, n ≤ reachBytes) :
    ∃ p len cap K, cs = [.slice p len cap] ∧ K.length = len ∧ RdI W p K ∧ len ≤ 9223372036854775807 ∧ len * 8 ≤ 140737488351232 ∧ (p = none → cap = 0) := by
  have ht1 : Tryz.prog.cellsOf 3 = 1 := by kernel_rfl
  rcases open_slice Tryz.underlying23 h with ⟨hcs, _⟩ | ⟨a, len, cap, m, n, D, Pl, rfl, hb, hl, hm, hmm, rfl, hx⟩
  · exact ⟨none, 0, 0, [], hcs, rfl, Or.inl rfl, by omega, by omega, fun _ => rfl⟩
  · simp only [if_true] at hmm
    subst hmm
    have hwl := hw _ (by simp only [DataW.weights, Tryz.underlying23, List.mem_cons]; exact Or.inl rfl)
    have hby : Tryz.prog.bytesOf 3 = 8 := by kernel_rfl
    rw [hby] at hwl
    simp only [List.length_map, List.length_range] at hwl
    have hwl2 : len * 8 ≤ 140737488351232 := by
      have h1 : len * 8 ≤ reachBytes := Nat.le_trans (Nat.mul_le_mul_right 8 (by omega)) hwl
      exact Nat.le_trans h1 (by unfold reachBytes; omega)
    have each : ∀ i, i < len → ∃ s, W.cell? (a.add i) = some (.int .i64 s) := by
      intro i hi
      obtain ⟨cs', h1, h2⟩ := hx i (by omega)
      rw [ht1, Nat.mul_one] at h1
      obtain ⟨_, hlen, hcell⟩ := World.cells?_some h1
      obtain ⟨s, e, _, _⟩ := DataW.trod_int Tryz.underlying3 h2
      subst e
      exact ⟨s, by have := hcell 0 (by omega); simpa [Addr.add] using this⟩
    obtain ⟨L, hLl, hLs⟩ := list_eachR (0 : Int) _ len each
    refine ⟨some a, len, _, L, rfl, hLl, ?_, by unfold maxLen at hm; omega, hwl2, (fun h => nomatch h)⟩
    by_cases h0 : len = 0
    · subst h0
      rw [List.eq_nil_of_length_eq_zero hLl]
      exact Or.inl rfl
    · have hs : a.spot = none := by
        have h1 := hLs 0 (by omega)
        exact spot_of_cell (by simpa [Addr.add] using h1)
      refine Or.inr ⟨a.block, a.off, by obtain ⟨g, o, sp⟩ := a; simp only at hs; subst hs; rfl, fun i u hu => ?_⟩
      have hi := (List.getElem?_eq_some_iff.1 hu).1
      rw [List.length_map, hLl] at hi
      have h1 := hLs i hi
      rw [add_of hs] at h1
      rw [h1]
      rw [List.getElem?_map, List.getElem?_eq_getElem (by omega)] at hu
      rw [List.getD_eq_getElem?_getD, List.getElem?_eq_getElem (by omega)]
      exact hu
theorem props_cameX {fuel : Nat} {cs : List Value} {x : DataW H × List MemPlace} (h : DataW.trod enc Tryz.prog W 0 (fun _ => true) true fuel 22 cs = some x) (hw : ∀ n ∈ x.1.weights Tryz.prog 22, n ≤ reachBytes) :
    ∃ p len cap P, cs = [.slice p len cap] ∧ P.length = len ∧ RdP W p P ∧ len ≤ 9223372036854775807 ∧ len * 32 ≤ 140737488351232 ∧ (p = none → cap = 0) ∧ PvOk P := by
  have ht2 : Tryz.prog.cellsOf 70 = 2 := by kernel_rfl
  have hs1 : Tryz.prog.cellsOf 9 = 1 := by kernel_rfl
  rcases open_slice Tryz.underlying22 h with ⟨hcs, _⟩ | ⟨a, len, cap, m, n, D, Pl, rfl, hb, hl, hm, hmm, rfl, hx⟩
  · exact ⟨none, 0, 0, [], hcs, rfl, Or.inl rfl, by omega, by omega, fun _ => rfl, fun i hi => by simp at hi⟩
  · simp only [if_true] at hmm
    subst hmm
    have hwl := hw _ (by simp only [DataW.weights, Tryz.underlying22, List.mem_cons]; exact Or.inl rfl)
    have hby : Tryz.prog.bytesOf 70 = 32 := by kernel_rfl
    rw [hby] at hwl
    simp only [List.length_map, List.length_range] at hwl
    have hwl2 : len * 32 ≤ 140737488351232 := by
      have h1 : len * 32 ≤ reachBytes := Nat.le_trans (Nat.mul_le_mul_right 32 (by omega)) hwl
      exact Nat.le_trans h1 (by unfold reachBytes; omega)
    have each : ∀ i, i < len → ∃ s : Pr, W.cell? (a.add (i * 2)) = some (.string s.1) ∧ W.cell? (a.add (i * 2 + 1)) = some (.string s.2) ∧ s.2.size ≤ 9223372036854775807 := by
      intro i hi
      obtain ⟨cs', h1, h2⟩ := hx i (by omega)
      rw [ht2] at h1
      obtain ⟨_, hlen, hcell⟩ := World.cells?_some h1
      have hwi : ∀ n ∈ (D i).weights Tryz.prog 70, n ≤ reachBytes := by
        intro n hn
        refine hw n ?_
        simp only [DataW.weights, Tryz.underlying22, List.mem_cons, List.mem_append]
        exact Or.inr (Or.inl (mem_all (List.mem_map.2 ⟨i, List.mem_range.2 hi, rfl⟩) hn))
      obtain ⟨xs, n2, _, hxe, _, hxl, hF⟩ := DataW.trod_struct Tryz.underlying70 h2
      match cs', hlen with
      | [c0, c1], _ =>
        have g0 := hF 0 _ rfl
        have g1 := hF 1 _ rfl
        match xs, hxl with
        | [x0, x1], _ =>
          simp [hs1] at g0 g1
          obtain ⟨s0, e0, _⟩ := DataW.trod_string Tryz.underlying9 g0
          obtain ⟨s1, e1, d1, _⟩ := DataW.trod_string Tryz.underlying9 g1
          have hs9 : s1.size ≤ reachBytes := hwi s1.size (by
            rw [(Prod.mk.inj hxe).1]
            simp only [DataW.weights, Tryz.underlying70]
            refine DataW.weights_mem_each (j := 1) (d := .lit (.string s1.data.toList)) rfl (by simp [d1]) _ ?_
            simp only [DataW.weights, List.mem_singleton]
            rfl)
          simp only [List.cons.injEq, and_true] at e0 e1
          subst e0 e1
          refine ⟨(s0, s1), ?_, ?_, by unfold reachBytes at hs9; show s1.size ≤ _; omega⟩
          · have := hcell 0 (by simp); simpa [Addr.add] using this
          · have := hcell 1 (by simp)
            rw [Addr.add_add] at this
            simpa using this
    obtain ⟨L, hLl, hLs⟩ := list_eachR ((⟨#[]⟩, ⟨#[]⟩) : Pr) _ len each
    refine ⟨some a, len, _, L, rfl, hLl, ?_, by unfold maxLen at hm; omega, hwl2, (fun h => nomatch h), fun i hi => by
      have h := (hLs i (by omega)).2.2
      unfold prA
      exact h⟩
    by_cases h0 : len = 0
    · subst h0
      rw [List.eq_nil_of_length_eq_zero hLl]
      exact Or.inl rfl
    · have hs : a.spot = none := by
        have h1 := (hLs 0 (by omega)).1
        exact spot_of_cell (by simpa [Addr.add] using h1)
      refine Or.inr ⟨a.block, a.off, by obtain ⟨g, o, sp⟩ := a; simp only at hs; subst hs; rfl, fun i u hu => ?_⟩
      have hi := (List.getElem?_eq_some_iff.1 hu).1
      rw [hLl] at hi
      obtain ⟨h1, h2, _⟩ := hLs i hi
      rw [add_of hs] at h1 h2
      rw [List.getD_eq_getElem?_getD, hu] at h1 h2
      exact ⟨h1, by rw [Nat.add_assoc]; exact h2⟩
theorem rec_cellsX {fuel : Nat} {cs : List Value} {x : DataW H × List MemPlace} (hf : DataW.trod enc Tryz.prog W 0 (fun _ => true) true fuel 26 cs = some x) (hsz : cs.length = 13) (hw : ∀ n ∈ x.1.weights Tryz.prog 26, n ≤ reachBytes) :
    ∃ y : Rk, cs = y.r.arr.toList ∧ RcOk W y.r y.P y.K y.D ∧ y.r.name.size ≤ 140737488355328 ∧ PvOk y.P ∧ y.r.pn * 32 ≤ 140737488351232 ∧ y.r.kn * 8 ≤ 140737488351232 ∧ y.r.dl ≤ 140737488351232 ∧ (y.r.pp = none → y.r.pc = 0) ∧ (y.r.kp = none → y.r.kc = 0) ∧ (y.r.dp = none → y.r.dc = 0) ∧ y.r.dl ≤ y.r.dc := by
  have hs1 : Tryz.prog.cellsOf 24 = 1 := by kernel_rfl
  have hs2 : Tryz.prog.cellsOf 22 = 1 := by kernel_rfl
  have hs3 : Tryz.prog.cellsOf 23 = 1 := by kernel_rfl
  have hi1 : Tryz.prog.cellsOf 3 = 1 := by kernel_rfl
  have ht1 : Tryz.prog.cellsOf 9 = 1 := by kernel_rfl
  obtain ⟨xs, n, _, hxe, _, hxl, hF⟩ := DataW.trod_struct Tryz.underlying26 hf
  match cs, hsz with
  | [c0, c1, c2, c3, c4, c5, c6, c7, c8, c9, c10, c11, c12], _ =>
    have g0 := hF 0 _ rfl
    have g1 := hF 1 _ rfl
    have g2 := hF 2 _ rfl
    have g3 := hF 3 _ rfl
    have g4 := hF 4 _ rfl
    have g5 := hF 5 _ rfl
    have g6 := hF 6 _ rfl
    have g7 := hF 7 _ rfl
    have g8 := hF 8 _ rfl
    have g9 := hF 9 _ rfl
    have g10 := hF 10 _ rfl
    have g11 := hF 11 _ rfl
    have g12 := hF 12 _ rfl
    match xs, hxl with
    | [x0, x1, x2, x3, x4, x5, x6, x7, x8, x9, x10, x11, x12], _ =>
      simp [hs1, hs2, hs3, hi1, ht1] at g0 g1 g2 g3 g4 g5 g6 g7 g8 g9 g10 g11 g12
      obtain ⟨z0, e0, _, _⟩ := DataW.trod_int Tryz.underlying3 g0
      obtain ⟨z2, e2, _, _⟩ := DataW.trod_int Tryz.underlying3 g2
      obtain ⟨z3, e3, _, _⟩ := DataW.trod_int Tryz.underlying3 g3
      obtain ⟨z4, e4, _, _⟩ := DataW.trod_int Tryz.underlying3 g4
      obtain ⟨z5, e5, _, _⟩ := DataW.trod_int Tryz.underlying3 g5
      obtain ⟨z8, e8, _, _⟩ := DataW.trod_int Tryz.underlying3 g8
      obtain ⟨z9, e9, _, _⟩ := DataW.trod_int Tryz.underlying3 g9
      obtain ⟨z10, e10, _, _⟩ := DataW.trod_int Tryz.underlying3 g10
      obtain ⟨z1, e1, d1, _⟩ := DataW.trod_string Tryz.underlying9 g1
      obtain ⟨z6, e6, _, _⟩ := DataW.trod_string Tryz.underlying9 g6
      obtain ⟨pp, pn, pc, P, e7, hP, hrp, hpn, hp32, hpz, hpv⟩ := props_cameX g7 (fun n hn => hw n (by rw [(Prod.mk.inj hxe).1]; simp only [DataW.weights, Tryz.underlying26]; exact DataW.weights_mem_each (j := 7) rfl (by rfl) n hn))
      obtain ⟨kp, kn, kc, K, e11, hK, hrk, hkn, hk8, hkz⟩ := keeps_cameX g11 (fun n hn => hw n (by rw [(Prod.mk.inj hxe).1]; simp only [DataW.weights, Tryz.underlying26]; exact DataW.weights_mem_each (j := 11) rfl (by rfl) n hn))
      obtain ⟨p, len, cap, e12, ns, hnl, hrd, hnb, hdz, hlc, hld⟩ := came_cells g12
      have hdl2 : len ≤ 140737488351232 := came_len g12 (fun n hn => hw n (by rw [(Prod.mk.inj hxe).1]; simp only [DataW.weights, Tryz.underlying26]; exact DataW.weights_mem_each (j := 12) rfl (by rfl) n hn)) p len cap e12
      have hnm : z1.size ≤ reachBytes := hw z1.size (by
        rw [(Prod.mk.inj hxe).1]
        simp only [DataW.weights, Tryz.underlying26]
        refine DataW.weights_mem_each (j := 1) (d := .lit (.string z1.data.toList)) rfl (by simp [d1]) _ ?_
        simp only [DataW.weights, List.mem_singleton]
        rfl)
      simp only [List.cons.injEq, and_true] at e0 e1 e2 e3 e4 e5 e6 e7 e8 e9 e10 e11 e12
      subst e0 e1 e2 e3 e4 e5 e6 e7 e8 e9 e10 e11 e12
      exact ⟨⟨⟨z0, z1, z2, z3, z4, z5, z6, pp, pn, pc, z8, z9, z10, kp, kn, kc, p, len, cap⟩, P, K, ns⟩, rfl, ⟨hrp, hP, hrk, hK, hrd, hnl, hnb, ⟨hpn, hkn⟩⟩, by unfold reachBytes at hnm; show z1.size ≤ _; omega, hpv, hp32, hk8, hdl2, hpz, hkz, (fun h => hdz (hrd.elim (fun h2 => h2) (fun ⟨_, _, he, _⟩ => by have h3 : p = none := h; rw [h3] at he; cases he)) h), hlc⟩
theorem rec_cameX {b0 : Nat} {v : Value} {d : DataW H} {q : List MemPlace} (hv : Value.okWide Tryz.prog W .any b0 26 v) (h : DataW.Trod enc Tryz.prog W 0 (fun _ => true) true 26 v d q) (hw : ∀ n ∈ d.weights Tryz.prog 26, n ≤ reachBytes) :
    ∃ y : Rk, v = .agg y.r.arr ∧ RcOk W y.r y.P y.K y.D ∧ y.r.name.size ≤ 140737488355328 ∧ PvOk y.P ∧ y.r.pn * 32 ≤ 140737488351232 ∧ y.r.kn * 8 ≤ 140737488351232 ∧ y.r.dl ≤ 140737488351232 ∧ (y.r.pp = none → y.r.pc = 0) ∧ (y.r.kp = none → y.r.kc = 0) ∧ (y.r.dp = none → y.r.dc = 0) ∧ y.r.dl ≤ y.r.dc := by
  obtain ⟨cs, rfl, hsz⟩ := okWide_struct Tryz.underlying26 hv
  have h13 : Tryz.prog.cellsOf 26 = 13 := by kernel_rfl
  rw [h13] at hsz
  obtain ⟨fuel, hf⟩ := h
  obtain ⟨l⟩ := cs
  obtain ⟨y, hy, hr⟩ := rec_cellsX (cs := l) hf hsz hw
  refine ⟨y, ?_, hr⟩
  have : (⟨l⟩ : Array Value) = y.r.arr := Array.ext' hy
  rw [this]
end
end
end Go.Proofs.YtajfjkfnmmfhmaaGreatDoor
