/- Records, the document's side: Encode. -/
import Derived.Deep.Cut
import Derived.Deep.DeepCutAuto
import Derived.Test.YtajfjkfnmmfhmaaGreatDoorQwau
import Derived.Test.YtajfjkfnmmfhmaaGreatDoorQwax
import Derived.Test.YtajfjkfnmmfhmaaGreatDoorQwao
namespace Go.Proofs.YtajfjkfnmmfhmaaGreatDoor
section
open Go.RowKit Go.Lib
set_option maxRecDepth 100000
theorem Own.capz {w : World} {E : TypeId} {p : Option Addr} {n c : Nat} {zs : List Int} (h : Own w E (.slice p n c) zs) (_ : zs = []) (h2 : p = Option.none) : c = 0 := by
  obtain ⟨p', c', he, _, h3, _⟩ := h.shape
  cases he
  exact (h3 h2).2
theorem buf_set {w w1 w2 : World} {q : Option Addr} {n d bz : Nat} {zs : List Int} (h : BufF w Option.none w1 q n d zs) (hf : Frm [bz] w1 w2) (hn : ∀ i ∈ blk q, ¬ i = bz) (hz : w.heap.size ≤ bz) : BufF w Option.none w2 q n d zs :=
  ⟨h.own.kept hf (fun i hi he => by rw [own_blk] at hi; rw [List.mem_singleton] at he; exact hn i hi he), h.len, (h.nil.1.trans hf (fun i hi hl => by rw [List.mem_singleton] at hi; omega)).mono (by simp), h.bk⟩
theorem buf_pre {w w0 w1 : World} {q : Option Addr} {n d : Nat} {zs : List Int} (hf : Frm [] w w0) (h : BufF w0 Option.none w1 q n d zs) : BufF w Option.none w1 q n d zs := BufF.pre hf h
set_option maxHeartbeats 12800000 in
theorem refEncode_bad (r : Rc) (P : List Pr) (K D : List Int) (a : S4) (w : World) (hr : RcOk w r P K D) (hs : r.name.size ≤ 140737488355328) (hv : PvOk P) (hm : ¬ RcMay r P K D) :
    Calls Tryz.prog 14 #[.agg r.arr, .agg a.arr] w fun e w' => e = .returned (.tuple #[.slice none 0 0, .agg S4.z.arr, .int .i64 200]) ∧ Frm [] w w' := by
  have hrow := heap_alloc_new w (.cells r.arr 26)
  have hfa : Frm [] w (w.alloc (.cells r.arr 26)) := (Frm.refl _ _).alloc _
  obtain ⟨wa, hwa⟩ : ∃ z, w.alloc (.cells r.arr 26) = z := ⟨_, rfl⟩
  obtain ⟨ba, hba⟩ : ∃ z, w.heap.size = z := ⟨_, rfl⟩
  rw [hwa, hba] at hrow
  rw [hwa] at hfa
  have hrows := heap_alloc_new wa (.cells a.arr 29)
  have hfs : Frm [] wa (wa.alloc (.cells a.arr 29)) := (Frm.refl _ _).alloc _
  obtain ⟨ws, hws⟩ : ∃ z, wa.alloc (.cells a.arr 29) = z := ⟨_, rfl⟩
  obtain ⟨bs, hbs⟩ : ∃ z, wa.heap.size = z := ⟨_, rfl⟩
  rw [hws, hbs] at hrows
  rw [hws] at hfs
  have hrowr := heap_alloc_new ws (.cells #[.int .u64 0, .int .u64 0, .int .u64 0, .int .u64 0] 29)
  have hfr : Frm [] ws (ws.alloc (.cells #[.int .u64 0, .int .u64 0, .int .u64 0, .int .u64 0] 29)) := (Frm.refl _ _).alloc _
  obtain ⟨wr, hwr⟩ : ∃ z, ws.alloc (.cells #[.int .u64 0, .int .u64 0, .int .u64 0, .int .u64 0] 29) = z := ⟨_, rfl⟩
  obtain ⟨br, hbr⟩ : ∃ z, ws.heap.size = z := ⟨_, rfl⟩
  rw [hwr, hbr] at hrowr
  rw [hwr] at hfr
  have hb1 : ba + 1 = bs := by rw [← hbs, ← hwa, ← hba]; simp
  have hb2 : bs + 1 = br := by rw [← hbr, ← hws, ← hbs]; simp
  have hb3 : ba + 1 + 1 = br := by omega
  have HB1 := hid hb1
  have HB2 := hid hb2
  have HB3 := hid hb3
  have HFR : Hid (Frm [] w wr) := hid ((hfa.trans hfs (by simp)).trans hfr (by simp))
  have HRA : Hid (∀ W, Frm [] wr W → W.heap[ba]? = some (.cells r.arr 26 (0, 0))) := hid (fun W hf => hf.heap (hfr.heap (hfs.heap hrow (by simp)) (by simp)) (by simp))
  have HRS : Hid (∀ W, Frm [] wr W → W.heap[bs]? = some (.cells a.arr 29 (0, 0))) := hid (fun W hf => hf.heap (hfr.heap hrows (by simp)) (by simp))
  have HRB : Hid (∀ W, Frm [] wr W → W.heap[br]? = some (.cells #[.int .u64 0, .int .u64 0, .int .u64 0, .int .u64 0] 29 (0, 0))) := hid (fun W hf => hf.heap hrowr (by simp))
  have HWA := hid hwa
  have HWS := hid hws
  have HWR := hid hwr
  have HBA := hid hba
  have HBS := hid hbs
  have HBR := hid hbr
  have HX := hid (fun V (hf : Frm [] wr V) => rc_cells (HRA.out V hf))
  have HCK := hid (refCheck_any r P K D wr (hr.k0 HFR.out) hs hv)
  have HOK := hid hr
  clear hrow hfa hwa hba hrows hfs hws hbs hrowr hfr hwr hbr hb1 hb2 hb3 hr hs hv
  rw [if_neg hm] at HCK
  clear hm
  have hbld : ∀ V, (Instr.build 29 #[]).run Tryz.prog V = .ok (.agg #[.int .u64 0, .int .u64 0, .int .u64 0, .int .u64 0]) V := fun V => run_build V _ _ _ (by kernel_rfl)
  obtain ⟨kind, name, typ, frm, guid, origin, snap, pp, pn, pc, obj, at_, many, kp, kn, kc, dp, dl, dc⟩ := r
  obtain ⟨s0, s1, s2, s3⟩ := a
  unfold S4.arr at HWS HRS 
  unfold Rc.arr at HWA HRA HCK ⊢
  unfold S4.arr
  simp only at HWA HWS HRA HRS HX HCK ⊢
  obtain ⟨q0, q1, q2, q3, q4, q5, q6, q7, q8, q9, q10, q11, q12⟩ := HX.out wr (Frm.refl _ _)
  go_enter Tryz.func14, Tryz.ntmps14
  go_upto_region 1 with fail
  first | rw [HWA.out] | skip
  first | rw [HBA.out] | skip
  first | rw [HBS.out] | skip
  first | rw [HB1.out] | skip
  first | rw [HWS.out] | skip
  first | rw [HB3.out] | skip
  first | rw [HBR.out] | skip
  first | rw [HB2.out] | skip
  first | rw [HWR.out] | skip
  go_wp2_with fail
  refine HCK.out.mono ?_
  rintro e w1 ⟨rfl, hf1⟩
  have HF1 := hid hf1
  clear hf1 q0 q1 q2 q3 q4 q5 q6 q7 q8 q9 q10 q11 q12 HCK
  have hrz := HRB.out w1 HF1.out
  have y0 := frozen_of_row w1 br 0 _ _ hrz
  have v0 : w1.cell? ⟨br, 0, none⟩ = some (.int .u64 0) := by rw [cell_of_row _ _ _ _ _ _ hrz]; rfl
  have y1 := frozen_of_row w1 br 1 _ _ hrz
  have v1 : w1.cell? ⟨br, 1, none⟩ = some (.int .u64 0) := by rw [cell_of_row _ _ _ _ _ _ hrz]; rfl
  have y2 := frozen_of_row w1 br 2 _ _ hrz
  have v2 : w1.cell? ⟨br, 2, none⟩ = some (.int .u64 0) := by rw [cell_of_row _ _ _ _ _ _ hrz]; rfl
  have y3 := frozen_of_row w1 br 3 _ _ hrz
  have v3 : w1.cell? ⟨br, 3, none⟩ = some (.int .u64 0) := by rw [cell_of_row _ _ _ _ _ _ hrz]; rfl
  go_wp2_with fail
  obtain ⟨h4, f4⟩ := set4 (y0 := .int .u64 0) (y1 := .int .u64 0) (y2 := .int .u64 0) (y3 := .int .u64 0) hrz
  obtain ⟨Wz, hWz⟩ : ∃ z, ((((w1.setCell ⟨br, 0, none⟩ (.int .u64 0)).setCell ⟨br, 1, none⟩ (.int .u64 0)).setCell ⟨br, 2, none⟩ (.int .u64 0)).setCell ⟨br, 3, none⟩ (.int .u64 0)) = z := ⟨_, rfl⟩
  rw [hWz] at h4 f4
  rw [hWz]
  have u0 : Wz.cell? ⟨br, 0, none⟩ = some (.int .u64 0) := by rw [cell_of_row _ _ _ _ _ _ h4]; rfl
  have u1 : Wz.cell? ⟨br, 1, none⟩ = some (.int .u64 0) := by rw [cell_of_row _ _ _ _ _ _ h4]; rfl
  have u2 : Wz.cell? ⟨br, 2, none⟩ = some (.int .u64 0) := by rw [cell_of_row _ _ _ _ _ _ h4]; rfl
  have u3 : Wz.cell? ⟨br, 3, none⟩ = some (.int .u64 0) := by rw [cell_of_row _ _ _ _ _ _ h4]; rfl
  refine bodyPost_ret (v := .tuple #[.slice none 0 0, .agg #[.int .u64 0, .int .u64 0, .int .u64 0, .int .u64 0], .int .i64 200]) (by simp [results, Tryz.results14, go_sem, u0, u1, u2, u3]) rfl ?_
  exact ⟨rfl, (HFR.out.trans HF1.out (by simp)).trans f4 (fun i hi hl => by rw [List.mem_singleton] at hi; have := HB3.out; have := HBA.out; omega)⟩
set_option maxHeartbeats 12800000 in
theorem refEncode_ok (r : Rc) (P : List Pr) (K D : List Int) (a : S4) (w : World) (hr : RcOk w r P K D) (hs : r.name.size ≤ 140737488355328) (hv : PvOk P) (hm : RcMay r P K D) (ha : a.Bd) (hvs : Vars w) :
    Calls Tryz.prog 14 #[.agg r.arr, .agg a.arr] w fun e w' => ∃ q n d, e = .returned (.tuple #[.slice q n d, .agg (selR a r P K D).arr, .int .i64 0]) ∧ n = (recB a r P K D).length ∧ BufF w none w' q n d (recB a r P K D) := by
  obtain ⟨PO, hPO⟩ : ∃ PO : Ending → World → Prop, (fun e w' => ∃ q n d, e = .returned (.tuple #[.slice q n d, .agg (selR a r P K D).arr, .int .i64 0]) ∧ n = (recB a r P K D).length ∧ BufF w none w' q n d (recB a r P K D)) = PO := ⟨_, rfl⟩
  rw [hPO]
  have HP : Hid (∀ q n d w', n = (recB a r P K D).length → BufF w none w' q n d (recB a r P K D) → PO (.returned (.tuple #[.slice q n d, .agg (selR a r P K D).arr, .int .i64 0])) w') := hid (fun q n d w' h1 h2 => by rw [← hPO]; exact ⟨q, n, d, rfl, h1, h2⟩)
  clear hPO
  have hkb := rcMay_kind hm
  have hrow := heap_alloc_new w (.cells r.arr 26)
  have hfa : Frm [] w (w.alloc (.cells r.arr 26)) := (Frm.refl _ _).alloc _
  obtain ⟨wa, hwa⟩ : ∃ z, w.alloc (.cells r.arr 26) = z := ⟨_, rfl⟩
  obtain ⟨ba, hba⟩ : ∃ z, w.heap.size = z := ⟨_, rfl⟩
  rw [hwa, hba] at hrow
  rw [hwa] at hfa
  have hrows := heap_alloc_new wa (.cells a.arr 29)
  have hfs : Frm [] wa (wa.alloc (.cells a.arr 29)) := (Frm.refl _ _).alloc _
  obtain ⟨ws, hws⟩ : ∃ z, wa.alloc (.cells a.arr 29) = z := ⟨_, rfl⟩
  obtain ⟨bs, hbs⟩ : ∃ z, wa.heap.size = z := ⟨_, rfl⟩
  rw [hws, hbs] at hrows
  rw [hws] at hfs
  have hrowr := heap_alloc_new ws (.cells #[.int .u64 0, .int .u64 0, .int .u64 0, .int .u64 0] 29)
  have hfr : Frm [] ws (ws.alloc (.cells #[.int .u64 0, .int .u64 0, .int .u64 0, .int .u64 0] 29)) := (Frm.refl _ _).alloc _
  obtain ⟨wr, hwr⟩ : ∃ z, ws.alloc (.cells #[.int .u64 0, .int .u64 0, .int .u64 0, .int .u64 0] 29) = z := ⟨_, rfl⟩
  obtain ⟨br, hbr⟩ : ∃ z, ws.heap.size = z := ⟨_, rfl⟩
  rw [hwr, hbr] at hrowr
  rw [hwr] at hfr
  have hb1 : ba + 1 = bs := by rw [← hbs, ← hwa, ← hba]; simp
  have hb2 : bs + 1 = br := by rw [← hbr, ← hws, ← hbs]; simp
  have hb3 : ba + 1 + 1 = br := by omega
  have HB1 := hid hb1
  have HB2 := hid hb2
  have HB3 := hid hb3
  have HFR : Hid (Frm [] w wr) := hid ((hfa.trans hfs (by simp)).trans hfr (by simp))
  have HRA : Hid (∀ W, Frm [] wr W → W.heap[ba]? = some (.cells r.arr 26 (0, 0))) := hid (fun W hf => hf.heap (hfr.heap (hfs.heap hrow (by simp)) (by simp)) (by simp))
  have HRS : Hid (∀ W, Frm [] wr W → W.heap[bs]? = some (.cells a.arr 29 (0, 0))) := hid (fun W hf => hf.heap (hfr.heap hrows (by simp)) (by simp))
  have HRB : Hid (∀ W, Frm [] wr W → W.heap[br]? = some (.cells #[.int .u64 0, .int .u64 0, .int .u64 0, .int .u64 0] 29 (0, 0))) := hid (fun W hf => hf.heap hrowr (by simp))
  have HWA := hid hwa
  have HWS := hid hws
  have HWR := hid hwr
  have HBA := hid hba
  have HBS := hid hbs
  have HBR := hid hbr
  have HX := hid (fun V (hf : Frm [] wr V) => rc_cells (HRA.out V hf))
  have HCK := hid (refCheck_any r P K D wr (hr.k0 HFR.out) hs hv)
  have HVS := hid (fun V (hf : Frm [] wr V) => hvs.kept (HFR.out.trans hf (by simp)))
  have HBO := hid (fun V (hf : Frm [] wr V) => refBody_any r P K D V (hr.k0 (HFR.out.trans hf (by simp))) hm)
  obtain ⟨BODY, hBODY⟩ : ∃ z, bodyR r P K D = z := ⟨_, rfl⟩
  have hbd : ∀ z ∈ BODY, 0 ≤ z ∧ z < 256 := by rw [← hBODY]; exact bodyR_bd r P K D hr.db
  have hbl : BODY.length ≤ 2000 := by rw [← hBODY]; exact bodyR_len hm hr.pl hr.kl hr.dn
  have HBD := hid hbd
  have hb0 : recB a r P K D = recL a r.kind BODY := by unfold recB; rw [hBODY]
  have hb9 : selR a r P K D = sealR a (hbL r.kind BODY) := by unfold selR; rw [hBODY]
  rw [hBODY] at HBO
  rw [hb0, hb9] at HP
  have HSE := hid (fun V (hf : Frm [] wr V) p n c hn hpc hnb hrd => refSealed_any r.kind (by omega) (by omega) p n c BODY a ha V hn hpc hnb hrd hbd (HVS.out V hf))
  unfold SldP at HSE
  have HWB : Hid (br < wr.heap.size) := hid (lt_of_heap (HRB.out wr (Frm.refl _ _)))
  obtain ⟨nb, hnb⟩ : ∃ z, BODY.length = z := ⟨_, rfl⟩
  have hrl : (recL a r.kind BODY).length = 37 + nb := by rw [recL_len, hnb]
  rw [hrl] at HP
  obtain ⟨RB, hRB⟩ : ∃ z, recL a r.kind BODY = z := ⟨_, rfl⟩
  obtain ⟨T, hT⟩ : ∃ z, sealR a (hbL r.kind BODY) = z := ⟨_, rfl⟩
  rw [hRB, hT] at HP HSE
  rw [hnb] at HSE hbl
  rw [hRB] at hrl
  have HRL := hid hrl
  have HNB := hid hnb
  obtain ⟨t0, t1, t2, t3⟩ := T
  have hkb1 := hkb.1
  have hkb2 := hkb.2
  clear hbd hb0 hb9 ha hvs hBODY hnb hrl hRB hT hkb
  clear hrow hfa hwa hba hrows hfs hws hbs hrowr hfr hwr hbr hb1 hb2 hb3 hr hs hv
  rw [if_pos hm] at HCK
  clear hm
  obtain ⟨kind, name, typ, frm, guid, origin, snap, pp, pn, pc, obj, at_, many, kp, kn, kc, dp, dl, dc⟩ := r
  obtain ⟨s0, s1, s2, s3⟩ := a
  unfold S4.arr at HWS HRS HP HSE
  unfold Rc.arr at HWA HRA HCK HBO ⊢
  unfold S4.arr
  simp only at HWA HWS HRA HRS HX HCK HP HSE HBO hkb1 hkb2 ⊢
  obtain ⟨q0, q1, q2, q3, q4, q5, q6, q7, q8, q9, q10, q11, q12⟩ := HX.out wr (Frm.refl _ _)
  go_enter Tryz.func14, Tryz.ntmps14
  go_upto_region 1 with fail
  first | rw [HWA.out] | skip
  first | rw [HBA.out] | skip
  first | rw [HBS.out] | skip
  first | rw [HB1.out] | skip
  first | rw [HWS.out] | skip
  first | rw [HB3.out] | skip
  first | rw [HBR.out] | skip
  first | rw [HB2.out] | skip
  first | rw [HWR.out] | skip
  go_wp2_with fail
  refine HCK.out.mono ?_
  rintro e w1 ⟨rfl, hf1⟩
  have HF1 := hid hf1
  clear hf1 q0 q1 q2 q3 q4 q5 q6 q7 q8 q9 q10 q11 q12 HCK
  have HSX : Hid (∀ W, Frm [] wr W → (W.cell? ⟨ba, 0, none⟩ = some (.int .i64 kind) ∧ W.cell? ⟨ba, 1, none⟩ = some (.string name) ∧ W.cell? ⟨ba, 2, none⟩ = some (.int .i64 typ) ∧ W.cell? ⟨ba, 3, none⟩ = some (.int .i64 frm) ∧ W.cell? ⟨ba, 4, none⟩ = some (.int .i64 guid) ∧ W.cell? ⟨ba, 5, none⟩ = some (.int .i64 origin) ∧ W.cell? ⟨ba, 6, none⟩ = some (.string snap) ∧ W.cell? ⟨ba, 7, none⟩ = some (.slice pp pn pc) ∧ W.cell? ⟨ba, 8, none⟩ = some (.int .i64 obj) ∧ W.cell? ⟨ba, 9, none⟩ = some (.int .i64 at_) ∧ W.cell? ⟨ba, 10, none⟩ = some (.int .i64 many) ∧ W.cell? ⟨ba, 11, none⟩ = some (.slice kp kn kc) ∧ W.cell? ⟨ba, 12, none⟩ = some (.slice dp dl dc)) ∧ W.cell? ⟨bs, 0, none⟩ = some (.int .u64 s0) ∧ W.cell? ⟨bs, 1, none⟩ = some (.int .u64 s1) ∧ W.cell? ⟨bs, 2, none⟩ = some (.int .u64 s2) ∧ W.cell? ⟨bs, 3, none⟩ = some (.int .u64 s3)) := hid (fun V hf => ⟨HX.out V hf, by
    have h := HRS.out V hf
    refine ⟨?_, ?_, ?_, ?_⟩ <;> (rw [cell_of_row _ _ _ _ _ _ h]; rfl)⟩)
  go_upto_region 4 with fail
  go_cut [8, 9] from 16 to 24 (fun bv ov wx => ∃ (q : Option Addr) (d bz : Nat), bv = .slice q (37 + nb) d ∧ ov = .pointer (some ⟨bz, 0, none⟩) ∧ wx.heap[bz]? = some (.cells #[.int .u64 t0, .int .u64 t1, .int .u64 t2, .int .u64 t3] 29 (0, 0)) ∧ Hid (BufF wr none wx q (37 + nb) d RB) ∧ wr.heap.size ≤ bz)
  case first =>
    refine wp_region_tail (S := fun W => ((W.cell? ⟨ba, 0, none⟩ = some (.int .i64 kind) ∧ W.cell? ⟨ba, 1, none⟩ = some (.string name) ∧ W.cell? ⟨ba, 2, none⟩ = some (.int .i64 typ) ∧ W.cell? ⟨ba, 3, none⟩ = some (.int .i64 frm) ∧ W.cell? ⟨ba, 4, none⟩ = some (.int .i64 guid) ∧ W.cell? ⟨ba, 5, none⟩ = some (.int .i64 origin) ∧ W.cell? ⟨ba, 6, none⟩ = some (.string snap) ∧ W.cell? ⟨ba, 7, none⟩ = some (.slice pp pn pc) ∧ W.cell? ⟨ba, 8, none⟩ = some (.int .i64 obj) ∧ W.cell? ⟨ba, 9, none⟩ = some (.int .i64 at_) ∧ W.cell? ⟨ba, 10, none⟩ = some (.int .i64 many) ∧ W.cell? ⟨ba, 11, none⟩ = some (.slice kp kn kc) ∧ W.cell? ⟨ba, 12, none⟩ = some (.slice dp dl dc)) ∧ W.cell? ⟨bs, 0, none⟩ = some (.int .u64 s0) ∧ W.cell? ⟨bs, 1, none⟩ = some (.int .u64 s1) ∧ W.cell? ⟨bs, 2, none⟩ = some (.int .u64 s2) ∧ W.cell? ⟨bs, 3, none⟩ = some (.int .u64 s3))) 11 12 rfl (by kernel_rfl) (by kernel_rfl) ?_
    obtain ⟨wd, hwd⟩ : ∃ z, w1.drew = z := ⟨_, rfl⟩
    rw [hwd]
    have HFW1 : Hid (Frm [] wr wd) := hid (by rw [← hwd]; exact HF1.out.drew)
    clear hwd
    refine htk (i := 0) (v := ?_) (by kernel_rfl) rfl (fun _ _ _ h => h) (Or.inl ⟨by rfl, ?_⟩) (HSX.out _ HFW1.out) ?_
    rotate_left 1
    · (intro W hSw; obtain ⟨⟨k0, k1, k2, k3, k4, k5, k6, k7, k8, k9, k10, k11, k12⟩, j0, j1, j2, j3⟩ := hSw; (try simp only [lA, lZ]); go_simp; try with_reducible rfl)
    try simp only [lA, lZ, Act.put, lI, lW, lX]
    refine htk (i := 1) (v := ?_) (by kernel_rfl) rfl (fun _ _ _ h => h) (Or.inl ⟨by rfl, ?_⟩) (HSX.out _ HFW1.out) ?_
    rotate_left 1
    · (intro W hSw; obtain ⟨⟨k0, k1, k2, k3, k4, k5, k6, k7, k8, k9, k10, k11, k12⟩, j0, j1, j2, j3⟩ := hSw; (try simp only [lA, lS, lZ]); go_simp; try with_reducible rfl)
    try simp only [lA, lS, lZ, Act.put, lI, lW, lX]
    refine htk (i := 2) (v := ?_) (by kernel_rfl) rfl (fun _ _ _ h => h) (Or.inl ⟨by rfl, ?_⟩) (HSX.out _ HFW1.out) ?_
    rotate_left 1
    · (intro W hSw; obtain ⟨⟨k0, k1, k2, k3, k4, k5, k6, k7, k8, k9, k10, k11, k12⟩, j0, j1, j2, j3⟩ := hSw; (try simp only [lA, lS, lZ]); go_simp; try with_reducible rfl)
    try simp only [lA, lS, lZ, Act.put, lI, lW, lX]
    refine htk (i := 4) (v := ?_) (by kernel_rfl) rfl (fun _ _ _ h => h) (Or.inl ⟨by rfl, ?_⟩) (HSX.out _ HFW1.out) ?_
    rotate_left 1
    · (intro W hSw; obtain ⟨⟨k0, k1, k2, k3, k4, k5, k6, k7, k8, k9, k10, k11, k12⟩, j0, j1, j2, j3⟩ := hSw; (try simp only [lA, lS, lZ]); go_simp; try with_reducible rfl)
    try simp only [lA, lS, lZ, Act.put, lI, lW, lX]
    refine wpAnyHT_two (i := 3) (j := 9) rfl rfl (by kernel_rfl) (by kernel_rfl) (by kernel_rfl) (fun K hK => ?_) (fun K hK => ?_)
    · try simp only [lA, lS, lZ]
      go_simp
      refine (HBO.out _ HFW1.out).mono ?_
      rintro e w3 ⟨p3, n3, c3, rfl, hb3⟩
      have HB3 := hid hb3
      have HF3 : Hid (Frm [] wr w3) := hid (HFW1.out.trans hb3.nil.1 (by simp))
      have hn3 : n3 = nb := by rw [← hb3.len, HNB.out]
      subst hn3
      clear hb3
      refine hK _ _ (HSX.out _ HF3.out) ?_
      clear hK K
      try simp only [lA, lS, lZ, Act.put, lI, lW, lX]
      refine wpAnyHT_two (i := 5) (j := 9) rfl rfl (by kernel_rfl) (by kernel_rfl) (by kernel_rfl) (fun K hK => ?_) (fun K hK => ?_)
      · try simp only [lA, lS, lZ]
        go_simp
        refine (HSE.out _ HF3.out p3 n3 c3 rfl (fun h1 h2 => HB3.out.own.capz h1 h2) (by omega) HB3.out.own.rd).mono ?_
        rintro e w5 ⟨q5, d5, rfl, hb5⟩
        have HB5 := hid hb5
        have HF5 : Hid (Frm [] wr w5) := hid (HF3.out.trans hb5.nil.1 (by simp))
        clear hb5
        refine hK _ _ (HSX.out _ HF5.out) ?_
        clear hK K
        try simp only [lA, lS, lZ, Act.put, lI, lW, lX]
        refine htk (i := 6) (v := ?_) (by kernel_rfl) rfl (fun _ _ _ h => h) (Or.inl ⟨by rfl, ?_⟩) (HSX.out _ HF5.out) ?_
        rotate_left 1
        · (intro W hSw; obtain ⟨⟨k0, k1, k2, k3, k4, k5, k6, k7, k8, k9, k10, k11, k12⟩, j0, j1, j2, j3⟩ := hSw; (try simp only [lA, lS, lZ]); go_simp; try with_reducible rfl)
        try simp only [lA, lS, lZ, Act.put, lI, lW, lX]
        refine htk (i := 7) (v := ?_) (by kernel_rfl) rfl (fun _ _ _ h => h) (Or.inl ⟨by rfl, ?_⟩) (HSX.out _ HF5.out) ?_
        rotate_left 1
        · (intro W hSw; obtain ⟨⟨k0, k1, k2, k3, k4, k5, k6, k7, k8, k9, k10, k11, k12⟩, j0, j1, j2, j3⟩ := hSw; (try simp only [lA, lS, lZ]); go_simp; try with_reducible rfl)
        try simp only [lA, lS, lZ, Act.put, lI, lW, lX]
        refine htk (i := 8) (v := ?_) (by kernel_rfl) rfl (fun _ _ _ h => h) (Or.inl ⟨by rfl, ?_⟩) (HSX.out _ HF5.out) ?_
        rotate_left 1
        · (intro W hSw; obtain ⟨⟨k0, k1, k2, k3, k4, k5, k6, k7, k8, k9, k10, k11, k12⟩, j0, j1, j2, j3⟩ := hSw; (try simp only [lA, lS, lZ]); go_simp; try with_reducible rfl)
        try simp only [lA, lS, lZ, Act.put, lI, lW, lX]
        refine wpAnyHT_one (i := 9) rfl (by kernel_rfl) (by kernel_rfl) (fun K hK => ?_)
        try simp only [lA, lS, lZ]
        go_simp
        have hnew := heap_alloc_new (w5) (.cells #[.int .u64 0, .int .u64 0, .int .u64 0, .int .u64 0] 29)
        have hfn : Frm [] (w5) ((w5).alloc (.cells #[.int .u64 0, .int .u64 0, .int .u64 0, .int .u64 0] 29)) := (Frm.refl _ _).alloc _
        obtain ⟨wz, hwn⟩ : ∃ z, (w5).alloc (.cells #[.int .u64 0, .int .u64 0, .int .u64 0, .int .u64 0] 29) = z := ⟨_, rfl⟩
        obtain ⟨bz, hbz⟩ : ∃ z, (w5).heap.size = z := ⟨_, rfl⟩
        rw [hwn, hbz] at hnew
        rw [hwn] at hfn
        have HNW := hid hnew
        have HFN := hid hfn
        have HZB : Hid ((w5).heap.size = bz) := hid hbz
        try rw [hwn]
        try rw [hbz]
        clear hnew hfn hwn hbz
        have HF9 : Hid (Frm [] wr wz) := hid (HF5.out.trans HFN.out (by simp))
        refine hK _ _ (HSX.out _ HF9.out) ?_
        clear hK K
        try simp only [lA, lS, lZ, Act.put, lI, lW, lX]
        refine htk (i := 10) (v := ?_) (by kernel_rfl) rfl (fun _ _ _ h => h) (Or.inl ⟨by rfl, ?_⟩) (HSX.out _ HF9.out) ?_
        rotate_left 1
        · (intro W hSw; obtain ⟨⟨k0, k1, k2, k3, k4, k5, k6, k7, k8, k9, k10, k11, k12⟩, j0, j1, j2, j3⟩ := hSw; (try simp only [lA, lS, lZ]); go_simp; try with_reducible rfl)
        try simp only [lA, lS, lZ, Act.put, lI, lW, lX]
        have HBF : Hid (BufF wr none wz q5 (37 + n3) d5 RB) := hid ((buf_pre HF3.out HB5.out).post HFN.out)
        have HZN : Hid (∀ i ∈ blk q5, ¬ i = bz) := hid (fun i hi he => by have h1 := HB5.out.own.lows i hi; have h2 := HZB.out; omega)
        have HZL : Hid (wr.heap.size ≤ bz) := hid (by have h1 := HF5.out.size; have h2 := HZB.out; omega)
        refine wpAnyHT_end (by kernel_rfl) ?_
        simp only [List.drop_succ_cons, List.drop_zero]
        have hrow9 := HNW.out
        obtain ⟨h4, f4⟩ := set4 (y0 := .int .u64 t0) (y1 := .int .u64 t1) (y2 := .int .u64 t2) (y3 := .int .u64 t3) hrow9
        have y0 := frozen_of_row wz bz 0 _ _ hrow9
        have v0 : (wz).cell? ⟨bz, 0, none⟩ = some (.int .u64 0) := by rw [cell_of_row _ _ _ _ _ _ hrow9]; rfl
        have y1 := frozen_of_row wz bz 1 _ _ hrow9
        have v1 : (wz).cell? ⟨bz, 1, none⟩ = some (.int .u64 0) := by rw [cell_of_row _ _ _ _ _ _ hrow9]; rfl
        have y2 := frozen_of_row wz bz 2 _ _ hrow9
        have v2 : (wz).cell? ⟨bz, 2, none⟩ = some (.int .u64 0) := by rw [cell_of_row _ _ _ _ _ _ hrow9]; rfl
        have y3 := frozen_of_row wz bz 3 _ _ hrow9
        have v3 : (wz).cell? ⟨bz, 3, none⟩ = some (.int .u64 0) := by rw [cell_of_row _ _ _ _ _ _ hrow9]; rfl
        have H4 := hid h4
        have F4 := hid f4
        clear h4 f4 hrow9
        go_wp2_with fail
        go_meet
        case rel => exact ⟨q5, d5, bz, rfl, rfl, H4.out, hid (buf_set HBF.out F4.out HZN.out HZL.out), HZL.out⟩
      · try simp only [lA, lS, lZ]
        go_simp
        have hnew := heap_alloc_new (w3) (.cells #[.int .u64 0, .int .u64 0, .int .u64 0, .int .u64 0] 29)
        have hfn : Frm [] (w3) ((w3).alloc (.cells #[.int .u64 0, .int .u64 0, .int .u64 0, .int .u64 0] 29)) := (Frm.refl _ _).alloc _
        obtain ⟨wz, hwn⟩ : ∃ z, (w3).alloc (.cells #[.int .u64 0, .int .u64 0, .int .u64 0, .int .u64 0] 29) = z := ⟨_, rfl⟩
        obtain ⟨bz, hbz⟩ : ∃ z, (w3).heap.size = z := ⟨_, rfl⟩
        rw [hwn, hbz] at hnew
        rw [hwn] at hfn
        have HNW := hid hnew
        have HFN := hid hfn
        have HZB : Hid ((w3).heap.size = bz) := hid hbz
        try rw [hwn]
        try rw [hbz]
        clear hnew hfn hwn hbz
        have HF9 : Hid (Frm [] wr wz) := hid (HF3.out.trans HFN.out (by simp))
        have HOW := hid (HB3.out.own.kept HFN.out (by simp))
        refine hK _ _ (HSX.out _ HF9.out) ?_
        clear hK K
        try simp only [lA, lS, lZ, Act.put, lI, lW, lX]
        refine wpAnyHT_one (i := 5) rfl (by kernel_rfl) (by kernel_rfl) (fun K hK => ?_)
        try simp only [lA, lS, lZ]
        go_simp
        refine (HSE.out _ HF9.out p3 n3 c3 rfl (fun h1 h2 => HOW.out.capz h1 h2) (by omega) HOW.out.rd).mono ?_
        rintro e w5 ⟨q5, d5, rfl, hb5⟩
        have HB5 := hid hb5
        have HF5 : Hid (Frm [] wr w5) := hid (HF9.out.trans hb5.nil.1 (by simp))
        clear hb5
        refine hK _ _ (HSX.out _ HF5.out) ?_
        clear hK K
        try simp only [lA, lS, lZ, Act.put, lI, lW, lX]
        refine htk (i := 6) (v := ?_) (by kernel_rfl) rfl (fun _ _ _ h => h) (Or.inl ⟨by rfl, ?_⟩) (HSX.out _ HF5.out) ?_
        rotate_left 1
        · (intro W hSw; obtain ⟨⟨k0, k1, k2, k3, k4, k5, k6, k7, k8, k9, k10, k11, k12⟩, j0, j1, j2, j3⟩ := hSw; (try simp only [lA, lS, lZ]); go_simp; try with_reducible rfl)
        try simp only [lA, lS, lZ, Act.put, lI, lW, lX]
        refine htk (i := 7) (v := ?_) (by kernel_rfl) rfl (fun _ _ _ h => h) (Or.inl ⟨by rfl, ?_⟩) (HSX.out _ HF5.out) ?_
        rotate_left 1
        · (intro W hSw; obtain ⟨⟨k0, k1, k2, k3, k4, k5, k6, k7, k8, k9, k10, k11, k12⟩, j0, j1, j2, j3⟩ := hSw; (try simp only [lA, lS, lZ]); go_simp; try with_reducible rfl)
        try simp only [lA, lS, lZ, Act.put, lI, lW, lX]
        refine htk (i := 8) (v := ?_) (by kernel_rfl) rfl (fun _ _ _ h => h) (Or.inl ⟨by rfl, ?_⟩) (HSX.out _ HF5.out) ?_
        rotate_left 1
        · (intro W hSw; obtain ⟨⟨k0, k1, k2, k3, k4, k5, k6, k7, k8, k9, k10, k11, k12⟩, j0, j1, j2, j3⟩ := hSw; (try simp only [lA, lS, lZ]); go_simp; try with_reducible rfl)
        try simp only [lA, lS, lZ, Act.put, lI, lW, lX]
        refine htk (i := 10) (v := ?_) (by kernel_rfl) rfl (fun _ _ _ h => h) (Or.inl ⟨by rfl, ?_⟩) (HSX.out _ HF5.out) ?_
        rotate_left 1
        · (intro W hSw; obtain ⟨⟨k0, k1, k2, k3, k4, k5, k6, k7, k8, k9, k10, k11, k12⟩, j0, j1, j2, j3⟩ := hSw; (try simp only [lA, lS, lZ]); go_simp; try with_reducible rfl)
        try simp only [lA, lS, lZ, Act.put, lI, lW, lX]
        have HBF : Hid (BufF wr none w5 q5 (37 + n3) d5 RB) := hid (buf_pre HF9.out HB5.out)
        have HZN : Hid (∀ i ∈ blk q5, ¬ i = bz) := hid (fun i hi he => by have h1 := HB5.out.nil.2 i hi; have h2 := lt_of_heap HNW.out; omega)
        have HZL : Hid (wr.heap.size ≤ bz) := hid (by have h1 := HF3.out.size; have h2 := HZB.out; omega)
        refine wpAnyHT_end (by kernel_rfl) ?_
        simp only [List.drop_succ_cons, List.drop_zero]
        have hrow9 := (HB5.out.nil.1.heap HNW.out (by simp))
        obtain ⟨h4, f4⟩ := set4 (y0 := .int .u64 t0) (y1 := .int .u64 t1) (y2 := .int .u64 t2) (y3 := .int .u64 t3) hrow9
        have y0 := frozen_of_row w5 bz 0 _ _ hrow9
        have v0 : (w5).cell? ⟨bz, 0, none⟩ = some (.int .u64 0) := by rw [cell_of_row _ _ _ _ _ _ hrow9]; rfl
        have y1 := frozen_of_row w5 bz 1 _ _ hrow9
        have v1 : (w5).cell? ⟨bz, 1, none⟩ = some (.int .u64 0) := by rw [cell_of_row _ _ _ _ _ _ hrow9]; rfl
        have y2 := frozen_of_row w5 bz 2 _ _ hrow9
        have v2 : (w5).cell? ⟨bz, 2, none⟩ = some (.int .u64 0) := by rw [cell_of_row _ _ _ _ _ _ hrow9]; rfl
        have y3 := frozen_of_row w5 bz 3 _ _ hrow9
        have v3 : (w5).cell? ⟨bz, 3, none⟩ = some (.int .u64 0) := by rw [cell_of_row _ _ _ _ _ _ hrow9]; rfl
        have H4 := hid h4
        have F4 := hid f4
        clear h4 f4 hrow9
        go_wp2_with fail
        go_meet
        case rel => exact ⟨q5, d5, bz, rfl, rfl, H4.out, hid (buf_set HBF.out F4.out HZN.out HZL.out), HZL.out⟩
    · try simp only [lA, lS, lZ]
      go_simp
      have hnew := heap_alloc_new (wd) (.cells #[.int .u64 0, .int .u64 0, .int .u64 0, .int .u64 0] 29)
      have hfn : Frm [] (wd) ((wd).alloc (.cells #[.int .u64 0, .int .u64 0, .int .u64 0, .int .u64 0] 29)) := (Frm.refl _ _).alloc _
      obtain ⟨wz, hwn⟩ : ∃ z, (wd).alloc (.cells #[.int .u64 0, .int .u64 0, .int .u64 0, .int .u64 0] 29) = z := ⟨_, rfl⟩
      obtain ⟨bz, hbz⟩ : ∃ z, (wd).heap.size = z := ⟨_, rfl⟩
      rw [hwn, hbz] at hnew
      rw [hwn] at hfn
      have HNW := hid hnew
      have HFN := hid hfn
      have HZB : Hid ((wd).heap.size = bz) := hid hbz
      try rw [hwn]
      try rw [hbz]
      clear hnew hfn hwn hbz
      have HF9 : Hid (Frm [] wr wz) := hid (HFW1.out.trans HFN.out (by simp))
      refine hK _ _ (HSX.out _ HF9.out) ?_
      clear hK K
      try simp only [lA, lS, lZ, Act.put, lI, lW, lX]
      refine wpAnyHT_one (i := 3) rfl (by kernel_rfl) (by kernel_rfl) (fun K hK => ?_)
      try simp only [lA, lS, lZ]
      go_simp
      refine (HBO.out _ HF9.out).mono ?_
      rintro e w3 ⟨p3, n3, c3, rfl, hb3⟩
      have HB3 := hid hb3
      have HF3 : Hid (Frm [] wr w3) := hid (HF9.out.trans hb3.nil.1 (by simp))
      have hn3 : n3 = nb := by rw [← hb3.len, HNB.out]
      subst hn3
      clear hb3
      refine hK _ _ (HSX.out _ HF3.out) ?_
      clear hK K
      try simp only [lA, lS, lZ, Act.put, lI, lW, lX]
      refine wpAnyHT_one (i := 5) rfl (by kernel_rfl) (by kernel_rfl) (fun K hK => ?_)
      try simp only [lA, lS, lZ]
      go_simp
      refine (HSE.out _ HF3.out p3 n3 c3 rfl (fun h1 h2 => HB3.out.own.capz h1 h2) (by omega) HB3.out.own.rd).mono ?_
      rintro e w5 ⟨q5, d5, rfl, hb5⟩
      have HB5 := hid hb5
      have HF5 : Hid (Frm [] wr w5) := hid (HF3.out.trans hb5.nil.1 (by simp))
      clear hb5
      refine hK _ _ (HSX.out _ HF5.out) ?_
      clear hK K
      try simp only [lA, lS, lZ, Act.put, lI, lW, lX]
      refine htk (i := 6) (v := ?_) (by kernel_rfl) rfl (fun _ _ _ h => h) (Or.inl ⟨by rfl, ?_⟩) (HSX.out _ HF5.out) ?_
      rotate_left 1
      · (intro W hSw; obtain ⟨⟨k0, k1, k2, k3, k4, k5, k6, k7, k8, k9, k10, k11, k12⟩, j0, j1, j2, j3⟩ := hSw; (try simp only [lA, lS, lZ]); go_simp; try with_reducible rfl)
      try simp only [lA, lS, lZ, Act.put, lI, lW, lX]
      refine htk (i := 7) (v := ?_) (by kernel_rfl) rfl (fun _ _ _ h => h) (Or.inl ⟨by rfl, ?_⟩) (HSX.out _ HF5.out) ?_
      rotate_left 1
      · (intro W hSw; obtain ⟨⟨k0, k1, k2, k3, k4, k5, k6, k7, k8, k9, k10, k11, k12⟩, j0, j1, j2, j3⟩ := hSw; (try simp only [lA, lS, lZ]); go_simp; try with_reducible rfl)
      try simp only [lA, lS, lZ, Act.put, lI, lW, lX]
      refine htk (i := 8) (v := ?_) (by kernel_rfl) rfl (fun _ _ _ h => h) (Or.inl ⟨by rfl, ?_⟩) (HSX.out _ HF5.out) ?_
      rotate_left 1
      · (intro W hSw; obtain ⟨⟨k0, k1, k2, k3, k4, k5, k6, k7, k8, k9, k10, k11, k12⟩, j0, j1, j2, j3⟩ := hSw; (try simp only [lA, lS, lZ]); go_simp; try with_reducible rfl)
      try simp only [lA, lS, lZ, Act.put, lI, lW, lX]
      refine htk (i := 10) (v := ?_) (by kernel_rfl) rfl (fun _ _ _ h => h) (Or.inl ⟨by rfl, ?_⟩) (HSX.out _ HF5.out) ?_
      rotate_left 1
      · (intro W hSw; obtain ⟨⟨k0, k1, k2, k3, k4, k5, k6, k7, k8, k9, k10, k11, k12⟩, j0, j1, j2, j3⟩ := hSw; (try simp only [lA, lS, lZ]); go_simp; try with_reducible rfl)
      try simp only [lA, lS, lZ, Act.put, lI, lW, lX]
      have HBF : Hid (BufF wr none w5 q5 (37 + n3) d5 RB) := hid (buf_pre HF3.out HB5.out)
      have HZN : Hid (∀ i ∈ blk q5, ¬ i = bz) := hid (fun i hi he => by have h1 := HB5.out.nil.2 i hi; have h2 := lt_of_heap HNW.out; have h3 := HB3.out.nil.1.size; omega)
      have HZL : Hid (wr.heap.size ≤ bz) := hid (by have h1 := HFW1.out.size; have h2 := HZB.out; omega)
      refine wpAnyHT_end (by kernel_rfl) ?_
      simp only [List.drop_succ_cons, List.drop_zero]
      have hrow9 := (HB5.out.nil.1.heap (HB3.out.nil.1.heap HNW.out (by simp)) (by simp))
      obtain ⟨h4, f4⟩ := set4 (y0 := .int .u64 t0) (y1 := .int .u64 t1) (y2 := .int .u64 t2) (y3 := .int .u64 t3) hrow9
      have y0 := frozen_of_row w5 bz 0 _ _ hrow9
      have v0 : (w5).cell? ⟨bz, 0, none⟩ = some (.int .u64 0) := by rw [cell_of_row _ _ _ _ _ _ hrow9]; rfl
      have y1 := frozen_of_row w5 bz 1 _ _ hrow9
      have v1 : (w5).cell? ⟨bz, 1, none⟩ = some (.int .u64 0) := by rw [cell_of_row _ _ _ _ _ _ hrow9]; rfl
      have y2 := frozen_of_row w5 bz 2 _ _ hrow9
      have v2 : (w5).cell? ⟨bz, 2, none⟩ = some (.int .u64 0) := by rw [cell_of_row _ _ _ _ _ _ hrow9]; rfl
      have y3 := frozen_of_row w5 bz 3 _ _ hrow9
      have v3 : (w5).cell? ⟨bz, 3, none⟩ = some (.int .u64 0) := by rw [cell_of_row _ _ _ _ _ _ hrow9]; rfl
      have H4 := hid h4
      have F4 := hid f4
      clear h4 f4 hrow9
      go_wp2_with fail
      go_meet
      case rel => exact ⟨q5, d5, bz, rfl, rfl, H4.out, hid (buf_set HBF.out F4.out HZN.out HZL.out), HZL.out⟩
  obtain ⟨q, d, bz, rfl, rfl, hrz, hbuf, hzl⟩ := hcut
  have HBUF := hid hbuf.out
  have HZL := hid hzl
  have HRZ := hid hrz
  have HZ5 : Hid ((wc.drew.cell? ⟨bz, 0, none⟩ = some (.int .u64 t0) ∧ wc.drew.cell? ⟨bz, 1, none⟩ = some (.int .u64 t1) ∧ wc.drew.cell? ⟨bz, 2, none⟩ = some (.int .u64 t2) ∧ wc.drew.cell? ⟨bz, 3, none⟩ = some (.int .u64 t3))) := hid (by
    have h := ((Frm.refl [] wc).drew).heap HRZ.out (by simp)
    refine ⟨?_, ?_, ?_, ?_⟩ <;> (rw [cell_of_row _ _ _ _ _ _ h]; rfl))
  clear hbuf hzl hrz
  go_upto_region 5 with fail
  refine wp_region_tail (S := fun W => (W.cell? ⟨bz, 0, none⟩ = some (.int .u64 t0) ∧ W.cell? ⟨bz, 1, none⟩ = some (.int .u64 t1) ∧ W.cell? ⟨bz, 2, none⟩ = some (.int .u64 t2) ∧ W.cell? ⟨bz, 3, none⟩ = some (.int .u64 t3))) 3 5 rfl (by kernel_rfl) (by kernel_rfl) ?_
  refine htk (i := 0) (v := ?_) (by kernel_rfl) rfl (fun _ _ _ h => h) (Or.inl ⟨by rfl, ?_⟩) HZ5.out ?_
  rotate_left 1
  · (intro W hSw; obtain ⟨j0, j1, j2, j3⟩ := hSw; (try simp only [lA, lZ]); go_simp; try with_reducible rfl)
  try simp only [lA, lZ, Act.put, lI, lW, lX]
  refine htk (i := 1) (v := ?_) (by kernel_rfl) rfl (fun _ _ _ h => h) (Or.inl ⟨by rfl, ?_⟩) HZ5.out ?_
  rotate_left 1
  · (intro W hSw; obtain ⟨j0, j1, j2, j3⟩ := hSw; (try simp only [lA, lS, lZ]); go_simp; try with_reducible rfl)
  try simp only [lA, lS, lZ, Act.put, lI, lW, lX]
  refine htk (i := 2) (v := ?_) (by kernel_rfl) rfl (fun _ _ _ h => h) (Or.inl ⟨by rfl, ?_⟩) HZ5.out ?_
  rotate_left 1
  · (intro W hSw; obtain ⟨j0, j1, j2, j3⟩ := hSw; (try simp only [lA, lS, lZ]); go_simp; try with_reducible rfl)
  try simp only [lA, lS, lZ, Act.put, lI, lW, lX]
  refine wpAnyHT_end (by kernel_rfl) ?_
  simp only [List.drop_succ_cons, List.drop_zero]
  obtain ⟨wd, hwd⟩ : ∃ z, wc.drew = z := ⟨_, rfl⟩
  have HFD : Hid (Frm [] wc wd) := hid (by rw [← hwd]; exact (Frm.refl [] wc).drew)
  rw [hwd]
  have HBD2 := hid (HBUF.out.post HFD.out)
  have hrz := HRB.out wd HBD2.out.nil.1
  have y0 := frozen_of_row wd br 0 _ _ hrz
  have v0 : wd.cell? ⟨br, 0, none⟩ = some (.int .u64 0) := by rw [cell_of_row _ _ _ _ _ _ hrz]; rfl
  have y1 := frozen_of_row wd br 1 _ _ hrz
  have v1 : wd.cell? ⟨br, 1, none⟩ = some (.int .u64 0) := by rw [cell_of_row _ _ _ _ _ _ hrz]; rfl
  have y2 := frozen_of_row wd br 2 _ _ hrz
  have v2 : wd.cell? ⟨br, 2, none⟩ = some (.int .u64 0) := by rw [cell_of_row _ _ _ _ _ _ hrz]; rfl
  have y3 := frozen_of_row wd br 3 _ _ hrz
  have v3 : wd.cell? ⟨br, 3, none⟩ = some (.int .u64 0) := by rw [cell_of_row _ _ _ _ _ _ hrz]; rfl
  clear hwd
  go_wp2_with fail
  obtain ⟨h4, f4⟩ := set4 (y0 := .int .u64 t0) (y1 := .int .u64 t1) (y2 := .int .u64 t2) (y3 := .int .u64 t3) hrz
  obtain ⟨Wz, hWz⟩ : ∃ z, ((((wd.setCell ⟨br, 0, none⟩ (.int .u64 t0)).setCell ⟨br, 1, none⟩ (.int .u64 t1)).setCell ⟨br, 2, none⟩ (.int .u64 t2)).setCell ⟨br, 3, none⟩ (.int .u64 t3)) = z := ⟨_, rfl⟩
  rw [hWz] at h4 f4
  rw [hWz]
  have u0 : Wz.cell? ⟨br, 0, none⟩ = some (.int .u64 t0) := by rw [cell_of_row _ _ _ _ _ _ h4]; rfl
  have u1 : Wz.cell? ⟨br, 1, none⟩ = some (.int .u64 t1) := by rw [cell_of_row _ _ _ _ _ _ h4]; rfl
  have u2 : Wz.cell? ⟨br, 2, none⟩ = some (.int .u64 t2) := by rw [cell_of_row _ _ _ _ _ _ h4]; rfl
  have u3 : Wz.cell? ⟨br, 3, none⟩ = some (.int .u64 t3) := by rw [cell_of_row _ _ _ _ _ _ h4]; rfl
  refine bodyPost_ret (v := .tuple #[.slice q (37 + nb) d, .agg #[.int .u64 t0, .int .u64 t1, .int .u64 t2, .int .u64 t3], .int .i64 0]) (by simp [results, Tryz.results14, go_sem, u0, u1, u2, u3]) rfl ?_
  refine HP.out _ _ _ _ rfl ⟨HBD2.out.own.kept f4 (fun i hi he => ?_), HBD2.out.len, ?_, ?_⟩
  · rw [own_blk] at hi
    rw [List.mem_singleton] at he
    have h1 := HBD2.out.nil.2 i hi
    have h2 := HWB.out
    omega
  · have h1 : Frm [] w wd := HFR.out.trans HBD2.out.nil.1 (by simp)
    exact (h1.trans f4 (fun i hi hl => by rw [List.mem_singleton] at hi; have := HB3.out; have := HBA.out; omega)).mono (by simp)
  · intro i hi
    have h1 := HBD2.out.nil.2 i hi
    have h2 := HFR.out.size
    right; omega
end
end Go.Proofs.YtajfjkfnmmfhmaaGreatDoor
