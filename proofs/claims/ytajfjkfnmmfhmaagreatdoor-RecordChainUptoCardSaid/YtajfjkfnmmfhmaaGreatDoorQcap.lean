/- Records, the document's side: Encode. -/
import Derived.Deep.Cut
import Derived.Deep.DeepCutAuto
import Derived.Test.YtajfjkfnmmfhmaaGreatDoorQcan
import Derived.Test.YtajfjkfnmmfhmaaGreatDoorQcao
import Derived.Test.YtajfjkfnmmfhmaaGreatDoorQcad
import Derived.Laws.EntriesVeiled
import Derived.Test.YtajfjkfnmmfhmaaGreatDoorQcah
import Derived.Test.YtajfjkfnmmfhmaaGreatDoorQcam
import Derived.BigQuiet
import Derived.Test.YtajfjkfnmmfhmaaGreatDoorQcae
import Derived.Test.YtajfjkfnmmfhmaaGreatDoorQcag
import Derived.Test.YtajfjkfnmmfhmaaGreatDoorQcak
namespace Go.Proofs.YtajfjkfnmmfhmaaGreatDoor
set_option maxRecDepth 100000
set_option maxHeartbeats 25600000
section
open Go.RowKit Go.Lib
theorem Own.capz {w : World} {E : TypeId} {p : Option Addr} {n c : Nat} {zs : List Int} (h : Own w E (.slice p n c) zs) (_ : zs = []) (h2 : p = Option.none) : c = 0 := by
 obtain ⟨p', c', he, _, h3, _⟩ := h.shape
 cases he
 exact (h3 h2).2
theorem buf_set {w w1 w2 : World} {q : Option Addr} {n d bz : Nat} {zs : List Int} (h : BufF w Option.none w1 q n d zs) (hf : Frm [bz] w1 w2) (hn : ∀ i ∈ blk q, ¬ i = bz) (hz : w.heap.size ≤ bz) : BufF w Option.none w2 q n d zs :=
 ⟨h.own.kept hf (fun i hi he => by rw [own_blk] at hi; rw [List.mem_singleton] at he; exact hn i hi he), h.len, (h.nil.1.trans hf (fun i hi hl => by rw [List.mem_singleton] at hi; omega)).mono (by simp), h.bk⟩
theorem buf_pre {w w0 w1 : World} {q : Option Addr} {n d : Nat} {zs : List Int} (hf : Frm [] w w0) (h : BufF w0 Option.none w1 q n d zs) : BufF w Option.none w1 q n d zs := BufF.pre hf h
theorem refEncode_bad (r : Rc) (P : List Pr) (K D : List Int) (a : S4) (w : World) (hr : RcOk w r P K D) (hs : r.name.size ≤ 140737488355328) (hv : PvOk P) (hm : ¬ RcMay r P K D) :
  Calls Tryz.prog 14 #[.agg r.arr, .agg a.arr] w fun e w' => e = .returned (.tuple #[.slice none 0 0, .agg S4.z.arr, .int .i64 200]) ∧ Frm [] w w' := by
 have hrow := heap_alloc_new w (.cells r.arr 26)
 have hfa : Frm [] w (w.alloc (.cells r.arr 26)) := (Frm.refl _ _).alloc _
 obtain ⟨wa, hwa⟩ := eX (w.alloc (.cells r.arr 26))
 obtain ⟨ba, hba⟩ := eX (w.heap.size)
 rw [hwa, hba] at hrow
 rw [hwa] at hfa
 have hrows := heap_alloc_new wa (.cells a.arr 29)
 have hfs : Frm [] wa (wa.alloc (.cells a.arr 29)) := (Frm.refl _ _).alloc _
 obtain ⟨ws, hws⟩ := eX (wa.alloc (.cells a.arr 29))
 obtain ⟨bs, hbs⟩ := eX (wa.heap.size)
 rw [hws, hbs] at hrows
 rw [hws] at hfs
 have hrowr := heap_alloc_new ws (.cells #[.int .u64 0, .int .u64 0, .int .u64 0, .int .u64 0] 29)
 have hfr : Frm [] ws (ws.alloc (.cells #[.int .u64 0, .int .u64 0, .int .u64 0, .int .u64 0] 29)) := (Frm.refl _ _).alloc _
 obtain ⟨wr, hwr⟩ := eX (ws.alloc (.cells #[.int .u64 0, .int .u64 0, .int .u64 0, .int .u64 0] 29))
 obtain ⟨br, hbr⟩ := eX (ws.heap.size)
 rw [hwr, hbr] at hrowr
 rw [hwr] at hfr
 have hb1 : ba + 1 = bs := by rw [← hbs, ← hwa, ← hba]; simp
 have hb2 : bs + 1 = br := by rw [← hbr, ← hws, ← hbs]; simp
 have hb3 : ba + 1 + 1 = br := by omega
 have HB1 := hid hb1
 have HB2 := hid hb2
 have HB3 := hid hb3
 have HFR : Hid (Frm [] w wr) := hid ((hfa.trans hfs (by simp)).trans hfr (by simp))
 have HRA : Hid (∀ W, Frm [] wr W → W.heap[ba]? = some (.cells r.arr 26 (0, 0))) := hid (fun W hf => hf.heap (hfr.heap (hfs.heap hrow (by simp)) (by simp)) (by simp))
 have HRS : Hid (∀ W, Frm [] wr W → W.heap[bs]? = some (.cells a.arr 29 (0, 0))) := hid (fun W hf => hf.heap (hfr.heap hrows (by simp)) (by simp))
 have HRB : Hid (∀ W, Frm [] wr W → W.heap[br]? = some (.cells #[.int .u64 0, .int .u64 0, .int .u64 0, .int .u64 0] 29 (0, 0))) := hid (fun W hf => hf.heap hrowr (by simp))
 have HWA := hid hwa
 have HWS := hid hws
 have HWR := hid hwr
 have HBA := hid hba
 have HBS := hid hbs
 have HBR := hid hbr
 have HX := hid (fun V (hf : Frm [] wr V) => rc_cells (HRA.out V hf))
 have HCK := hid (refCheck_any r P K D wr (hr.k0 HFR.out) hs hv)
 have HOK := hid hr
 clear hrow hfa hwa hba hrows hfs hws hbs hrowr hfr hwr hbr hb1 hb2 hb3 hr hs hv
 rw [if_neg hm] at HCK
 clear hm
 have hbld : ∀ V, (Instr.build 29 #[]).run Tryz.prog V = .ok (.agg #[.int .u64 0, .int .u64 0, .int .u64 0, .int .u64 0]) V := fun V => run_build V _ _ _ (by kernel_rfl)
 obtain ⟨kind, name, typ, frm, guid, origin, snap, pp, pn, pc, obj, at_, many, kp, kn, kc, dp, dl, dc⟩ := r
 obtain ⟨s0, s1, s2, s3⟩ := a
 unfold S4.arr at HWS HRS 
 unfold Rc.arr at HWA HRA HCK ⊢
 unfold S4.arr
 simp only at HWA HWS HRA HRS HX HCK ⊢
 obtain ⟨q0, q1, q2, q3, q4, q5, q6, q7, q8, q9, q10, q11, q12⟩ := HX.out wr (Frm.refl _ _)
 go_enter Tryz.func14, Tryz.ntmps14
 go_upto_region 1 with fail
 try rw [HWA.out]
 try rw [HBA.out]
 try rw [HBS.out]
 try rw [HB1.out]
 try rw [HWS.out]
 try rw [HB3.out]
 try rw [HBR.out]
 try rw [HB2.out]
 try rw [HWR.out]
 go_wp2_with fail
 refine HCK.out.mono ?_
 rintro e w1 ⟨rfl, hf1⟩
 have HF1 := hid hf1
 clear hf1 q0 q1 q2 q3 q4 q5 q6 q7 q8 q9 q10 q11 q12 HCK
 have hrz := HRB.out w1 HF1.out
 have y0 := fZ 0 hrz
 have v0 := cR 0 (.int .u64 0) hrz
 have y1 := fZ 1 hrz
 have v1 := cR 1 (.int .u64 0) hrz
 have y2 := fZ 2 hrz
 have v2 := cR 2 (.int .u64 0) hrz
 have y3 := fZ 3 hrz
 have v3 := cR 3 (.int .u64 0) hrz
 go_wp2_with fail
 obtain ⟨h4, f4⟩ := set4 (y0 := .int .u64 0) (y1 := .int .u64 0) (y2 := .int .u64 0) (y3 := .int .u64 0) hrz
 obtain ⟨Wz, hWz⟩ := eX (((((w1.setCell ⟨br, 0, none⟩ (.int .u64 0)).setCell ⟨br, 1, none⟩ (.int .u64 0)).setCell ⟨br, 2, none⟩ (.int .u64 0)).setCell ⟨br, 3, none⟩ (.int .u64 0)))
 rw [hWz] at h4 f4
 rw [hWz]
 have u0 := cR 0 (.int .u64 0) h4
 have u1 := cR 1 (.int .u64 0) h4
 have u2 := cR 2 (.int .u64 0) h4
 have u3 := cR 3 (.int .u64 0) h4
 refine bodyPost_ret (v := .tuple #[.slice none 0 0, .agg #[.int .u64 0, .int .u64 0, .int .u64 0, .int .u64 0], .int .i64 200]) (by simp [results, Tryz.results14, go_sem, u0, u1, u2, u3]) rfl ?_
 exact ⟨rfl, (HFR.out.trans HF1.out (by simp)).trans f4 (fun i hi hl => by rw [List.mem_singleton] at hi; have := HB3.out; have := HBA.out; omega)⟩
theorem refEncode_ok (r : Rc) (P : List Pr) (K D : List Int) (a : S4) (w : World) (hr : RcOk w r P K D) (hs : r.name.size ≤ 140737488355328) (hv : PvOk P) (hm : RcMay r P K D) (ha : a.Bd) (hvs : Vars w) :
  Calls Tryz.prog 14 #[.agg r.arr, .agg a.arr] w fun e w' => ∃ q n d, e = .returned (.tuple #[.slice q n d, .agg (selR a r P K D).arr, .int .i64 0]) ∧ n = (recB a r P K D).length ∧ BufF w none w' q n d (recB a r P K D) := by
 obtain ⟨PO, hPO⟩ : ∃ PO : Ending → World → Prop, (fun e w' => ∃ q n d, e = .returned (.tuple #[.slice q n d, .agg (selR a r P K D).arr, .int .i64 0]) ∧ n = (recB a r P K D).length ∧ BufF w none w' q n d (recB a r P K D)) = PO := ⟨_, rfl⟩
 rw [hPO]
 have HP : Hid (∀ q n d w', n = (recB a r P K D).length → BufF w none w' q n d (recB a r P K D) → PO (.returned (.tuple #[.slice q n d, .agg (selR a r P K D).arr, .int .i64 0])) w') := hid (fun q n d w' h1 h2 => by rw [← hPO]; exact ⟨q, n, d, rfl, h1, h2⟩)
 clear hPO
 have hkb := rcMay_kind hm
 have hrow := heap_alloc_new w (.cells r.arr 26)
 have hfa : Frm [] w (w.alloc (.cells r.arr 26)) := (Frm.refl _ _).alloc _
 obtain ⟨wa, hwa⟩ := eX (w.alloc (.cells r.arr 26))
 obtain ⟨ba, hba⟩ := eX (w.heap.size)
 rw [hwa, hba] at hrow
 rw [hwa] at hfa
 have hrows := heap_alloc_new wa (.cells a.arr 29)
 have hfs : Frm [] wa (wa.alloc (.cells a.arr 29)) := (Frm.refl _ _).alloc _
 obtain ⟨ws, hws⟩ := eX (wa.alloc (.cells a.arr 29))
 obtain ⟨bs, hbs⟩ := eX (wa.heap.size)
 rw [hws, hbs] at hrows
 rw [hws] at hfs
 have hrowr := heap_alloc_new ws (.cells #[.int .u64 0, .int .u64 0, .int .u64 0, .int .u64 0] 29)
 have hfr : Frm [] ws (ws.alloc (.cells #[.int .u64 0, .int .u64 0, .int .u64 0, .int .u64 0] 29)) := (Frm.refl _ _).alloc _
 obtain ⟨wr, hwr⟩ := eX (ws.alloc (.cells #[.int .u64 0, .int .u64 0, .int .u64 0, .int .u64 0] 29))
 obtain ⟨br, hbr⟩ := eX (ws.heap.size)
 rw [hwr, hbr] at hrowr
 rw [hwr] at hfr
 have hb1 : ba + 1 = bs := by rw [← hbs, ← hwa, ← hba]; simp
 have hb2 : bs + 1 = br := by rw [← hbr, ← hws, ← hbs]; simp
 have hb3 : ba + 1 + 1 = br := by omega
 have HB1 := hid hb1
 have HB2 := hid hb2
 have HB3 := hid hb3
 have HFR : Hid (Frm [] w wr) := hid ((hfa.trans hfs (by simp)).trans hfr (by simp))
 have HRA : Hid (∀ W, Frm [] wr W → W.heap[ba]? = some (.cells r.arr 26 (0, 0))) := hid (fun W hf => hf.heap (hfr.heap (hfs.heap hrow (by simp)) (by simp)) (by simp))
 have HRS : Hid (∀ W, Frm [] wr W → W.heap[bs]? = some (.cells a.arr 29 (0, 0))) := hid (fun W hf => hf.heap (hfr.heap hrows (by simp)) (by simp))
 have HRB : Hid (∀ W, Frm [] wr W → W.heap[br]? = some (.cells #[.int .u64 0, .int .u64 0, .int .u64 0, .int .u64 0] 29 (0, 0))) := hid (fun W hf => hf.heap hrowr (by simp))
 have HWA := hid hwa
 have HWS := hid hws
 have HWR := hid hwr
 have HBA := hid hba
 have HBS := hid hbs
 have HBR := hid hbr
 have HX := hid (fun V (hf : Frm [] wr V) => rc_cells (HRA.out V hf))
 have HCK := hid (refCheck_any r P K D wr (hr.k0 HFR.out) hs hv)
 have HVS := hid (fun V (hf : Frm [] wr V) => hvs.kept (HFR.out.trans hf (by simp)))
 have HBO := hid (fun V (hf : Frm [] wr V) => refBody_any r P K D V (hr.k0 (HFR.out.trans hf (by simp))) hm)
 obtain ⟨BODY, hBODY⟩ := eX (bodyR r P K D)
 have hbd : ∀ z ∈ BODY, 0 ≤ z ∧ z < 256 := by rw [← hBODY]; exact bodyR_bd r P K D hr.db
 have hbl : BODY.length ≤ 2000 := by rw [← hBODY]; exact bodyR_len hm hr.pl hr.kl hr.dn
 have HBD := hid hbd
 have hb0 : recB a r P K D = recL a r.kind BODY := by unfold recB; rw [hBODY]
 have hb9 : selR a r P K D = sealR a (hbL r.kind BODY) := by unfold selR; rw [hBODY]
 rw [hBODY] at HBO
 rw [hb0, hb9] at HP
 have HSE := hid (fun V (hf : Frm [] wr V) p n c hn hpc hnb hrd => refSealed_any r.kind (by omega) (by omega) p n c BODY a ha V hn hpc hnb hrd hbd (HVS.out V hf))
 unfold SldP at HSE
 have HWB : Hid (br < wr.heap.size) := hid (lt_of_heap (HRB.out wr (Frm.refl _ _)))
 obtain ⟨nb, hnb⟩ := eX (BODY.length)
 have hrl : (recL a r.kind BODY).length = 37 + nb := by rw [recL_len, hnb]
 rw [hrl] at HP
 obtain ⟨RB, hRB⟩ := eX (recL a r.kind BODY)
 obtain ⟨T, hT⟩ := eX (sealR a (hbL r.kind BODY))
 rw [hRB, hT] at HP HSE
 rw [hnb] at HSE hbl
 rw [hRB] at hrl
 have HRL := hid hrl
 have HNB := hid hnb
 obtain ⟨t0, t1, t2, t3⟩ := T
 have hkb1 := hkb.1
 have hkb2 := hkb.2
 clear hbd hb0 hb9 ha hvs hBODY hnb hrl hRB hT hkb
 clear hrow hfa hwa hba hrows hfs hws hbs hrowr hfr hwr hbr hb1 hb2 hb3 hr hs hv
 rw [if_pos hm] at HCK
 clear hm
 obtain ⟨kind, name, typ, frm, guid, origin, snap, pp, pn, pc, obj, at_, many, kp, kn, kc, dp, dl, dc⟩ := r
 obtain ⟨s0, s1, s2, s3⟩ := a
 unfold S4.arr at HWS HRS HP HSE
 unfold Rc.arr at HWA HRA HCK HBO ⊢
 unfold S4.arr
 simp only at HWA HWS HRA HRS HX HCK HP HSE HBO hkb1 hkb2 ⊢
 obtain ⟨q0, q1, q2, q3, q4, q5, q6, q7, q8, q9, q10, q11, q12⟩ := HX.out wr (Frm.refl _ _)
 go_enter Tryz.func14, Tryz.ntmps14
 go_upto_region 1 with fail
 try rw [HWA.out]
 try rw [HBA.out]
 try rw [HBS.out]
 try rw [HB1.out]
 try rw [HWS.out]
 try rw [HB3.out]
 try rw [HBR.out]
 try rw [HB2.out]
 try rw [HWR.out]
 go_wp2_with fail
 refine HCK.out.mono ?_
 rintro e w1 ⟨rfl, hf1⟩
 have HF1 := hid hf1
 clear hf1 q0 q1 q2 q3 q4 q5 q6 q7 q8 q9 q10 q11 q12 HCK
 have HSX : Hid (∀ W, Frm [] wr W → (W.cell? ⟨ba, 0, none⟩ = some (.int .i64 kind) ∧ W.cell? ⟨ba, 1, none⟩ = some (.string name) ∧ W.cell? ⟨ba, 2, none⟩ = some (.int .i64 typ) ∧ W.cell? ⟨ba, 3, none⟩ = some (.int .i64 frm) ∧ W.cell? ⟨ba, 4, none⟩ = some (.int .i64 guid) ∧ W.cell? ⟨ba, 5, none⟩ = some (.int .i64 origin) ∧ W.cell? ⟨ba, 6, none⟩ = some (.string snap) ∧ W.cell? ⟨ba, 7, none⟩ = some (.slice pp pn pc) ∧ W.cell? ⟨ba, 8, none⟩ = some (.int .i64 obj) ∧ W.cell? ⟨ba, 9, none⟩ = some (.int .i64 at_) ∧ W.cell? ⟨ba, 10, none⟩ = some (.int .i64 many) ∧ W.cell? ⟨ba, 11, none⟩ = some (.slice kp kn kc) ∧ W.cell? ⟨ba, 12, none⟩ = some (.slice dp dl dc)) ∧ W.cell? ⟨bs, 0, none⟩ = some (.int .u64 s0) ∧ W.cell? ⟨bs, 1, none⟩ = some (.int .u64 s1) ∧ W.cell? ⟨bs, 2, none⟩ = some (.int .u64 s2) ∧ W.cell? ⟨bs, 3, none⟩ = some (.int .u64 s3)) := hid (fun V hf => ⟨HX.out V hf, by
  have h := HRS.out V hf
  refine ⟨?_, ?_, ?_, ?_⟩ <;> (rw [cell_of_row _ _ _ _ _ _ h]; rfl)⟩)
 go_upto_region 4 with fail
 go_cut [8, 9] from 16 to 24 (fun bv ov wx => ∃ (q : Option Addr) (d bz : Nat), bv = .slice q (37 + nb) d ∧ ov = .pointer (some ⟨bz, 0, none⟩) ∧ wx.heap[bz]? = some (.cells #[.int .u64 t0, .int .u64 t1, .int .u64 t2, .int .u64 t3] 29 (0, 0)) ∧ Hid (BufF wr none wx q (37 + nb) d RB) ∧ wr.heap.size ≤ bz)
 case first =>
  refine wp_region_tail (S := fun W => ((W.cell? ⟨ba, 0, none⟩ = some (.int .i64 kind) ∧ W.cell? ⟨ba, 1, none⟩ = some (.string name) ∧ W.cell? ⟨ba, 2, none⟩ = some (.int .i64 typ) ∧ W.cell? ⟨ba, 3, none⟩ = some (.int .i64 frm) ∧ W.cell? ⟨ba, 4, none⟩ = some (.int .i64 guid) ∧ W.cell? ⟨ba, 5, none⟩ = some (.int .i64 origin) ∧ W.cell? ⟨ba, 6, none⟩ = some (.string snap) ∧ W.cell? ⟨ba, 7, none⟩ = some (.slice pp pn pc) ∧ W.cell? ⟨ba, 8, none⟩ = some (.int .i64 obj) ∧ W.cell? ⟨ba, 9, none⟩ = some (.int .i64 at_) ∧ W.cell? ⟨ba, 10, none⟩ = some (.int .i64 many) ∧ W.cell? ⟨ba, 11, none⟩ = some (.slice kp kn kc) ∧ W.cell? ⟨ba, 12, none⟩ = some (.slice dp dl dc)) ∧ W.cell? ⟨bs, 0, none⟩ = some (.int .u64 s0) ∧ W.cell? ⟨bs, 1, none⟩ = some (.int .u64 s1) ∧ W.cell? ⟨bs, 2, none⟩ = some (.int .u64 s2) ∧ W.cell? ⟨bs, 3, none⟩ = some (.int .u64 s3))) 11 12 rfl (by kernel_rfl) (by kernel_rfl) ?_
  obtain ⟨wd, hwd⟩ := eX (w1.drew)
  rw [hwd]
  have HFW1 : Hid (Frm [] wr wd) := hid (by rw [← hwd]; exact HF1.out.drew)
  clear hwd
  refine hI (i := 0) (v := ?_) rfl ?_ (HSX.out _ HFW1.out) ?_
  rotate_left 1
  ·rintro W ⟨⟨k0, k1, k2, k3, k4, k5, k6, k7, k8, k9, k10, k11, k12⟩, j0, j1, j2, j3⟩; (try simp only [lA, lZ]); go_simp; try with_reducible rfl
  try simp only [lA, lZ, Act.put, lI, lW, lX]
  refine hI (i := 1) (v := ?_) rfl ?_ (HSX.out _ HFW1.out) ?_
  rotate_left 1
  ·rintro W ⟨⟨k0, k1, k2, k3, k4, k5, k6, k7, k8, k9, k10, k11, k12⟩, j0, j1, j2, j3⟩; (try simp only [lA, lS, lZ]); go_simp; try with_reducible rfl
  try simp only [lA, lS, lZ, Act.put, lI, lW, lX]
  refine hI (i := 2) (v := ?_) rfl ?_ (HSX.out _ HFW1.out) ?_
  rotate_left 1
  ·rintro W ⟨⟨k0, k1, k2, k3, k4, k5, k6, k7, k8, k9, k10, k11, k12⟩, j0, j1, j2, j3⟩; (try simp only [lA, lS, lZ]); go_simp; try with_reducible rfl
  try simp only [lA, lS, lZ, Act.put, lI, lW, lX]
  refine hI (i := 4) (v := ?_) rfl ?_ (HSX.out _ HFW1.out) ?_
  rotate_left 1
  ·rintro W ⟨⟨k0, k1, k2, k3, k4, k5, k6, k7, k8, k9, k10, k11, k12⟩, j0, j1, j2, j3⟩; (try simp only [lA, lS, lZ]); go_simp; try with_reducible rfl
  try simp only [lA, lS, lZ, Act.put, lI, lW, lX]
  refine wpAnyHT_two (i := 3) (j := 9) rfl rfl (by kernel_rfl) (by kernel_rfl) (by kernel_rfl) (fun K hK => ?_) (fun K hK => ?_)
  ·try simp only [lA, lS, lZ]
   go_simp
   refine (HBO.out _ HFW1.out).mono ?_
   rintro e w3 ⟨p3, n3, c3, rfl, hb3⟩
   have HB3 := hid hb3
   have HF3 : Hid (Frm [] wr w3) := hid (HFW1.out.trans hb3.nil.1 (by simp))
   have hn3 : n3 = nb := by rw [← hb3.len, HNB.out]
   subst hn3
   clear hb3
   refine hK _ _ (HSX.out _ HF3.out) ?_
   clear hK K
   try simp only [lA, lS, lZ, Act.put, lI, lW, lX]
   refine wpAnyHT_two (i := 5) (j := 9) rfl rfl (by kernel_rfl) (by kernel_rfl) (by kernel_rfl) (fun K hK => ?_) (fun K hK => ?_)
   ·try simp only [lA, lS, lZ]
    go_simp
    refine (HSE.out _ HF3.out p3 n3 c3 rfl (fun h1 h2 => HB3.out.own.capz h1 h2) (by omega) HB3.out.own.rd).mono ?_
    rintro e w5 ⟨q5, d5, rfl, hb5⟩
    have HB5 := hid hb5
    have HF5 : Hid (Frm [] wr w5) := hid (HF3.out.trans hb5.nil.1 (by simp))
    clear hb5
    refine hK _ _ (HSX.out _ HF5.out) ?_
    clear hK K
    try simp only [lA, lS, lZ, Act.put, lI, lW, lX]
    refine hI (i := 6) (v := ?_) rfl ?_ (HSX.out _ HF5.out) ?_
    rotate_left 1
    ·rintro W ⟨⟨k0, k1, k2, k3, k4, k5, k6, k7, k8, k9, k10, k11, k12⟩, j0, j1, j2, j3⟩; (try simp only [lA, lS, lZ]); go_simp; try with_reducible rfl
    try simp only [lA, lS, lZ, Act.put, lI, lW, lX]
    refine hI (i := 7) (v := ?_) rfl ?_ (HSX.out _ HF5.out) ?_
    rotate_left 1
    ·rintro W ⟨⟨k0, k1, k2, k3, k4, k5, k6, k7, k8, k9, k10, k11, k12⟩, j0, j1, j2, j3⟩; (try simp only [lA, lS, lZ]); go_simp; try with_reducible rfl
    try simp only [lA, lS, lZ, Act.put, lI, lW, lX]
    refine hI (i := 8) (v := ?_) rfl ?_ (HSX.out _ HF5.out) ?_
    rotate_left 1
    ·rintro W ⟨⟨k0, k1, k2, k3, k4, k5, k6, k7, k8, k9, k10, k11, k12⟩, j0, j1, j2, j3⟩; (try simp only [lA, lS, lZ]); go_simp; try with_reducible rfl
    try simp only [lA, lS, lZ, Act.put, lI, lW, lX]
    refine wpAnyHT_one (i := 9) rfl (by kernel_rfl) (by kernel_rfl) (fun K hK => ?_)
    try simp only [lA, lS, lZ]
    go_simp
    have hnew := heap_alloc_new (w5) (.cells #[.int .u64 0, .int .u64 0, .int .u64 0, .int .u64 0] 29)
    have hfn : Frm [] (w5) ((w5).alloc (.cells #[.int .u64 0, .int .u64 0, .int .u64 0, .int .u64 0] 29)) := (Frm.refl _ _).alloc _
    obtain ⟨wz, hwn⟩ := eX ((w5).alloc (.cells #[.int .u64 0, .int .u64 0, .int .u64 0, .int .u64 0] 29))
    obtain ⟨bz, hbz⟩ := eX ((w5).heap.size)
    rw [hwn, hbz] at hnew
    rw [hwn] at hfn
    have HNW := hid hnew
    have HFN := hid hfn
    have HZB : Hid ((w5).heap.size = bz) := hid hbz
    try rw [hwn]
    try rw [hbz]
    clear hnew hfn hwn hbz
    have HF9 : Hid (Frm [] wr wz) := hid (HF5.out.trans HFN.out (by simp))
    refine hK _ _ (HSX.out _ HF9.out) ?_
    clear hK K
    try simp only [lA, lS, lZ, Act.put, lI, lW, lX]
    refine hI (i := 10) (v := ?_) rfl ?_ (HSX.out _ HF9.out) ?_
    rotate_left 1
    ·rintro W ⟨⟨k0, k1, k2, k3, k4, k5, k6, k7, k8, k9, k10, k11, k12⟩, j0, j1, j2, j3⟩; (try simp only [lA, lS, lZ]); go_simp; try with_reducible rfl
    try simp only [lA, lS, lZ, Act.put, lI, lW, lX]
    have HBF : Hid (BufF wr none wz q5 (37 + n3) d5 RB) := hid ((buf_pre HF3.out HB5.out).post HFN.out)
    have HZN : Hid (∀ i ∈ blk q5, ¬ i = bz) := hid (fun i hi he => by have h1 := HB5.out.own.lows i hi; have h2 := HZB.out; omega)
    have HZL : Hid (wr.heap.size ≤ bz) := hid (by have h1 := HF5.out.size; have h2 := HZB.out; omega)
    refine wpAnyHT_end (by kernel_rfl) ?_
    simp only [List.drop_succ_cons, List.drop_zero]
    have hrow9 := HNW.out
    obtain ⟨h4, f4⟩ := set4 (y0 := .int .u64 t0) (y1 := .int .u64 t1) (y2 := .int .u64 t2) (y3 := .int .u64 t3) hrow9
    have y0 := fZ 0 hrow9
    have v0 := cR 0 (.int .u64 0) hrow9
    have y1 := fZ 1 hrow9
    have v1 := cR 1 (.int .u64 0) hrow9
    have y2 := fZ 2 hrow9
    have v2 := cR 2 (.int .u64 0) hrow9
    have y3 := fZ 3 hrow9
    have v3 := cR 3 (.int .u64 0) hrow9
    have H4 := hid h4
    have F4 := hid f4
    clear h4 f4 hrow9
    go_wp2_with fail
    go_meet
    case rel => exact ⟨q5, d5, bz, rfl, rfl, H4.out, hid (buf_set HBF.out F4.out HZN.out HZL.out), HZL.out⟩
   ·try simp only [lA, lS, lZ]
    go_simp
    have hnew := heap_alloc_new (w3) (.cells #[.int .u64 0, .int .u64 0, .int .u64 0, .int .u64 0] 29)
    have hfn : Frm [] (w3) ((w3).alloc (.cells #[.int .u64 0, .int .u64 0, .int .u64 0, .int .u64 0] 29)) := (Frm.refl _ _).alloc _
    obtain ⟨wz, hwn⟩ := eX ((w3).alloc (.cells #[.int .u64 0, .int .u64 0, .int .u64 0, .int .u64 0] 29))
    obtain ⟨bz, hbz⟩ := eX ((w3).heap.size)
    rw [hwn, hbz] at hnew
    rw [hwn] at hfn
    have HNW := hid hnew
    have HFN := hid hfn
    have HZB : Hid ((w3).heap.size = bz) := hid hbz
    try rw [hwn]
    try rw [hbz]
    clear hnew hfn hwn hbz
    have HF9 : Hid (Frm [] wr wz) := hid (HF3.out.trans HFN.out (by simp))
    have HOW := hid (HB3.out.own.kept HFN.out (by simp))
    refine hK _ _ (HSX.out _ HF9.out) ?_
    clear hK K
    try simp only [lA, lS, lZ, Act.put, lI, lW, lX]
    refine wpAnyHT_one (i := 5) rfl (by kernel_rfl) (by kernel_rfl) (fun K hK => ?_)
    try simp only [lA, lS, lZ]
    go_simp
    refine (HSE.out _ HF9.out p3 n3 c3 rfl (fun h1 h2 => HOW.out.capz h1 h2) (by omega) HOW.out.rd).mono ?_
    rintro e w5 ⟨q5, d5, rfl, hb5⟩
    have HB5 := hid hb5
    have HF5 : Hid (Frm [] wr w5) := hid (HF9.out.trans hb5.nil.1 (by simp))
    clear hb5
    refine hK _ _ (HSX.out _ HF5.out) ?_
    clear hK K
    try simp only [lA, lS, lZ, Act.put, lI, lW, lX]
    refine hI (i := 6) (v := ?_) rfl ?_ (HSX.out _ HF5.out) ?_
    rotate_left 1
    ·rintro W ⟨⟨k0, k1, k2, k3, k4, k5, k6, k7, k8, k9, k10, k11, k12⟩, j0, j1, j2, j3⟩; (try simp only [lA, lS, lZ]); go_simp; try with_reducible rfl
    try simp only [lA, lS, lZ, Act.put, lI, lW, lX]
    refine hI (i := 7) (v := ?_) rfl ?_ (HSX.out _ HF5.out) ?_
    rotate_left 1
    ·rintro W ⟨⟨k0, k1, k2, k3, k4, k5, k6, k7, k8, k9, k10, k11, k12⟩, j0, j1, j2, j3⟩; (try simp only [lA, lS, lZ]); go_simp; try with_reducible rfl
    try simp only [lA, lS, lZ, Act.put, lI, lW, lX]
    refine hI (i := 8) (v := ?_) rfl ?_ (HSX.out _ HF5.out) ?_
    rotate_left 1
    ·rintro W ⟨⟨k0, k1, k2, k3, k4, k5, k6, k7, k8, k9, k10, k11, k12⟩, j0, j1, j2, j3⟩; (try simp only [lA, lS, lZ]); go_simp; try with_reducible rfl
    try simp only [lA, lS, lZ, Act.put, lI, lW, lX]
    refine hI (i := 10) (v := ?_) rfl ?_ (HSX.out _ HF5.out) ?_
    rotate_left 1
    ·rintro W ⟨⟨k0, k1, k2, k3, k4, k5, k6, k7, k8, k9, k10, k11, k12⟩, j0, j1, j2, j3⟩; (try simp only [lA, lS, lZ]); go_simp; try with_reducible rfl
    try simp only [lA, lS, lZ, Act.put, lI, lW, lX]
    have HBF : Hid (BufF wr none w5 q5 (37 + n3) d5 RB) := hid (buf_pre HF9.out HB5.out)
    have HZN : Hid (∀ i ∈ blk q5, ¬ i = bz) := hid (fun i hi he => by have h1 := HB5.out.nil.2 i hi; have h2 := lt_of_heap HNW.out; omega)
    have HZL : Hid (wr.heap.size ≤ bz) := hid (by have h1 := HF3.out.size; have h2 := HZB.out; omega)
    refine wpAnyHT_end (by kernel_rfl) ?_
    simp only [List.drop_succ_cons, List.drop_zero]
    have hrow9 := (HB5.out.nil.1.heap HNW.out (by simp))
    obtain ⟨h4, f4⟩ := set4 (y0 := .int .u64 t0) (y1 := .int .u64 t1) (y2 := .int .u64 t2) (y3 := .int .u64 t3) hrow9
    have y0 := fZ 0 hrow9
    have v0 := cR 0 (.int .u64 0) hrow9
    have y1 := fZ 1 hrow9
    have v1 := cR 1 (.int .u64 0) hrow9
    have y2 := fZ 2 hrow9
    have v2 := cR 2 (.int .u64 0) hrow9
    have y3 := fZ 3 hrow9
    have v3 := cR 3 (.int .u64 0) hrow9
    have H4 := hid h4
    have F4 := hid f4
    clear h4 f4 hrow9
    go_wp2_with fail
    go_meet
    case rel => exact ⟨q5, d5, bz, rfl, rfl, H4.out, hid (buf_set HBF.out F4.out HZN.out HZL.out), HZL.out⟩
  ·try simp only [lA, lS, lZ]
   go_simp
   have hnew := heap_alloc_new (wd) (.cells #[.int .u64 0, .int .u64 0, .int .u64 0, .int .u64 0] 29)
   have hfn : Frm [] (wd) ((wd).alloc (.cells #[.int .u64 0, .int .u64 0, .int .u64 0, .int .u64 0] 29)) := (Frm.refl _ _).alloc _
   obtain ⟨wz, hwn⟩ := eX ((wd).alloc (.cells #[.int .u64 0, .int .u64 0, .int .u64 0, .int .u64 0] 29))
   obtain ⟨bz, hbz⟩ := eX ((wd).heap.size)
   rw [hwn, hbz] at hnew
   rw [hwn] at hfn
   have HNW := hid hnew
   have HFN := hid hfn
   have HZB : Hid ((wd).heap.size = bz) := hid hbz
   try rw [hwn]
   try rw [hbz]
   clear hnew hfn hwn hbz
   have HF9 : Hid (Frm [] wr wz) := hid (HFW1.out.trans HFN.out (by simp))
   refine hK _ _ (HSX.out _ HF9.out) ?_
   clear hK K
   try simp only [lA, lS, lZ, Act.put, lI, lW, lX]
   refine wpAnyHT_one (i := 3) rfl (by kernel_rfl) (by kernel_rfl) (fun K hK => ?_)
   try simp only [lA, lS, lZ]
   go_simp
   refine (HBO.out _ HF9.out).mono ?_
   rintro e w3 ⟨p3, n3, c3, rfl, hb3⟩
   have HB3 := hid hb3
   have HF3 : Hid (Frm [] wr w3) := hid (HF9.out.trans hb3.nil.1 (by simp))
   have hn3 : n3 = nb := by rw [← hb3.len, HNB.out]
   subst hn3
   clear hb3
   refine hK _ _ (HSX.out _ HF3.out) ?_
   clear hK K
   try simp only [lA, lS, lZ, Act.put, lI, lW, lX]
   refine wpAnyHT_one (i := 5) rfl (by kernel_rfl) (by kernel_rfl) (fun K hK => ?_)
   try simp only [lA, lS, lZ]
   go_simp
   refine (HSE.out _ HF3.out p3 n3 c3 rfl (fun h1 h2 => HB3.out.own.capz h1 h2) (by omega) HB3.out.own.rd).mono ?_
   rintro e w5 ⟨q5, d5, rfl, hb5⟩
   have HB5 := hid hb5
   have HF5 : Hid (Frm [] wr w5) := hid (HF3.out.trans hb5.nil.1 (by simp))
   clear hb5
   refine hK _ _ (HSX.out _ HF5.out) ?_
   clear hK K
   try simp only [lA, lS, lZ, Act.put, lI, lW, lX]
   refine hI (i := 6) (v := ?_) rfl ?_ (HSX.out _ HF5.out) ?_
   rotate_left 1
   ·rintro W ⟨⟨k0, k1, k2, k3, k4, k5, k6, k7, k8, k9, k10, k11, k12⟩, j0, j1, j2, j3⟩; (try simp only [lA, lS, lZ]); go_simp; try with_reducible rfl
   try simp only [lA, lS, lZ, Act.put, lI, lW, lX]
   refine hI (i := 7) (v := ?_) rfl ?_ (HSX.out _ HF5.out) ?_
   rotate_left 1
   ·rintro W ⟨⟨k0, k1, k2, k3, k4, k5, k6, k7, k8, k9, k10, k11, k12⟩, j0, j1, j2, j3⟩; (try simp only [lA, lS, lZ]); go_simp; try with_reducible rfl
   try simp only [lA, lS, lZ, Act.put, lI, lW, lX]
   refine hI (i := 8) (v := ?_) rfl ?_ (HSX.out _ HF5.out) ?_
   rotate_left 1
   ·rintro W ⟨⟨k0, k1, k2, k3, k4, k5, k6, k7, k8, k9, k10, k11, k12⟩, j0, j1, j2, j3⟩; (try simp only [lA, lS, lZ]); go_simp; try with_reducible rfl
   try simp only [lA, lS, lZ, Act.put, lI, lW, lX]
   refine hI (i := 10) (v := ?_) rfl ?_ (HSX.out _ HF5.out) ?_
   rotate_left 1
   ·rintro W ⟨⟨k0, k1, k2, k3, k4, k5, k6, k7, k8, k9, k10, k11, k12⟩, j0, j1, j2, j3⟩; (try simp only [lA, lS, lZ]); go_simp; try with_reducible rfl
   try simp only [lA, lS, lZ, Act.put, lI, lW, lX]
   have HBF : Hid (BufF wr none w5 q5 (37 + n3) d5 RB) := hid (buf_pre HF3.out HB5.out)
   have HZN : Hid (∀ i ∈ blk q5, ¬ i = bz) := hid (fun i hi he => by have h1 := HB5.out.nil.2 i hi; have h2 := lt_of_heap HNW.out; have h3 := HB3.out.nil.1.size; omega)
   have HZL : Hid (wr.heap.size ≤ bz) := hid (by have h1 := HFW1.out.size; have h2 := HZB.out; omega)
   refine wpAnyHT_end (by kernel_rfl) ?_
   simp only [List.drop_succ_cons, List.drop_zero]
   have hrow9 := (HB5.out.nil.1.heap (HB3.out.nil.1.heap HNW.out (by simp)) (by simp))
   obtain ⟨h4, f4⟩ := set4 (y0 := .int .u64 t0) (y1 := .int .u64 t1) (y2 := .int .u64 t2) (y3 := .int .u64 t3) hrow9
   have y0 := fZ 0 hrow9
   have v0 := cR 0 (.int .u64 0) hrow9
   have y1 := fZ 1 hrow9
   have v1 := cR 1 (.int .u64 0) hrow9
   have y2 := fZ 2 hrow9
   have v2 := cR 2 (.int .u64 0) hrow9
   have y3 := fZ 3 hrow9
   have v3 := cR 3 (.int .u64 0) hrow9
   have H4 := hid h4
   have F4 := hid f4
   clear h4 f4 hrow9
   go_wp2_with fail
   go_meet
   case rel => exact ⟨q5, d5, bz, rfl, rfl, H4.out, hid (buf_set HBF.out F4.out HZN.out HZL.out), HZL.out⟩
 obtain ⟨q, d, bz, rfl, rfl, hrz, hbuf, hzl⟩ := hcut
 have HBUF := hid hbuf.out
 have HZL := hid hzl
 have HRZ := hid hrz
 have HZ5 : Hid ((wc.drew.cell? ⟨bz, 0, none⟩ = some (.int .u64 t0) ∧ wc.drew.cell? ⟨bz, 1, none⟩ = some (.int .u64 t1) ∧ wc.drew.cell? ⟨bz, 2, none⟩ = some (.int .u64 t2) ∧ wc.drew.cell? ⟨bz, 3, none⟩ = some (.int .u64 t3))) := hid (by
  have h := ((Frm.refl [] wc).drew).heap HRZ.out (by simp)
  refine ⟨?_, ?_, ?_, ?_⟩ <;> (rw [cell_of_row _ _ _ _ _ _ h]; rfl))
 clear hbuf hzl hrz
 go_upto_region 5 with fail
 refine wp_region_tail (S := fun W => (W.cell? ⟨bz, 0, none⟩ = some (.int .u64 t0) ∧ W.cell? ⟨bz, 1, none⟩ = some (.int .u64 t1) ∧ W.cell? ⟨bz, 2, none⟩ = some (.int .u64 t2) ∧ W.cell? ⟨bz, 3, none⟩ = some (.int .u64 t3))) 3 5 rfl (by kernel_rfl) (by kernel_rfl) ?_
 refine hI (i := 0) (v := ?_) rfl ?_ HZ5.out ?_
 rotate_left 1
 ·rintro W ⟨j0, j1, j2, j3⟩; (try simp only [lA, lZ]); go_simp; try with_reducible rfl
 try simp only [lA, lZ, Act.put, lI, lW, lX]
 refine hI (i := 1) (v := ?_) rfl ?_ HZ5.out ?_
 rotate_left 1
 ·rintro W ⟨j0, j1, j2, j3⟩; (try simp only [lA, lS, lZ]); go_simp; try with_reducible rfl
 try simp only [lA, lS, lZ, Act.put, lI, lW, lX]
 refine hI (i := 2) (v := ?_) rfl ?_ HZ5.out ?_
 rotate_left 1
 ·rintro W ⟨j0, j1, j2, j3⟩; (try simp only [lA, lS, lZ]); go_simp; try with_reducible rfl
 try simp only [lA, lS, lZ, Act.put, lI, lW, lX]
 refine wpAnyHT_end (by kernel_rfl) ?_
 simp only [List.drop_succ_cons, List.drop_zero]
 obtain ⟨wd, hwd⟩ := eX (wc.drew)
 have HFD : Hid (Frm [] wc wd) := hid (by rw [← hwd]; exact (Frm.refl [] wc).drew)
 rw [hwd]
 have HBD2 := hid (HBUF.out.post HFD.out)
 have hrz := HRB.out wd HBD2.out.nil.1
 have y0 := fZ 0 hrz
 have v0 := cR 0 (.int .u64 0) hrz
 have y1 := fZ 1 hrz
 have v1 := cR 1 (.int .u64 0) hrz
 have y2 := fZ 2 hrz
 have v2 := cR 2 (.int .u64 0) hrz
 have y3 := fZ 3 hrz
 have v3 := cR 3 (.int .u64 0) hrz
 clear hwd
 go_wp2_with fail
 obtain ⟨h4, f4⟩ := set4 (y0 := .int .u64 t0) (y1 := .int .u64 t1) (y2 := .int .u64 t2) (y3 := .int .u64 t3) hrz
 obtain ⟨Wz, hWz⟩ := eX (((((wd.setCell ⟨br, 0, none⟩ (.int .u64 t0)).setCell ⟨br, 1, none⟩ (.int .u64 t1)).setCell ⟨br, 2, none⟩ (.int .u64 t2)).setCell ⟨br, 3, none⟩ (.int .u64 t3)))
 rw [hWz] at h4 f4
 rw [hWz]
 have u0 := cR 0 (.int .u64 t0) h4
 have u1 := cR 1 (.int .u64 t1) h4
 have u2 := cR 2 (.int .u64 t2) h4
 have u3 := cR 3 (.int .u64 t3) h4
 refine bodyPost_ret (v := .tuple #[.slice q (37 + nb) d, .agg #[.int .u64 t0, .int .u64 t1, .int .u64 t2, .int .u64 t3], .int .i64 0]) (by simp [results, Tryz.results14, go_sem, u0, u1, u2, u3]) rfl ?_
 refine HP.out _ _ _ _ rfl ⟨HBD2.out.own.kept f4 (fun i hi he => ?_), HBD2.out.len, ?_, ?_⟩
 ·rw [own_blk] at hi
  rw [List.mem_singleton] at he
  have h1 := HBD2.out.nil.2 i hi
  have h2 := HWB.out
  omega
 ·have h1 : Frm [] w wd := HFR.out.trans HBD2.out.nil.1 (by simp)
  exact (h1.trans f4 (fun i hi hl => by rw [List.mem_singleton] at hi; have := HB3.out; have := HBA.out; omega)).mono (by simp)
 ·intro i hi
  have h1 := HBD2.out.nil.2 i hi
  have h2 := HFR.out.size
  right; omega
end
section
open Go.RowKit Go.Lib
structure RcLn (w : World) (r : Rc) (P : List Pr) (K D : List Int) (lo : Nat) : Prop where
 po : w.ownsRow 0 70 2 (.slice r.pp r.pn r.pc) r.pn (prC P)
 pl : P.length = r.pn
 pw : ∀ k ∈ blk r.pp, lo ≤ k
 ko : w.ownsRow 0 3 1 (.slice r.kp r.kn r.kc) r.kn (K.map (Value.int .i64))
 kl : K.length = r.kn
 kw : ∀ k ∈ blk r.kp, lo ≤ k
 ow : Own w 5 (.slice r.dp r.dl r.dc) D
 dl : D.length = r.dl
 dw : ∀ k ∈ blk r.dp, lo ≤ k
 db : ∀ z ∈ D, 0 ≤ z ∧ z < 256
 mx : r.pn ≤ 140737488355328 ∧ r.kn ≤ 140737488355328 ∧ r.dl ≤ 140737488355328
theorem RcLn.ok {w : World} {r : Rc} {P : List Pr} {K D : List Int} {lo : Nat} (h : RcLn w r P K D lo) : RcOk w r P K D := by
 refine ⟨?_, h.pl, ?_, h.kl, h.ow.rd, h.dl, h.db, by have := h.mx; omega⟩
 ·rcases rv_of1 h.po (by rw [prC_len, h.pl]) with h1 | ⟨g, o, he, hc⟩
  ·cases P with
   | nil => exact Or.inl rfl
   | cons x l => simp [prC] at h1
  ·refine Or.inr ⟨g, o, he, fun i x hx => ?_⟩
   obtain ⟨h1, h2⟩ := prC_at P i x hx
   rw [Nat.add_assoc]
   exact ⟨hc _ _ h1, hc _ _ h2⟩
 ·exact rv_of1 h.ko (by rw [List.length_map, h.kl, Nat.mul_one])
theorem RcLn.kept {S : List Nat} {w w' : World} {r : Rc} {P : List Pr} {K D : List Int} {lo : Nat} (h : RcLn w r P K D lo) (hf : Frm S w w') (h1 : ∀ k ∈ blk r.pp, k ∉ S) (h2 : ∀ k ∈ blk r.kp, k ∉ S) (h3 : ∀ k ∈ blk r.dp, k ∉ S) : RcLn w' r P K D lo :=
 ⟨ownsRow_kept h.po hf h1, h.pl, h.pw, ownsRow_kept h.ko hf h2, h.kl, h.kw, h.ow.kept hf (by rw [own_blk]; exact h3), h.dl, h.dw, h.db, h.mx⟩
theorem RcLn.k0 {w w' : World} {r : Rc} {P : List Pr} {K D : List Int} {lo : Nat} (h : RcLn w r P K D lo) (hf : Frm [] w w') : RcLn w' r P K D lo := h.kept hf (by simp) (by simp) (by simp)
theorem RcOwn.ln {w : World} {r : Rc} {P : List Pr} {K D : List Int} {lo : Nat} (h : RcOwn w r P K D lo) (hd : r.dl ≤ 140737488355328) : RcLn w r P K D lo := ⟨h.po, h.pl, h.pw, h.ko, h.kl, h.kw, h.ow, h.dl, h.dw, h.db, by have := h.mx; omega⟩
def ShpR (w w' : World) : Prop := ∀ (g : Nat) (cur : Array Value) (T : TypeId), w.heap[g]? = some (Obj.cells cur T (0, 0)) → ∃ cur' : Array Value, w'.heap[g]? = some (Obj.cells cur' T (0, 0)) ∧ cur'.size = cur.size
theorem ShpR.refl (w : World) : ShpR w w := fun _ cur _ h => ⟨cur, h, rfl⟩
theorem ShpR.trans {w w1 w2 : World} (h : ShpR w w1) (h2 : ShpR w1 w2) : ShpR w w2 := fun g cur T hg => by
 obtain ⟨c1, a1, b1⟩ := h g cur T hg
 obtain ⟨c2, a2, b2⟩ := h2 g c1 T a1
 exact ⟨c2, a2, by omega⟩
theorem ShpR.of {w w' : World} (h : Frm [] w w') : ShpR w w' := fun g cur T hg => ⟨cur, h.heap hg (by simp), rfl⟩
theorem ShpR.set {w : World} {g t : Nat} {cur : Array Value} {T : TypeId} {v : Value} (hg : w.heap[g]? = some (.cells cur T (0, 0))) : ShpR w (w.setCell ⟨g, t, none⟩ v) := fun g' cur' T' h => by
 by_cases e : g' = g
 ·subst e
  rw [hg] at h
  simp only [Option.some.injEq, Obj.cells.injEq] at h
  obtain ⟨rfl, rfl, _⟩ := h
  exact ⟨_, heap_setCell_same w g' t _ _ v hg, by simp⟩
 ·have hf : Frm [g] w (w.setCell ⟨g, t, none⟩ v) := (Frm.refl _ _).setCell _ _ (by simp)
  exact ⟨cur', hf.heap h (by simpa using e), rfl⟩
def BlkZ (w : World) (p : Option Addr) (m : Nat) : Prop := m = 0 ∨ ∃ g cur T, p = some ⟨g, 0, Option.none⟩ ∧ w.heap[g]? = some (Obj.cells cur T (0, 0)) ∧ m ≤ cur.size
theorem BlkZ.kept {w w' : World} {p : Option Addr} {m : Nat} (h : BlkZ w p m) (hs : ShpR w w') : BlkZ w' p m := by
 rcases h with h | ⟨g, cur, T, h1, h2, h3⟩
 ·exact Or.inl h
 ·obtain ⟨c, h4, h5⟩ := hs g cur T h2
  exact Or.inr ⟨g, c, T, h1, h4, by omega⟩
theorem owns_blockR {w : World} {T : TypeId} {sz : Nat} {p : Option Addr} {n c : Nat} {xs : List Value} (h : w.ownsRow 0 T sz (.slice p n c) n xs) : BlkZ w p (n * sz) := by
 rcases h.2 with ⟨_, h0⟩ | ⟨g, c', cur, he, _, hg, hc, hm, hs, ht⟩
 ·exact Or.inl (by rw [h0, Nat.zero_mul])
 ·simp only [Value.slice.injEq] at he
  exact Or.inr ⟨g, cur, T, he.1, hg, by rw [hs]; exact Nat.mul_le_mul_right _ hc⟩
def Rc.B (r : Rc) : List Nat := blk r.pp ++ (blk r.kp ++ blk r.dp)
structure SpR (w : World) (r : Rc) : Prop where
 p : BlkZ w r.pp (r.pn * 2)
 k : BlkZ w r.kp r.kn
 d : BlkZ w r.dp r.dl
 low : ∀ i ∈ r.B, i < w.heap.size
 mx : r.pn ≤ 140737488355328 ∧ r.kn ≤ 140737488355328 ∧ r.dl ≤ 140737488355328
theorem RcLn.sp {w : World} {r : Rc} {P : List Pr} {K D : List Int} {lo : Nat} (h : RcLn w r P K D lo) : SpR w r :=
 ⟨owns_blockR h.po, by have := owns_blockR h.ko; rwa [Nat.mul_one] at this, by
  have h2 : w.ownsRow 0 5 1 (.slice r.dp r.dl r.dc) r.dl (bv D) := by
   have h3 := h.ow
   unfold Own at h3
   rw [h.dl] at h3
   exact h3
  have := owns_blockR h2; rwa [Nat.mul_one] at this, fun i hi => by
  unfold Rc.B at hi
  simp only [List.mem_append] at hi
  rcases hi with hi | hi | hi
  ·exact ownsRow_low h.po i hi
  ·exact ownsRow_low h.ko i hi
  ·exact h.ow.lows i hi, h.mx⟩
theorem SpR.kept {w w' : World} {r : Rc} (h : SpR w r) (hs : ShpR w w') (hz : w.heap.size ≤ w'.heap.size) : SpR w' r := ⟨h.p.kept hs, h.k.kept hs, h.d.kept hs, fun i hi => Nat.lt_of_lt_of_le (h.low i hi) hz, h.mx⟩
end
section
open Go.RowKit Go.Lib
theorem sameTrue_any (r s : Rc) (P : List Pr) (K D : List Int) (w : World) (hr : RcOk w r P K D) (hs : RcOk w s P K D) (hc : r.core = s.core) :
  Calls Tryz.prog 11 #[.agg r.arr, .agg s.arr] w fun e w' => e = .returned (.bool true) ∧ Frm [] w w' := by
 have hp := hr.pl.symm.trans hs.pl
 have hk := hr.kl.symm.trans hs.kl
 have hd := hr.dn.symm.trans hs.dn
 obtain ⟨kind, name, typ, frm, guid, origin, snap, pp, pn, pc, obj, at_, many, kp, kn, kc, dp, dl, dc⟩ := r
 obtain ⟨kind', name', typ', frm', guid', origin', snap', pp', pn', pc', obj', at', many', kp', kn', kc', dp', dl', dc'⟩ := s
 unfold Rc.core at hc
 simp only [Rc.mk.injEq] at hc hp hk hd
 obtain ⟨rfl, rfl, rfl, rfl, rfl, rfl, rfl, _, _, _, rfl, rfl, rfl, _⟩ := hc
 subst hp hk hd
 have hrow := heap_alloc_new w (.cells (Rc.mk kind name typ frm guid origin snap pp pn pc obj at_ many kp kn kc dp dl dc).arr 26)
 have hfa : Frm [] w (w.alloc (.cells (Rc.mk kind name typ frm guid origin snap pp pn pc obj at_ many kp kn kc dp dl dc).arr 26)) := (Frm.refl _ _).alloc _
 obtain ⟨wa, hwa⟩ := eX (w.alloc (.cells (Rc.mk kind name typ frm guid origin snap pp pn pc obj at_ many kp kn kc dp dl dc).arr 26))
 obtain ⟨ba, hba⟩ := eX (w.heap.size)
 rw [hwa, hba] at hrow
 rw [hwa] at hfa
 have hrow2 := heap_alloc_new wa (.cells (Rc.mk kind name typ frm guid origin snap pp' pn pc' obj at_ many kp' kn kc' dp' dl dc').arr 26)
 have hfb : Frm [] wa (wa.alloc (.cells (Rc.mk kind name typ frm guid origin snap pp' pn pc' obj at_ many kp' kn kc' dp' dl dc').arr 26)) := (Frm.refl _ _).alloc _
 obtain ⟨wb, hwb⟩ := eX (wa.alloc (.cells (Rc.mk kind name typ frm guid origin snap pp' pn pc' obj at_ many kp' kn kc' dp' dl dc').arr 26))
 obtain ⟨bb, hbb⟩ := eX (wa.heap.size)
 rw [hwb, hbb] at hrow2
 rw [hwb] at hfb
 have hb1 : ba + 1 = bb := by rw [← hbb, ← hwa, ← hba]; simp
 have HB1 := hid hb1
 have HFB : Hid (Frm [] w wb) := hid (hfa.trans hfb (by simp))
 have HX := hid (fun V (hf : Frm [] wb V) => rc_cells (hf.heap (hfb.heap hrow (by simp)) (by simp)))
 have HY := hid (fun V (hf : Frm [] wb V) => rc_cells (hf.heap hrow2 (by simp)))
 have HR := hid (fun V (hf : Frm [] wb V) => hr.k0 (HFB.out.trans hf (by simp)))
 have HS := hid (fun V (hf : Frm [] wb V) => hs.k0 (HFB.out.trans hf (by simp)))
 have HWA := hid hwa
 have HWB := hid hwb
 have HBA := hid hba
 have HBB := hid hbb
 have HPL : Hid (P.length = pn) := hid hr.pl
 have HKL : Hid (K.length = kn) := hid hr.kl
 have hmx := hr.mx
 simp only at hmx
 clear hrow hfa hwa hba hrow2 hfb hwb hbb hb1 hr hs
 unfold Rc.arr at HWA HWB ⊢
 simp only at HX HY HR HS HWA HWB ⊢
 obtain ⟨x0, x1, x2, x3, x4, x5, x6, x7, x8, x9, x10, x11, x12⟩ := HX.out wb (Frm.refl _ _)
 obtain ⟨y0, y1, y2, y3, y4, y5, y6, y7, y8, y9, y10, y11, y12⟩ := HY.out wb (Frm.refl _ _)
 have hcv1 := cv_any (P := Tryz.prog) (w := wb) 24 5 9 Tryz.underlying24 Tryz.underlying5 Tryz.underlying9 (n := dl) (HR.out wb (Frm.refl _ _)).dr dc (HR.out wb (Frm.refl _ _)).dn
 have hcv2 := cv_any (P := Tryz.prog) (w := wb) 24 5 9 Tryz.underlying24 Tryz.underlying5 Tryz.underlying9 (n := dl) (HS.out wb (Frm.refl _ _)).dr dc' (HS.out wb (Frm.refl _ _)).dn
 go_enter Tryz.func11, Tryz.ntmps11
 go_upto_region 1 with fail
 try rw [HWA.out]
 try rw [HBA.out]
 try rw [HBB.out]
 try rw [HB1.out]
 try rw [HWB.out]
 go_wp2_with fail
 clear x0 x1 x2 x3 x4 x5 x6 x7 x8 x9 x10 x11 x12 y0 y1 y2 y3 y4 y5 y6 y7 y8 y9 y10 y11 y12 hcv1 hcv2
 go_loopw [5] (fun i wr => ∃ t : Nat, t ≤ pn ∧ i = .int .i64 (t : Int) ∧ Hid (Frm [] wb wr)) (fun i _ => pn - (intOf i).toNat)
 case atStart => exact ⟨0, Nat.zero_le _, rfl, hid (Frm.refl _ _)⟩
 case round =>
  obtain ⟨t, ht, rfl, hf⟩ := hrel
  have HF := hid hf.out
  clear hf
  obtain ⟨x0, x1, x2, x3, x4, x5, x6, x7, x8, x9, x10, x11, x12⟩ := HX.out wr HF.out
  obtain ⟨y0, y1, y2, y3, y4, y5, y6, y7, y8, y9, y10, y11, y12⟩ := HY.out wr HF.out
  clear x0 x1 x2 x3 x4 x5 x6 x8 x9 x10 x12 y0 y1 y2 y3 y4 y5 y6 y8 y9 y10 y12
  by_cases hlt : t < pn
  case pos =>
   have t1 : (t : Int) < (pn : Int) := by omega
   obtain ⟨g1, o1, rfl, k1⟩ := (HR.out wr HF.out).pr.at (i := t) (by rw [HPL.out]; exact hlt)
   obtain ⟨g2, o2, rfl, k2⟩ := (HS.out wr HF.out).pr.at (i := t) (by rw [HPL.out]; exact hlt)
   obtain ⟨z1, z3⟩ := k1 t (by rw [HPL.out]; exact hlt)
   obtain ⟨z2, z4⟩ := k2 t (by rw [HPL.out]; exact hlt)
   obtain ⟨pa, hpa⟩ := eX (P[t]'(by rw [HPL.out]; exact hlt))
   rw [hpa] at z1 z2 z3 z4
   obtain ⟨a0, a1⟩ := pa
   have hne := fun W => neqPr a0 a1 a0 a1 W
   rw [decide_eq_true rfl] at hne
   have hne2 : ∀ W, (binOp .neq 70 (.agg #[.string a0, .string a1]) (.agg #[.string a0, .string a1])).run Tryz.prog W = .ok (.bool false) W := hne
   have HF2 : Hid (∀ k, Frm [] wb (wr.drewN k)) := hid (fun k => HF.out.drewN k)
   clear k1 k2 hpa hne
   go_wp2_with fail
   go_quiet (fail)
   go_wp2_with fail
   go_roundw
   case rel => exact ⟨t + 1, by omega, by go_num, hid (HF2.out _)⟩
   case measure => simp [intOf] <;> omega
  obtain rfl : t = pn := by omega
  clear hlt
  obtain ⟨wc, hwc⟩ := eX (wr)
  subst hwc
  go_wp2_with fail
  clear x7 x11 y7 y11
  go_loopw [6] (fun i wr2 => ∃ u : Nat, u ≤ kn ∧ i = .int .i64 (u : Int) ∧ Hid (Frm [] wb wr2)) (fun i _ => kn - (intOf i).toNat)
  case atStart => exact ⟨0, Nat.zero_le _, rfl, HF⟩
  case round =>
   clear HF
   obtain ⟨u, hu, rfl, hf⟩ := hrel
   have HF := hid hf.out
   clear hf
   obtain ⟨x0, x1, x2, x3, x4, x5, x6, x7, x8, x9, x10, x11, x12⟩ := HX.out _ HF.out
   obtain ⟨y0, y1, y2, y3, y4, y5, y6, y7, y8, y9, y10, y11, y12⟩ := HY.out _ HF.out
   clear x0 x1 x2 x3 x4 x5 x6 x7 x8 x9 x10 x12 y0 y1 y2 y3 y4 y5 y6 y7 y8 y9 y10 y12
   by_cases hlt : u < kn
   case pos =>
    have t1 : (u : Int) < (kn : Int) := by omega
    obtain ⟨g1, o1, rfl, k1⟩ := (HR.out _ HF.out).kr.at (i := u) (by rw [HKL.out]; exact hlt)
    obtain ⟨g2, o2, rfl, k2⟩ := (HS.out _ HF.out).kr.at (i := u) (by rw [HKL.out]; exact hlt)
    have z1 := k1 u (by rw [HKL.out]; exact hlt)
    have z2 := k2 u (by rw [HKL.out]; exact hlt)
    have HF2 := hid (fun k => HF.out.drewN k)
    obtain ⟨x, hx⟩ := eX (zA K u)
    rw [hx] at z1 z2
    clear k1 k2 hx
    go_wp2_with fail
    go_quiet (fail)
    go_wp2_with fail
    go_roundw
    case rel => exact ⟨u + 1, by omega, by go_num, hid (HF2.out _)⟩
    case measure => simp [intOf] <;> omega
   obtain rfl : u = kn := by omega
   clear hlt
   go_wp2_with fail
   try go_returns
   exact ⟨rfl, HFB.out.trans HF.out (by simp)⟩
end
section
open Go.RowKit Go.Lib
def encB (a : S4) (r : Rc) (P : List Pr) (K D : List Int) : List Int := if RcMay r P K D then recB a r P K D else []
def encS (a : S4) (r : Rc) (P : List Pr) (K D : List Int) : S4 := if RcMay r P K D then selR a r P K D else S4.z
def encE (r : Rc) (P : List Pr) (K D : List Int) : Int := if RcMay r P K D then 0 else 200
end
section
open Go.RowKit Go.Lib
def rsS (bs : List Int) : Nat → List Int × S4
 | 0 => (bs, S4.z)
 | t + 1 => ((rsS bs t).1.drop (37 + spM (rsS bs t).1).toNat, sealR (rsS bs t).2 (dcH (rsS bs t).1))
theorem rsS_Bd (bs : List Int) : ∀ t, (rsS bs t).2.Bd
 | 0 => S4.z_Bd
 | _ + 1 => shaD_Bd _
theorem rsS_bd {bs : List Int} (hb : ∀ z ∈ bs, 0 ≤ z ∧ z < 256) : ∀ t, ∀ z ∈ (rsS bs t).1, 0 ≤ z ∧ z < 256
 | 0 => hb
 | t + 1 => fun z hz => rsS_bd hb t z (List.mem_of_mem_drop hz)
theorem rsS_le (bs : List Int) : ∀ t, (rsS bs t).1.length ≤ bs.length
 | 0 => Nat.le_refl _
 | t + 1 => by have h := rsS_le bs t; show ((rsS bs t).1.drop _).length ≤ _; rw [List.length_drop]; omega
def rsOk (bs : List Int) (t : Nat) : Prop := ∀ j, j < t → (rsS bs j).1 ≠ [] ∧ dcE (rsS bs j).2 (rsS bs j).1 = 0
def rkOf (bs : List Int) (j : Nat) (x : Rk) : Prop := x.r.core = ((tvK (spK (rsS bs j).1) (dcB (rsS bs j).1)).rc (spK (rsS bs j).1)).core ∧ x.P = (tvK (spK (rsS bs j).1) (dcB (rsS bs j).1)).p ∧ x.K = (tvK (spK (rsS bs j).1) (dcB (rsS bs j).1)).k ∧ x.D = (tvK (spK (rsS bs j).1) (dcB (rsS bs j).1)).d
def rowsRk : List Rk → List Value
 | [] => []
 | x :: l => x.r.arr.toList ++ rowsRk l
theorem rowsRk_len : ∀ L : List Rk, (rowsRk L).length = L.length * 13
 | [] => rfl
 | x :: l => by rw [rowsRk, List.length_append, rowsRk_len l, List.length_cons]; simp only [Rc.arr, List.length_cons, List.length_nil]; omega
theorem rowsRk_app : ∀ (A B : List Rk), rowsRk (A ++ B) = rowsRk A ++ rowsRk B
 | [], _ => rfl
 | x :: l, B => by simp only [List.cons_append, rowsRk, rowsRk_app l B, List.append_assoc]
theorem rowsRk_at : ∀ (L : List Rk) (i : Nat) (x : Rk), L[i]? = some x → ∀ j u, x.r.arr[j]? = some u → (rowsRk L)[i * 13 + j]? = some u
 | [], i, x, h => by simp at h
 | y :: l, 0, x, h => fun j u hu => by
  simp at h; subst h
  have hj := (Array.getElem?_eq_some_iff.1 hu).1
  rw [rowsRk, Nat.zero_mul, Nat.zero_add, List.getElem?_append_left (by simpa using hj)]
  simpa using hu
 | y :: l, i + 1, x, h => fun j u hu => by
  have ih := rowsRk_at l i x (by simpa using h) j u hu
  rw [rowsRk, List.getElem?_append_right (by simp only [Rc.arr, List.length_cons, List.length_nil]; omega)]
  rw [show (i + 1) * 13 + j - y.r.arr.toList.length = i * 13 + j by simp only [Rc.arr, List.length_cons, List.length_nil]; omega]
  exact ih
def RkOk (w : World) (A : List Nat) (bs : List Int) (L : List Rk) : Prop := ∀ j x, L[j]? = some x → RcOk w x.r x.P x.K x.D ∧ RcA A x.r x.P x.K x.D ∧ x.r.name.size ≤ 140737488355328 ∧ rkOf bs j x
theorem RkOk.keeps {w w' : World} {A : List Nat} {bs : List Int} {L : List Rk} (h : RkOk w A bs L) (hk : Keeps A w w') : RkOk w' A bs L := fun j x hx => by
 obtain ⟨h1, h2, h3, h4⟩ := h j x hx
 exact ⟨h1.keeps h2 hk, h2, h3, h4⟩
theorem RkOk.snoc {w : World} {A B : List Nat} {bs : List Int} {L : List Rk} {y : Rk} (h : RkOk w A bs L) (h1 : RcOk w y.r y.P y.K y.D) (h2 : RcA B y.r y.P y.K y.D) (h3 : y.r.name.size ≤ 140737488355328) (h4 : rkOf bs L.length y) : RkOk w (A ++ B) bs (L ++ [y]) := fun j x hx => by
 by_cases hj : j < L.length
 ·rw [List.getElem?_append_left hj] at hx
  obtain ⟨k1, k2, k3, k4⟩ := h j x hx
  exact ⟨k1, k2.more (fun k hk => List.mem_append_left _ hk), k3, k4⟩
 ·rw [List.getElem?_append_right (by omega)] at hx
  have hj2 : j - L.length = 0 := by
   rcases Nat.eq_zero_or_pos (j - L.length) with h0 | h0
   ·exact h0
   ·rw [List.getElem?_eq_none (by simp; omega)] at hx; cases hx
  rw [hj2] at hx
  simp at hx
  subst hx
  obtain rfl : j = L.length := by omega
  exact ⟨h1, h2.more (fun k hk => List.mem_append_right _ hk), h3, h4⟩
def RcsP (w : World) (bs : List Int) (e : Ending) (w' : World) : Prop := Frm [] w w' ∧ ((1048576 < bs.length ∧ e = .returned (.tuple #[.slice none 0 0, .int .i64 2])) ∨ (bs.length ≤ 1048576 ∧ ∃ t, rsOk bs t ∧ (((rsS bs t).1 ≠ [] ∧ dcE (rsS bs t).2 (rsS bs t).1 ≠ 0 ∧ e = .returned (.tuple #[.slice none 0 0, .int .i64 (dcE (rsS bs t).2 (rsS bs t).1)])) ∨
 ((rsS bs t).1 = [] ∧ ∃ p c L, e = .returned (.tuple #[.slice p t c, .int .i64 0]) ∧ L.length = t ∧ t ≤ 1048576 ∧ RdRk w' p L ∧ ∀ j, j < t → rkOf bs j (rkA L j)))))
theorem rd_part {w : World} {q : Option Addr} {zs : List Int} {m d lo : Nat} (h : Rd w q zs) (hm : zs.length = m) (hl : lo ≤ m) (hd : m ≤ d) : Rd w (partAt q d lo 1) (zs.drop lo) := by
 by_cases h0 : zs.drop lo = []
 ·exact Or.inl h0
 have hlt : lo < m := by
  rcases Nat.lt_or_ge lo m with h1 | h1
  ·exact h1
  ·exact absurd (List.drop_of_length_le (by omega)) h0
 rcases h with h1 | ⟨g, o, rfl, hc⟩
 ·rw [h1] at h0; simp at h0
 ·rw [part1R g o d lo (by omega)]
  exact Rd.drop (Or.inr ⟨g, o, rfl, hc⟩) lo
theorem blk_part {q : Option Addr} {d lo k : Nat} (h : k ∈ blk (partAt q d lo 1)) : k ∈ blk q := by
 unfold partAt at h
 split at h
 ·exact h
 ·cases q with
  | none => exact h
  | some a =>
   obtain ⟨g, o, sp⟩ := a
   simp only [Option.map_some, blk, List.mem_singleton] at h ⊢
   rw [h]
   unfold Addr.add
   split <;> rfl
theorem RcOwn.foot {w : World} {r : Rc} {P : List Pr} {K D : List Int} {lo : Nat} (h : RcOwn w r P K D lo) : ∃ B, RcA B r P K D ∧ ∀ k ∈ B, lo ≤ k ∧ k < w.heap.size := by
 refine ⟨blk r.pp ++ blk r.kp ++ blk r.dp, ⟨fun _ k hk => by simp [hk], fun _ k hk => by simp [hk], fun _ k hk => by simp [hk]⟩, fun k hk => ?_⟩
 rcases List.mem_append.1 hk with hk | hk
 ·rcases List.mem_append.1 hk with hk | hk
  ·exact ⟨h.pw k hk, ownsRow_low h.po k hk⟩
  ·exact ⟨h.kw k hk, ownsRow_low h.ko k hk⟩
 ·have e : ∀ dp : Option Addr, k ∈ blk dp → (Value.slice dp r.dl r.dc).ownBlock = some k := fun dp h => by cases dp <;> simp_all [blk, Value.ownBlock]
  exact ⟨h.dw k hk, (World.ownsRow.lt h.ow k (e _ hk)).2⟩
theorem infoRcR : (Tryz.prog.info? 26).map (fun i => (i.zero, i.size, i.bytes)) = some (some (.agg #[.int .i64 0, .string ⟨#[]⟩, .int .i64 0, .int .i64 0, .int .i64 0, .int .i64 0, .string ⟨#[]⟩, .slice none 0 0, .int .i64 0, .int .i64 0, .int .i64 0, .slice none 0 0, .slice none 0 0]), 13, 168) := by kernel_rfl
theorem rsS_many {bs : List Int} (hb : ∀ z ∈ bs, 0 ≤ z ∧ z < 256) : ∀ t, rsOk bs t → (rsS bs t).1.length + t ≤ bs.length
 | 0, _ => by show bs.length + 0 ≤ _; omega
 | t + 1, h => by
  have ih := rsS_many hb t (fun j hj => h j (by omega))
  have h1 := (h t (by omega)).1
  have h2 := spM_bd (rsS_bd hb t)
  have h3 : 0 < (rsS bs t).1.length := List.length_pos_iff.2 h1
  show ((rsS bs t).1.drop _).length + (t + 1) ≤ _
  rw [List.length_drop]
  omega
theorem dcE_len {a : S4} {bs : List Int} (h : dcE a bs = 0) : 37 + spM bs ≤ (bs.length : Int) ∧ spM bs ≤ 2048 := by
 have hE : spE bs = 0 := by
  unfold dcE at h
  split at h
  ·rename_i h1; exact absurd h h1
  ·rename_i h1; simpa using h1
 unfold spE at hE
 split at hE
 ·omega
 ·split at hE
  ·omega
  ·split at hE
   ·omega
   ·omega
theorem records_any (p : Option Addr) (n c : Nat) (bs : List Int) (w : World) (hn : bs.length = n) (hnc : n ≤ c) (hnb : n ≤ 140737488355328) (hrd : Rd w p bs) (hb : ∀ z ∈ bs, 0 ≤ z ∧ z < 256) (hpr : Primes w) :
  Calls Tryz.prog 19 #[.slice p n c] w (RcsP w bs) := by
 obtain ⟨PO, hPO⟩ : ∃ PO : Ending → World → Prop, RcsP w bs = PO := ⟨_, rfl⟩
 rw [hPO]
 have HP := hid (show ∀ e w', RcsP w bs e w' → PO e w' from fun e w' h => by rw [← hPO]; exact h)
 have HB := hid hb
 have HPR := hid hpr
 have HRD := hid hrd
 have HLN := hid hn
 have hrow := heap_alloc_new w (.cells #[.int .u64 0, .int .u64 0, .int .u64 0, .int .u64 0] 29)
 have hfs : Frm [] w (w.alloc (.cells #[.int .u64 0, .int .u64 0, .int .u64 0, .int .u64 0] 29)) := (Frm.refl _ _).alloc _
 obtain ⟨ws, hws⟩ := eX (w.alloc (.cells #[.int .u64 0, .int .u64 0, .int .u64 0, .int .u64 0] 29))
 obtain ⟨xs, hbs⟩ := eX (w.heap.size)
 rw [hws, hbs] at hrow
 rw [hws] at hfs
 have HFS := hid hfs
 have HROW := hid hrow
 have HWS := hid hws
 have HBS := hid hbs
 clear hPO hn hrd hb hpr hrow hfs hws hbs
 go_enter Tryz.func19, Tryz.ntmps19
 by_cases hlong : 1048576 < n
 case pos =>
  have i1 : (1048576 : Int) < (n : Int) := by omega
  have HX := hid (HP.out _ _ ⟨Frm.refl _ _, Or.inl ⟨by rw [HLN.out]; exact hlong, rfl⟩⟩)
  clear hlong
  go_wp2_with fail
  try go_returns
  exact HX.out
 have i1 : ¬ (1048576 : Int) < (n : Int) := by omega
 have HN2 : Hid (bs.length ≤ 1048576) := hid (by rw [HLN.out]; omega)
 have hn3 : n ≤ 1048576 := by omega
 clear hlong
 go_upto_region 5 with fail
 try rw [HWS.out]
 try rw [HBS.out]
 go_loopw [0, 4] (fun bv0 lv wr => ∃ (t m d lc : Nat) (q lp : Option Addr) (L : List Rk) (A : List Nat), m ≤ n ∧ m ≤ d ∧ t ≤ 1048576 ∧ bv0 = .slice q m d ∧ lv = .slice lp t lc ∧ Hid (rsOk bs t) ∧ Hid ((rsS bs t).1.length = m) ∧ Hid (Rd wr q (rsS bs t).1) ∧ Hid (∀ k ∈ blk q, k < w.heap.size ∨ (rsS bs t).1 = []) ∧ Hid (wr.heap[xs]? = some (.cells (rsS bs t).2.arr 29 (0, 0))) ∧ Hid (L.length = t) ∧ Hid (wr.ownsRow 0 26 13 (.slice lp t lc) t (rowsRk L)) ∧ Hid (∀ k ∈ blk lp, xs < k) ∧ Hid (RkOk wr A bs L) ∧ Hid (∀ k ∈ A, k < wr.heap.size ∧ xs < k ∧ k ∉ blk lp) ∧ Hid (Frm [] w wr)) (fun bv0 _ _ => match bv0 with | .slice _ m _ => m | _ => 0)
 case atStart => exact ⟨0, n, c, 0, p, none, [], [], Nat.le_refl _, hnc, by omega, rfl, rfl, hid (fun j hj => by omega), HLN, hid (HRD.out.kept HFS.out (by simp)), hid (fun k hk => by
  rcases HRD.out with h | ⟨g, o, he, hc⟩
  ·exact Or.inr h
  ·by_cases h0 : bs = []
   ·exact Or.inr h0
   ·rw [he] at hk; simp [blk] at hk; subst hk
    exact Or.inl (World.block_lt_of_cell? w _ (hc 0 (List.length_pos_iff.2 h0)))), hid HROW.out, hid rfl, hid (World.ownsRow_nil _ _ _ _), hid (by simp [blk]), hid (fun j x h => by simp at h), hid (by simp), HFS⟩
 case round =>
  obtain ⟨t, m, d, lc, q, lp, L, A, hmn, hmd, htl, rfl, rfl, hok, hlen, hrd, hqb, hsr, hll, how, hnw, hrk, hab, hf⟩ := hrel
  have HOK := hid hok.out
  have HLEN := hid hlen.out
  have HRQ := hid hrd.out
  have HQB := hid hqb.out
  have HSR := hid hsr.out
  have HLL := hid hll.out
  have HOW := hid how.out
  have HNW := hid hnw.out
  have HRK := hid hrk.out
  have HAB := hid hab.out
  have HF := hid hf.out
  clear hok hlen hrd hqb hsr hll how hnw hrk hab hf
  by_cases hz : 0 < m
  case neg =>
   obtain rfl : m = 0 := by omega
   have HX := hid (HP.out (.returned (.tuple #[.slice lp t lc, .int .i64 0])) wr ⟨HF.out, Or.inr ⟨HN2.out, t, HOK.out, Or.inr ⟨List.eq_nil_of_length_eq_zero HLEN.out, lp, lc, L, rfl, HLL.out, htl, (by
    rcases rv_of1 HOW.out (by rw [rowsRk_len, HLL.out]) with h | ⟨g, o, he, hc⟩
    ·refine Or.inl ?_
     have h2 := rowsRk_len L
     rw [h] at h2
     exact List.eq_nil_of_length_eq_zero (by simp at h2; omega)
    ·refine Or.inr ⟨g, o, he, fun i x hx => ?_⟩
     obtain ⟨k1, _, k3, _⟩ := HRK.out i x hx
     exact ⟨fun j u hu => by rw [Nat.add_assoc]; exact hc _ _ (rowsRk_at L i x hx j u hu), k1, k3⟩), fun j hj => (HRK.out j _ (rkA_get (by rw [HLL.out]; exact hj))).2.2.2⟩⟩⟩)
   clear hz
   go_wp2_with fail
   try go_returns
   exact HX.out
  have i2 : (0 : Int) < (m : Int) := by omega
  have HNE : Hid ((rsS bs t).1 ≠ []) := hid (fun h => by have := HLEN.out; rw [h] at this; simp at this; omega)
  have hbd := rsS_Bd bs t
  have hzb := rsS_bd HB.out t
  have HDC := hid (fun W (hf : Frm [] wr W) => decodeR_any q m d (rsS bs t).1 (rsS bs t).2 hbd W HLEN.out hmd (by omega) (HRQ.out.kept hf (by simp)) hzb ((HPR.out.kept HF.out).kept hf))
  have HNX : Hid (rsS bs (t + 1) = ((rsS bs t).1.drop (37 + spM (rsS bs t).1).toNat, sealR (rsS bs t).2 (dcH (rsS bs t).1))) := hid rfl
  have HKO : Hid (∀ x : Rk, x.r.core = ((tvK (spK (rsS bs t).1) (dcB (rsS bs t).1)).rc (spK (rsS bs t).1)).core → x.P = (tvK (spK (rsS bs t).1) (dcB (rsS bs t).1)).p → x.K = (tvK (spK (rsS bs t).1) (dcB (rsS bs t).1)).k → x.D = (tvK (spK (rsS bs t).1) (dcB (rsS bs t).1)).d → rkOf bs t x) := hid (fun x h1 h2 h3 h4 => ⟨h1, h2, h3, h4⟩)
  have HOT : Hid (dcE (rsS bs t).2 (rsS bs t).1 = 0 → rsOk bs (t + 1)) := hid (fun h j hj => by
   by_cases hj2 : j < t
   ·exact HOK.out j hj2
   ·obtain rfl : j = t := by omega
    exact ⟨HNE.out, h⟩)
  have HMN : Hid (rsOk bs (t + 1) → t + 1 ≤ 1048576) := hid (fun h => by have h1 := rsS_many HB.out (t + 1) h; have h2 := HN2.out; omega)
  have HEX : Hid (∀ W, dcE (rsS bs t).2 (rsS bs t).1 ≠ 0 → Frm [] w W → PO (.returned (.tuple #[.slice none 0 0, .int .i64 (dcE (rsS bs t).2 (rsS bs t).1)])) W) := hid (fun W h1 h2 => HP.out _ _ ⟨h2, Or.inr ⟨HN2.out, t, HOK.out, Or.inl ⟨HNE.out, h1, rfl⟩⟩⟩)
  have hnml := tvK_name (spK (rsS bs t).1) (dcB (rsS bs t).1)
  have hbl : (dcB (rsS bs t).1).length ≤ 1048576 := by unfold dcB; rw [List.length_drop, List.length_take]; have := rsS_le bs t; have := HN2.out; omega
  obtain ⟨RB, hRB⟩ := eX ((rsS bs t).1)
  obtain ⟨SS, hSS⟩ := eX ((rsS bs t).2)
  rw [hRB] at HLEN HRQ HQB HNE HDC HNX HKO HOT HEX hzb hnml hbl
  rw [hSS] at HSR HDC HNX HOT HEX hbd
  obtain ⟨SX, hSX⟩ := eX (SS)
  have HDX : Hid (∀ W (hf : Frm [] wr W), Calls Tryz.prog 22 #[.slice q m d, .agg SS.arr] W (DecP W SX RB)) := hid (fun W hf => by rw [← hSX]; exact HDC.out W hf)
  rw [hSX] at HNX HOT HEX
  clear hRB hSS hSX HDC
  obtain ⟨s0, s1, s2, s3⟩ := SS
  unfold S4.arr at HDX HSR
  simp only at HDX HSR
  have p0 := cR 0 (.int .u64 s0) HSR.out
  have p1 := cR 1 (.int .u64 s1) HSR.out
  have p2 := cR 2 (.int .u64 s2) HSR.out
  have p3 := cR 3 (.int .u64 s3) HSR.out
  go_wp2_with fail
  refine (HDX.out wr (Frm.refl _ _)).mono ?_
  rintro e w2 hd
  by_cases hde : dcE SX RB = 0
  case neg =>
   obtain ⟨hf2, rfl⟩ := DecP.bad hd rfl hde
   have hbE : (dcE SX RB != 0) = true := by rw [bne_iff_ne]; exact hde
   have HX := hid (fun W (hf : Frm [] w W) => HEX.out W hde hf)
   have HF2 : Hid (Frm [] w w2) := hid (HF.out.trans hf2 (by simp))
   obtain ⟨E, hE⟩ := eX (dcE SX RB)
   rw [hE] at hbE HX ⊢
   unfold Rc.z Rc.arr S4.z S4.arr
   simp only
   clear hd hf2 hde hE HDX p0 p1 p2 p3
   go_wp2_with fail
   try go_returns
   exact HX.out _ ((HF2.out.alloc _).alloc _)
  obtain ⟨hf2, r, rfl, hcr, hown⟩ := DecP.good hd hde
  have hlen2 := dcE_len hde
  have hsp0 := spM_bd hzb
  have HOT2 := hid (HOT.out hde)
  have htl2 := HMN.out HOT2.out
  obtain ⟨dM, hdM⟩ := eX ((37 + spM RB).toNat)
  have h37 : 37 + spM RB = (dM : Int) := by omega
  rw [hdM] at HNX
  rw [h37] at hlen2 ⊢
  have hdm : dM ≤ m ∧ 37 ≤ dM := by have := HLEN.out; omega
  obtain ⟨S, hS⟩ := eX (sealR SX (dcH RB))
  rw [hS] at HNX ⊢
  have hns : r.name.size ≤ 140737488355328 := by
   have h0 : r.core.name = (tvK (spK RB) (dcB RB)).c.name := by rw [hcr]; rfl
   have h1 : r.name = (tvK (spK RB) (dcB RB)).c.name := h0
   rw [h1]; omega
  have HNEW : Hid (rkOf bs t ⟨r, (tvK (spK RB) (dcB RB)).p, (tvK (spK RB) (dcB RB)).k, (tvK (spK RB) (dcB RB)).d⟩) := hid (HKO.out _ hcr rfl rfl rfl)
  obtain ⟨VP, hVP⟩ := eX ((tvK (spK RB) (dcB RB)).p)
  obtain ⟨VK, hVK⟩ := eX ((tvK (spK RB) (dcB RB)).k)
  obtain ⟨VD, hVD⟩ := eX ((tvK (spK RB) (dcB RB)).d)
  rw [hVP, hVK, hVD] at hown HNEW
  have HOWN := hid hown
  have HF2 := hid hf2
  have HNS := hid hns
  clear hd hf2 hcr hown hns hlen2 hsp0 hde hdM hS hVP hVK hVD HDX HOT HEX HKO hnml hbl hzb hbd p0 p1 p2 p3 HMN
  obtain ⟨R, hR⟩ := eX (r)
  have HRA : Hid (r.arr = R.arr) := hid (by rw [hR])
  rw [hR] at HNEW HOWN HNS
  clear hR
  obtain ⟨kind, name, typ, frm, guid, origin, snap, pp, pn, pc, obj, at_, many, kp, kn, kc, dp, dl, dc⟩ := r
  obtain ⟨t0, t1, t2, t3⟩ := S
  have HRA2 : Hid (R.arr.toList = [.int .i64 kind, .string name, .int .i64 typ, .int .i64 frm, .int .i64 guid, .int .i64 origin, .string snap, .slice pp pn pc, .int .i64 obj, .int .i64 at_, .int .i64 many, .slice kp kn kc, .slice dp dl dc]) := hid (by rw [← HRA.out]; rfl)
  clear HRA
  unfold Rc.arr
  unfold S4.arr
  simp only
  have hq6 := heap_alloc_new w2 (.cells #[.int .i64 kind, .string name, .int .i64 typ, .int .i64 frm, .int .i64 guid, .int .i64 origin, .string snap, .slice pp pn pc, .int .i64 obj, .int .i64 at_, .int .i64 many, .slice kp kn kc, .slice dp dl dc] 26)
  have hf6 : Frm [] w2 (w2.alloc (.cells #[.int .i64 kind, .string name, .int .i64 typ, .int .i64 frm, .int .i64 guid, .int .i64 origin, .string snap, .slice pp pn pc, .int .i64 obj, .int .i64 at_, .int .i64 many, .slice kp kn kc, .slice dp dl dc] 26)) := (Frm.refl _ _).alloc _
  obtain ⟨w6, hw6⟩ := eX (w2.alloc (.cells #[.int .i64 kind, .string name, .int .i64 typ, .int .i64 frm, .int .i64 guid, .int .i64 origin, .string snap, .slice pp pn pc, .int .i64 obj, .int .i64 at_, .int .i64 many, .slice kp kn kc, .slice dp dl dc] 26))
  obtain ⟨bx, hbx⟩ := eX (w2.heap.size)
  have hb1 : w6.heap.size = bx + 1 := by rw [← hw6, ← hbx]; simp
  rw [hw6, hbx] at hq6
  rw [hw6] at hf6
  have hq7 := heap_alloc_new w6 (.cells #[.int .u64 t0, .int .u64 t1, .int .u64 t2, .int .u64 t3] 29)
  have hf7 : Frm [] w6 (w6.alloc (.cells #[.int .u64 t0, .int .u64 t1, .int .u64 t2, .int .u64 t3] 29)) := (Frm.refl _ _).alloc _
  obtain ⟨w7, hw7⟩ := eX (w6.alloc (.cells #[.int .u64 t0, .int .u64 t1, .int .u64 t2, .int .u64 t3] 29))
  rw [hw7, hb1] at hq7
  rw [hw7] at hf7
  have HF7 : Hid (Frm [] w2 w7) := hid (hf6.trans hf7 (by simp))
  have HQ6 : Hid (w7.heap[bx]? = some (.cells #[.int .i64 kind, .string name, .int .i64 typ, .int .i64 frm, .int .i64 guid, .int .i64 origin, .string snap, .slice pp pn pc, .int .i64 obj, .int .i64 at_, .int .i64 many, .slice kp kn kc, .slice dp dl dc] 26 (0, 0))) := hid (hf7.heap hq6 (by simp))
  have HQ7 : Hid (w7.heap[bx + 1]? = some (.cells #[.int .u64 t0, .int .u64 t1, .int .u64 t2, .int .u64 t3] 29 (0, 0))) := hid hq7
  have HW6 := hid hw6
  have HW7 := hid hw7
  have HBX := hid hbx
  have HFA : Hid (Frm [] wr w7) := hid (HF2.out.trans HF7.out (by simp))
  have hown7 := ownsRow_kept HOW.out HFA.out (by simp)
  have HA := hid ((Frm.refl [] w7).alloc (.cells #[.int .i64 kind, .string name, .int .i64 typ, .int .i64 frm, .int .i64 guid, .int .i64 origin, .string snap, .slice pp pn pc, .int .i64 obj, .int .i64 at_, .int .i64 many, .slice kp kn kc, .slice dp dl dc] 26))
  have HRV := hid (rv_block (heap_alloc_new w7 (.cells #[.int .i64 kind, .string name, .int .i64 typ, .int .i64 frm, .int .i64 guid, .int .i64 origin, .string snap, .slice pp pn pc, .int .i64 obj, .int .i64 at_, .int .i64 many, .slice kp kn kc, .slice dp dl dc] 26)))
  have HOW2 := hid (ownsRow_kept hown7 HA.out (by simp))
  have HXS : Hid (xs < wr.heap.size) := hid (lt_of_heap HSR.out)
  have z0 := cR 0 (.int .i64 kind) HQ6.out
  have z1 := cR 1 (.string name) HQ6.out
  have z2 := cR 2 (.int .i64 typ) HQ6.out
  have z3 := cR 3 (.int .i64 frm) HQ6.out
  have z4 := cR 4 (.int .i64 guid) HQ6.out
  have z5 := cR 5 (.int .i64 origin) HQ6.out
  have z6 := cR 6 (.string snap) HQ6.out
  have z7 := cR 7 (.slice pp pn pc) HQ6.out
  have z8 := cR 8 (.int .i64 obj) HQ6.out
  have z9 := cR 9 (.int .i64 at_) HQ6.out
  have z10 := cR 10 (.int .i64 many) HQ6.out
  have z11 := cR 11 (.slice kp kn kc) HQ6.out
  have z12 := cR 12 (.slice dp dl dc) HQ6.out
  clear hq6 hf6 hq7 hf7 hw6 hw7 hbx hb1 hown7
  go_upto_region 9 with fail
  try rw [HBX.out]
  try rw [HW6.out]
  try rw [HW7.out]
  go_wp2_with (at_builtin; refine wpList_appV rfl _ _ 43 rfl 26 13 168 _ Tryz.underlying43 infoRcR rfl (by decide) lp t lc (rowsRk L) rfl HOW2.out (some ⟨w7.heap.size, 0, none⟩) 1 1 [.int .i64 kind, .string name, .int .i64 typ, .int .i64 frm, .int .i64 guid, .int .i64 origin, .string snap, .slice pp pn pc, .int .i64 obj, .int .i64 at_, .int .i64 many, .slice kp kn kc, .slice dp dl dc] rfl rfl (by simp) HRV.out (by intro u hu; simp at hu; rcases hu with rfl | rfl | rfl | rfl | rfl | rfl | rfl | rfl | rfl | rfl | rfl | rfl | rfl <;> rfl) (by unfold maxLen; omega) (by omega) ?_)
  intro p8 c8 w8 ho8 hf8 hb8
  have hfa8 : Frm (blk lp) w7 w8 := (HA.out.mono (by simp)).trans hf8.out (fun i hi _ => hi)
  have HQ8 : Hid (w8.heap[bx + 1]? = some (.cells #[.int .u64 t0, .int .u64 t1, .int .u64 t2, .int .u64 t3] 29 (0, 0))) := hid (hfa8.heap HQ7.out (fun hm => by have h1 := ownsRow_low HOW.out _ hm; have h2 := HBX.out; have h3 := HF2.out.size; omega))
  have HS8 := hid (hfa8.heap (HFA.out.heap HSR.out (by simp)) (fun hm => by have := HNW.out xs hm; omega))
  have HF8 : Hid (Frm [] w w8) := hid ((HF.out.trans HFA.out (by simp)).trans hfa8 (fun i hi hl => by have := HNW.out i hi; have := HBS.out; omega))
  have e1 : (w7.alloc (.cells #[.int .i64 kind, .string name, .int .i64 typ, .int .i64 frm, .int .i64 guid, .int .i64 origin, .string snap, .slice pp pn pc, .int .i64 obj, .int .i64 at_, .int .i64 many, .slice kp kn kc, .slice dp dl dc] 26)).heap.size = w7.heap.size + 1 := by simp
  have HNW8 : Hid (∀ k ∈ blk p8, xs < k) := hid (fun k hk => by
   rcases hb8.out k hk with h | h
   ·exact HNW.out k h
   ·have h2 := HXS.out; have h3 := HFA.out.size; omega)
  obtain ⟨B, hB1, hB2⟩ := HOWN.out.foot
  have hlpl := ownsRow_low HOW.out
  have HKA : Hid (Keeps A wr w8) := hid (fun k hk => by
   obtain ⟨k1, k2, k3⟩ := HAB.out k hk
   exact (hfa8.block k (Nat.lt_of_lt_of_le k1 HFA.out.size) k3).trans (HFA.out.block k k1 (by simp)))
  have HKB : Hid (Keeps B w2 w8) := hid (fun k hk => by
   obtain ⟨k1, k2⟩ := hB2 k hk
   exact (hfa8.block k (Nat.lt_of_lt_of_le k2 HF7.out.size) (fun hm => by have := hlpl k hm; omega)).trans (HF7.out.block k k2 (by simp)))
  have HRK8 : Hid (RkOk w8 (A ++ B) bs (L ++ [⟨R, VP, VK, VD⟩])) := hid ((HRK.out.keeps HKA.out).snoc (HOWN.out.ok.keeps hB1 HKB.out) hB1 HNS.out (by rw [HLL.out]; exact HNEW.out))
  have HAB8 : Hid (∀ k ∈ A ++ B, k < w8.heap.size ∧ xs < k ∧ k ∉ blk p8) := hid (fun k hk => by
   have s1 := hfa8.size
   have s2 := HF7.out.size
   have s3 := HF2.out.size
   have s4 := HXS.out
   rcases List.mem_append.1 hk with hk | hk
   ·obtain ⟨k1, k2, k3⟩ := HAB.out k hk
    exact ⟨by omega, k2, fun hm => by
     rcases hb8.out k hm with h | h
     ·exact k3 h
     ·omega⟩
   ·obtain ⟨k1, k2⟩ := hB2 k hk
    exact ⟨by omega, by omega, fun hm => by
     rcases hb8.out k hm with h | h
     ·have := hlpl k h; omega
     ·omega⟩)
  have HO8 : Hid (w8.ownsRow 0 26 13 (.slice p8 (t + 1) c8) (t + 1) (rowsRk (L ++ [⟨R, VP, VK, VD⟩]))) := hid (by
   rw [rowsRk_app, rowsRk, rowsRk, List.append_nil]
   show w8.ownsRow 0 26 13 (.slice p8 (t + 1) c8) (t + 1) (rowsRk L ++ R.arr.toList)
   rw [HRA2.out]
   exact ho8.out)
  have HLL8 : Hid ((L ++ [(⟨R, VP, VK, VD⟩ : Rk)]).length = t + 1) := hid (by rw [List.length_append, HLL.out]; rfl)
  have hsl : ∀ W, (Instr.slice 24 (.slice q m d) (some (.int .i64 (dM : Int))) none none).run Tryz.prog W = .ok (.slice (partAt q d dM 1) (m - dM) (d - dM)) W := fun W => sl_l (P := Tryz.prog) (sz := 1) Tryz.underlying24 infoU8R q m d dM hdm.1 W
  have HQ2 : Hid (∀ k ∈ blk q, k < w.heap.size) := hid (fun k hk => by
   rcases HQB.out k hk with h | h
   ·exact h
   ·exact absurd h HNE.out)
  have hrq8 := (HRQ.out.kept HFA.out (by simp)).kept hfa8 (fun k hk hm => by have h1 := HQ2.out k hk; have h2 := HNW.out k hm; have h3 := HBS.out; omega)
  have HRQ8 := hid hrq8
  have HZ8 : Hid (xs < w8.heap.size ∧ bx + 1 ≠ xs) := hid ⟨lt_of_heap HS8.out, by have h1 := HBX.out; have h2 := HF2.out.size; have h3 := HXS.out; omega⟩
  clear ho8 hf8 hb8 hfa8 e1 hB1 hB2 hlpl hrq8 HA HRV HOW2 HQ6 HQ7 HRA2 HOWN z0 z1 z2 z3 z4 z5 z6 z7 z8 z9 z10 z11 z12
  go_upto_region 10 with fail
  obtain ⟨wd, hwd⟩ := eX (w8.drew)
  have hFD : Frm [] w8 wd := by rw [← hwd]; exact (Frm.refl _ _).drew
  have hqd := hFD.heap HQ8.out (by simp)
  have hsd := hFD.heap HS8.out (by simp)
  unfold S4.arr at hsd
  have sS : wd.cell? ⟨bx + 1, 0, none⟩ = some (.int .u64 t0) ∧ wd.cell? ⟨bx + 1, 1, none⟩ = some (.int .u64 t1) ∧ wd.cell? ⟨bx + 1, 2, none⟩ = some (.int .u64 t2) ∧ wd.cell? ⟨bx + 1, 3, none⟩ = some (.int .u64 t3) := by
   refine ⟨?_, ?_, ?_, ?_⟩ <;> (rw [cell_of_row _ _ _ _ _ _ hqd]; rfl)
  refine wp_region_tail (S := fun W => (W.cell? ⟨bx + 1, 0, none⟩ = some (.int .u64 t0) ∧ W.cell? ⟨bx + 1, 1, none⟩ = some (.int .u64 t1) ∧ W.cell? ⟨bx + 1, 2, none⟩ = some (.int .u64 t2) ∧ W.cell? ⟨bx + 1, 3, none⟩ = some (.int .u64 t3))) 5 6 rfl (by kernel_rfl) (by kernel_rfl) ?_
  rw [hwd]
  refine hI (i := 0) (v := ?_) rfl ?_ sS ?_
  rotate_left 1
  ·rintro W ⟨e0, e1, e2, e3⟩; (try simp only [lA, lZ]); go_simp; try with_reducible rfl
  try simp only [lA, lZ, Act.put, lI, lW, lX]
  refine hI (i := 1) (v := ?_) rfl ?_ sS ?_
  rotate_left 1
  ·rintro W ⟨e0, e1, e2, e3⟩; (try simp only [lA, lS, lZ]); go_simp; try with_reducible rfl
  try simp only [lA, lS, lZ, Act.put, lI, lW, lX]
  refine hI (i := 2) (v := ?_) rfl ?_ sS ?_
  rotate_left 1
  ·(intro W hSw; obtain ⟨e0, e1, e2, e3⟩ := hSw; have hsl2 := hsl W; (try simp only [lA, lS, lZ]); go_simp; try with_reducible rfl)
  try simp only [lA, lS, lZ, Act.put, lI, lW, lX]
  refine hI (i := 3) (v := ?_) rfl ?_ sS ?_
  rotate_left 1
  ·rintro W ⟨e0, e1, e2, e3⟩; (try simp only [lA, lS, lZ]); go_simp; try with_reducible rfl
  try simp only [lA, lS, lZ, Act.put, lI, lW, lX]
  refine wpAnyHT_one (i := 4) rfl (by kernel_rfl) (by kernel_rfl) (fun K hK => ?_)
  try simp only [lA, lS, lZ]
  go_simp
  refine hK _ _ sS ?_
  clear hK K
  try simp only [lA, lS, lZ, Act.put, lI, lW, lX]
  refine wpAnyHT_end (by kernel_rfl) ?_
  simp only [List.drop_succ_cons, List.drop_zero]
  have y0 := fZ 0 hsd
  have v0 := cR 0 (.int .u64 s0) hsd
  have y1 := fZ 1 hsd
  have v1 := cR 1 (.int .u64 s1) hsd
  have y2 := fZ 2 hsd
  have v2 := cR 2 (.int .u64 s2) hsd
  have y3 := fZ 3 hsd
  have v3 := cR 3 (.int .u64 s3) hsd
  obtain ⟨h4, f4⟩ := set4 (y0 := .int .u64 t0) (y1 := .int .u64 t1) (y2 := .int .u64 t2) (y3 := .int .u64 t3) hsd
  obtain ⟨W4, hW4⟩ := eX (((((wd.setCell ⟨xs, 0, none⟩ (.int .u64 t0)).setCell ⟨xs, 1, none⟩ (.int .u64 t1)).setCell ⟨xs, 2, none⟩ (.int .u64 t2)).setCell ⟨xs, 3, none⟩ (.int .u64 t3)))
  rw [hW4] at h4 f4
  have HS4 : Hid (W4.heap[xs]? = some (.cells (rsS bs (t + 1)).2.arr 29 (0, 0))) := hid (by rw [HNX.out]; exact h4)
  have HF4 : Hid (Frm [] w W4) := hid ((HF8.out.trans hFD (by simp)).trans f4 (fun i hi hl => by rw [List.mem_singleton] at hi; have := HBS.out; omega))
  have HXB : Hid (∀ k, xs < k → k < w8.heap.size → W4.heap[k]? = w8.heap[k]?) := hid (fun k hk hlt => (f4.block k (Nat.lt_of_lt_of_le hlt hFD.size) (by simp; omega)).trans (hFD.block k hlt (by simp)))
  have HO4 := hid (ownsRow_kept (ownsRow_kept HO8.out hFD (by simp)) f4 (fun k hk hm => by rw [List.mem_singleton] at hm; have := HNW8.out k hk; omega))
  have HRK4 := hid (HRK8.out.keeps (fun k hk => HXB.out k (HAB8.out k hk).2.1 (HAB8.out k hk).1))
  have HAB4 : Hid (∀ k ∈ A ++ B, k < W4.heap.size ∧ xs < k ∧ k ∉ blk p8) := hid (fun k hk => by have h := HAB8.out k hk; have h2 := hFD.size; have h3 := f4.size; exact ⟨by omega, h.2⟩)
  have HRQ4 : Hid (Rd W4 (partAt q d dM 1) (rsS bs (t + 1)).1) := hid (by
   rw [HNX.out]
   exact rd_part ((HRQ8.out.kept hFD (by simp)).kept f4 (fun k hk hm => by rw [List.mem_singleton] at hm; have h1 := HQ2.out k hk; have h2 := HBS.out; omega)) HLEN.out hdm.1 hmd)
  have HLN4 : Hid ((rsS bs (t + 1)).1.length = m - dM) := hid (by rw [HNX.out]; show (RB.drop dM).length = _; rw [List.length_drop, HLEN.out])
  have HQB4 : Hid (∀ k ∈ blk (partAt q d dM 1), k < w.heap.size ∨ (rsS bs (t + 1)).1 = []) := hid (fun k hk => Or.inl (HQ2.out k (blk_part hk)))
  have HWE := hid hW4
  clear h4 f4 hW4 hFD hqd sS hwd hsl
  go_wp2_with fail
  go_roundw
  case rel => exact ⟨t + 1, m - dM, d - dM, c8, partAt q d dM 1, p8, L ++ [⟨R, VP, VK, VD⟩], A ++ B, by omega, by omega, htl2, rfl, rfl, HOT2, HLN4, by rw [HWE.out]; exact HRQ4, HQB4, by rw [HWE.out]; exact HS4, HLL8, by rw [HWE.out]; exact HO4, HNW8, by rw [HWE.out]; exact HRK4, by rw [HWE.out]; exact HAB4, by rw [HWE.out]; exact HF4⟩
  case measure => show m - dM < m; omega
end
end Go.Proofs.YtajfjkfnmmfhmaaGreatDoor
