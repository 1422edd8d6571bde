/- Records, the document's side: Encode. -/
import Derived.Deep.Cut
import Derived.Deep.DeepCutAuto
import Derived.Test.YtajfjkfnmmfhmaaGreatDoorQsan
import Derived.Test.YtajfjkfnmmfhmaaGreatDoorQsao
import Derived.Test.YtajfjkfnmmfhmaaGreatDoorQsad
import Derived.Laws.EntriesVeiled
import Derived.Test.YtajfjkfnmmfhmaaGreatDoorQsah
import Derived.Test.YtajfjkfnmmfhmaaGreatDoorQsam
import Derived.BigQuiet
import Derived.Test.YtajfjkfnmmfhmaaGreatDoorQsae
import Derived.Test.YtajfjkfnmmfhmaaGreatDoorQsag
import Derived.Test.YtajfjkfnmmfhmaaGreatDoorQsak
namespace Go.Proofs.YtajfjkfnmmfhmaaGreatDoor
set_option maxRecDepth 100000
set_option maxHeartbeats 25600000
section
open Go.RowKit Go.Lib
theorem Own.capz {w : World} {E : TypeId} {p : Option Addr} {n c : Nat} {zs : List Int} (h : Own w E (.slice p n c) zs) (_ : zs = []) (h2 : p = Option.none) : c = 0 := by
 obtain ⟨p', c', he, _, h3, _⟩ := h.shape
 cases he
 exact (h3 h2).2
theorem buf_set {w w1 w2 : World} {q : Option Addr} {n d bz : Nat} {zs : List Int} (h : BufF w Option.none w1 q n d zs) (hf : Frm [bz] w1 w2) (hn : ∀ i ∈ blk q, ¬ i = bz) (hz : w.heap.size ≤ bz) : BufF w Option.none w2 q n d zs :=
 ⟨h.own.kept hf (fun i hi he => by rw [own_blk] at hi; rw [List.mem_singleton] at he; exact hn i hi he), h.len, (h.nil.1.trans hf (fun i hi hl => by rw [List.mem_singleton] at hi; omega)).mono (by simp), h.bk⟩
theorem buf_pre {w w0 w1 : World} {q : Option Addr} {n d : Nat} {zs : List Int} (hf : Frm [] w w0) (h : BufF w0 Option.none w1 q n d zs) : BufF w Option.none w1 q n d zs := BufF.pre hf h
theorem refEncode_bad (r : Rc) (P : List Pr) (K D : List Int) (a : S4) (w : World) (hr : RcOk w r P K D) (hs : r.name.size ≤ 140737488355328) (hv : PvOk P) (hm : ¬ RcMay r P K D) :
  Calls Tryz.prog 14 #[.agg r.arr, .agg a.arr] w fun e w' => e = .returned (.tuple #[.slice none 0 0, .agg S4.z.arr, .int .i64 200]) ∧ Frm [] w w' := by
 have hrow := heap_alloc_new w (.cells r.arr 26)
 have hfa : Frm [] w (w.alloc (.cells r.arr 26)) := (Frm.refl _ _).alloc _
 obtain ⟨wa, hwa⟩ := eX (w.alloc (.cells r.arr 26))
 obtain ⟨ba, hba⟩ := eX (w.heap.size)
 rw [hwa, hba] at hrow
 rw [hwa] at hfa
 have hrows := heap_alloc_new wa (.cells a.arr 29)
 have hfs : Frm [] wa (wa.alloc (.cells a.arr 29)) := (Frm.refl _ _).alloc _
 obtain ⟨ws, hws⟩ := eX (wa.alloc (.cells a.arr 29))
 obtain ⟨bs, hbs⟩ := eX (wa.heap.size)
 rw [hws, hbs] at hrows
 rw [hws] at hfs
 have hrowr := heap_alloc_new ws (.cells #[.int .u64 0, .int .u64 0, .int .u64 0, .int .u64 0] 29)
 have hfr : Frm [] ws (ws.alloc (.cells #[.int .u64 0, .int .u64 0, .int .u64 0, .int .u64 0] 29)) := (Frm.refl _ _).alloc _
 obtain ⟨wr, hwr⟩ := eX (ws.alloc (.cells #[.int .u64 0, .int .u64 0, .int .u64 0, .int .u64 0] 29))
 obtain ⟨br, hbr⟩ := eX (ws.heap.size)
 rw [hwr, hbr] at hrowr
 rw [hwr] at hfr
 have hb1 : ba + 1 = bs := by rw [← hbs, ← hwa, ← hba]; simp
 have hb2 : bs + 1 = br := by rw [← hbr, ← hws, ← hbs]; simp
 have hb3 : ba + 1 + 1 = br := by omega
 have HB1 := hid hb1
 have HB2 := hid hb2
 have HB3 := hid hb3
 have HFR : Hid (Frm [] w wr) := hid ((hfa.trans hfs (by simp)).trans hfr (by simp))
 have HRA : Hid (∀ W, Frm [] wr W → W.heap[ba]? = some (.cells r.arr 26 (0, 0))) := hid (fun W hf => hf.heap (hfr.heap (hfs.heap hrow (by simp)) (by simp)) (by simp))
 have HRS : Hid (∀ W, Frm [] wr W → W.heap[bs]? = some (.cells a.arr 29 (0, 0))) := hid (fun W hf => hf.heap (hfr.heap hrows (by simp)) (by simp))
 have HRB : Hid (∀ W, Frm [] wr W → W.heap[br]? = some (.cells #[.int .u64 0, .int .u64 0, .int .u64 0, .int .u64 0] 29 (0, 0))) := hid (fun W hf => hf.heap hrowr (by simp))
 have HWA := hid hwa
 have HWS := hid hws
 have HWR := hid hwr
 have HBA := hid hba
 have HBS := hid hbs
 have HBR := hid hbr
 have HX := hid (fun V (hf : Frm [] wr V) => rc_cells (HRA.out V hf))
 have HCK := hid (refCheck_any r P K D wr (hr.k0 HFR.out) hs hv)
 have HOK := hid hr
 clear hrow hfa hwa hba hrows hfs hws hbs hrowr hfr hwr hbr hb1 hb2 hb3 hr hs hv
 rw [if_neg hm] at HCK
 clear hm
 have hbld : ∀ V, (Instr.build 29 #[]).run Tryz.prog V = .ok (.agg #[.int .u64 0, .int .u64 0, .int .u64 0, .int .u64 0]) V := fun V => run_build V _ _ _ (by kernel_rfl)
 obtain ⟨kind, name, typ, frm, guid, origin, snap, pp, pn, pc, obj, at_, many, kp, kn, kc, dp, dl, dc⟩ := r
 obtain ⟨s0, s1, s2, s3⟩ := a
 unfold S4.arr at HWS HRS 
 unfold Rc.arr at HWA HRA HCK ⊢
 unfold S4.arr
 simp only at HWA HWS HRA HRS HX HCK ⊢
 obtain ⟨q0, q1, q2, q3, q4, q5, q6, q7, q8, q9, q10, q11, q12⟩ := HX.out wr (Frm.refl _ _)
 go_enter Tryz.func14, Tryz.ntmps14
 go_upto_region 1 with fail
 try rw [HWA.out]
 try rw [HBA.out]
 try rw [HBS.out]
 try rw [HB1.out]
 try rw [HWS.out]
 try rw [HB3.out]
 try rw [HBR.out]
 try rw [HB2.out]
 try rw [HWR.out]
 go_wp2_with fail
 refine HCK.out.mono ?_
 rintro e w1 ⟨rfl, hf1⟩
 have HF1 := hid hf1
 clear hf1 q0 q1 q2 q3 q4 q5 q6 q7 q8 q9 q10 q11 q12 HCK
 have hrz := HRB.out w1 HF1.out
 have y0 := fZ 0 hrz
 have v0 := cR 0 (.int .u64 0) hrz
 have y1 := fZ 1 hrz
 have v1 := cR 1 (.int .u64 0) hrz
 have y2 := fZ 2 hrz
 have v2 := cR 2 (.int .u64 0) hrz
 have y3 := fZ 3 hrz
 have v3 := cR 3 (.int .u64 0) hrz
 go_wp2_with fail
 obtain ⟨h4, f4⟩ := set4 (y0 := .int .u64 0) (y1 := .int .u64 0) (y2 := .int .u64 0) (y3 := .int .u64 0) hrz
 obtain ⟨Wz, hWz⟩ := eX (((((w1.setCell ⟨br, 0, none⟩ (.int .u64 0)).setCell ⟨br, 1, none⟩ (.int .u64 0)).setCell ⟨br, 2, none⟩ (.int .u64 0)).setCell ⟨br, 3, none⟩ (.int .u64 0)))
 rw [hWz] at h4 f4
 rw [hWz]
 have u0 := cR 0 (.int .u64 0) h4
 have u1 := cR 1 (.int .u64 0) h4
 have u2 := cR 2 (.int .u64 0) h4
 have u3 := cR 3 (.int .u64 0) h4
 refine bodyPost_ret (v := .tuple #[.slice none 0 0, .agg #[.int .u64 0, .int .u64 0, .int .u64 0, .int .u64 0], .int .i64 200]) (by simp [results, Tryz.results14, go_sem, u0, u1, u2, u3]) rfl ?_
 exact ⟨rfl, (HFR.out.trans HF1.out (by simp)).trans f4 (fun i hi hl => by rw [List.mem_singleton] at hi; have := HB3.out; have := HBA.out; omega)⟩
theorem refEncode_ok (r : Rc) (P : List Pr) (K D : List Int) (a : S4) (w : World) (hr : RcOk w r P K D) (hs : r.name.size ≤ 140737488355328) (hv : PvOk P) (hm : RcMay r P K D) (ha : a.Bd) (hvs : Vars w) :
  Calls Tryz.prog 14 #[.agg r.arr, .agg a.arr] w fun e w' => ∃ q n d, e = .returned (.tuple #[.slice q n d, .agg (selR a r P K D).arr, .int .i64 0]) ∧ n = (recB a r P K D).length ∧ BufF w none w' q n d (recB a r P K D) := by
 obtain ⟨PO, hPO⟩ : ∃ PO : Ending → World → Prop, (fun e w' => ∃ q n d, e = .returned (.tuple #[.slice q n d, .agg (selR a r P K D).arr, .int .i64 0]) ∧ n = (recB a r P K D).length ∧ BufF w none w' q n d (recB a r P K D)) = PO := ⟨_, rfl⟩
 rw [hPO]
 have HP : Hid (∀ q n d w', n = (recB a r P K D).length → BufF w none w' q n d (recB a r P K D) → PO (.returned (.tuple #[.slice q n d, .agg (selR a r P K D).arr, .int .i64 0])) w') := hid (fun q n d w' h1 h2 => by rw [← hPO]; exact ⟨q, n, d, rfl, h1, h2⟩)
 clear hPO
 have hkb := rcMay_kind hm
 have hrow := heap_alloc_new w (.cells r.arr 26)
 have hfa : Frm [] w (w.alloc (.cells r.arr 26)) := (Frm.refl _ _).alloc _
 obtain ⟨wa, hwa⟩ := eX (w.alloc (.cells r.arr 26))
 obtain ⟨ba, hba⟩ := eX (w.heap.size)
 rw [hwa, hba] at hrow
 rw [hwa] at hfa
 have hrows := heap_alloc_new wa (.cells a.arr 29)
 have hfs : Frm [] wa (wa.alloc (.cells a.arr 29)) := (Frm.refl _ _).alloc _
 obtain ⟨ws, hws⟩ := eX (wa.alloc (.cells a.arr 29))
 obtain ⟨bs, hbs⟩ := eX (wa.heap.size)
 rw [hws, hbs] at hrows
 rw [hws] at hfs
 have hrowr := heap_alloc_new ws (.cells #[.int .u64 0, .int .u64 0, .int .u64 0, .int .u64 0] 29)
 have hfr : Frm [] ws (ws.alloc (.cells #[.int .u64 0, .int .u64 0, .int .u64 0, .int .u64 0] 29)) := (Frm.refl _ _).alloc _
 obtain ⟨wr, hwr⟩ := eX (ws.alloc (.cells #[.int .u64 0, .int .u64 0, .int .u64 0, .int .u64 0] 29))
 obtain ⟨br, hbr⟩ := eX (ws.heap.size)
 rw [hwr, hbr] at hrowr
 rw [hwr] at hfr
 have hb1 : ba + 1 = bs := by rw [← hbs, ← hwa, ← hba]; simp
 have hb2 : bs + 1 = br := by rw [← hbr, ← hws, ← hbs]; simp
 have hb3 : ba + 1 + 1 = br := by omega
 have HB1 := hid hb1
 have HB2 := hid hb2
 have HB3 := hid hb3
 have HFR : Hid (Frm [] w wr) := hid ((hfa.trans hfs (by simp)).trans hfr (by simp))
 have HRA : Hid (∀ W, Frm [] wr W → W.heap[ba]? = some (.cells r.arr 26 (0, 0))) := hid (fun W hf => hf.heap (hfr.heap (hfs.heap hrow (by simp)) (by simp)) (by simp))
 have HRS : Hid (∀ W, Frm [] wr W → W.heap[bs]? = some (.cells a.arr 29 (0, 0))) := hid (fun W hf => hf.heap (hfr.heap hrows (by simp)) (by simp))
 have HRB : Hid (∀ W, Frm [] wr W → W.heap[br]? = some (.cells #[.int .u64 0, .int .u64 0, .int .u64 0, .int .u64 0] 29 (0, 0))) := hid (fun W hf => hf.heap hrowr (by simp))
 have HWA := hid hwa
 have HWS := hid hws
 have HWR := hid hwr
 have HBA := hid hba
 have HBS := hid hbs
 have HBR := hid hbr
 have HX := hid (fun V (hf : Frm [] wr V) => rc_cells (HRA.out V hf))
 have HCK := hid (refCheck_any r P K D wr (hr.k0 HFR.out) hs hv)
 have HVS := hid (fun V (hf : Frm [] wr V) => hvs.kept (HFR.out.trans hf (by simp)))
 have HBO := hid (fun V (hf : Frm [] wr V) => refBody_any r P K D V (hr.k0 (HFR.out.trans hf (by simp))) hm)
 obtain ⟨BODY, hBODY⟩ := eX (bodyR r P K D)
 have hbd : ∀ z ∈ BODY, 0 ≤ z ∧ z < 256 := by rw [← hBODY]; exact bodyR_bd r P K D hr.db
 have hbl : BODY.length ≤ 2000 := by rw [← hBODY]; exact bodyR_len hm hr.pl hr.kl hr.dn
 have HBD := hid hbd
 have hb0 : recB a r P K D = recL a r.kind BODY := by unfold recB; rw [hBODY]
 have hb9 : selR a r P K D = sealR a (hbL r.kind BODY) := by unfold selR; rw [hBODY]
 rw [hBODY] at HBO
 rw [hb0, hb9] at HP
 have HSE := hid (fun V (hf : Frm [] wr V) p n c hn hpc hnb hrd => refSealed_any r.kind (by omega) (by omega) p n c BODY a ha V hn hpc hnb hrd hbd (HVS.out V hf))
 unfold SldP at HSE
 have HWB : Hid (br < wr.heap.size) := hid (lt_of_heap (HRB.out wr (Frm.refl _ _)))
 obtain ⟨nb, hnb⟩ := eX (BODY.length)
 have hrl : (recL a r.kind BODY).length = 37 + nb := by rw [recL_len, hnb]
 rw [hrl] at HP
 obtain ⟨RB, hRB⟩ := eX (recL a r.kind BODY)
 obtain ⟨T, hT⟩ := eX (sealR a (hbL r.kind BODY))
 rw [hRB, hT] at HP HSE
 rw [hnb] at HSE hbl
 rw [hRB] at hrl
 have HRL := hid hrl
 have HNB := hid hnb
 obtain ⟨t0, t1, t2, t3⟩ := T
 have hkb1 := hkb.1
 have hkb2 := hkb.2
 clear hbd hb0 hb9 ha hvs hBODY hnb hrl hRB hT hkb
 clear hrow hfa hwa hba hrows hfs hws hbs hrowr hfr hwr hbr hb1 hb2 hb3 hr hs hv
 rw [if_pos hm] at HCK
 clear hm
 obtain ⟨kind, name, typ, frm, guid, origin, snap, pp, pn, pc, obj, at_, many, kp, kn, kc, dp, dl, dc⟩ := r
 obtain ⟨s0, s1, s2, s3⟩ := a
 unfold S4.arr at HWS HRS HP HSE
 unfold Rc.arr at HWA HRA HCK HBO ⊢
 unfold S4.arr
 simp only at HWA HWS HRA HRS HX HCK HP HSE HBO hkb1 hkb2 ⊢
 obtain ⟨q0, q1, q2, q3, q4, q5, q6, q7, q8, q9, q10, q11, q12⟩ := HX.out wr (Frm.refl _ _)
 go_enter Tryz.func14, Tryz.ntmps14
 go_upto_region 1 with fail
 try rw [HWA.out]
 try rw [HBA.out]
 try rw [HBS.out]
 try rw [HB1.out]
 try rw [HWS.out]
 try rw [HB3.out]
 try rw [HBR.out]
 try rw [HB2.out]
 try rw [HWR.out]
 go_wp2_with fail
 refine HCK.out.mono ?_
 rintro e w1 ⟨rfl, hf1⟩
 have HF1 := hid hf1
 clear hf1 q0 q1 q2 q3 q4 q5 q6 q7 q8 q9 q10 q11 q12 HCK
 have HSX : Hid (∀ W, Frm [] wr W → (W.cell? ⟨ba, 0, none⟩ = some (.int .i64 kind) ∧ W.cell? ⟨ba, 1, none⟩ = some (.string name) ∧ W.cell? ⟨ba, 2, none⟩ = some (.int .i64 typ) ∧ W.cell? ⟨ba, 3, none⟩ = some (.int .i64 frm) ∧ W.cell? ⟨ba, 4, none⟩ = some (.int .i64 guid) ∧ W.cell? ⟨ba, 5, none⟩ = some (.int .i64 origin) ∧ W.cell? ⟨ba, 6, none⟩ = some (.string snap) ∧ W.cell? ⟨ba, 7, none⟩ = some (.slice pp pn pc) ∧ W.cell? ⟨ba, 8, none⟩ = some (.int .i64 obj) ∧ W.cell? ⟨ba, 9, none⟩ = some (.int .i64 at_) ∧ W.cell? ⟨ba, 10, none⟩ = some (.int .i64 many) ∧ W.cell? ⟨ba, 11, none⟩ = some (.slice kp kn kc) ∧ W.cell? ⟨ba, 12, none⟩ = some (.slice dp dl dc)) ∧ W.cell? ⟨bs, 0, none⟩ = some (.int .u64 s0) ∧ W.cell? ⟨bs, 1, none⟩ = some (.int .u64 s1) ∧ W.cell? ⟨bs, 2, none⟩ = some (.int .u64 s2) ∧ W.cell? ⟨bs, 3, none⟩ = some (.int .u64 s3)) := hid (fun V hf => ⟨HX.out V hf, by
  have h := HRS.out V hf
  refine ⟨?_, ?_, ?_, ?_⟩ <;> (rw [cell_of_row _ _ _ _ _ _ h]; rfl)⟩)
 go_upto_region 4 with fail
 go_cut [8, 9] from 16 to 24 (fun bv ov wx => ∃ (q : Option Addr) (d bz : Nat), bv = .slice q (37 + nb) d ∧ ov = .pointer (some ⟨bz, 0, none⟩) ∧ wx.heap[bz]? = some (.cells #[.int .u64 t0, .int .u64 t1, .int .u64 t2, .int .u64 t3] 29 (0, 0)) ∧ Hid (BufF wr none wx q (37 + nb) d RB) ∧ wr.heap.size ≤ bz)
 case first =>
  refine wp_region_tail (S := fun W => ((W.cell? ⟨ba, 0, none⟩ = some (.int .i64 kind) ∧ W.cell? ⟨ba, 1, none⟩ = some (.string name) ∧ W.cell? ⟨ba, 2, none⟩ = some (.int .i64 typ) ∧ W.cell? ⟨ba, 3, none⟩ = some (.int .i64 frm) ∧ W.cell? ⟨ba, 4, none⟩ = some (.int .i64 guid) ∧ W.cell? ⟨ba, 5, none⟩ = some (.int .i64 origin) ∧ W.cell? ⟨ba, 6, none⟩ = some (.string snap) ∧ W.cell? ⟨ba, 7, none⟩ = some (.slice pp pn pc) ∧ W.cell? ⟨ba, 8, none⟩ = some (.int .i64 obj) ∧ W.cell? ⟨ba, 9, none⟩ = some (.int .i64 at_) ∧ W.cell? ⟨ba, 10, none⟩ = some (.int .i64 many) ∧ W.cell? ⟨ba, 11, none⟩ = some (.slice kp kn kc) ∧ W.cell? ⟨ba, 12, none⟩ = some (.slice dp dl dc)) ∧ W.cell? ⟨bs, 0, none⟩ = some (.int .u64 s0) ∧ W.cell? ⟨bs, 1, none⟩ = some (.int .u64 s1) ∧ W.cell? ⟨bs, 2, none⟩ = some (.int .u64 s2) ∧ W.cell? ⟨bs, 3, none⟩ = some (.int .u64 s3))) 11 12 rfl (by kernel_rfl) (by kernel_rfl) ?_
  obtain ⟨wd, hwd⟩ := eX (w1.drew)
  rw [hwd]
  have HFW1 : Hid (Frm [] wr wd) := hid (by rw [← hwd]; exact HF1.out.drew)
  clear hwd
  refine hI (i := 0) (v := ?_) rfl ?_ (HSX.out _ HFW1.out) ?_
  rotate_left 1
  ·rintro W ⟨⟨k0, k1, k2, k3, k4, k5, k6, k7, k8, k9, k10, k11, k12⟩, j0, j1, j2, j3⟩; (try simp only [lA, lZ]); go_simp; try with_reducible rfl
  try simp only [lA, lZ, Act.put, lI, lW, lX]
  refine hI (i := 1) (v := ?_) rfl ?_ (HSX.out _ HFW1.out) ?_
  rotate_left 1
  ·rintro W ⟨⟨k0, k1, k2, k3, k4, k5, k6, k7, k8, k9, k10, k11, k12⟩, j0, j1, j2, j3⟩; (try simp only [lA, lS, lZ]); go_simp; try with_reducible rfl
  try simp only [lA, lS, lZ, Act.put, lI, lW, lX]
  refine hI (i := 2) (v := ?_) rfl ?_ (HSX.out _ HFW1.out) ?_
  rotate_left 1
  ·rintro W ⟨⟨k0, k1, k2, k3, k4, k5, k6, k7, k8, k9, k10, k11, k12⟩, j0, j1, j2, j3⟩; (try simp only [lA, lS, lZ]); go_simp; try with_reducible rfl
  try simp only [lA, lS, lZ, Act.put, lI, lW, lX]
  refine hI (i := 4) (v := ?_) rfl ?_ (HSX.out _ HFW1.out) ?_
  rotate_left 1
  ·rintro W ⟨⟨k0, k1, k2, k3, k4, k5, k6, k7, k8, k9, k10, k11, k12⟩, j0, j1, j2, j3⟩; (try simp only [lA, lS, lZ]); go_simp; try with_reducible rfl
  try simp only [lA, lS, lZ, Act.put, lI, lW, lX]
  refine wpAnyHT_two (i := 3) (j := 9) rfl rfl (by kernel_rfl) (by kernel_rfl) (by kernel_rfl) (fun K hK => ?_) (fun K hK => ?_)
  ·try simp only [lA, lS, lZ]
   go_simp
   refine (HBO.out _ HFW1.out).mono ?_
   rintro e w3 ⟨p3, n3, c3, rfl, hb3⟩
   have HB3 := hid hb3
   have HF3 : Hid (Frm [] wr w3) := hid (HFW1.out.trans hb3.nil.1 (by simp))
   have hn3 : n3 = nb := by rw [← hb3.len, HNB.out]
   subst hn3
   clear hb3
   refine hK _ _ (HSX.out _ HF3.out) ?_
   clear hK K
   try simp only [lA, lS, lZ, Act.put, lI, lW, lX]
   refine wpAnyHT_two (i := 5) (j := 9) rfl rfl (by kernel_rfl) (by kernel_rfl) (by kernel_rfl) (fun K hK => ?_) (fun K hK => ?_)
   ·try simp only [lA, lS, lZ]
    go_simp
    refine (HSE.out _ HF3.out p3 n3 c3 rfl (fun h1 h2 => HB3.out.own.capz h1 h2) (by omega) HB3.out.own.rd).mono ?_
    rintro e w5 ⟨q5, d5, rfl, hb5⟩
    have HB5 := hid hb5
    have HF5 : Hid (Frm [] wr w5) := hid (HF3.out.trans hb5.nil.1 (by simp))
    clear hb5
    refine hK _ _ (HSX.out _ HF5.out) ?_
    clear hK K
    try simp only [lA, lS, lZ, Act.put, lI, lW, lX]
    refine hI (i := 6) (v := ?_) rfl ?_ (HSX.out _ HF5.out) ?_
    rotate_left 1
    ·rintro W ⟨⟨k0, k1, k2, k3, k4, k5, k6, k7, k8, k9, k10, k11, k12⟩, j0, j1, j2, j3⟩; (try simp only [lA, lS, lZ]); go_simp; try with_reducible rfl
    try simp only [lA, lS, lZ, Act.put, lI, lW, lX]
    refine hI (i := 7) (v := ?_) rfl ?_ (HSX.out _ HF5.out) ?_
    rotate_left 1
    ·rintro W ⟨⟨k0, k1, k2, k3, k4, k5, k6, k7, k8, k9, k10, k11, k12⟩, j0, j1, j2, j3⟩; (try simp only [lA, lS, lZ]); go_simp; try with_reducible rfl
    try simp only [lA, lS, lZ, Act.put, lI, lW, lX]
    refine hI (i := 8) (v := ?_) rfl ?_ (HSX.out _ HF5.out) ?_
    rotate_left 1
    ·rintro W ⟨⟨k0, k1, k2, k3, k4, k5, k6, k7, k8, k9, k10, k11, k12⟩, j0, j1, j2, j3⟩; (try simp only [lA, lS, lZ]); go_simp; try with_reducible rfl
    try simp only [lA, lS, lZ, Act.put, lI, lW, lX]
    refine wpAnyHT_one (i := 9) rfl (by kernel_rfl) (by kernel_rfl) (fun K hK => ?_)
    try simp only [lA, lS, lZ]
    go_simp
    have hnew := heap_alloc_new (w5) (.cells #[.int .u64 0, .int .u64 0, .int .u64 0, .int .u64 0] 29)
    have hfn : Frm [] (w5) ((w5).alloc (.cells #[.int .u64 0, .int .u64 0, .int .u64 0, .int .u64 0] 29)) := (Frm.refl _ _).alloc _
    obtain ⟨wz, hwn⟩ := eX ((w5).alloc (.cells #[.int .u64 0, .int .u64 0, .int .u64 0, .int .u64 0] 29))
    obtain ⟨bz, hbz⟩ := eX ((w5).heap.size)
    rw [hwn, hbz] at hnew
    rw [hwn] at hfn
    have HNW := hid hnew
    have HFN := hid hfn
    have HZB : Hid ((w5).heap.size = bz) := hid hbz
    try rw [hwn]
    try rw [hbz]
    clear hnew hfn hwn hbz
    have HF9 : Hid (Frm [] wr wz) := hid (HF5.out.trans HFN.out (by simp))
    refine hK _ _ (HSX.out _ HF9.out) ?_
    clear hK K
    try simp only [lA, lS, lZ, Act.put, lI, lW, lX]
    refine hI (i := 10) (v := ?_) rfl ?_ (HSX.out _ HF9.out) ?_
    rotate_left 1
    ·rintro W ⟨⟨k0, k1, k2, k3, k4, k5, k6, k7, k8, k9, k10, k11, k12⟩, j0, j1, j2, j3⟩; (try simp only [lA, lS, lZ]); go_simp; try with_reducible rfl
    try simp only [lA, lS, lZ, Act.put, lI, lW, lX]
    have HBF : Hid (BufF wr none wz q5 (37 + n3) d5 RB) := hid ((buf_pre HF3.out HB5.out).post HFN.out)
    have HZN : Hid (∀ i ∈ blk q5, ¬ i = bz) := hid (fun i hi he => by have h1 := HB5.out.own.lows i hi; have h2 := HZB.out; omega)
    have HZL : Hid (wr.heap.size ≤ bz) := hid (by have h1 := HF5.out.size; have h2 := HZB.out; omega)
    refine wpAnyHT_end (by kernel_rfl) ?_
    simp only [List.drop_succ_cons, List.drop_zero]
    have hrow9 := HNW.out
    obtain ⟨h4, f4⟩ := set4 (y0 := .int .u64 t0) (y1 := .int .u64 t1) (y2 := .int .u64 t2) (y3 := .int .u64 t3) hrow9
    have y0 := fZ 0 hrow9
    have v0 := cR 0 (.int .u64 0) hrow9
    have y1 := fZ 1 hrow9
    have v1 := cR 1 (.int .u64 0) hrow9
    have y2 := fZ 2 hrow9
    have v2 := cR 2 (.int .u64 0) hrow9
    have y3 := fZ 3 hrow9
    have v3 := cR 3 (.int .u64 0) hrow9
    have H4 := hid h4
    have F4 := hid f4
    clear h4 f4 hrow9
    go_wp2_with fail
    go_meet
    case rel => exact ⟨q5, d5, bz, rfl, rfl, H4.out, hid (buf_set HBF.out F4.out HZN.out HZL.out), HZL.out⟩
   ·try simp only [lA, lS, lZ]
    go_simp
    have hnew := heap_alloc_new (w3) (.cells #[.int .u64 0, .int .u64 0, .int .u64 0, .int .u64 0] 29)
    have hfn : Frm [] (w3) ((w3).alloc (.cells #[.int .u64 0, .int .u64 0, .int .u64 0, .int .u64 0] 29)) := (Frm.refl _ _).alloc _
    obtain ⟨wz, hwn⟩ := eX ((w3).alloc (.cells #[.int .u64 0, .int .u64 0, .int .u64 0, .int .u64 0] 29))
    obtain ⟨bz, hbz⟩ := eX ((w3).heap.size)
    rw [hwn, hbz] at hnew
    rw [hwn] at hfn
    have HNW := hid hnew
    have HFN := hid hfn
    have HZB : Hid ((w3).heap.size = bz) := hid hbz
    try rw [hwn]
    try rw [hbz]
    clear hnew hfn hwn hbz
    have HF9 : Hid (Frm [] wr wz) := hid (HF3.out.trans HFN.out (by simp))
    have HOW := hid (HB3.out.own.kept HFN.out (by simp))
    refine hK _ _ (HSX.out _ HF9.out) ?_
    clear hK K
    try simp only [lA, lS, lZ, Act.put, lI, lW, lX]
    refine wpAnyHT_one (i := 5) rfl (by kernel_rfl) (by kernel_rfl) (fun K hK => ?_)
    try simp only [lA, lS, lZ]
    go_simp
    refine (HSE.out _ HF9.out p3 n3 c3 rfl (fun h1 h2 => HOW.out.capz h1 h2) (by omega) HOW.out.rd).mono ?_
    rintro e w5 ⟨q5, d5, rfl, hb5⟩
    have HB5 := hid hb5
    have HF5 : Hid (Frm [] wr w5) := hid (HF9.out.trans hb5.nil.1 (by simp))
    clear hb5
    refine hK _ _ (HSX.out _ HF5.out) ?_
    clear hK K
    try simp only [lA, lS, lZ, Act.put, lI, lW, lX]
    refine hI (i := 6) (v := ?_) rfl ?_ (HSX.out _ HF5.out) ?_
    rotate_left 1
    ·rintro W ⟨⟨k0, k1, k2, k3, k4, k5, k6, k7, k8, k9, k10, k11, k12⟩, j0, j1, j2, j3⟩; (try simp only [lA, lS, lZ]); go_simp; try with_reducible rfl
    try simp only [lA, lS, lZ, Act.put, lI, lW, lX]
    refine hI (i := 7) (v := ?_) rfl ?_ (HSX.out _ HF5.out) ?_
    rotate_left 1
    ·rintro W ⟨⟨k0, k1, k2, k3, k4, k5, k6, k7, k8, k9, k10, k11, k12⟩, j0, j1, j2, j3⟩; (try simp only [lA, lS, lZ]); go_simp; try with_reducible rfl
    try simp only [lA, lS, lZ, Act.put, lI, lW, lX]
    refine hI (i := 8) (v := ?_) rfl ?_ (HSX.out _ HF5.out) ?_
    rotate_left 1
    ·rintro W ⟨⟨k0, k1, k2, k3, k4, k5, k6, k7, k8, k9, k10, k11, k12⟩, j0, j1, j2, j3⟩; (try simp only [lA, lS, lZ]); go_simp; try with_reducible rfl
    try simp only [lA, lS, lZ, Act.put, lI, lW, lX]
    refine hI (i := 10) (v := ?_) rfl ?_ (HSX.out _ HF5.out) ?_
    rotate_left 1
    ·rintro W ⟨⟨k0, k1, k2, k3, k4, k5, k6, k7, k8, k9, k10, k11, k12⟩, j0, j1, j2, j3⟩; (try simp only [lA, lS, lZ]); go_simp; try with_reducible rfl
    try simp only [lA, lS, lZ, Act.put, lI, lW, lX]
    have HBF : Hid (BufF wr none w5 q5 (37 + n3) d5 RB) := hid (buf_pre HF9.out HB5.out)
    have HZN : Hid (∀ i ∈ blk q5, ¬ i = bz) := hid (fun i hi he => by have h1 := HB5.out.nil.2 i hi; have h2 := lt_of_heap HNW.out; omega)
    have HZL : Hid (wr.heap.size ≤ bz) := hid (by have h1 := HF3.out.size; have h2 := HZB.out; omega)
    refine wpAnyHT_end (by kernel_rfl) ?_
    simp only [List.drop_succ_cons, List.drop_zero]
    have hrow9 := (HB5.out.nil.1.heap HNW.out (by simp))
    obtain ⟨h4, f4⟩ := set4 (y0 := .int .u64 t0) (y1 := .int .u64 t1) (y2 := .int .u64 t2) (y3 := .int .u64 t3) hrow9
    have y0 := fZ 0 hrow9
    have v0 := cR 0 (.int .u64 0) hrow9
    have y1 := fZ 1 hrow9
    have v1 := cR 1 (.int .u64 0) hrow9
    have y2 := fZ 2 hrow9
    have v2 := cR 2 (.int .u64 0) hrow9
    have y3 := fZ 3 hrow9
    have v3 := cR 3 (.int .u64 0) hrow9
    have H4 := hid h4
    have F4 := hid f4
    clear h4 f4 hrow9
    go_wp2_with fail
    go_meet
    case rel => exact ⟨q5, d5, bz, rfl, rfl, H4.out, hid (buf_set HBF.out F4.out HZN.out HZL.out), HZL.out⟩
  ·try simp only [lA, lS, lZ]
   go_simp
   have hnew := heap_alloc_new (wd) (.cells #[.int .u64 0, .int .u64 0, .int .u64 0, .int .u64 0] 29)
   have hfn : Frm [] (wd) ((wd).alloc (.cells #[.int .u64 0, .int .u64 0, .int .u64 0, .int .u64 0] 29)) := (Frm.refl _ _).alloc _
   obtain ⟨wz, hwn⟩ := eX ((wd).alloc (.cells #[.int .u64 0, .int .u64 0, .int .u64 0, .int .u64 0] 29))
   obtain ⟨bz, hbz⟩ := eX ((wd).heap.size)
   rw [hwn, hbz] at hnew
   rw [hwn] at hfn
   have HNW := hid hnew
   have HFN := hid hfn
   have HZB : Hid ((wd).heap.size = bz) := hid hbz
   try rw [hwn]
   try rw [hbz]
   clear hnew hfn hwn hbz
   have HF9 : Hid (Frm [] wr wz) := hid (HFW1.out.trans HFN.out (by simp))
   refine hK _ _ (HSX.out _ HF9.out) ?_
   clear hK K
   try simp only [lA, lS, lZ, Act.put, lI, lW, lX]
   refine wpAnyHT_one (i := 3) rfl (by kernel_rfl) (by kernel_rfl) (fun K hK => ?_)
   try simp only [lA, lS, lZ]
   go_simp
   refine (HBO.out _ HF9.out).mono ?_
   rintro e w3 ⟨p3, n3, c3, rfl, hb3⟩
   have HB3 := hid hb3
   have HF3 : Hid (Frm [] wr w3) := hid (HF9.out.trans hb3.nil.1 (by simp))
   have hn3 : n3 = nb := by rw [← hb3.len, HNB.out]
   subst hn3
   clear hb3
   refine hK _ _ (HSX.out _ HF3.out) ?_
   clear hK K
   try simp only [lA, lS, lZ, Act.put, lI, lW, lX]
   refine wpAnyHT_one (i := 5) rfl (by kernel_rfl) (by kernel_rfl) (fun K hK => ?_)
   try simp only [lA, lS, lZ]
   go_simp
   refine (HSE.out _ HF3.out p3 n3 c3 rfl (fun h1 h2 => HB3.out.own.capz h1 h2) (by omega) HB3.out.own.rd).mono ?_
   rintro e w5 ⟨q5, d5, rfl, hb5⟩
   have HB5 := hid hb5
   have HF5 : Hid (Frm [] wr w5) := hid (HF3.out.trans hb5.nil.1 (by simp))
   clear hb5
   refine hK _ _ (HSX.out _ HF5.out) ?_
   clear hK K
   try simp only [lA, lS, lZ, Act.put, lI, lW, lX]
   refine hI (i := 6) (v := ?_) rfl ?_ (HSX.out _ HF5.out) ?_
   rotate_left 1
   ·rintro W ⟨⟨k0, k1, k2, k3, k4, k5, k6, k7, k8, k9, k10, k11, k12⟩, j0, j1, j2, j3⟩; (try simp only [lA, lS, lZ]); go_simp; try with_reducible rfl
   try simp only [lA, lS, lZ, Act.put, lI, lW, lX]
   refine hI (i := 7) (v := ?_) rfl ?_ (HSX.out _ HF5.out) ?_
   rotate_left 1
   ·rintro W ⟨⟨k0, k1, k2, k3, k4, k5, k6, k7, k8, k9, k10, k11, k12⟩, j0, j1, j2, j3⟩; (try simp only [lA, lS, lZ]); go_simp; try with_reducible rfl
   try simp only [lA, lS, lZ, Act.put, lI, lW, lX]
   refine hI (i := 8) (v := ?_) rfl ?_ (HSX.out _ HF5.out) ?_
   rotate_left 1
   ·rintro W ⟨⟨k0, k1, k2, k3, k4, k5, k6, k7, k8, k9, k10, k11, k12⟩, j0, j1, j2, j3⟩; (try simp only [lA, lS, lZ]); go_simp; try with_reducible rfl
   try simp only [lA, lS, lZ, Act.put, lI, lW, lX]
   refine hI (i := 10) (v := ?_) rfl ?_ (HSX.out _ HF5.out) ?_
   rotate_left 1
   ·rintro W ⟨⟨k0, k1, k2, k3, k4, k5, k6, k7, k8, k9, k10, k11, k12⟩, j0, j1, j2, j3⟩; (try simp only [lA, lS, lZ]); go_simp; try with_reducible rfl
   try simp only [lA, lS, lZ, Act.put, lI, lW, lX]
   have HBF : Hid (BufF wr none w5 q5 (37 + n3) d5 RB) := hid (buf_pre HF3.out HB5.out)
   have HZN : Hid (∀ i ∈ blk q5, ¬ i = bz) := hid (fun i hi he => by have h1 := HB5.out.nil.2 i hi; have h2 := lt_of_heap HNW.out; have h3 := HB3.out.nil.1.size; omega)
   have HZL : Hid (wr.heap.size ≤ bz) := hid (by have h1 := HFW1.out.size; have h2 := HZB.out; omega)
   refine wpAnyHT_end (by kernel_rfl) ?_
   simp only [List.drop_succ_cons, List.drop_zero]
   have hrow9 := (HB5.out.nil.1.heap (HB3.out.nil.1.heap HNW.out (by simp)) (by simp))
   obtain ⟨h4, f4⟩ := set4 (y0 := .int .u64 t0) (y1 := .int .u64 t1) (y2 := .int .u64 t2) (y3 := .int .u64 t3) hrow9
   have y0 := fZ 0 hrow9
   have v0 := cR 0 (.int .u64 0) hrow9
   have y1 := fZ 1 hrow9
   have v1 := cR 1 (.int .u64 0) hrow9
   have y2 := fZ 2 hrow9
   have v2 := cR 2 (.int .u64 0) hrow9
   have y3 := fZ 3 hrow9
   have v3 := cR 3 (.int .u64 0) hrow9
   have H4 := hid h4
   have F4 := hid f4
   clear h4 f4 hrow9
   go_wp2_with fail
   go_meet
   case rel => exact ⟨q5, d5, bz, rfl, rfl, H4.out, hid (buf_set HBF.out F4.out HZN.out HZL.out), HZL.out⟩
 obtain ⟨q, d, bz, rfl, rfl, hrz, hbuf, hzl⟩ := hcut
 have HBUF := hid hbuf.out
 have HZL := hid hzl
 have HRZ := hid hrz
 have HZ5 : Hid ((wc.drew.cell? ⟨bz, 0, none⟩ = some (.int .u64 t0) ∧ wc.drew.cell? ⟨bz, 1, none⟩ = some (.int .u64 t1) ∧ wc.drew.cell? ⟨bz, 2, none⟩ = some (.int .u64 t2) ∧ wc.drew.cell? ⟨bz, 3, none⟩ = some (.int .u64 t3))) := hid (by
  have h := ((Frm.refl [] wc).drew).heap HRZ.out (by simp)
  refine ⟨?_, ?_, ?_, ?_⟩ <;> (rw [cell_of_row _ _ _ _ _ _ h]; rfl))
 clear hbuf hzl hrz
 go_upto_region 5 with fail
 refine wp_region_tail (S := fun W => (W.cell? ⟨bz, 0, none⟩ = some (.int .u64 t0) ∧ W.cell? ⟨bz, 1, none⟩ = some (.int .u64 t1) ∧ W.cell? ⟨bz, 2, none⟩ = some (.int .u64 t2) ∧ W.cell? ⟨bz, 3, none⟩ = some (.int .u64 t3))) 3 5 rfl (by kernel_rfl) (by kernel_rfl) ?_
 refine hI (i := 0) (v := ?_) rfl ?_ HZ5.out ?_
 rotate_left 1
 ·rintro W ⟨j0, j1, j2, j3⟩; (try simp only [lA, lZ]); go_simp; try with_reducible rfl
 try simp only [lA, lZ, Act.put, lI, lW, lX]
 refine hI (i := 1) (v := ?_) rfl ?_ HZ5.out ?_
 rotate_left 1
 ·rintro W ⟨j0, j1, j2, j3⟩; (try simp only [lA, lS, lZ]); go_simp; try with_reducible rfl
 try simp only [lA, lS, lZ, Act.put, lI, lW, lX]
 refine hI (i := 2) (v := ?_) rfl ?_ HZ5.out ?_
 rotate_left 1
 ·rintro W ⟨j0, j1, j2, j3⟩; (try simp only [lA, lS, lZ]); go_simp; try with_reducible rfl
 try simp only [lA, lS, lZ, Act.put, lI, lW, lX]
 refine wpAnyHT_end (by kernel_rfl) ?_
 simp only [List.drop_succ_cons, List.drop_zero]
 obtain ⟨wd, hwd⟩ := eX (wc.drew)
 have HFD : Hid (Frm [] wc wd) := hid (by rw [← hwd]; exact (Frm.refl [] wc).drew)
 rw [hwd]
 have HBD2 := hid (HBUF.out.post HFD.out)
 have hrz := HRB.out wd HBD2.out.nil.1
 have y0 := fZ 0 hrz
 have v0 := cR 0 (.int .u64 0) hrz
 have y1 := fZ 1 hrz
 have v1 := cR 1 (.int .u64 0) hrz
 have y2 := fZ 2 hrz
 have v2 := cR 2 (.int .u64 0) hrz
 have y3 := fZ 3 hrz
 have v3 := cR 3 (.int .u64 0) hrz
 clear hwd
 go_wp2_with fail
 obtain ⟨h4, f4⟩ := set4 (y0 := .int .u64 t0) (y1 := .int .u64 t1) (y2 := .int .u64 t2) (y3 := .int .u64 t3) hrz
 obtain ⟨Wz, hWz⟩ := eX (((((wd.setCell ⟨br, 0, none⟩ (.int .u64 t0)).setCell ⟨br, 1, none⟩ (.int .u64 t1)).setCell ⟨br, 2, none⟩ (.int .u64 t2)).setCell ⟨br, 3, none⟩ (.int .u64 t3)))
 rw [hWz] at h4 f4
 rw [hWz]
 have u0 := cR 0 (.int .u64 t0) h4
 have u1 := cR 1 (.int .u64 t1) h4
 have u2 := cR 2 (.int .u64 t2) h4
 have u3 := cR 3 (.int .u64 t3) h4
 refine bodyPost_ret (v := .tuple #[.slice q (37 + nb) d, .agg #[.int .u64 t0, .int .u64 t1, .int .u64 t2, .int .u64 t3], .int .i64 0]) (by simp [results, Tryz.results14, go_sem, u0, u1, u2, u3]) rfl ?_
 refine HP.out _ _ _ _ rfl ⟨HBD2.out.own.kept f4 (fun i hi he => ?_), HBD2.out.len, ?_, ?_⟩
 ·rw [own_blk] at hi
  rw [List.mem_singleton] at he
  have h1 := HBD2.out.nil.2 i hi
  have h2 := HWB.out
  omega
 ·have h1 : Frm [] w wd := HFR.out.trans HBD2.out.nil.1 (by simp)
  exact (h1.trans f4 (fun i hi hl => by rw [List.mem_singleton] at hi; have := HB3.out; have := HBA.out; omega)).mono (by simp)
 ·intro i hi
  have h1 := HBD2.out.nil.2 i hi
  have h2 := HFR.out.size
  right; omega
end
section
open Go.RowKit Go.Lib
structure RcLn (w : World) (r : Rc) (P : List Pr) (K D : List Int) (lo : Nat) : Prop where
 po : w.ownsRow 0 70 2 (.slice r.pp r.pn r.pc) r.pn (prC P)
 pl : P.length = r.pn
 pw : ∀ k ∈ blk r.pp, lo ≤ k
 ko : w.ownsRow 0 3 1 (.slice r.kp r.kn r.kc) r.kn (K.map (Value.int .i64))
 kl : K.length = r.kn
 kw : ∀ k ∈ blk r.kp, lo ≤ k
 ow : Own w 5 (.slice r.dp r.dl r.dc) D
 dl : D.length = r.dl
 dw : ∀ k ∈ blk r.dp, lo ≤ k
 db : ∀ z ∈ D, 0 ≤ z ∧ z < 256
 mx : r.pn ≤ 140737488355328 ∧ r.kn ≤ 140737488355328 ∧ r.dl ≤ 140737488355328
theorem RcLn.ok {w : World} {r : Rc} {P : List Pr} {K D : List Int} {lo : Nat} (h : RcLn w r P K D lo) : RcOk w r P K D := by
 refine ⟨?_, h.pl, ?_, h.kl, h.ow.rd, h.dl, h.db, by have := h.mx; omega⟩
 ·rcases rv_of1 h.po (by rw [prC_len, h.pl]) with h1 | ⟨g, o, he, hc⟩
  ·cases P with
   | nil => exact Or.inl rfl
   | cons x l => simp [prC] at h1
  ·refine Or.inr ⟨g, o, he, fun i x hx => ?_⟩
   obtain ⟨h1, h2⟩ := prC_at P i x hx
   rw [Nat.add_assoc]
   exact ⟨hc _ _ h1, hc _ _ h2⟩
 ·exact rv_of1 h.ko (by rw [List.length_map, h.kl, Nat.mul_one])
theorem RcLn.kept {S : List Nat} {w w' : World} {r : Rc} {P : List Pr} {K D : List Int} {lo : Nat} (h : RcLn w r P K D lo) (hf : Frm S w w') (h1 : ∀ k ∈ blk r.pp, k ∉ S) (h2 : ∀ k ∈ blk r.kp, k ∉ S) (h3 : ∀ k ∈ blk r.dp, k ∉ S) : RcLn w' r P K D lo :=
 ⟨ownsRow_kept h.po hf h1, h.pl, h.pw, ownsRow_kept h.ko hf h2, h.kl, h.kw, h.ow.kept hf (by rw [own_blk]; exact h3), h.dl, h.dw, h.db, h.mx⟩
theorem RcLn.k0 {w w' : World} {r : Rc} {P : List Pr} {K D : List Int} {lo : Nat} (h : RcLn w r P K D lo) (hf : Frm [] w w') : RcLn w' r P K D lo := h.kept hf (by simp) (by simp) (by simp)
theorem RcOwn.ln {w : World} {r : Rc} {P : List Pr} {K D : List Int} {lo : Nat} (h : RcOwn w r P K D lo) (hd : r.dl ≤ 140737488355328) : RcLn w r P K D lo := ⟨h.po, h.pl, h.pw, h.ko, h.kl, h.kw, h.ow, h.dl, h.dw, h.db, by have := h.mx; omega⟩
def ShpR (w w' : World) : Prop := ∀ (g : Nat) (cur : Array Value) (T : TypeId), w.heap[g]? = some (Obj.cells cur T (0, 0)) → ∃ cur' : Array Value, w'.heap[g]? = some (Obj.cells cur' T (0, 0)) ∧ cur'.size = cur.size
theorem ShpR.refl (w : World) : ShpR w w := fun _ cur _ h => ⟨cur, h, rfl⟩
theorem ShpR.trans {w w1 w2 : World} (h : ShpR w w1) (h2 : ShpR w1 w2) : ShpR w w2 := fun g cur T hg => by
 obtain ⟨c1, a1, b1⟩ := h g cur T hg
 obtain ⟨c2, a2, b2⟩ := h2 g c1 T a1
 exact ⟨c2, a2, by omega⟩
theorem ShpR.of {w w' : World} (h : Frm [] w w') : ShpR w w' := fun g cur T hg => ⟨cur, h.heap hg (by simp), rfl⟩
theorem ShpR.set {w : World} {g t : Nat} {cur : Array Value} {T : TypeId} {v : Value} (hg : w.heap[g]? = some (.cells cur T (0, 0))) : ShpR w (w.setCell ⟨g, t, none⟩ v) := fun g' cur' T' h => by
 by_cases e : g' = g
 ·subst e
  rw [hg] at h
  simp only [Option.some.injEq, Obj.cells.injEq] at h
  obtain ⟨rfl, rfl, _⟩ := h
  exact ⟨_, heap_setCell_same w g' t _ _ v hg, by simp⟩
 ·have hf : Frm [g] w (w.setCell ⟨g, t, none⟩ v) := (Frm.refl _ _).setCell _ _ (by simp)
  exact ⟨cur', hf.heap h (by simpa using e), rfl⟩
def BlkZ (w : World) (p : Option Addr) (m : Nat) : Prop := m = 0 ∨ ∃ g cur T, p = some ⟨g, 0, Option.none⟩ ∧ w.heap[g]? = some (Obj.cells cur T (0, 0)) ∧ m ≤ cur.size
theorem BlkZ.kept {w w' : World} {p : Option Addr} {m : Nat} (h : BlkZ w p m) (hs : ShpR w w') : BlkZ w' p m := by
 rcases h with h | ⟨g, cur, T, h1, h2, h3⟩
 ·exact Or.inl h
 ·obtain ⟨c, h4, h5⟩ := hs g cur T h2
  exact Or.inr ⟨g, c, T, h1, h4, by omega⟩
theorem owns_blockR {w : World} {T : TypeId} {sz : Nat} {p : Option Addr} {n c : Nat} {xs : List Value} (h : w.ownsRow 0 T sz (.slice p n c) n xs) : BlkZ w p (n * sz) := by
 rcases h.2 with ⟨_, h0⟩ | ⟨g, c', cur, he, _, hg, hc, hm, hs, ht⟩
 ·exact Or.inl (by rw [h0, Nat.zero_mul])
 ·simp only [Value.slice.injEq] at he
  exact Or.inr ⟨g, cur, T, he.1, hg, by rw [hs]; exact Nat.mul_le_mul_right _ hc⟩
def Rc.B (r : Rc) : List Nat := blk r.pp ++ (blk r.kp ++ blk r.dp)
structure SpR (w : World) (r : Rc) : Prop where
 p : BlkZ w r.pp (r.pn * 2)
 k : BlkZ w r.kp r.kn
 d : BlkZ w r.dp r.dl
 low : ∀ i ∈ r.B, i < w.heap.size
 mx : r.pn ≤ 140737488355328 ∧ r.kn ≤ 140737488355328 ∧ r.dl ≤ 140737488355328
theorem RcLn.sp {w : World} {r : Rc} {P : List Pr} {K D : List Int} {lo : Nat} (h : RcLn w r P K D lo) : SpR w r :=
 ⟨owns_blockR h.po, by have := owns_blockR h.ko; rwa [Nat.mul_one] at this, by
  have h2 : w.ownsRow 0 5 1 (.slice r.dp r.dl r.dc) r.dl (bv D) := by
   have h3 := h.ow
   unfold Own at h3
   rw [h.dl] at h3
   exact h3
  have := owns_blockR h2; rwa [Nat.mul_one] at this, fun i hi => by
  unfold Rc.B at hi
  simp only [List.mem_append] at hi
  rcases hi with hi | hi | hi
  ·exact ownsRow_low h.po i hi
  ·exact ownsRow_low h.ko i hi
  ·exact h.ow.lows i hi, h.mx⟩
theorem SpR.kept {w w' : World} {r : Rc} (h : SpR w r) (hs : ShpR w w') (hz : w.heap.size ≤ w'.heap.size) : SpR w' r := ⟨h.p.kept hs, h.k.kept hs, h.d.kept hs, fun i hi => Nat.lt_of_lt_of_le (h.low i hi) hz, h.mx⟩
end
section
open Go.RowKit Go.Lib
theorem sameTrue_any (r s : Rc) (P : List Pr) (K D : List Int) (w : World) (hr : RcOk w r P K D) (hs : RcOk w s P K D) (hc : r.core = s.core) :
  Calls Tryz.prog 11 #[.agg r.arr, .agg s.arr] w fun e w' => e = .returned (.bool true) ∧ Frm [] w w' := by
 have hp := hr.pl.symm.trans hs.pl
 have hk := hr.kl.symm.trans hs.kl
 have hd := hr.dn.symm.trans hs.dn
 obtain ⟨kind, name, typ, frm, guid, origin, snap, pp, pn, pc, obj, at_, many, kp, kn, kc, dp, dl, dc⟩ := r
 obtain ⟨kind', name', typ', frm', guid', origin', snap', pp', pn', pc', obj', at', many', kp', kn', kc', dp', dl', dc'⟩ := s
 unfold Rc.core at hc
 simp only [Rc.mk.injEq] at hc hp hk hd
 obtain ⟨rfl, rfl, rfl, rfl, rfl, rfl, rfl, _, _, _, rfl, rfl, rfl, _⟩ := hc
 subst hp hk hd
 have hrow := heap_alloc_new w (.cells (Rc.mk kind name typ frm guid origin snap pp pn pc obj at_ many kp kn kc dp dl dc).arr 26)
 have hfa : Frm [] w (w.alloc (.cells (Rc.mk kind name typ frm guid origin snap pp pn pc obj at_ many kp kn kc dp dl dc).arr 26)) := (Frm.refl _ _).alloc _
 obtain ⟨wa, hwa⟩ := eX (w.alloc (.cells (Rc.mk kind name typ frm guid origin snap pp pn pc obj at_ many kp kn kc dp dl dc).arr 26))
 obtain ⟨ba, hba⟩ := eX (w.heap.size)
 rw [hwa, hba] at hrow
 rw [hwa] at hfa
 have hrow2 := heap_alloc_new wa (.cells (Rc.mk kind name typ frm guid origin snap pp' pn pc' obj at_ many kp' kn kc' dp' dl dc').arr 26)
 have hfb : Frm [] wa (wa.alloc (.cells (Rc.mk kind name typ frm guid origin snap pp' pn pc' obj at_ many kp' kn kc' dp' dl dc').arr 26)) := (Frm.refl _ _).alloc _
 obtain ⟨wb, hwb⟩ := eX (wa.alloc (.cells (Rc.mk kind name typ frm guid origin snap pp' pn pc' obj at_ many kp' kn kc' dp' dl dc').arr 26))
 obtain ⟨bb, hbb⟩ := eX (wa.heap.size)
 rw [hwb, hbb] at hrow2
 rw [hwb] at hfb
 have hb1 : ba + 1 = bb := by rw [← hbb, ← hwa, ← hba]; simp
 have HB1 := hid hb1
 have HFB : Hid (Frm [] w wb) := hid (hfa.trans hfb (by simp))
 have HX := hid (fun V (hf : Frm [] wb V) => rc_cells (hf.heap (hfb.heap hrow (by simp)) (by simp)))
 have HY := hid (fun V (hf : Frm [] wb V) => rc_cells (hf.heap hrow2 (by simp)))
 have HR := hid (fun V (hf : Frm [] wb V) => hr.k0 (HFB.out.trans hf (by simp)))
 have HS := hid (fun V (hf : Frm [] wb V) => hs.k0 (HFB.out.trans hf (by simp)))
 have HWA := hid hwa
 have HWB := hid hwb
 have HBA := hid hba
 have HBB := hid hbb
 have HPL : Hid (P.length = pn) := hid hr.pl
 have HKL : Hid (K.length = kn) := hid hr.kl
 have hmx := hr.mx
 simp only at hmx
 clear hrow hfa hwa hba hrow2 hfb hwb hbb hb1 hr hs
 unfold Rc.arr at HWA HWB ⊢
 simp only at HX HY HR HS HWA HWB ⊢
 obtain ⟨x0, x1, x2, x3, x4, x5, x6, x7, x8, x9, x10, x11, x12⟩ := HX.out wb (Frm.refl _ _)
 obtain ⟨y0, y1, y2, y3, y4, y5, y6, y7, y8, y9, y10, y11, y12⟩ := HY.out wb (Frm.refl _ _)
 have hcv1 := cv_any (P := Tryz.prog) (w := wb) 24 5 9 Tryz.underlying24 Tryz.underlying5 Tryz.underlying9 (n := dl) (HR.out wb (Frm.refl _ _)).dr dc (HR.out wb (Frm.refl _ _)).dn
 have hcv2 := cv_any (P := Tryz.prog) (w := wb) 24 5 9 Tryz.underlying24 Tryz.underlying5 Tryz.underlying9 (n := dl) (HS.out wb (Frm.refl _ _)).dr dc' (HS.out wb (Frm.refl _ _)).dn
 go_enter Tryz.func11, Tryz.ntmps11
 go_upto_region 1 with fail
 try rw [HWA.out]
 try rw [HBA.out]
 try rw [HBB.out]
 try rw [HB1.out]
 try rw [HWB.out]
 go_wp2_with fail
 clear x0 x1 x2 x3 x4 x5 x6 x7 x8 x9 x10 x11 x12 y0 y1 y2 y3 y4 y5 y6 y7 y8 y9 y10 y11 y12 hcv1 hcv2
 go_loopw [5] (fun i wr => ∃ t : Nat, t ≤ pn ∧ i = .int .i64 (t : Int) ∧ Hid (Frm [] wb wr)) (fun i _ => pn - (intOf i).toNat)
 case atStart => exact ⟨0, Nat.zero_le _, rfl, hid (Frm.refl _ _)⟩
 case round =>
  obtain ⟨t, ht, rfl, hf⟩ := hrel
  have HF := hid hf.out
  clear hf
  obtain ⟨x0, x1, x2, x3, x4, x5, x6, x7, x8, x9, x10, x11, x12⟩ := HX.out wr HF.out
  obtain ⟨y0, y1, y2, y3, y4, y5, y6, y7, y8, y9, y10, y11, y12⟩ := HY.out wr HF.out
  clear x0 x1 x2 x3 x4 x5 x6 x8 x9 x10 x12 y0 y1 y2 y3 y4 y5 y6 y8 y9 y10 y12
  by_cases hlt : t < pn
  case pos =>
   have t1 : (t : Int) < (pn : Int) := by omega
   obtain ⟨g1, o1, rfl, k1⟩ := (HR.out wr HF.out).pr.at (i := t) (by rw [HPL.out]; exact hlt)
   obtain ⟨g2, o2, rfl, k2⟩ := (HS.out wr HF.out).pr.at (i := t) (by rw [HPL.out]; exact hlt)
   obtain ⟨z1, z3⟩ := k1 t (by rw [HPL.out]; exact hlt)
   obtain ⟨z2, z4⟩ := k2 t (by rw [HPL.out]; exact hlt)
   obtain ⟨pa, hpa⟩ := eX (P[t]'(by rw [HPL.out]; exact hlt))
   rw [hpa] at z1 z2 z3 z4
   obtain ⟨a0, a1⟩ := pa
   have hne := fun W => neqPr a0 a1 a0 a1 W
   rw [decide_eq_true rfl] at hne
   have hne2 : ∀ W, (binOp .neq 70 (.agg #[.string a0, .string a1]) (.agg #[.string a0, .string a1])).run Tryz.prog W = .ok (.bool false) W := hne
   have HF2 : Hid (∀ k, Frm [] wb (wr.drewN k)) := hid (fun k => HF.out.drewN k)
   clear k1 k2 hpa hne
   go_wp2_with fail
   go_quiet (fail)
   go_wp2_with fail
   go_roundw
   case rel => exact ⟨t + 1, by omega, by go_num, hid (HF2.out _)⟩
   case measure => simp [intOf] <;> omega
  obtain rfl : t = pn := by omega
  clear hlt
  obtain ⟨wc, hwc⟩ := eX (wr)
  subst hwc
  go_wp2_with fail
  clear x7 x11 y7 y11
  go_loopw [6] (fun i wr2 => ∃ u : Nat, u ≤ kn ∧ i = .int .i64 (u : Int) ∧ Hid (Frm [] wb wr2)) (fun i _ => kn - (intOf i).toNat)
  case atStart => exact ⟨0, Nat.zero_le _, rfl, HF⟩
  case round =>
   clear HF
   obtain ⟨u, hu, rfl, hf⟩ := hrel
   have HF := hid hf.out
   clear hf
   obtain ⟨x0, x1, x2, x3, x4, x5, x6, x7, x8, x9, x10, x11, x12⟩ := HX.out _ HF.out
   obtain ⟨y0, y1, y2, y3, y4, y5, y6, y7, y8, y9, y10, y11, y12⟩ := HY.out _ HF.out
   clear x0 x1 x2 x3 x4 x5 x6 x7 x8 x9 x10 x12 y0 y1 y2 y3 y4 y5 y6 y7 y8 y9 y10 y12
   by_cases hlt : u < kn
   case pos =>
    have t1 : (u : Int) < (kn : Int) := by omega
    obtain ⟨g1, o1, rfl, k1⟩ := (HR.out _ HF.out).kr.at (i := u) (by rw [HKL.out]; exact hlt)
    obtain ⟨g2, o2, rfl, k2⟩ := (HS.out _ HF.out).kr.at (i := u) (by rw [HKL.out]; exact hlt)
    have z1 := k1 u (by rw [HKL.out]; exact hlt)
    have z2 := k2 u (by rw [HKL.out]; exact hlt)
    have HF2 := hid (fun k => HF.out.drewN k)
    obtain ⟨x, hx⟩ := eX (zA K u)
    rw [hx] at z1 z2
    clear k1 k2 hx
    go_wp2_with fail
    go_quiet (fail)
    go_wp2_with fail
    go_roundw
    case rel => exact ⟨u + 1, by omega, by go_num, hid (HF2.out _)⟩
    case measure => simp [intOf] <;> omega
   obtain rfl : u = kn := by omega
   clear hlt
   go_wp2_with fail
   try go_returns
   exact ⟨rfl, HFB.out.trans HF.out (by simp)⟩
end
section
open Go.RowKit Go.Lib
def encB (a : S4) (r : Rc) (P : List Pr) (K D : List Int) : List Int := if RcMay r P K D then recB a r P K D else []
def encS (a : S4) (r : Rc) (P : List Pr) (K D : List Int) : S4 := if RcMay r P K D then selR a r P K D else S4.z
def encE (r : Rc) (P : List Pr) (K D : List Int) : Int := if RcMay r P K D then 0 else 200
def EncU (w : World) (a : S4) (r : Rc) (P : List Pr) (K D : List Int) (e : Ending) (w' : World) : Prop := ∃ p n c, e = .returned (.tuple #[.slice p n c, .agg (encS a r P K D).arr, .int .i64 (encE r P K D)]) ∧ Rd w' p (encB a r P K D) ∧ (encB a r P K D).length = n ∧ (∀ k ∈ blk p, w.heap.size ≤ k ∧ k < w'.heap.size) ∧ Frm [] w w'
theorem refEncodeU_any (r : Rc) (P : List Pr) (K D : List Int) (a : S4) (ha : a.Bd) (w : World) (hr : RcOk w r P K D) (hs : r.name.size ≤ 140737488355328) (hv : PvOk P) (hvs : Vars w) :
  Calls Tryz.prog 14 #[.agg r.arr, .agg a.arr] w (EncU w a r P K D) := by
 by_cases hm : RcMay r P K D
 ·refine (refEncode_ok r P K D a w hr hs hv hm ha hvs).mono fun e w' h => ?_
  obtain ⟨q, n, d, rfl, hn, hb⟩ := h
  unfold EncU encB encS encE
  simp only [if_pos hm]
  exact ⟨q, n, d, rfl, hb.own.rd, hn.symm, fun k hk => ⟨hb.nil.2 k hk, hb.own.lows k hk⟩, hb.nil.1⟩
 ·refine (refEncode_bad r P K D a w hr hs hv hm).mono fun e w' h => ?_
  obtain ⟨rfl, hf⟩ := h
  unfold EncU encB encS encE
  simp only [if_neg hm]
  exact ⟨none, 0, 0, rfl, Rd.nil _ _, rfl, by simp [blk], hf⟩
end
section
open Go.RowKit Go.Lib
def StrFP (w : World) (L : List Rk) (e : Ending) (w' : World) : Prop := Frm [] w w' ∧ ((¬ allMay L ∧ e = .returned (.tuple #[.slice none 0 0, .int .i64 200])) ∨ (allMay L ∧ 1048576 < (strF L L.length).length ∧ e = .returned (.tuple #[.slice none 0 0, .int .i64 2])) ∨
 (allMay L ∧ (strF L L.length).length ≤ 1048576 ∧ ∃ p n c, e = .returned (.tuple #[.slice p n c, .int .i64 0]) ∧ n = (strF L L.length).length ∧ Own w' 5 (.slice p n c) (strF L L.length) ∧ (∀ k ∈ blk p, w.heap.size ≤ k)))
theorem refStream_any (p : Option Addr) (n c : Nat) (L : List Rk) (w : World) (hn : L.length = n) (hnb : 2100 * n ≤ 140737488351232) (hrd : RdRk w p L) (hpv : ∀ i, i < n → PvOk (rkA L i).P) (hvs : Vars w) :
  Calls Tryz.prog 18 #[.slice p n c] w (StrFP w L) := by
 obtain ⟨PO, hPO⟩ : ∃ PO : Ending → World → Prop, StrFP w L = PO := ⟨_, rfl⟩
 rw [hPO]
 have HP1 : Hid (∀ w', ¬ allMay L → Frm [] w w' → PO (.returned (.tuple #[.slice none 0 0, .int .i64 200])) w') := hid (fun w' h1 h2 => by rw [← hPO]; exact ⟨h2, Or.inl ⟨h1, rfl⟩⟩)
 have HP2 : Hid (∀ w', allMay L → 1048576 < (strF L L.length).length → Frm [] w w' → PO (.returned (.tuple #[.slice none 0 0, .int .i64 2])) w') := hid (fun w' h1 h2 h3 => by rw [← hPO]; exact ⟨h3, Or.inr (Or.inl ⟨h1, h2, rfl⟩)⟩)
 have HP3 : Hid (∀ p m c w', allMay L → (strF L L.length).length ≤ 1048576 → m = (strF L L.length).length → Own w' 5 (.slice p m c) (strF L L.length) → (∀ k ∈ blk p, w.heap.size ≤ k) → Frm [] w w' → PO (.returned (.tuple #[.slice p m c, .int .i64 0])) w') := hid (fun p m c w' h1 h2 h3 h4 h5 h6 => by rw [← hPO]; exact ⟨h6, Or.inr (Or.inr ⟨h1, h2, p, m, c, rfl, h3, h4, h5⟩)⟩)
 have HRD := hid hrd
 have HLN := hid hn
 have HPV := hid hpv
 have HVS := hid hvs
 have HBS0 : Hid (∀ z, w.heap.size = z → z = w.heap.size) := hid (fun z h => h.symm)
 have hrow := heap_alloc_new w (.cells #[.int .u64 0, .int .u64 0, .int .u64 0, .int .u64 0] 29)
 have hfs : Frm [] w (w.alloc (.cells #[.int .u64 0, .int .u64 0, .int .u64 0, .int .u64 0] 29)) := (Frm.refl _ _).alloc _
 obtain ⟨ws, hws⟩ := eX (w.alloc (.cells #[.int .u64 0, .int .u64 0, .int .u64 0, .int .u64 0] 29))
 obtain ⟨bs, hbs⟩ := eX (w.heap.size)
 rw [hws, hbs] at hrow
 rw [hws] at hfs
 have q0 := cR 0 (.int .u64 0) hrow
 have m0 := fZ 0 hrow
 have q1 := cR 1 (.int .u64 0) hrow
 have m1 := fZ 1 hrow
 have q2 := cR 2 (.int .u64 0) hrow
 have m2 := fZ 2 hrow
 have q3 := cR 3 (.int .u64 0) hrow
 have m3 := fZ 3 hrow
 go_enter Tryz.func18, Tryz.ntmps18
 go_upto_region 3 with fail
 try rw [hws]
 try rw [hbs]
 go_upto_region 4 with fail
 obtain ⟨h4, f4⟩ := set4 (y0 := .int .u64 0) (y1 := .int .u64 0) (y2 := .int .u64 0) (y3 := .int .u64 0) hrow
 obtain ⟨W4, hW4⟩ := eX (((((ws.setCell ⟨bs, 0, none⟩ (.int .u64 0)).setCell ⟨bs, 1, none⟩ (.int .u64 0)).setCell ⟨bs, 2, none⟩ (.int .u64 0)).setCell ⟨bs, 3, none⟩ (.int .u64 0)))
 rw [hW4] at h4 f4
 try rw [hW4]
 have HROW := hid h4
 have HFS : Hid (Frm [] w W4) := hid (hfs.trans f4 (fun i hi hl => by rw [List.mem_singleton] at hi; omega))
 have HBS := hid hbs
 clear h4 f4 hW4 hrow hfs hbs hws hPO hn hrd hpv hvs q0 q1 q2 q3 m0 m1 m2 m3 HBS0
 go_loopw [4, 6] (fun al i wr => ∃ (t A : Nat) (q : Option Addr) (d : Nat), t ≤ n ∧ A ≤ 2100 * t ∧ al = .slice q A d ∧ i = .int .i64 (t : Int) ∧ Hid (A = (strF L t).length) ∧ Hid (Own wr 5 (.slice q A d) (strF L t)) ∧ Hid (∀ k ∈ blk q, bs < k) ∧ Hid (wr.heap[bs]? = some (.cells (strS L t).arr 29 (0, 0))) ∧ Hid (Frm [] w wr) ∧ Hid (∀ j, j < t → (rkA L j).may) ∧ Hid (bs < wr.heap.size)) (fun _ i _ => n - (intOf i).toNat)
 case atStart => exact ⟨0, 0, none, 0, Nat.zero_le _, by omega, rfl, rfl, hid rfl, hid (Own.nil _ _), hid (by simp [blk]), hid HROW.out, hid HFS.out, hid (fun j hj => by omega), hid (lt_of_heap HROW.out)⟩
 case round =>
  obtain ⟨t, A, q, d, ht, hA, rfl, rfl, hal, how, hnw, hsr, hf, hmy, hbl⟩ := hrel
  have HAL := hid hal.out
  have HOW := hid how.out
  have HNW := hid hnw.out
  have HSR := hid hsr.out
  have HF := hid hf.out
  have HMY := hid hmy.out
  have HBL := hid hbl.out
  clear hal how hnw hsr hf hmy hbl
  by_cases hlt : t < n
  case neg =>
   obtain rfl : t = n := by omega
   have HAM : Hid (allMay L) := hid (fun i hi => HMY.out i (by rw [← HLN.out]; exact hi))
   have HEQ : Hid (strF L L.length = strF L t) := hid (by rw [HLN.out])
   clear hlt
   by_cases hlong : 1048576 < A
   case pos =>
    have i1 : (1048576 : Int) < (A : Int) := by omega
    have HX := hid (HP2.out wr HAM.out (by rw [HEQ.out, ← HAL.out]; exact hlong) HF.out)
    clear hlong
    go_wp2_with fail
    try go_returns
    exact HX.out
   have i1 : ¬ (1048576 : Int) < (A : Int) := by omega
   have HX := hid (HP3.out q A d wr HAM.out (by rw [HEQ.out, ← HAL.out]; omega) (by rw [HEQ.out]; exact HAL.out) (by rw [HEQ.out]; exact HOW.out) (fun k hk => by have := HNW.out k hk; have := HBS.out; omega) HF.out)
   clear hlong
   go_wp2_with fail
   try go_returns
   exact HX.out
  have t1 : (t : Int) < (n : Int) := by omega
  have hget := rkA_get (L := L) (t := t) (by rw [HLN.out]; exact hlt)
  obtain ⟨g0, o0, rfl, hc0⟩ : ∃ g o, p = some ⟨g, o, none⟩ ∧ ((∀ j u, (rkA L t).r.arr[j]? = some u → wr.cell? ⟨g, o + t * 13 + j, none⟩ = some u) ∧ RcOk wr (rkA L t).r (rkA L t).P (rkA L t).K (rkA L t).D ∧ (rkA L t).r.name.size ≤ 140737488355328) := by
   rcases HRD.out.k0 HF.out with h | ⟨g, o, he, hc⟩
   ·rw [h] at hget; simp at hget
   ·exact ⟨g, o, he, hc t _ hget⟩
  obtain ⟨hcell, hok, hns⟩ := hc0
  have hpvt := HPV.out t hlt
  have hbd := strS_Bd L t
  have HEN := hid (fun V (hv : Frm [] wr V) => refEncodeU_any (rkA L t).r (rkA L t).P (rkA L t).K (rkA L t).D (strS L t) hbd V (hok.k0 hv) hns hpvt (HVS.out.kept (HF.out.trans hv (by simp))))
  unfold EncU at HEN
  have hpl : (rkA L t).P.length = (rkA L t).r.pn ∧ (rkA L t).K.length = (rkA L t).r.kn ∧ (rkA L t).D.length = (rkA L t).r.dl := ⟨hok.pl, hok.kl, hok.dn⟩
  have HYES : Hid ((rkA L t).may → encE (rkA L t).r (rkA L t).P (rkA L t).K (rkA L t).D = 0 ∧ strF L (t + 1) = strF L t ++ encB (strS L t) (rkA L t).r (rkA L t).P (rkA L t).K (rkA L t).D ∧ strS L (t + 1) = encS (strS L t) (rkA L t).r (rkA L t).P (rkA L t).K (rkA L t).D ∧ (encB (strS L t) (rkA L t).r (rkA L t).P (rkA L t).K (rkA L t).D).length ≤ 2100 ∧ 0 < (encB (strS L t) (rkA L t).r (rkA L t).P (rkA L t).K (rkA L t).D).length) := hid (fun hm => by
   have hm2 : RcMay (rkA L t).r (rkA L t).P (rkA L t).K (rkA L t).D := hm
   have e1 : encB (strS L t) (rkA L t).r (rkA L t).P (rkA L t).K (rkA L t).D = recB (strS L t) (rkA L t).r (rkA L t).P (rkA L t).K (rkA L t).D := by unfold encB; rw [if_pos hm2]
   refine ⟨by unfold encE; rw [if_pos hm2], by rw [e1]; rfl, by unfold encS; rw [if_pos hm2]; rfl, ?_⟩
   rw [e1]
   have := bodyR_len hm2 hpl.1 hpl.2.1 hpl.2.2
   unfold recB
   rw [recL_len]
   exact ⟨by omega, by omega⟩)
  have HNO : Hid (¬ (rkA L t).may → encE (rkA L t).r (rkA L t).P (rkA L t).K (rkA L t).D = 200) := hid (fun hm => by unfold encE; exact if_neg hm)
  have HNA : Hid (¬ (rkA L t).may → ¬ allMay L) := hid (fun hm h => hm (h t (by rw [HLN.out]; exact hlt)))
  obtain ⟨RB, hRB⟩ := eX (encB (strS L t) (rkA L t).r (rkA L t).P (rkA L t).K (rkA L t).D)
  obtain ⟨T, hT⟩ := eX (encS (strS L t) (rkA L t).r (rkA L t).P (rkA L t).K (rkA L t).D)
  obtain ⟨EV, hEV⟩ := eX (encE (rkA L t).r (rkA L t).P (rkA L t).K (rkA L t).D)
  rw [hRB, hT, hEV] at HEN HYES
  rw [hEV] at HNO
  obtain ⟨R, hR⟩ := eX ((rkA L t).r)
  obtain ⟨SS, hSS⟩ := eX (strS L t)
  obtain ⟨FB, hFB⟩ := eX (strF L t)
  rw [hSS] at HEN HSR
  rw [hR] at HEN hcell
  rw [hFB] at HAL HOW HYES
  clear hpl hRB hT hEV hSS hFB hok hns hpvt hbd hget
  have z0 : wr.cell? ⟨g0, o0 + t * 13, none⟩ = some (.int .i64 R.kind) := hcell 0 _ rfl
  have z1 : wr.cell? ⟨g0, o0 + t * 13 + 1, none⟩ = some (.string R.name) := hcell 1 _ rfl
  have z2 : wr.cell? ⟨g0, o0 + t * 13 + 2, none⟩ = some (.int .i64 R.typ) := hcell 2 _ rfl
  have z3 : wr.cell? ⟨g0, o0 + t * 13 + 3, none⟩ = some (.int .i64 R.frm) := hcell 3 _ rfl
  have z4 : wr.cell? ⟨g0, o0 + t * 13 + 4, none⟩ = some (.int .i64 R.guid) := hcell 4 _ rfl
  have z5 : wr.cell? ⟨g0, o0 + t * 13 + 5, none⟩ = some (.int .i64 R.origin) := hcell 5 _ rfl
  have z6 : wr.cell? ⟨g0, o0 + t * 13 + 6, none⟩ = some (.string R.snap) := hcell 6 _ rfl
  have z7 : wr.cell? ⟨g0, o0 + t * 13 + 7, none⟩ = some (.slice R.pp R.pn R.pc) := hcell 7 _ rfl
  have z8 : wr.cell? ⟨g0, o0 + t * 13 + 8, none⟩ = some (.int .i64 R.obj) := hcell 8 _ rfl
  have z9 : wr.cell? ⟨g0, o0 + t * 13 + 9, none⟩ = some (.int .i64 R.at_) := hcell 9 _ rfl
  have z10 : wr.cell? ⟨g0, o0 + t * 13 + 10, none⟩ = some (.int .i64 R.many) := hcell 10 _ rfl
  have z11 : wr.cell? ⟨g0, o0 + t * 13 + 11, none⟩ = some (.slice R.kp R.kn R.kc) := hcell 11 _ rfl
  have z12 : wr.cell? ⟨g0, o0 + t * 13 + 12, none⟩ = some (.slice R.dp R.dl R.dc) := hcell 12 _ rfl
  clear hcell hR
  obtain ⟨kind, name, typ, frm, guid, origin, snap, pp, pn, pc, obj, at_, many, kp, kn, kc, dp, dl, dc⟩ := R
  obtain ⟨s0, s1, s2, s3⟩ := SS
  obtain ⟨t0, t1', t2, t3⟩ := T
  unfold Rc.arr S4.arr at HEN
  unfold S4.arr at HSR
  simp only at HEN HSR z0 z1 z2 z3 z4 z5 z6 z7 z8 z9 z10 z11 z12
  have p0 := cR 0 (.int .u64 s0) HSR.out
  have p1 := cR 1 (.int .u64 s1) HSR.out
  have p2 := cR 2 (.int .u64 s2) HSR.out
  have p3 := cR 3 (.int .u64 s3) HSR.out
  have HSC : Hid (∀ W, Frm [] wr W → W.cell? ⟨g0, o0 + t * 13, none⟩ = some (.int .i64 kind) ∧ W.cell? ⟨g0, o0 + t * 13 + 1, none⟩ = some (.string name) ∧ W.cell? ⟨g0, o0 + t * 13 + 2, none⟩ = some (.int .i64 typ) ∧ W.cell? ⟨g0, o0 + t * 13 + 3, none⟩ = some (.int .i64 frm) ∧ W.cell? ⟨g0, o0 + t * 13 + 4, none⟩ = some (.int .i64 guid) ∧ W.cell? ⟨g0, o0 + t * 13 + 5, none⟩ = some (.int .i64 origin) ∧ W.cell? ⟨g0, o0 + t * 13 + 6, none⟩ = some (.string snap) ∧ W.cell? ⟨g0, o0 + t * 13 + 7, none⟩ = some (.slice pp pn pc) ∧ W.cell? ⟨g0, o0 + t * 13 + 8, none⟩ = some (.int .i64 obj) ∧ W.cell? ⟨g0, o0 + t * 13 + 9, none⟩ = some (.int .i64 at_) ∧ W.cell? ⟨g0, o0 + t * 13 + 10, none⟩ = some (.int .i64 many) ∧ W.cell? ⟨g0, o0 + t * 13 + 11, none⟩ = some (.slice kp kn kc) ∧ W.cell? ⟨g0, o0 + t * 13 + 12, none⟩ = some (.slice dp dl dc) ∧ W.cell? ⟨bs, 0, none⟩ = some (.int .u64 s0) ∧ W.cell? ⟨bs, 1, none⟩ = some (.int .u64 s1) ∧ W.cell? ⟨bs, 2, none⟩ = some (.int .u64 s2) ∧ W.cell? ⟨bs, 3, none⟩ = some (.int .u64 s3)) := hid (fun W hf => by
   have kc : ∀ q v, wr.cell? q = some v → W.cell? q = some v := fun q v hv => (hf.cell (World.block_lt_of_cell? wr _ hv) (by simp)).trans hv
   exact ⟨kc _ _ z0, kc _ _ z1, kc _ _ z2, kc _ _ z3, kc _ _ z4, kc _ _ z5, kc _ _ z6, kc _ _ z7, kc _ _ z8, kc _ _ z9, kc _ _ z10, kc _ _ z11, kc _ _ z12, kc _ _ p0, kc _ _ p1, kc _ _ p2, kc _ _ p3⟩)
  clear z0 z1 z2 z3 z4 z5 z6 z7 z8 z9 z10 z11 z12 p0 p1 p2 p3
  go_upto_region 6 with fail
  go_cut [7, 8, 9] from 11 to 33 (fun b x e wx => ∃ (q2 : Option Addr) (m2 d2 bz : Nat), b = .slice q2 m2 d2 ∧ x = .pointer (some ⟨bz, 0, none⟩) ∧ e = .int .i64 EV ∧ Hid (wx.heap[bz]? = some (.cells #[.int .u64 t0, .int .u64 t1', .int .u64 t2, .int .u64 t3] 29 (0, 0))) ∧ Hid (Rd wx q2 RB) ∧ Hid (RB.length = m2) ∧ Hid (wr.heap.size ≤ bz) ∧ Hid (Frm [] wr wx))
  case first =>
   refine wp_region_tail (S := fun W => (W.cell? ⟨g0, o0 + t * 13, none⟩ = some (.int .i64 kind) ∧ W.cell? ⟨g0, o0 + t * 13 + 1, none⟩ = some (.string name) ∧ W.cell? ⟨g0, o0 + t * 13 + 2, none⟩ = some (.int .i64 typ) ∧ W.cell? ⟨g0, o0 + t * 13 + 3, none⟩ = some (.int .i64 frm) ∧ W.cell? ⟨g0, o0 + t * 13 + 4, none⟩ = some (.int .i64 guid) ∧ W.cell? ⟨g0, o0 + t * 13 + 5, none⟩ = some (.int .i64 origin) ∧ W.cell? ⟨g0, o0 + t * 13 + 6, none⟩ = some (.string snap) ∧ W.cell? ⟨g0, o0 + t * 13 + 7, none⟩ = some (.slice pp pn pc) ∧ W.cell? ⟨g0, o0 + t * 13 + 8, none⟩ = some (.int .i64 obj) ∧ W.cell? ⟨g0, o0 + t * 13 + 9, none⟩ = some (.int .i64 at_) ∧ W.cell? ⟨g0, o0 + t * 13 + 10, none⟩ = some (.int .i64 many) ∧ W.cell? ⟨g0, o0 + t * 13 + 11, none⟩ = some (.slice kp kn kc) ∧ W.cell? ⟨g0, o0 + t * 13 + 12, none⟩ = some (.slice dp dl dc) ∧ W.cell? ⟨bs, 0, none⟩ = some (.int .u64 s0) ∧ W.cell? ⟨bs, 1, none⟩ = some (.int .u64 s1) ∧ W.cell? ⟨bs, 2, none⟩ = some (.int .u64 s2) ∧ W.cell? ⟨bs, 3, none⟩ = some (.int .u64 s3))) 13 14 rfl (by kernel_rfl) (by kernel_rfl) ?_
   obtain ⟨wd, hwd⟩ := eX (wr.drew)
   have hF0 : Frm [] wr wd := by rw [← hwd]; exact (Frm.refl _ _).drew
   rw [hwd]
   refine hI (i := 0) (v := ?_) rfl ?_ (HSC.out _ hF0) ?_
   rotate_left 1
   ·rintro W ⟨y0, y1, y2, y3, y4, y5, y6, y7, y8, y9, y10, y11, y12, x0, x1, x2, x3⟩; (try simp only [lA, lZ]); go_simp; try with_reducible rfl
   try simp only [lA, lZ, Act.put, lI, lW, lX]
   refine hI (i := 1) (v := ?_) rfl ?_ (HSC.out _ hF0) ?_
   rotate_left 1
   ·rintro W ⟨y0, y1, y2, y3, y4, y5, y6, y7, y8, y9, y10, y11, y12, x0, x1, x2, x3⟩; (try simp only [lA, lS, lZ]); go_simp; try with_reducible rfl
   try simp only [lA, lS, lZ, Act.put, lI, lW, lX]
   refine hI (i := 2) (v := ?_) rfl ?_ (HSC.out _ hF0) ?_
   rotate_left 1
   ·rintro W ⟨y0, y1, y2, y3, y4, y5, y6, y7, y8, y9, y10, y11, y12, x0, x1, x2, x3⟩; (try simp only [lA, lS, lZ]); go_simp; try with_reducible rfl
   try simp only [lA, lS, lZ, Act.put, lI, lW, lX]
   refine hI (i := 3) (v := ?_) rfl ?_ (HSC.out _ hF0) ?_
   rotate_left 1
   ·rintro W ⟨y0, y1, y2, y3, y4, y5, y6, y7, y8, y9, y10, y11, y12, x0, x1, x2, x3⟩; (try simp only [lA, lS, lZ]); go_simp; try with_reducible rfl
   try simp only [lA, lS, lZ, Act.put, lI, lW, lX]
   refine hI (i := 4) (v := ?_) rfl ?_ (HSC.out _ hF0) ?_
   rotate_left 1
   ·rintro W ⟨y0, y1, y2, y3, y4, y5, y6, y7, y8, y9, y10, y11, y12, x0, x1, x2, x3⟩; (try simp only [lA, lS, lZ]); go_simp; try with_reducible rfl
   try simp only [lA, lS, lZ, Act.put, lI, lW, lX]
   refine wpAnyHT_two (i := 5) (j := 10) rfl rfl (by kernel_rfl) (by kernel_rfl) (by kernel_rfl) (fun K hK => ?_) (fun K hK => ?_)
   ·try simp only [lA, lS, lZ]
    go_simp
    refine (HEN.out wd hF0).mono ?_
    rintro e w2 ⟨q2, m2, d2, rfl, hr2, hm2, hb2, hf2⟩
    have hF1 : Frm [] wr w2 := hF0.trans hf2 (by simp)
    refine hK _ _ (HSC.out _ hF1) ?_
    clear hK K
    have hsz2 : wr.heap.size ≤ wd.heap.size := hF0.size
    have hlo2 : ∀ k ∈ blk q2, wr.heap.size ≤ k := fun k hk => by have := hb2 k hk; omega
    refine hI (i := 6) (v := ?_) rfl ?_ (HSC.out _ hF1) ?_
    rotate_left 1
    ·rintro W ⟨y0, y1, y2, y3, y4, y5, y6, y7, y8, y9, y10, y11, y12, x0, x1, x2, x3⟩; (try simp only [lA, lS, lZ]); go_simp; try with_reducible rfl
    try simp only [lA, lS, lZ, Act.put, lI, lW, lX]
    refine hI (i := 7) (v := ?_) rfl ?_ (HSC.out _ hF1) ?_
    rotate_left 1
    ·rintro W ⟨y0, y1, y2, y3, y4, y5, y6, y7, y8, y9, y10, y11, y12, x0, x1, x2, x3⟩; (try simp only [lA, lS, lZ]); go_simp; try with_reducible rfl
    try simp only [lA, lS, lZ, Act.put, lI, lW, lX]
    refine hI (i := 8) (v := ?_) rfl ?_ (HSC.out _ hF1) ?_
    rotate_left 1
    ·rintro W ⟨y0, y1, y2, y3, y4, y5, y6, y7, y8, y9, y10, y11, y12, x0, x1, x2, x3⟩; (try simp only [lA, lS, lZ]); go_simp; try with_reducible rfl
    try simp only [lA, lS, lZ, Act.put, lI, lW, lX]
    refine hI (i := 9) (v := ?_) rfl ?_ (HSC.out _ hF1) ?_
    rotate_left 1
    ·rintro W ⟨y0, y1, y2, y3, y4, y5, y6, y7, y8, y9, y10, y11, y12, x0, x1, x2, x3⟩; (try simp only [lA, lS, lZ]); go_simp; try with_reducible rfl
    try simp only [lA, lS, lZ, Act.put, lI, lW, lX]
    refine wpAnyHT_one (i := 10) rfl (by kernel_rfl) (by kernel_rfl) (fun K hK => ?_)
    try simp only [lA, lS, lZ]
    go_simp
    refine hK _ _ (HSC.out _ (hF1.alloc _)) ?_
    clear hK K
    try simp only [lA, lS, lZ, Act.put, lI, lW, lX]
    have hra := heap_alloc_new w2 (.cells #[.int .u64 0, .int .u64 0, .int .u64 0, .int .u64 0] 29)
    have hfaB : Frm [] w2 (w2.alloc (.cells #[.int .u64 0, .int .u64 0, .int .u64 0, .int .u64 0] 29)) := (Frm.refl _ _).alloc _
    have hF2 := hF1.alloc (.cells #[.int .u64 0, .int .u64 0, .int .u64 0, .int .u64 0] 29)
    obtain ⟨wB, hwB⟩ := eX (w2.alloc (.cells #[.int .u64 0, .int .u64 0, .int .u64 0, .int .u64 0] 29))
    obtain ⟨bB, hbB⟩ := eX (w2.heap.size)
    have hlbB : wr.heap.size ≤ bB := by rw [← hbB]; exact hF1.size
    rw [hwB, hbB] at hra
    rw [hwB] at hfaB hF2
    have rB2 := hra
    clear hra
    have hnB : ∀ k ∈ blk q2, ¬ k = bB := fun k hk => by have := hb2 k hk; omega
    have hr3 := hr2.kept hfaB (by simp)
    try rw [hwB]
    try rw [hbB]
    have hrB := rB2
    have n0 := cR 0 (.int .u64 0) hrB
    have mz0 := fZ 0 hrB
    have n1 := cR 1 (.int .u64 0) hrB
    have mz1 := fZ 1 hrB
    have n2 := cR 2 (.int .u64 0) hrB
    have mz2 := fZ 2 hrB
    have n3 := cR 3 (.int .u64 0) hrB
    have mz3 := fZ 3 hrB
    obtain ⟨Wy, hwy, h6, f6⟩ := sE bB 29 [(0, .int .u64 t0), (1, .int .u64 t1'), (2, .int .u64 t2), (3, .int .u64 t3)] wB _ hrB
    simp only [List.foldl, List.setIfInBounds_toArray, List.set_cons_zero, List.set_cons_succ] at h6
    simp only [setsF] at hwy
    have hWy := hwy
    have hF9 : Frm [] wr Wy := hF2.trans f6 (fun i hi hl => by rw [List.mem_singleton] at hi; omega)
    have hr9 := hr3.kept f6 (fun k hk hm => hnB k hk (List.mem_singleton.1 hm))
    refine wpAnyHT_one (i := 11) rfl (by kernel_rfl) (by kernel_rfl) (fun K hK => ?_)
    try simp only [lA, lS, lZ]
    go_simp
    refine hK _ _ (HSC.out _ hF2) ?_
    clear hK K
    try simp only [lA, lS, lZ, Act.put, lI, lW, lX]
    refine wpAnyHT_one (i := 12) rfl (by kernel_rfl) (by kernel_rfl) (fun K hK => ?_)
    try simp only [lA, lS, lZ]
    go_simp
    try rw [hwy]
    refine hK _ _ (HSC.out _ hF9) ?_
    clear hK K
    try simp only [lA, lS, lZ, Act.put, lI, lW, lX]
    refine wpAnyHT_end (by kernel_rfl) ?_
    simp only [List.drop_succ_cons, List.drop_zero]
    clear n0 mz0 hwy hWy
    go_wp2_with fail
    go_meet
    exact ⟨q2, m2, d2, bB, rfl, rfl, rfl, hid h6, hid hr9, hid hm2, hid hlbB, hid hF9⟩
   ·try simp only [lA, lS, lZ]
    go_simp
    refine hK _ _ (HSC.out _ (hF0.alloc _)) ?_
    clear hK K
    try simp only [lA, lS, lZ, Act.put, lI, lW, lX]
    have hra := heap_alloc_new wd (.cells #[.int .u64 0, .int .u64 0, .int .u64 0, .int .u64 0] 29)
    have hfaB : Frm [] wd (wd.alloc (.cells #[.int .u64 0, .int .u64 0, .int .u64 0, .int .u64 0] 29)) := (Frm.refl _ _).alloc _
    have hF1 := hF0.alloc (.cells #[.int .u64 0, .int .u64 0, .int .u64 0, .int .u64 0] 29)
    obtain ⟨wB, hwB⟩ := eX (wd.alloc (.cells #[.int .u64 0, .int .u64 0, .int .u64 0, .int .u64 0] 29))
    obtain ⟨bB, hbB⟩ := eX (wd.heap.size)
    have hlbB : wr.heap.size ≤ bB := by rw [← hbB]; exact hF0.size
    rw [hwB, hbB] at hra
    rw [hwB] at hfaB hF1
    have rB1 := hra
    clear hra
    try rw [hwB]
    try rw [hbB]
    refine wpAnyHT_one (i := 5) rfl (by kernel_rfl) (by kernel_rfl) (fun K hK => ?_)
    have hltB := lt_of_heap rB1
    try simp only [lA, lS, lZ]
    go_simp
    refine (HEN.out wB hF1).mono ?_
    rintro e w2 ⟨q2, m2, d2, rfl, hr2, hm2, hb2, hf2⟩
    have hF2 : Frm [] wr w2 := hF1.trans hf2 (by simp)
    refine hK _ _ (HSC.out _ hF2) ?_
    clear hK K
    have rB2 := hf2.heap rB1 (by simp)
    have hnB : ∀ k ∈ blk q2, ¬ k = bB := fun k hk => by have := hb2 k hk; omega
    have hsz2 : wr.heap.size ≤ wB.heap.size := hF1.size
    have hlo2 : ∀ k ∈ blk q2, wr.heap.size ≤ k := fun k hk => by have := hb2 k hk; omega
    refine hI (i := 6) (v := ?_) rfl ?_ (HSC.out _ hF2) ?_
    rotate_left 1
    ·rintro W ⟨y0, y1, y2, y3, y4, y5, y6, y7, y8, y9, y10, y11, y12, x0, x1, x2, x3⟩; (try simp only [lA, lS, lZ]); go_simp; try with_reducible rfl
    try simp only [lA, lS, lZ, Act.put, lI, lW, lX]
    refine hI (i := 7) (v := ?_) rfl ?_ (HSC.out _ hF2) ?_
    rotate_left 1
    ·rintro W ⟨y0, y1, y2, y3, y4, y5, y6, y7, y8, y9, y10, y11, y12, x0, x1, x2, x3⟩; (try simp only [lA, lS, lZ]); go_simp; try with_reducible rfl
    try simp only [lA, lS, lZ, Act.put, lI, lW, lX]
    refine hI (i := 8) (v := ?_) rfl ?_ (HSC.out _ hF2) ?_
    rotate_left 1
    ·rintro W ⟨y0, y1, y2, y3, y4, y5, y6, y7, y8, y9, y10, y11, y12, x0, x1, x2, x3⟩; (try simp only [lA, lS, lZ]); go_simp; try with_reducible rfl
    try simp only [lA, lS, lZ, Act.put, lI, lW, lX]
    refine hI (i := 9) (v := ?_) rfl ?_ (HSC.out _ hF2) ?_
    rotate_left 1
    ·rintro W ⟨y0, y1, y2, y3, y4, y5, y6, y7, y8, y9, y10, y11, y12, x0, x1, x2, x3⟩; (try simp only [lA, lS, lZ]); go_simp; try with_reducible rfl
    try simp only [lA, lS, lZ, Act.put, lI, lW, lX]
    have hrB := rB2
    have n0 := cR 0 (.int .u64 0) hrB
    have mz0 := fZ 0 hrB
    have n1 := cR 1 (.int .u64 0) hrB
    have mz1 := fZ 1 hrB
    have n2 := cR 2 (.int .u64 0) hrB
    have mz2 := fZ 2 hrB
    have n3 := cR 3 (.int .u64 0) hrB
    have mz3 := fZ 3 hrB
    obtain ⟨Wy, hwy, h6, f6⟩ := sE bB 29 [(0, .int .u64 t0), (1, .int .u64 t1'), (2, .int .u64 t2), (3, .int .u64 t3)] w2 _ hrB
    simp only [List.foldl, List.setIfInBounds_toArray, List.set_cons_zero, List.set_cons_succ] at h6
    simp only [setsF] at hwy
    have hWy := hwy
    have hF9 : Frm [] wr Wy := hF2.trans f6 (fun i hi hl => by rw [List.mem_singleton] at hi; omega)
    have hr9 := hr2.kept f6 (fun k hk hm => hnB k hk (List.mem_singleton.1 hm))
    refine wpAnyHT_one (i := 11) rfl (by kernel_rfl) (by kernel_rfl) (fun K hK => ?_)
    try simp only [lA, lS, lZ]
    go_simp
    refine hK _ _ (HSC.out _ hF2) ?_
    clear hK K
    try simp only [lA, lS, lZ, Act.put, lI, lW, lX]
    refine wpAnyHT_one (i := 12) rfl (by kernel_rfl) (by kernel_rfl) (fun K hK => ?_)
    try simp only [lA, lS, lZ]
    go_simp
    try rw [hwy]
    refine hK _ _ (HSC.out _ hF9) ?_
    clear hK K
    try simp only [lA, lS, lZ, Act.put, lI, lW, lX]
    refine wpAnyHT_end (by kernel_rfl) ?_
    simp only [List.drop_succ_cons, List.drop_zero]
    clear n0 mz0 hwy hWy
    go_wp2_with fail
    go_meet
    exact ⟨q2, m2, d2, bB, rfl, rfl, rfl, hid h6, hid hr9, hid hm2, hid hlbB, hid hF9⟩
  obtain ⟨q2, m2, d2, bz, rfl, rfl, rfl, hz, hr2, hm2, hbz, hf2⟩ := hcut
  have HZ := hid hz.out
  have HR2 := hid hr2.out
  have HM2 := hid hm2.out
  have HBZ := hid hbz.out
  have HF2 := hid hf2.out
  clear hz hr2 hm2 hbz hf2 HSC HEN
  by_cases hmay : (rkA L t).may
  case neg =>
   obtain rfl := HNO.out hmay
   have HX := hid (HP1.out wc (HNA.out hmay) (HF.out.trans HF2.out (by simp)))
   clear hmay
   go_wp2_with fail
   try go_returns
   exact HX.out
  obtain ⟨hev, hfb, hst, hrl, hrp⟩ := HYES.out hmay
  have HRP := hid hrp
  obtain rfl := hev
  have HFB := hid hfb
  have HST := hid hst
  have HMN : Hid (∀ j, j < t + 1 → (rkA L j).may) := hid (fun j hj => by
   by_cases hj2 : j < t
   ·exact HMY.out j hj2
   ·obtain rfl : j = t := by omega
    exact hmay)
  have hm2b : m2 ≤ 2100 := by rw [← HM2.out]; exact hrl
  have HWC := hid (HOW.out.kept HF2.out (by simp))
  have HLW : Hid (∀ k ∈ blk q, k < wr.heap.size) := hid HOW.out.lows
  have hw9 : A + m2 ≤ 140737488351232 := by omega
  clear hfb hst hrl hrp hmay HYES HNO HNA
  go_wp2_with (at_builtin; refine wpList_appB rfl _ _ 24 rfl 5 Tryz.underlying24 infoU8S q A d FB rfl HAL.out (by rw [← HAL.out]; exact HWC.out) q2 m2 d2 RB rfl HM2.out.symm (fun h1 h2 => by have := HRP.out; rw [h1] at this; simp at this) HR2.out (by rw [← HAL.out, HM2.out]; omega) ?_)
  intro xs p8 c8 w8 hxs ho8 hf8 hb8
  have hxl : xs.length = A + m2 := by rw [hxs.out, List.length_append, ← HAL.out, HM2.out]
  have HF9 : Hid (Frm [] w w8) := hid ((HF.out.trans HF2.out (by simp)).trans hf8.out (fun i hi hl => by have := HNW.out i hi; have := HBS.out; omega))
  have HS8 := hid (hf8.out.heap (HF2.out.heap HSR.out (by simp)) (fun hm => by have := HNW.out bs hm; omega))
  have HZ8 := hid (hf8.out.heap HZ.out (fun hm => by have := HLW.out bz hm; have := HBZ.out; omega))
  have HNW8 : Hid (∀ k ∈ blk p8, bs < k) := hid (fun k hk => by
   rcases hb8.out k hk with h | h
   ·exact HNW.out k h
   ·have := HBL.out; have := HF2.out.size; omega)
  have HO8 : Hid (Own w8 5 (.slice p8 (A + m2) c8) (strF L (t + 1))) := hid (by rw [HFB.out, ← hxs.out, ← hxl]; exact ho8.out)
  have HL8 : Hid (A + m2 = (strF L (t + 1)).length) := hid (by rw [HFB.out, ← hxs.out]; exact hxl.symm)
  have HNE : Hid (bs < wr.heap.size) := hid HBL.out
  rw [hxl]
  clear hxs ho8 hf8 hb8 hxl HZ HWC
  have n0 := cR 0 (.int .u64 t0) HZ8.out
  have n1 := cR 1 (.int .u64 t1') HZ8.out
  have n2 := cR 2 (.int .u64 t2) HZ8.out
  have n3 := cR 3 (.int .u64 t3) HZ8.out
  have mz0 := fZ 0 HS8.out
  have mz1 := fZ 1 HS8.out
  have mz2 := fZ 2 HS8.out
  have mz3 := fZ 3 HS8.out
  have v0 := cR 0 (.int .u64 s0) HS8.out
  have v1 := cR 1 (.int .u64 s1) HS8.out
  have v2 := cR 2 (.int .u64 s2) HS8.out
  have v3 := cR 3 (.int .u64 s3) HS8.out
  obtain ⟨h4, f4⟩ := set4 (y0 := .int .u64 t0) (y1 := .int .u64 t1') (y2 := .int .u64 t2) (y3 := .int .u64 t3) HS8.out
  obtain ⟨W4, hW4⟩ := eX (((((w8.setCell ⟨bs, 0, none⟩ (.int .u64 t0)).setCell ⟨bs, 1, none⟩ (.int .u64 t1')).setCell ⟨bs, 2, none⟩ (.int .u64 t2)).setCell ⟨bs, 3, none⟩ (.int .u64 t3)))
  rw [hW4] at h4 f4
  have HS4 : Hid (W4.heap[bs]? = some (.cells (strS L (t + 1)).arr 29 (0, 0))) := hid (by rw [HST.out]; exact h4)
  have HF4 : Hid (Frm [] w W4) := hid (HF9.out.trans f4 (fun i hi hl => by rw [List.mem_singleton] at hi; have := HBS.out; omega))
  have HO4 := hid (HO8.out.kept f4 (by rw [own_blk]; exact fun k hk hm => by rw [List.mem_singleton] at hm; have := HNW8.out k hk; omega))
  have HB4 : Hid (bs < W4.heap.size) := hid (lt_of_heap h4)
  have HWE := hid hW4
  clear h4 f4 hW4 HO8 HF9 HF HF2 HS8 HZ8
  go_wp2_with fail
  go_roundw
  case rel => exact ⟨t + 1, A + m2, p8, c8, by omega, by omega, rfl, by go_num, HL8, by rw [HWE.out]; exact HO4, HNW8, by rw [HWE.out]; exact HS4, by rw [HWE.out]; exact HF4, HMN, by rw [HWE.out]; exact HB4⟩
  case measure => simp [intOf] <;> omega
end
end Go.Proofs.YtajfjkfnmmfhmaaGreatDoor
