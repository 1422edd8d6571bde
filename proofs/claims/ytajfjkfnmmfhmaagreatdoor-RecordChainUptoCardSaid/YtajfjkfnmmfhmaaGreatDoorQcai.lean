/- Records: Decode of bytes with a head. -/
import Derived.Test.YtajfjkfnmmfhmaaGreatDoorQcah
import Derived.Test.YtajfjkfnmmfhmaaGreatDoorQcaf
import Derived.Test.YtajfjkfnmmfhmaaGreatDoorQcad
namespace Go.Proofs.YtajfjkfnmmfhmaaGreatDoor
set_option maxRecDepth 100000
set_option maxHeartbeats 25600000
section
open Go.RowKit Go.Lib
theorem decode_row (p : Option Addr) (n c : Nat) (bs : List Int) (a : S4) (w : World) (hn : bs.length = n) (hnc : n ≤ c) (hnb : n ≤ 140737488355328) (hrd : Rd w p bs) (hb : ∀ z ∈ bs, 0 ≤ z ∧ z < 256) (hpr : Primes w) (ha : a.Bd) (fm fo fp ft : FuncId) (V : TkV) (hE : spE bs = 0)
  (hft : Hid (∀ (args : Array Value) (W : World), (callFunc ft args).run Tryz.prog W = .ok (.enter ft args) W)) (hk : lkT (spK bs) = some #[.func (.func fm) #[] #[], .func (.func fo) #[] #[], .func (.func fp) #[] #[], .func (.func ft) #[] #[]]) (hV : tvK (spK bs) (dcB bs) = V) (hnm : V.c.name.size ≤ 100000)
  (HTK : Hid (∀ w0 w b g, FrR w0 w b g (dcB bs) (0, 0) → Calls Tryz.prog ft #[.pointer (some ⟨b, 0, none⟩)] w (TakP w0 w b g (dcB bs) V))) :
  Calls Tryz.prog 22 #[.slice p n c, .agg a.arr] w (DecP w a bs) := by
 obtain ⟨PO, hPO⟩ : ∃ PO : Ending → World → Prop, DecP w a bs = PO := ⟨_, rfl⟩
 rw [hPO]
 have HPB : Hid (∀ E w', dcE a bs = E ∧ E ≠ 0 → Frm [] w w' → PO (.returned (.tuple #[.agg #[.int .i64 0, .string ⟨#[]⟩, .int .i64 0, .int .i64 0, .int .i64 0, .int .i64 0, .string ⟨#[]⟩, .slice none 0 0, .int .i64 0, .int .i64 0, .int .i64 0, .slice none 0 0, .slice none 0 0], .int .i64 0, .agg #[.int .u64 0, .int .u64 0, .int .u64 0, .int .u64 0], .int .i64 E])) w') := hid (fun E w' h1 h3 => by rw [← hPO]; exact ⟨h3, Or.inl ⟨by rw [h1.1]; exact h1.2, by rw [h1.1]; rfl⟩⟩)
 have HPG : Hid (∀ (r : Rc) w', dcE a bs = 0 → r.core = ((tvK (spK bs) (dcB bs)).rc (spK bs)).core → RcOwn w' r (tvK (spK bs) (dcB bs)).p (tvK (spK bs) (dcB bs)).k (tvK (spK bs) (dcB bs)).d w.heap.size → Frm [] w w' → PO (.returned (.tuple #[.agg r.arr, .int .i64 (37 + spM bs), .agg (sealR a (dcH bs)).arr, .int .i64 0])) w') := hid (fun r w' h1 h2 h3 h4 => by rw [← hPO]; exact ⟨h4, Or.inr ⟨h1, r, rfl, h2, h3⟩⟩)
 have HRD := hid hrd
 have HB := hid hb
 have HLN := hid hn
 have HPR := hid hpr
 have hrow := heap_alloc_new w (.cells a.arr 29)
 have hfa : Frm [] w (w.alloc (.cells a.arr 29)) := (Frm.refl _ _).alloc _
 obtain ⟨wa, hwa⟩ := eX (w.alloc (.cells a.arr 29))
 obtain ⟨ba, hba⟩ := eX (w.heap.size)
 rw [hwa, hba] at hrow
 rw [hwa] at hfa
 have hrowr := heap_alloc_new wa (.cells #[.int .i64 0, .string ⟨#[]⟩, .int .i64 0, .int .i64 0, .int .i64 0, .int .i64 0, .string ⟨#[]⟩, .slice none 0 0, .int .i64 0, .int .i64 0, .int .i64 0, .slice none 0 0, .slice none 0 0] 26)
 have hfr : Frm [] wa (wa.alloc (.cells #[.int .i64 0, .string ⟨#[]⟩, .int .i64 0, .int .i64 0, .int .i64 0, .int .i64 0, .string ⟨#[]⟩, .slice none 0 0, .int .i64 0, .int .i64 0, .int .i64 0, .slice none 0 0, .slice none 0 0] 26)) := (Frm.refl _ _).alloc _
 obtain ⟨wr, hwr⟩ := eX (wa.alloc (.cells #[.int .i64 0, .string ⟨#[]⟩, .int .i64 0, .int .i64 0, .int .i64 0, .int .i64 0, .string ⟨#[]⟩, .slice none 0 0, .int .i64 0, .int .i64 0, .int .i64 0, .slice none 0 0, .slice none 0 0] 26))
 obtain ⟨br, hbr⟩ := eX (wa.heap.size)
 rw [hwr, hbr] at hrowr
 rw [hwr] at hfr
 have hrows := heap_alloc_new wr (.cells #[.int .u64 0, .int .u64 0, .int .u64 0, .int .u64 0] 29)
 have hfs : Frm [] wr (wr.alloc (.cells #[.int .u64 0, .int .u64 0, .int .u64 0, .int .u64 0] 29)) := (Frm.refl _ _).alloc _
 have hbs : wr.heap.size = br + 1 := by rw [← hwr, ← hbr]; simp
 obtain ⟨ws, hws⟩ := eX (wr.alloc (.cells #[.int .u64 0, .int .u64 0, .int .u64 0, .int .u64 0] 29))
 rw [hws, hbs] at hrows
 rw [hws] at hfs
 have hb1 : ba + 1 = br := by rw [← hbr, ← hwa, ← hba]; simp
 have HBL : Hid (w.heap.size < br) := hid (by omega)
 have HB1 := hid hb1
 have HFR : Hid (Frm [] w ws) := hid ((hfa.trans hfr (by simp)).trans hfs (by simp))
 have HRA : Hid (∀ W, Frm [] ws W → W.heap[ba]? = some (.cells a.arr 29 (0, 0))) := hid (fun W hf => hf.heap (hfs.heap (hfr.heap hrow (by simp)) (by simp)) (by simp))
 have HRR : Hid (∀ W, Frm [] ws W → W.heap[br]? = some (.cells #[.int .i64 0, .string ⟨#[]⟩, .int .i64 0, .int .i64 0, .int .i64 0, .int .i64 0, .string ⟨#[]⟩, .slice none 0 0, .int .i64 0, .int .i64 0, .int .i64 0, .slice none 0 0, .slice none 0 0] 26 (0, 0))) := hid (fun W hf => hf.heap (hfs.heap hrowr (by simp)) (by simp))
 have HRS : Hid (∀ W, Frm [] ws W → W.heap[br + 1]? = some (.cells #[.int .u64 0, .int .u64 0, .int .u64 0, .int .u64 0] 29 (0, 0))) := hid (fun W hf => hf.heap hrows (by simp))
 have HSZ : Hid (br + 1 < ws.heap.size) := hid (lt_of_heap hrows)
 have HWA := hid hwa
 have HWR := hid hwr
 have HWS := hid hws
 have HBA := hid hba
 have HBR := hid hbr
 have HBS := hid hbs
 have HSP := hid (split_any20 p n c bs ws hn hnc hnb (hrd.kept HFR.out (by simp)) hb)
 have hbr13 : ∀ V, (Instr.build 26 #[]).run Tryz.prog V = .ok (.agg #[.int .i64 0, .string ⟨#[]⟩, .int .i64 0, .int .i64 0, .int .i64 0, .int .i64 0, .string ⟨#[]⟩, .slice none 0 0, .int .i64 0, .int .i64 0, .int .i64 0, .slice none 0 0, .slice none 0 0]) V := fun V => run_build V _ _ _ (by kernel_rfl)
 have hbr4 : ∀ V, (Instr.build 29 #[]).run Tryz.prog V = .ok (.agg #[.int .u64 0, .int .u64 0, .int .u64 0, .int .u64 0]) V := fun V => run_build V _ _ _ (by kernel_rfl)
 rw [if_pos hE, if_pos hE, hE] at HSP
 have hm0 := spM_bd hb
 have hm1 : spM bs ≤ 2048 ∧ 37 + spM bs ≤ (n : Int) ∧ (1 ≤ spK bs ∧ spK bs ≤ 7) := by
  unfold spE at hE
  split at hE
  ·omega
  ·split at hE
   ·omega
   ·split at hE
    ·omega
    ·rename_i h1 h2 h3
     rw [← hn]
     omega
 obtain ⟨dN, hdN⟩ := eX (dcN bs)
 have hdn : 5 + spM bs = (dN : Int) := by rw [← hdN]; unfold dcN; omega
 have hdb : 5 ≤ dN ∧ dN ≤ 2053 ∧ dN + 32 ≤ n := by omega
 have h37 : 37 + spM bs = (dN : Int) + 32 := by omega
 rw [hdn] at HSP
 rw [h37] at HPG
 obtain ⟨K, hK⟩ := eX (spK bs)
 rw [hK] at HSP HPG hk hV
 rw [hV] at HPG
 have hkb : 1 ≤ K ∧ K ≤ 7 := by rw [← hK]; exact hm1.2.2
 have HDE : Hid (dcE a bs = if sealR a (dcH bs) ≠ dcS bs then 201 else if ¬ okB K (dcB bs) then 200 else 0) := hid (by unfold dcE; rw [if_neg (by rw [hE]; simp), hK])
 have HOK : Hid (okB K (dcB bs) ↔ doneS (dcB bs).length V.s.1 V.s.2 = 0 ∧ RcMay (V.rc K) V.p V.k V.d) := hid (by unfold okB; rw [hV])
 obtain ⟨g0, o0, rfl⟩ : ∃ g0 o0, p = some ⟨g0, o0, none⟩ := by
  rcases HRD.out with h | ⟨g, o, h, _⟩
  ·have := HLN.out; rw [h] at this; simp at this; omega
  ·exact ⟨g, o, h⟩
 have hbl : (dcB bs).length = dN - 5 := by unfold dcB; rw [hdN, List.length_drop, List.length_take, hn]; omega
 have hhl : (dcH bs).length = dN := by unfold dcH; rw [hdN, List.length_take, hn]; omega
 have htl : (dcT bs).length = 32 := by unfold dcT; rw [hdN, List.length_take, List.length_drop, hn]; omega
 have HRH : Hid (∀ W, Frm [] ws W → Rd W (some ⟨g0, o0, none⟩) (dcH bs)) := hid (fun W hf => ((hrd.kept HFR.out (by simp)).kept hf (by simp)).take _)
 have HRBD : Hid (∀ W, Frm [] ws W → Rd W (some ⟨g0, o0 + 5, none⟩) (dcB bs)) := hid (fun W hf => (((hrd.kept HFR.out (by simp)).kept hf (by simp)).take _).drop 5)
 have HRT : Hid (∀ W, Frm [] ws W → Rd W (some ⟨g0, o0 + dN, none⟩) (dcT bs)) := hid (fun W hf => by unfold dcT; rw [hdN]; exact (((hrd.kept HFR.out (by simp)).kept hf (by simp)).drop dN).take 32)
 have HBH : Hid (∀ z ∈ dcH bs, 0 ≤ z ∧ z < 256) := hid (fun z hz => hb z (List.mem_of_mem_take hz))
 have HBB : Hid (∀ z ∈ dcB bs, 0 ≤ z ∧ z < 256) := hid (fun z hz => hb z (List.mem_of_mem_take (List.mem_of_mem_drop hz)))
 have HBT : Hid (∀ z ∈ dcT bs, 0 ≤ z ∧ z < 256) := hid (fun z hz => hb z (List.mem_of_mem_drop (List.mem_of_mem_take hz)))
 have hs1 : ∀ W, (Instr.slice 24 (.slice (some ⟨g0, o0, none⟩) n c) none (some (.int .i64 (dN : Int))) none).run Tryz.prog W = .ok (.slice (some ⟨g0, o0, none⟩) dN c) W := fun W => sl_h (P := Tryz.prog) Tryz.underlying24 infoU8R (some ⟨g0, o0, none⟩) n c dN (by omega) W
 have hs2 : ∀ W, (Instr.slice 24 (.slice (some ⟨g0, o0, none⟩) n c) (some (.int .i64 (dN : Int))) (some (.int .i64 ((dN : Int) + 32))) none).run Tryz.prog W = .ok (.slice (some ⟨g0, o0 + dN, none⟩) 32 (c - dN)) W := fun W => by
  have h := sl_lh (P := Tryz.prog) (sz := 1) Tryz.underlying24 infoU8R (some ⟨g0, o0, none⟩) n c dN (dN + 32) (by omega) (by omega) W
  rw [part1R g0 o0 c dN (by omega), show dN + 32 - dN = 32 by omega] at h
  exact h
 have hs3 : ∀ W, (Instr.slice 24 (.slice (some ⟨g0, o0, none⟩) n c) (some (.int .i64 5)) (some (.int .i64 (dN : Int))) none).run Tryz.prog W = .ok (.slice (some ⟨g0, o0 + 5, none⟩) (dN - 5) (c - 5)) W := fun W => by
  have h := sl_lh (P := Tryz.prog) (sz := 1) Tryz.underlying24 infoU8R (some ⟨g0, o0, none⟩) n c 5 dN (by omega) (by omega) W
  rw [part1R g0 o0 c 5 (by omega)] at h
  exact h
 have hlk : ∀ (W : World) (m : Nat), W.heap[m]? = some (.map (rowsT 7) 7) → (Instr.lookup 60 (.map (some m)) (.int .i64 K) false).run Tryz.prog W = .ok (.agg #[.func (.func fm) #[] #[], .func (.func fo) #[] #[], .func (.func fp) #[] #[], .func (.func ft) #[] #[]]) W := fun W m h => by
  have h2 := run_lookR1 (P := Tryz.prog) (w := W) 60 3 58 m 7 (rowsT 7) K (.agg #[.nilFunc, .nilFunc, .nilFunc, .nilFunc]) Tryz.underlying60 Tryz.underlying3 (by kernel_rfl) h (rowsT_int 7)
  rw [lkT_of, hk] at h2
  exact h2
 have hfd : ∀ W : World, (Instr.field 58 (.agg #[.func (.func fm) #[] #[], .func (.func fo) #[] #[], .func (.func fp) #[] #[], .func (.func ft) #[] #[]]) 3).run Tryz.prog W = .ok (.func (.func ft) #[] #[]) W := fun W => by kernel_rfl
 have HSE := hid (fun W (hf : Frm [] ws W) => sealR_any a ha (some ⟨g0, o0, none⟩) dN c (dcH bs) W hhl (by omega) (by omega) (HRH.out W hf) HBH.out ((hpr.kept HFR.out).kept hf))
 obtain ⟨HH, hHH⟩ := eX (dcH bs)
 obtain ⟨BB, hBB⟩ := eX (dcB bs)
 obtain ⟨TT, hTT⟩ := eX (dcT bs)
 have HDS : Hid (dcS bs = ⟨(u1 TT).1, (u2 TT).1, (u3 TT).1, (u4 TT).1⟩) := hid (by unfold dcS; rw [hTT])
 rw [hHH] at HSE HDE HPG
 rw [hBB] at HDE HOK hbl HRBD HBB HTK
 rw [hTT] at htl HRT HBT
 have hnt := fun W (hf : Frm [] ws W) => newReader_any (some ⟨g0, o0 + dN, none⟩) (c - dN) TT W (HRT.out W hf) (by omega)
 rw [htl] at hnt
 have HNT := hid hnt
 have hnbd := fun W (hf : Frm [] ws W) => newReader_any (some ⟨g0, o0 + 5, none⟩) (c - 5) BB W (HRBD.out W hf) (by omega)
 rw [hbl] at hnbd
 have HNB := hid hnbd
 obtain ⟨S, hS⟩ := eX (sealR a HH)
 rw [hS] at HSE HDE HPG
 have HBL2 := hid hbl
 have HKB := hid hkb
 clear hnt hnbd hhl htl hbl hm0 hm1 hdn h37 hk hV hK hE ha hHH hBB hTT hS hdN HRH HRBD HRT HBH hkb hrow hfa hwa hba hrowr hfr hwr hbr hrows hfs hws hbs hb1 hPO hn hrd hb hpr
 obtain ⟨t0, t1, t2, t3⟩ := S
 unfold S4.arr at HSE
 simp only at HSE
 obtain ⟨s0, s1, s2, s3⟩ := a
 unfold S4.arr at HWA HRA HPG
 simp only at HWA HRA HSE
 unfold S4.arr
 simp only
 go_enter Tryz.func22, Tryz.ntmps22
 go_upto_region 1 with fail
 try rw [HWA.out]
 try rw [HBA.out]
 try rw [HBR.out]
 try rw [HB1.out]
 try rw [HWR.out]
 try rw [HBS.out]
 try rw [HWS.out]
 go_wp2_with fail
 refine HSP.out.mono ?_
 rintro e w1 ⟨rfl, hf1⟩
 have HF1 := hid hf1
 clear hf1 HSP
 go_upto_region 4 with fail
 go_cut [11] (fun v wx => ∃ bz, v = .pointer (some ⟨bz, 0, none⟩) ∧ Hid (wx.heap[bz]? = some (.cells #[.int .u64 t0, .int .u64 t1, .int .u64 t2, .int .u64 t3] 29 (0, 0))) ∧ Hid (Frm [] ws wx) ∧ Hid (ws.heap.size ≤ bz))
 case first =>
  have sA : ∀ W, Frm [] ws W → W.cell? ⟨ba, 0, none⟩ = some (.int .u64 s0) ∧ W.cell? ⟨ba, 1, none⟩ = some (.int .u64 s1) ∧ W.cell? ⟨ba, 2, none⟩ = some (.int .u64 s2) ∧ W.cell? ⟨ba, 3, none⟩ = some (.int .u64 s3) := fun W hf => by
   refine ⟨?_, ?_, ?_, ?_⟩ <;> (rw [cell_of_row _ _ _ _ _ _ (HRA.out W hf)]; rfl)
  have HFD : Hid (Frm [] ws w1.drew) := hid (HF1.out.trans (Frm.refl [] w1).drew (by simp))
  refine wp_region_tail (S := fun W => (W.cell? ⟨ba, 0, none⟩ = some (.int .u64 s0) ∧ W.cell? ⟨ba, 1, none⟩ = some (.int .u64 s1) ∧ W.cell? ⟨ba, 2, none⟩ = some (.int .u64 s2) ∧ W.cell? ⟨ba, 3, none⟩ = some (.int .u64 s3))) 6 7 rfl (by kernel_rfl) (by kernel_rfl) ?_
  refine hI (i := 0) (v := ?_) rfl ?_ (sA _ HFD.out) ?_
  rotate_left 1
  ·rintro W ⟨e0, e1, e2, e3⟩; (try simp only [lA, lZ]); go_simp; try with_reducible rfl
  try simp only [lA, lZ, Act.put, lI, lW, lX]
  refine hI (i := 1) (v := ?_) rfl ?_ (sA _ HFD.out) ?_
  rotate_left 1
  ·rintro W ⟨e0, e1, e2, e3⟩; (try simp only [lA, lS, lZ]); go_simp; try with_reducible rfl
  try simp only [lA, lS, lZ, Act.put, lI, lW, lX]
  refine hI (i := 2) (v := ?_) rfl ?_ (sA _ HFD.out) ?_
  rotate_left 1
  ·rintro W ⟨e0, e1, e2, e3⟩; (try simp only [lA, lS, lZ]); go_simp; try with_reducible rfl
  try simp only [lA, lS, lZ, Act.put, lI, lW, lX]
  refine hI (i := 3) (v := ?_) rfl ?_ (sA _ HFD.out) ?_
  rotate_left 1
  ·(intro W hSw; obtain ⟨e0, e1, e2, e3⟩ := hSw; have hsl := hs1 W; (try simp only [lA, lS, lZ]); go_simp; try with_reducible rfl)
  try simp only [lA, lS, lZ, Act.put, lI, lW, lX]
  refine wpAnyHT_two (i := 4) (j := 5) rfl rfl (by kernel_rfl) (by kernel_rfl) (by kernel_rfl) (fun K hK => ?_) (fun K hK => ?_)
  ·try simp only [lA, lS, lZ]
   go_simp
   refine (HSE.out _ HFD.out).mono ?_
   rintro e w2 ⟨rfl, hf2⟩
   have hfw2 : Frm [] ws w2 := HFD.out.trans hf2 (by simp)
   refine hK _ _ (sA _ hfw2) ?_
   clear hK K
   refine wpAnyHT_one (i := 5) rfl (by kernel_rfl) (by kernel_rfl) (fun K hK => ?_)
   try simp only [lA, lS, lZ]
   go_simp
   refine hK _ _ (sA _ (hfw2.alloc _)) ?_
   clear hK K
   try simp only [lA, lS, lZ, Act.put, lI, lW, lX]
   have hq := heap_alloc_new w2 (.cells #[.int .u64 0, .int .u64 0, .int .u64 0, .int .u64 0] 29)
   have hfq := hfw2.alloc (.cells #[.int .u64 0, .int .u64 0, .int .u64 0, .int .u64 0] 29)
   have hlo := hfw2.size
   obtain ⟨bz, hbz⟩ := eX (w2.heap.size)
   obtain ⟨Wq, hWq⟩ := eX (w2.alloc (.cells #[.int .u64 0, .int .u64 0, .int .u64 0, .int .u64 0] 29))
   rw [hWq] at hfq
   rw [hWq, hbz] at hq
   rw [hbz] at hlo
   try rw [hWq]
   try rw [hbz]
   refine wpAnyHT_end (by kernel_rfl) ?_
   simp only [List.drop_succ_cons, List.drop_zero]
   have z0 := cR 0 (.int .u64 0) hq
   have x0 := fZ 0 hq
   have z1 := cR 1 (.int .u64 0) hq
   have x1 := fZ 1 hq
   have z2 := cR 2 (.int .u64 0) hq
   have x2 := fZ 2 hq
   have z3 := cR 3 (.int .u64 0) hq
   have x3 := fZ 3 hq
   obtain ⟨Wz, hwz, h4, f4⟩ := sE bz 29 [(0, .int .u64 t0), (1, .int .u64 t1), (2, .int .u64 t2), (3, .int .u64 t3)] Wq _ hq
   simp only [List.foldl, List.setIfInBounds_toArray, List.set_cons_zero, List.set_cons_succ] at h4
   simp only [setsF] at hwz
   have hWz := hwz
   go_wp2_with fail
   try rw [hwz]
   go_meet
   try rw [hwz]
   exact ⟨bz, rfl, hid h4, hid (hfq.trans f4 (fun i hi hl => by rw [List.mem_singleton] at hi; have := hlo; omega)), hid hlo⟩
  ·have ha := heap_alloc_new w1.drew (.cells #[.int .u64 0, .int .u64 0, .int .u64 0, .int .u64 0] 29)
   have hfa := HFD.out.alloc (.cells #[.int .u64 0, .int .u64 0, .int .u64 0, .int .u64 0] 29)
   try simp only [lA, lS, lZ]
   go_simp
   refine hK _ _ (sA _ hfa) ?_
   clear hK K
   try simp only [lA, lS, lZ, Act.put, lI, lW, lX]
   refine wpAnyHT_one (i := 4) rfl (by kernel_rfl) (by kernel_rfl) (fun K hK => ?_)
   try simp only [lA, lS, lZ]
   go_simp
   refine (HSE.out _ hfa).mono ?_
   rintro e w2 ⟨rfl, hf2⟩
   have hfw2 : Frm [] ws w2 := hfa.trans hf2 (by simp)
   refine hK _ _ (sA _ hfw2) ?_
   clear hK K
   have hq := hf2.heap ha (by simp)
   have hfq := hfw2
   have hlo : ws.heap.size ≤ w1.drew.heap.size := HFD.out.size
   obtain ⟨bz, hbz⟩ := eX (w1.drew.heap.size)
   obtain ⟨Wq, hWq⟩ := eX (w2)
   have hbz2 : w1.heap.size = bz := hbz
   rw [hWq] at hq hfq
   rw [hbz] at hq hlo
   try rw [hWq]
   try rw [hbz]
   try rw [hbz2]
   refine wpAnyHT_end (by kernel_rfl) ?_
   simp only [List.drop_succ_cons, List.drop_zero]
   have z0 := cR 0 (.int .u64 0) hq
   have x0 := fZ 0 hq
   have z1 := cR 1 (.int .u64 0) hq
   have x1 := fZ 1 hq
   have z2 := cR 2 (.int .u64 0) hq
   have x2 := fZ 2 hq
   have z3 := cR 3 (.int .u64 0) hq
   have x3 := fZ 3 hq
   obtain ⟨Wz, hwz, h4, f4⟩ := sE bz 29 [(0, .int .u64 t0), (1, .int .u64 t1), (2, .int .u64 t2), (3, .int .u64 t3)] Wq _ hq
   simp only [List.foldl, List.setIfInBounds_toArray, List.set_cons_zero, List.set_cons_succ] at h4
   simp only [setsF] at hwz
   have hWz := hwz
   go_wp2_with fail
   try rw [hwz]
   go_meet
   try rw [hwz]
   exact ⟨bz, rfl, hid h4, hid (hfq.trans f4 (fun i hi hl => by rw [List.mem_singleton] at hi; have := hlo; omega)), hid hlo⟩
 case rest =>
  obtain ⟨bz, rfl, HZ, HFX, HZL⟩ := hcut
  go_wp2_with fail
  refine (HNT.out _ HFX.out).mono ?_
  rintro e w5 ⟨r5, g5, rfl, hr5, hf5, hb5, hg5⟩
  have HR0 : Hid (FrR wc w5 r5 g5 TT (0, 0)) := hid ⟨hr5, hf5, hb5, hg5⟩
  have hzc := lt_of_heap HZ.out
  have HNE : Hid (¬ bz = r5) := hid (by omega)
  have HC1 := hid (fun W (h : FrR wc W r5 g5 TT (0, 0)) => nR_any wc W r5 g5 TT HBT.out (0, 0) h 8 (by omega) (by omega))
  have hv1 : ∃ v, u1 TT = v := ⟨_, rfl⟩
  obtain ⟨v1, hv1⟩ := hv1
  have HC2 := hid (fun W (h : FrR wc W r5 g5 TT (u1 TT).2) => nR_any wc W r5 g5 TT HBT.out (u1 TT).2 h 8 (by omega) (by omega))
  obtain ⟨v2, hv2⟩ := eX (u2 TT)
  have HC3 := hid (fun W (h : FrR wc W r5 g5 TT (u2 TT).2) => nR_any wc W r5 g5 TT HBT.out (u2 TT).2 h 8 (by omega) (by omega))
  obtain ⟨v3, hv3⟩ := eX (u3 TT)
  have HC4 := hid (fun W (h : FrR wc W r5 g5 TT (u3 TT).2) => nR_any wc W r5 g5 TT HBT.out (u3 TT).2 h 8 (by omega) (by omega))
  obtain ⟨v4, hv4⟩ := eX (u4 TT)
  rw [show nuS TT (0, 0) 8 = u1 TT from rfl, hv1] at HC1
  rw [show nuS TT (u1 TT).2 8 = u2 TT from rfl, hv1, hv2] at HC2
  rw [show nuS TT (u2 TT).2 8 = u3 TT from rfl, hv2, hv3] at HC3
  rw [show nuS TT (u3 TT).2 8 = u4 TT from rfl, hv3, hv4] at HC4
  rw [hv1, hv2, hv3, hv4] at HDS
  have hbq : ∀ W, (Instr.build 29 #[(0, .int .u64 v1.1), (1, .int .u64 v2.1), (2, .int .u64 v3.1), (3, .int .u64 v4.1)]).run Tryz.prog W = .ok (.agg #[.int .u64 v1.1, .int .u64 v2.1, .int .u64 v3.1, .int .u64 v4.1]) W := fun W => run_build W _ _ _ (by kernel_rfl)
  have hnq := fun W => neqS ⟨t0, t1, t2, t3⟩ ⟨v1.1, v2.1, v3.1, v4.1⟩ W
  have HEQ : Hid (S4.mk t0 t1 t2 t3 = dcS bs ↔ S4.mk t0 t1 t2 t3 = S4.mk v1.1 v2.1 v3.1 v4.1) := hid (by rw [HDS.out])
  obtain ⟨B, hB⟩ : ∃ B, decide (S4.mk t0 t1 t2 t3 = S4.mk v1.1 v2.1 v3.1 v4.1) = B := ⟨_, rfl⟩
  rw [hB] at hnq
  have HBE : Hid (B = true ↔ S4.mk t0 t1 t2 t3 = dcS bs) := hid (by rw [HEQ.out, ← hB]; exact decide_eq_true_iff)
  have sZ : ∀ W, Frm [r5] w5 W → W.cell? ⟨bz, 0, none⟩ = some (.int .u64 t0) ∧ W.cell? ⟨bz, 1, none⟩ = some (.int .u64 t1) ∧ W.cell? ⟨bz, 2, none⟩ = some (.int .u64 t2) ∧ W.cell? ⟨bz, 3, none⟩ = some (.int .u64 t3) := fun W hf => by
   have hr := hf.heap (hf5.heap HZ.out (by simp)) (by simpa using HNE.out)
   refine ⟨?_, ?_, ?_, ?_⟩ <;> (rw [cell_of_row _ _ _ _ _ _ hr]; rfl)
  have HF5 : Hid (Frm [] ws w5) := hid (HFX.out.trans hf5 (by simp))
  have HR5L : Hid (wc.heap.size ≤ r5) := hid hb5
  clear hr5 hf5 hb5 hg5 hv1 hv2 hv3 hv4 hB hzc HNT hs2
  go_upto_region 6 with fail
  have HFA : Hid (Frm [r5] w5 w5.drew) := hid ((Frm.refl _ _).drew)
  have HRA0 := hid (HR0.out.k0 (Frm.refl [] w5).drew)
  refine wp_region_tail (S := fun W => (W.cell? ⟨bz, 0, none⟩ = some (.int .u64 t0) ∧ W.cell? ⟨bz, 1, none⟩ = some (.int .u64 t1) ∧ W.cell? ⟨bz, 2, none⟩ = some (.int .u64 t2) ∧ W.cell? ⟨bz, 3, none⟩ = some (.int .u64 t3))) 10 11 rfl (by kernel_rfl) (by kernel_rfl) ?_
  refine hI (i := 0) (v := ?_) rfl ?_ (sZ _ HFA.out) ?_
  rotate_left 1
  ·rintro W ⟨e0, e1, e2, e3⟩; (try simp only [lA, lZ]); go_simp; try with_reducible rfl
  try simp only [lA, lZ, Act.put, lI, lW, lX]
  refine hI (i := 1) (v := ?_) rfl ?_ (sZ _ HFA.out) ?_
  rotate_left 1
  ·rintro W ⟨e0, e1, e2, e3⟩; (try simp only [lA, lS, lZ]); go_simp; try with_reducible rfl
  try simp only [lA, lS, lZ, Act.put, lI, lW, lX]
  refine hI (i := 3) (v := ?_) rfl ?_ (sZ _ HFA.out) ?_
  rotate_left 1
  ·rintro W ⟨e0, e1, e2, e3⟩; (try simp only [lA, lS, lZ]); go_simp; try with_reducible rfl
  try simp only [lA, lS, lZ, Act.put, lI, lW, lX]
  refine hI (i := 5) (v := ?_) rfl ?_ (sZ _ HFA.out) ?_
  rotate_left 1
  ·rintro W ⟨e0, e1, e2, e3⟩; (try simp only [lA, lS, lZ]); go_simp; try with_reducible rfl
  try simp only [lA, lS, lZ, Act.put, lI, lW, lX]
  refine hI (i := 7) (v := ?_) rfl ?_ (sZ _ HFA.out) ?_
  rotate_left 1
  ·rintro W ⟨e0, e1, e2, e3⟩; (try simp only [lA, lS, lZ]); go_simp; try with_reducible rfl
  try simp only [lA, lS, lZ, Act.put, lI, lW, lX]
  refine wpAnyHT_one (i := 2) rfl (by kernel_rfl) (by kernel_rfl) (fun K hK => ?_)
  try simp only [lA, lS, lZ]
  go_simp
  refine (HC1.out _ HRA0.out).mono ?_
  rintro e x1 ⟨rfl, hr, hf⟩
  have HG1 : Hid (Frm [r5] w5 x1) := hid (HFA.out.trans hf (fun i hi _ => hi))
  have HQ1 := hid hr
  refine hK _ _ (sZ _ HG1.out) ?_
  clear hK K hr hf
  refine wpAnyHT_one (i := 4) rfl (by kernel_rfl) (by kernel_rfl) (fun K hK => ?_)
  try simp only [lA, lS, lZ]
  go_simp
  refine (HC2.out _ HQ1.out).mono ?_
  rintro e x2 ⟨rfl, hr, hf⟩
  have HG2 : Hid (Frm [r5] w5 x2) := hid (HG1.out.trans hf (fun i hi _ => hi))
  have HQ2 := hid hr
  refine hK _ _ (sZ _ HG2.out) ?_
  clear hK K hr hf
  refine wpAnyHT_one (i := 6) rfl (by kernel_rfl) (by kernel_rfl) (fun K hK => ?_)
  try simp only [lA, lS, lZ]
  go_simp
  refine (HC3.out _ HQ2.out).mono ?_
  rintro e x3 ⟨rfl, hr, hf⟩
  have HG3 : Hid (Frm [r5] w5 x3) := hid (HG2.out.trans hf (fun i hi _ => hi))
  have HQ3 := hid hr
  refine hK _ _ (sZ _ HG3.out) ?_
  clear hK K hr hf
  refine wpAnyHT_one (i := 8) rfl (by kernel_rfl) (by kernel_rfl) (fun K hK => ?_)
  try simp only [lA, lS, lZ]
  go_simp
  refine (HC4.out _ HQ3.out).mono ?_
  rintro e x4 ⟨rfl, hr, hf⟩
  have HG4 : Hid (Frm [r5] w5 x4) := hid (HG3.out.trans hf (fun i hi _ => hi))
  have HQ4 := hid hr
  refine hK _ _ (sZ _ HG4.out) ?_
  clear hK K hr hf
  refine hI (i := 9) (v := ?_) rfl ?_ (sZ _ HG4.out) ?_
  rotate_left 1
  ·(intro W hSw; obtain ⟨e0, e1, e2, e3⟩ := hSw; have hbb := hbq W; (try simp only [lA, lS, lZ]); go_simp; try with_reducible rfl)
  try simp only [lA, lS, lZ, Act.put, lI, lW, lX]
  refine wpAnyHT_end (by kernel_rfl) ?_
  simp only [List.drop_succ_cons, List.drop_zero]
  have HF6 : Hid (Frm [] ws x4) := hid (HF5.out.trans HG4.out (fun i hi hl => by rw [List.mem_singleton] at hi; subst hi; have h1 := HFX.out.size; have h2 := HR5L.out; omega))
  have HZ6 : Hid (∀ W, Frm [] x4 W → W.heap[bz]? = some (.cells #[.int .u64 t0, .int .u64 t1, .int .u64 t2, .int .u64 t3] 29 (0, 0))) := hid (fun W hf => hf.heap (HG4.out.heap (HR0.out.2.1.heap HZ.out (by simp)) (by simpa using HNE.out)) (by simp))
  clear sZ hbq HC1 HC2 HC3 HC4 HRA0 HQ1 HQ2 HQ3 HQ4 HFA HG1 HG2 HG3 HR0
  cases B with
  | false =>
   have HEE : Hid (dcE ⟨s0, s1, s2, s3⟩ bs = 201) := hid (by rw [HDE.out, if_pos (fun h => absurd (HBE.out.2 h) (by simp))])
   have hnq2 : ∀ W, (binOp .neq 29 (.agg #[.int .u64 t0, .int .u64 t1, .int .u64 t2, .int .u64 t3]) (.agg #[.int .u64 v1.1, .int .u64 v2.1, .int .u64 v3.1, .int .u64 v4.1])).run Tryz.prog W = .ok (.bool true) W := hnq
   have hrr := HRR.out x4 HF6.out
   have hrs := HRS.out x4 HF6.out
   have z0 := cR 0 (.int .i64 0) hrr
   have y0 := fZ 0 hrr
   have z1 := cR 1 (.string ⟨#[]⟩) hrr
   have y1 := fZ 1 hrr
   have z2 := cR 2 (.int .i64 0) hrr
   have y2 := fZ 2 hrr
   have z3 := cR 3 (.int .i64 0) hrr
   have y3 := fZ 3 hrr
   have z4 := cR 4 (.int .i64 0) hrr
   have y4 := fZ 4 hrr
   have z5 := cR 5 (.int .i64 0) hrr
   have y5 := fZ 5 hrr
   have z6 := cR 6 (.string ⟨#[]⟩) hrr
   have y6 := fZ 6 hrr
   have z7 := cR 7 (.slice none 0 0) hrr
   have y7 := fZ 7 hrr
   have z8 := cR 8 (.int .i64 0) hrr
   have y8 := fZ 8 hrr
   have z9 := cR 9 (.int .i64 0) hrr
   have y9 := fZ 9 hrr
   have z10 := cR 10 (.int .i64 0) hrr
   have y10 := fZ 10 hrr
   have z11 := cR 11 (.slice none 0 0) hrr
   have y11 := fZ 11 hrr
   have z12 := cR 12 (.slice none 0 0) hrr
   have y12 := fZ 12 hrr
   have n0 := cR 0 (.int .u64 0) hrs
   have m0 := fZ 0 hrs
   have n1 := cR 1 (.int .u64 0) hrs
   have m1 := fZ 1 hrs
   have n2 := cR 2 (.int .u64 0) hrs
   have m2 := fZ 2 hrs
   have n3 := cR 3 (.int .u64 0) hrs
   have m3 := fZ 3 hrs
   go_wp2_with fail
   obtain ⟨Wz, hwz, h5, f5⟩ := sE br 26 [(0, .int .i64 0), (1, .string ⟨#[]⟩), (2, .int .i64 0), (3, .int .i64 0), (4, .int .i64 0), (5, .int .i64 0), (6, .string ⟨#[]⟩), (7, .slice none 0 0), (8, .int .i64 0), (9, .int .i64 0), (10, .int .i64 0), (11, .slice none 0 0), (12, .slice none 0 0)] x4 _ hrr
   simp only [List.foldl, List.setIfInBounds_toArray, List.set_cons_zero, List.set_cons_succ] at h5
   simp only [setsF] at hwz
   have hWz := hwz
   rw [hwz]
   have hrs2 := f5.heap hrs (by simp)
   obtain ⟨Wy, hwy, h6, f6⟩ := sE (br + 1) 29 [(0, .int .u64 0), (1, .int .u64 0), (2, .int .u64 0), (3, .int .u64 0)] Wz _ hrs2
   simp only [List.foldl, List.setIfInBounds_toArray, List.set_cons_zero, List.set_cons_succ] at h6
   simp only [setsF] at hwy
   have hWy := hwy
   rw [hwy]
   have h7 := f6.heap h5 (by simp)
   have u0 := cR 0 (.int .i64 0) h7
   have u1 := cR 1 (.string ⟨#[]⟩) h7
   have u2 := cR 2 (.int .i64 0) h7
   have u3 := cR 3 (.int .i64 0) h7
   have u4 := cR 4 (.int .i64 0) h7
   have u5 := cR 5 (.int .i64 0) h7
   have u6 := cR 6 (.string ⟨#[]⟩) h7
   have u7 := cR 7 (.slice none 0 0) h7
   have u8 := cR 8 (.int .i64 0) h7
   have u9 := cR 9 (.int .i64 0) h7
   have u10 := cR 10 (.int .i64 0) h7
   have u11 := cR 11 (.slice none 0 0) h7
   have u12 := cR 12 (.slice none 0 0) h7
   have k0 := cR 0 (.int .u64 0) h6
   have k1 := cR 1 (.int .u64 0) h6
   have k2 := cR 2 (.int .u64 0) h6
   have k3 := cR 3 (.int .u64 0) h6
   refine bodyPost_ret (v := .tuple #[.agg #[.int .i64 0, .string ⟨#[]⟩, .int .i64 0, .int .i64 0, .int .i64 0, .int .i64 0, .string ⟨#[]⟩, .slice none 0 0, .int .i64 0, .int .i64 0, .int .i64 0, .slice none 0 0, .slice none 0 0], .int .i64 0, .agg #[.int .u64 0, .int .u64 0, .int .u64 0, .int .u64 0], .int .i64 201]) (by simp [results, Tryz.results22, go_sem, u0, u1, u2, u3, u4, u5, u6, u7, u8, u9, u10, u11, u12, k0, k1, k2, k3]) rfl ?_
   exact HPB.out _ _ ⟨HEE.out, by decide⟩ (((HFR.out.trans HF6.out (by simp)).trans f5 (fun i hi hl => by rw [List.mem_singleton] at hi; have := HBL.out; omega)).trans f6 (fun i hi hl => by rw [List.mem_singleton] at hi; have := HBL.out; omega))
  | true =>
  have HD2 : Hid (dcE ⟨s0, s1, s2, s3⟩ bs = if ¬ okB K BB then 200 else 0) := hid (by rw [HDE.out, if_neg (fun h => h (HBE.out.1 rfl))])
  have hnq2 : ∀ W, (binOp .neq 29 (.agg #[.int .u64 t0, .int .u64 t1, .int .u64 t2, .int .u64 t3]) (.agg #[.int .u64 v1.1, .int .u64 v2.1, .int .u64 v3.1, .int .u64 v4.1])).run Tryz.prog W = .ok (.bool false) W := hnq
  clear hnq
  go_wp2_with fail
  refine (HNB.out _ HF6.out).mono ?_
  rintro e w7 ⟨r7, g7, rfl, hr7, hf7, hb7, hg7⟩
  have HR7 : Hid (FrR x4 w7 r7 g7 BB (0, 0)) := hid ⟨hr7, hf7, hb7, hg7⟩
  have HR7L : Hid (x4.heap.size ≤ r7 ∧ r7 < w7.heap.size) := hid ⟨hb7, hr7.cells.1⟩
  have HG78 : Hid (g7 < w7.heap.size) := hid hr7.cells.2.1
  clear hr7 hf7 hb7 hg7 hnq2 hs3 HNB
  go_wp2_with fail
  refine (rows_any w7).mono ?_
  rintro e w8 ⟨m, rfl, hmm, hmap, hf8⟩
  have hl8 := hlk w8 m hmap
  have HR8 := hid (HR7.out.k0 hf8)
  have HF8 : Hid (Frm [] w7 w8) := hid hf8
  clear hmm hf8 hlk
  go_wp2_with fail
  rw [hft.out, Oper.upon_enter]
  refine (HTK.out x4 w8 r7 g7 HR8.out).mono ?_
  rintro e w9 ⟨r, rfl, hcr, hown, hfr9, hfm9⟩
  have hns : r.name.size ≤ 100000 := by
   have h : r.core.name = V.c.name := by rw [hcr]
   have h2 : r.name = V.c.name := h
   rw [h2]; exact hnm
  have HCR : Hid (Rc.core ⟨K, r.name, r.typ, r.frm, r.guid, r.origin, r.snap, r.pp, r.pn, r.pc, r.obj, r.at_, r.many, r.kp, r.kn, r.kc, r.dp, r.dl, r.dc⟩ = (V.rc K).core) := hid (by unfold TkV.rc; rw [← hcr]; rfl)
  have HLP : Hid (r.pn = V.p.length ∧ r.kn = V.k.length ∧ r.dl = V.d.length) := hid ⟨hown.pl.symm, hown.kl.symm, hown.dl.symm⟩
  have HS9 : Hid (w8.heap.size ≤ w9.heap.size) := hid hfm9.size
  have HF9 : Hid (Frm [] x4 w9) := hid hfr9.2.1
  have HR9 := hid hfr9
  have HSZ8 : Hid (w7.heap.size ≤ w8.heap.size) := hid HF8.out.size
  clear hfr9 hcr hmap hl8 HR7 HR8 HTK hnm hfm9
  obtain ⟨kind, name, typ, frm, guid, origin, snap, pp, pn, pc, obj, at_, many, kp, kn, kc, dp, dl, dc⟩ := r
  unfold Rc.arr
  simp only at hns HCR HLP hown ⊢
  have hrx := heap_alloc_new w9 (.cells #[.int .i64 kind, .string name, .int .i64 typ, .int .i64 frm, .int .i64 guid, .int .i64 origin, .string snap, .slice pp pn pc, .int .i64 obj, .int .i64 at_, .int .i64 many, .slice kp kn kc, .slice dp dl dc] 26)
  have hfx : Frm [] w9 (w9.alloc (.cells #[.int .i64 kind, .string name, .int .i64 typ, .int .i64 frm, .int .i64 guid, .int .i64 origin, .string snap, .slice pp pn pc, .int .i64 obj, .int .i64 at_, .int .i64 many, .slice kp kn kc, .slice dp dl dc] 26)) := (Frm.refl _ _).alloc _
  obtain ⟨bx, hbx⟩ := eX (w9.heap.size)
  obtain ⟨wx, hwx⟩ := eX (w9.alloc (.cells #[.int .i64 kind, .string name, .int .i64 typ, .int .i64 frm, .int .i64 guid, .int .i64 origin, .string snap, .slice pp pn pc, .int .i64 obj, .int .i64 at_, .int .i64 many, .slice kp kn kc, .slice dp dl dc] 26))
  rw [hwx, hbx] at hrx
  rw [hwx] at hfx
  have hown2 := hown.k0 hfx
  have HBXN : Hid (bx ∉ blk pp ∧ bx ∉ blk kp ∧ bx ∉ blk dp) := hid (by
   have h1 := ownsRow_low hown.po
   have h2 := ownsRow_low hown.ko
   have h3 : ∀ k ∈ blk dp, k < w9.heap.size := fun k hk => (World.ownsRow.lt hown.ow k (by cases dp <;> simp_all [blk, Value.ownBlock])).2
   exact ⟨fun hm => by have := h1 bx hm; omega, fun hm => by have := h2 bx hm; omega, fun hm => by have := h3 bx hm; omega⟩)
  have HR10 := hid (HR9.out.k0 hfx)
  have HF10 : Hid (Frm [] x4 wx) := hid (HF9.out.trans hfx (by simp))
  have HXL : Hid (w8.heap.size ≤ bx ∧ bx < wx.heap.size) := hid ⟨by have := HS9.out; omega, lt_of_heap hrx⟩
  have HBXE := hid hbx
  have HWXE := hid hwx
  have z0 := cR 0 (.int .i64 kind) hrx
  have y0 := fZ 0 hrx
  clear hbx hwx hfx hown HR9 HF9
  go_upto_region 10 with fail
  try rw [HBXE.out]
  try rw [HWXE.out]
  go_upto_region 11 with fail
  have HOWN := hid hown2
  have HRX := hid hrx
  clear hown2 hrx
  obtain ⟨W11, hW11⟩ := eX (wx.setCell ⟨bx, 0, none⟩ (.int .i64 K))
  have hr11 := heap_setCell_same wx bx 0 _ _ (.int .i64 K) HRX.out
  have hf11 : Frm [bx] wx (wx.setCell ⟨bx, 0, none⟩ (.int .i64 K)) := (Frm.refl _ _).setCell _ _ (by simp)
  rw [hW11] at hr11 hf11 ⊢
  have HR11 : Hid (W11.heap[bx]? = some (.cells #[.int .i64 K, .string name, .int .i64 typ, .int .i64 frm, .int .i64 guid, .int .i64 origin, .string snap, .slice pp pn pc, .int .i64 obj, .int .i64 at_, .int .i64 many, .slice kp kn kc, .slice dp dl dc] 26 (0, 0))) := hid hr11
  have h10 := HR10.out.1.cells
  have HXR : Hid (¬ bx = r7 ∧ bx ≠ g7 ∧ x4.heap.size ≤ bx ∧ ws.heap.size ≤ bx) := hid (by have h1 := HR7L.out; have h2 := HSZ8.out; have h3 := HXL.out; have h4 := HF6.out.size; have h5 := HG78.out; exact ⟨by omega, by omega, by omega, by omega⟩)
  have HQ11 : Hid (FrR x4 W11 r7 g7 BB V.s) := hid (frR_set HR10.out hf11 HXR.out.1 HXR.out.2.1 HXR.out.2.2.1)
  have own11 := HOWN.out.kept hf11 (fun k hk hm => by rw [List.mem_singleton] at hm; subst hm; exact HBXN.out.1 hk) (fun k hk hm => by rw [List.mem_singleton] at hm; subst hm; exact HBXN.out.2.1 hk) (fun k hk hm => by rw [List.mem_singleton] at hm; subst hm; exact HBXN.out.2.2 hk)
  have HO11 : Hid (RcOwn W11 ⟨K, name, typ, frm, guid, origin, snap, pp, pn, pc, obj, at_, many, kp, kn, kc, dp, dl, dc⟩ V.p V.k V.d w8.heap.size) := hid ⟨own11.po, own11.pl, own11.pw, own11.ko, own11.kl, own11.kw, own11.ow, own11.dl, own11.dw, own11.db, own11.mx⟩
  have HF11 : Hid (Frm [] ws W11) := hid ((HF6.out.trans HF10.out (by simp)).trans hf11 (fun i hi hl => by rw [List.mem_singleton] at hi; have := HXR.out; omega))
  have HZ11 : Hid (∀ W, Frm [] W11 W → W.heap[bz]? = some (.cells #[.int .u64 t0, .int .u64 t1, .int .u64 t2, .int .u64 t3] 29 (0, 0))) := hid (fun W hf => hf.heap (hf11.heap (HZ6.out wx HF10.out) (by have h1 := lt_of_heap (HZ6.out x4 (Frm.refl _ _)); have h2 := HXR.out.2.2.1; simp; omega)) (by simp))
  have HDN := hid (doneR_any r7 g7 V.s.1 BB V.s.2 W11 HQ11.out.1)
  obtain ⟨DN, hDN⟩ := eX (doneS BB.length V.s.1 V.s.2)
  rw [hDN] at HDN HOK
  have HNS : Hid (name.size ≤ 9223372036854775806) := hid (by omega)
  have HMY : Hid (RcMay ⟨K, name, typ, frm, guid, origin, snap, pp, pn, pc, obj, at_, many, kp, kn, kc, dp, dl, dc⟩ V.p V.k V.d ↔ RcMay (V.rc K) V.p V.k V.d) := hid (rcMay_core HCR.out HLP.out.1 HLP.out.2.1 HLP.out.2.2)
  have HCK := hid (fun W (hf : Frm [] W11 W) => check_any ⟨K, name, typ, frm, guid, origin, snap, pp, pn, pc, obj, at_, many, kp, kn, kc, dp, dl, dc⟩ V.p V.k V.d W (HO11.out.k0 hf).ok HNS.out)
  clear hW11 hr11 hf11 own11 h10 hDN z0 y0 hns HR10 HOWN HRX
  by_cases hd : DN = 0
  case neg =>
   have HEE : Hid (dcE ⟨s0, s1, s2, s3⟩ bs = 200) := hid (by rw [HD2.out, if_pos (fun h => hd (HOK.out.1 h).1)])
   have hbd : (DN != 0) = true := by rw [bne_iff_ne]; exact hd
   clear hd
   go_wp2_with fail
   refine HDN.out.mono ?_
   rintro e _ ⟨rfl, q, rfl⟩
   have HF12 : Hid (Frm [] ws (W11.drewN q)) := hid (HF11.out.drewN q)
   obtain ⟨w12, hw12⟩ := eX (W11.drewN q)
   rw [hw12] at HF12 ⊢
   clear hw12 HDN
   have hrr := HRR.out w12 HF12.out
   have hrs := HRS.out w12 HF12.out
   have z0 := cR 0 (.int .i64 0) hrr
   have y0 := fZ 0 hrr
   have z1 := cR 1 (.string ⟨#[]⟩) hrr
   have y1 := fZ 1 hrr
   have z2 := cR 2 (.int .i64 0) hrr
   have y2 := fZ 2 hrr
   have z3 := cR 3 (.int .i64 0) hrr
   have y3 := fZ 3 hrr
   have z4 := cR 4 (.int .i64 0) hrr
   have y4 := fZ 4 hrr
   have z5 := cR 5 (.int .i64 0) hrr
   have y5 := fZ 5 hrr
   have z6 := cR 6 (.string ⟨#[]⟩) hrr
   have y6 := fZ 6 hrr
   have z7 := cR 7 (.slice none 0 0) hrr
   have y7 := fZ 7 hrr
   have z8 := cR 8 (.int .i64 0) hrr
   have y8 := fZ 8 hrr
   have z9 := cR 9 (.int .i64 0) hrr
   have y9 := fZ 9 hrr
   have z10 := cR 10 (.int .i64 0) hrr
   have y10 := fZ 10 hrr
   have z11 := cR 11 (.slice none 0 0) hrr
   have y11 := fZ 11 hrr
   have z12 := cR 12 (.slice none 0 0) hrr
   have y12 := fZ 12 hrr
   have n0 := cR 0 (.int .u64 0) hrs
   have m0 := fZ 0 hrs
   have n1 := cR 1 (.int .u64 0) hrs
   have m1 := fZ 1 hrs
   have n2 := cR 2 (.int .u64 0) hrs
   have m2 := fZ 2 hrs
   have n3 := cR 3 (.int .u64 0) hrs
   have m3 := fZ 3 hrs
   go_wp2_with fail
   obtain ⟨Wz, hwz, h5, f5⟩ := sE br 26 [(0, .int .i64 0), (1, .string ⟨#[]⟩), (2, .int .i64 0), (3, .int .i64 0), (4, .int .i64 0), (5, .int .i64 0), (6, .string ⟨#[]⟩), (7, .slice none 0 0), (8, .int .i64 0), (9, .int .i64 0), (10, .int .i64 0), (11, .slice none 0 0), (12, .slice none 0 0)] w12 _ hrr
   simp only [List.foldl, List.setIfInBounds_toArray, List.set_cons_zero, List.set_cons_succ] at h5
   simp only [setsF] at hwz
   have hWz := hwz
   rw [hwz]
   have hrs2 := f5.heap hrs (by simp)
   obtain ⟨Wy, hwy, h6, f6⟩ := sE (br + 1) 29 [(0, .int .u64 0), (1, .int .u64 0), (2, .int .u64 0), (3, .int .u64 0)] Wz _ hrs2
   simp only [List.foldl, List.setIfInBounds_toArray, List.set_cons_zero, List.set_cons_succ] at h6
   simp only [setsF] at hwy
   have hWy := hwy
   rw [hwy]
   have h7 := f6.heap h5 (by simp)
   have u0 := cR 0 (.int .i64 0) h7
   have u1 := cR 1 (.string ⟨#[]⟩) h7
   have u2 := cR 2 (.int .i64 0) h7
   have u3 := cR 3 (.int .i64 0) h7
   have u4 := cR 4 (.int .i64 0) h7
   have u5 := cR 5 (.int .i64 0) h7
   have u6 := cR 6 (.string ⟨#[]⟩) h7
   have u7 := cR 7 (.slice none 0 0) h7
   have u8 := cR 8 (.int .i64 0) h7
   have u9 := cR 9 (.int .i64 0) h7
   have u10 := cR 10 (.int .i64 0) h7
   have u11 := cR 11 (.slice none 0 0) h7
   have u12 := cR 12 (.slice none 0 0) h7
   have k0 := cR 0 (.int .u64 0) h6
   have k1 := cR 1 (.int .u64 0) h6
   have k2 := cR 2 (.int .u64 0) h6
   have k3 := cR 3 (.int .u64 0) h6
   refine bodyPost_ret (v := .tuple #[.agg #[.int .i64 0, .string ⟨#[]⟩, .int .i64 0, .int .i64 0, .int .i64 0, .int .i64 0, .string ⟨#[]⟩, .slice none 0 0, .int .i64 0, .int .i64 0, .int .i64 0, .slice none 0 0, .slice none 0 0], .int .i64 0, .agg #[.int .u64 0, .int .u64 0, .int .u64 0, .int .u64 0], .int .i64 200]) (by simp [results, Tryz.results22, go_sem, u0, u1, u2, u3, u4, u5, u6, u7, u8, u9, u10, u11, u12, k0, k1, k2, k3]) rfl ?_
   exact HPB.out _ _ ⟨HEE.out, by decide⟩ (((HFR.out.trans HF12.out (by simp)).trans f5 (fun i hi hl => by rw [List.mem_singleton] at hi; have := HBL.out; omega)).trans f6 (fun i hi hl => by rw [List.mem_singleton] at hi; have := HBL.out; omega))
  subst hd
  go_wp2_with fail
  refine HDN.out.mono ?_
  rintro e _ ⟨rfl, q, rfl⟩
  have HFD2 : Hid (Frm [] W11 (W11.drewN q)) := hid ((Frm.refl _ _).drewN q)
  obtain ⟨w12, hw12⟩ := eX (W11.drewN q)
  rw [hw12] at HFD2 ⊢
  clear hw12 HDN
  have q0 := cR 0 (.int .i64 K) (HFD2.out.heap HR11.out (by simp))
  have q1 := cR 1 (.string name) (HFD2.out.heap HR11.out (by simp))
  have q2 := cR 2 (.int .i64 typ) (HFD2.out.heap HR11.out (by simp))
  have q3 := cR 3 (.int .i64 frm) (HFD2.out.heap HR11.out (by simp))
  have q4 := cR 4 (.int .i64 guid) (HFD2.out.heap HR11.out (by simp))
  have q5 := cR 5 (.int .i64 origin) (HFD2.out.heap HR11.out (by simp))
  have q6 := cR 6 (.string snap) (HFD2.out.heap HR11.out (by simp))
  have q7 := cR 7 (.slice pp pn pc) (HFD2.out.heap HR11.out (by simp))
  have q8 := cR 8 (.int .i64 obj) (HFD2.out.heap HR11.out (by simp))
  have q9 := cR 9 (.int .i64 at_) (HFD2.out.heap HR11.out (by simp))
  have q10 := cR 10 (.int .i64 many) (HFD2.out.heap HR11.out (by simp))
  have q11 := cR 11 (.slice kp kn kc) (HFD2.out.heap HR11.out (by simp))
  have q12 := cR 12 (.slice dp dl dc) (HFD2.out.heap HR11.out (by simp))
  have HC12 := hid (HCK.out w12 HFD2.out)
  by_cases hm : RcMay ⟨K, name, typ, frm, guid, origin, snap, pp, pn, pc, obj, at_, many, kp, kn, kc, dp, dl, dc⟩ V.p V.k V.d
  case neg =>
   have HEE : Hid (dcE ⟨s0, s1, s2, s3⟩ bs = 200) := hid (by rw [HD2.out, if_pos (fun h => hm (HMY.out.2 (HOK.out.1 h).2))])
   rw [if_neg hm] at HC12
   unfold Rc.arr at HC12
   simp only at HC12
   clear hm
   go_wp2_with fail
   refine HC12.out.mono ?_
   rintro e w13 ⟨rfl, hf13⟩
   have HF13 : Hid (Frm [] ws w13) := hid ((HF11.out.trans HFD2.out (by simp)).trans hf13 (by simp))
   clear hf13 HC12 q0 q1 q2 q3 q4 q5 q6 q7 q8 q9 q10 q11 q12
   have hrr := HRR.out w13 HF13.out
   have hrs := HRS.out w13 HF13.out
   have z0 := cR 0 (.int .i64 0) hrr
   have y0 := fZ 0 hrr
   have z1 := cR 1 (.string ⟨#[]⟩) hrr
   have y1 := fZ 1 hrr
   have z2 := cR 2 (.int .i64 0) hrr
   have y2 := fZ 2 hrr
   have z3 := cR 3 (.int .i64 0) hrr
   have y3 := fZ 3 hrr
   have z4 := cR 4 (.int .i64 0) hrr
   have y4 := fZ 4 hrr
   have z5 := cR 5 (.int .i64 0) hrr
   have y5 := fZ 5 hrr
   have z6 := cR 6 (.string ⟨#[]⟩) hrr
   have y6 := fZ 6 hrr
   have z7 := cR 7 (.slice none 0 0) hrr
   have y7 := fZ 7 hrr
   have z8 := cR 8 (.int .i64 0) hrr
   have y8 := fZ 8 hrr
   have z9 := cR 9 (.int .i64 0) hrr
   have y9 := fZ 9 hrr
   have z10 := cR 10 (.int .i64 0) hrr
   have y10 := fZ 10 hrr
   have z11 := cR 11 (.slice none 0 0) hrr
   have y11 := fZ 11 hrr
   have z12 := cR 12 (.slice none 0 0) hrr
   have y12 := fZ 12 hrr
   have n0 := cR 0 (.int .u64 0) hrs
   have m0 := fZ 0 hrs
   have n1 := cR 1 (.int .u64 0) hrs
   have m1 := fZ 1 hrs
   have n2 := cR 2 (.int .u64 0) hrs
   have m2 := fZ 2 hrs
   have n3 := cR 3 (.int .u64 0) hrs
   have m3 := fZ 3 hrs
   go_wp2_with fail
   obtain ⟨Wz, hwz, h5, f5⟩ := sE br 26 [(0, .int .i64 0), (1, .string ⟨#[]⟩), (2, .int .i64 0), (3, .int .i64 0), (4, .int .i64 0), (5, .int .i64 0), (6, .string ⟨#[]⟩), (7, .slice none 0 0), (8, .int .i64 0), (9, .int .i64 0), (10, .int .i64 0), (11, .slice none 0 0), (12, .slice none 0 0)] w13 _ hrr
   simp only [List.foldl, List.setIfInBounds_toArray, List.set_cons_zero, List.set_cons_succ] at h5
   simp only [setsF] at hwz
   have hWz := hwz
   rw [hwz]
   have hrs2 := f5.heap hrs (by simp)
   obtain ⟨Wy, hwy, h6, f6⟩ := sE (br + 1) 29 [(0, .int .u64 0), (1, .int .u64 0), (2, .int .u64 0), (3, .int .u64 0)] Wz _ hrs2
   simp only [List.foldl, List.setIfInBounds_toArray, List.set_cons_zero, List.set_cons_succ] at h6
   simp only [setsF] at hwy
   have hWy := hwy
   rw [hwy]
   have h7 := f6.heap h5 (by simp)
   have u0 := cR 0 (.int .i64 0) h7
   have u1 := cR 1 (.string ⟨#[]⟩) h7
   have u2 := cR 2 (.int .i64 0) h7
   have u3 := cR 3 (.int .i64 0) h7
   have u4 := cR 4 (.int .i64 0) h7
   have u5 := cR 5 (.int .i64 0) h7
   have u6 := cR 6 (.string ⟨#[]⟩) h7
   have u7 := cR 7 (.slice none 0 0) h7
   have u8 := cR 8 (.int .i64 0) h7
   have u9 := cR 9 (.int .i64 0) h7
   have u10 := cR 10 (.int .i64 0) h7
   have u11 := cR 11 (.slice none 0 0) h7
   have u12 := cR 12 (.slice none 0 0) h7
   have k0 := cR 0 (.int .u64 0) h6
   have k1 := cR 1 (.int .u64 0) h6
   have k2 := cR 2 (.int .u64 0) h6
   have k3 := cR 3 (.int .u64 0) h6
   refine bodyPost_ret (v := .tuple #[.agg #[.int .i64 0, .string ⟨#[]⟩, .int .i64 0, .int .i64 0, .int .i64 0, .int .i64 0, .string ⟨#[]⟩, .slice none 0 0, .int .i64 0, .int .i64 0, .int .i64 0, .slice none 0 0, .slice none 0 0], .int .i64 0, .agg #[.int .u64 0, .int .u64 0, .int .u64 0, .int .u64 0], .int .i64 200]) (by simp [results, Tryz.results22, go_sem, u0, u1, u2, u3, u4, u5, u6, u7, u8, u9, u10, u11, u12, k0, k1, k2, k3]) rfl ?_
   exact HPB.out _ _ ⟨HEE.out, by decide⟩ (((HFR.out.trans HF13.out (by simp)).trans f5 (fun i hi hl => by rw [List.mem_singleton] at hi; have := HBL.out; omega)).trans f6 (fun i hi hl => by rw [List.mem_singleton] at hi; have := HBL.out; omega))
  have HEE : Hid (dcE ⟨s0, s1, s2, s3⟩ bs = 0) := hid (by rw [HD2.out, if_neg (fun h => h (HOK.out.2 ⟨by trivial, HMY.out.1 hm⟩))])
  rw [if_pos hm] at HC12
  unfold Rc.arr at HC12
  simp only at HC12
  clear hm
  go_wp2_with fail
  refine HC12.out.mono ?_
  rintro e w13 ⟨rfl, hf13⟩
  have HFE : Hid (Frm [] W11 w13) := hid (HFD2.out.trans hf13 (by simp))
  clear hf13 HC12 q0 q1 q2 q3 q4 q5 q6 q7 q8 q9 q10 q11 q12
  go_upto_region 13 with fail
  obtain ⟨wd, hwd⟩ := eX (w13.drew)
  have HFW : Hid (Frm [] W11 wd) := hid (by rw [← hwd]; exact HFE.out.drew)
  have HFS : Hid (Frm [] ws wd) := hid (HF11.out.trans HFW.out (by simp))
  have h64 : wrap64 ((dN : Int) + 32) = (dN : Int) + 32 := by unfold wrap64; omega
  have hw64 : IntKind.i64.wrap ((dN : Int) + 32) = (dN : Int) + 32 := by rw [IntKind.wrap_i64]; omega
  have HXB : Hid (bx ≠ br ∧ bx ≠ br + 1 ∧ bz ≠ br ∧ bz ≠ br + 1) := hid (by have h1 := HXR.out.2.2.2; have h2 := HSZ.out; have h3 := HZL.out; exact ⟨by omega, by omega, by omega, by omega⟩)
  have hS : ∀ W : World, W.heap[bx]? = some (.cells #[.int .i64 K, .string name, .int .i64 typ, .int .i64 frm, .int .i64 guid, .int .i64 origin, .string snap, .slice pp pn pc, .int .i64 obj, .int .i64 at_, .int .i64 many, .slice kp kn kc, .slice dp dl dc] 26 (0, 0)) → W.heap[bz]? = some (.cells #[.int .u64 t0, .int .u64 t1, .int .u64 t2, .int .u64 t3] 29 (0, 0)) → W.cell? ⟨bx, 0, none⟩ = some (.int .i64 K) ∧ W.cell? ⟨bx, 1, none⟩ = some (.string name) ∧ W.cell? ⟨bx, 2, none⟩ = some (.int .i64 typ) ∧ W.cell? ⟨bx, 3, none⟩ = some (.int .i64 frm) ∧ W.cell? ⟨bx, 4, none⟩ = some (.int .i64 guid) ∧ W.cell? ⟨bx, 5, none⟩ = some (.int .i64 origin) ∧ W.cell? ⟨bx, 6, none⟩ = some (.string snap) ∧ W.cell? ⟨bx, 7, none⟩ = some (.slice pp pn pc) ∧ W.cell? ⟨bx, 8, none⟩ = some (.int .i64 obj) ∧ W.cell? ⟨bx, 9, none⟩ = some (.int .i64 at_) ∧ W.cell? ⟨bx, 10, none⟩ = some (.int .i64 many) ∧ W.cell? ⟨bx, 11, none⟩ = some (.slice kp kn kc) ∧ W.cell? ⟨bx, 12, none⟩ = some (.slice dp dl dc) ∧ W.cell? ⟨bz, 0, none⟩ = some (.int .u64 t0) ∧ W.cell? ⟨bz, 1, none⟩ = some (.int .u64 t1) ∧ W.cell? ⟨bz, 2, none⟩ = some (.int .u64 t2) ∧ W.cell? ⟨bz, 3, none⟩ = some (.int .u64 t3) := fun W h1 h2 => by
   refine ⟨?_, ?_, ?_, ?_, ?_, ?_, ?_, ?_, ?_, ?_, ?_, ?_, ?_, ?_, ?_, ?_, ?_⟩ <;> first | (rw [cell_of_row _ _ _ _ _ _ h1]; rfl) | (rw [cell_of_row _ _ _ _ _ _ h2]; rfl)
  have hx0 := HFW.out.heap HR11.out (by simp)
  have hz0 := HZ11.out wd HFW.out
  have s0' := hS wd hx0 hz0
  have hrr := HRR.out wd HFS.out
  have hrs := HRS.out wd HFS.out
  have z0 := cR 0 (.int .i64 0) hrr
  have y0 := fZ 0 hrr
  have z1 := cR 1 (.string ⟨#[]⟩) hrr
  have y1 := fZ 1 hrr
  have z2 := cR 2 (.int .i64 0) hrr
  have y2 := fZ 2 hrr
  have z3 := cR 3 (.int .i64 0) hrr
  have y3 := fZ 3 hrr
  have z4 := cR 4 (.int .i64 0) hrr
  have y4 := fZ 4 hrr
  have z5 := cR 5 (.int .i64 0) hrr
  have y5 := fZ 5 hrr
  have z6 := cR 6 (.string ⟨#[]⟩) hrr
  have y6 := fZ 6 hrr
  have z7 := cR 7 (.slice none 0 0) hrr
  have y7 := fZ 7 hrr
  have z8 := cR 8 (.int .i64 0) hrr
  have y8 := fZ 8 hrr
  have z9 := cR 9 (.int .i64 0) hrr
  have y9 := fZ 9 hrr
  have z10 := cR 10 (.int .i64 0) hrr
  have y10 := fZ 10 hrr
  have z11 := cR 11 (.slice none 0 0) hrr
  have y11 := fZ 11 hrr
  have z12 := cR 12 (.slice none 0 0) hrr
  have y12 := fZ 12 hrr
  obtain ⟨Wz, hwz, h5, f5⟩ := sE br 26 [(0, .int .i64 K), (1, .string name), (2, .int .i64 typ), (3, .int .i64 frm), (4, .int .i64 guid), (5, .int .i64 origin), (6, .string snap), (7, .slice pp pn pc), (8, .int .i64 obj), (9, .int .i64 at_), (10, .int .i64 many), (11, .slice kp kn kc), (12, .slice dp dl dc)] wd _ hrr
  simp only [List.foldl, List.setIfInBounds_toArray, List.set_cons_zero, List.set_cons_succ] at h5
  simp only [setsF] at hwz
  have hWz := hwz
  have hrs2 := f5.heap hrs (by simp)
  have hx1 := f5.heap hx0 (by simpa using HXB.out.1)
  have hz1 := f5.heap hz0 (by simpa using HXB.out.2.2.1)
  have s1' := hS Wz hx1 hz1
  have n0 := cR 0 (.int .u64 0) hrs2
  have m0 := fZ 0 hrs2
  have n1 := cR 1 (.int .u64 0) hrs2
  have m1 := fZ 1 hrs2
  have n2 := cR 2 (.int .u64 0) hrs2
  have m2 := fZ 2 hrs2
  have n3 := cR 3 (.int .u64 0) hrs2
  have m3 := fZ 3 hrs2
  obtain ⟨Wy, hwy, h6, f6⟩ := sE (br + 1) 29 [(0, .int .u64 t0), (1, .int .u64 t1), (2, .int .u64 t2), (3, .int .u64 t3)] Wz _ hrs2
  simp only [List.foldl, List.setIfInBounds_toArray, List.set_cons_zero, List.set_cons_succ] at h6
  simp only [setsF] at hwy
  have hWy := hwy
  have h7 := f6.heap h5 (by simp)
  have s2' := hS Wy (f6.heap hx1 (by simpa using HXB.out.2.1)) (f6.heap hz1 (by simpa using HXB.out.2.2.2))
  refine wp_region_tail (S := fun W => (W.cell? ⟨bx, 0, none⟩ = some (.int .i64 K) ∧ W.cell? ⟨bx, 1, none⟩ = some (.string name) ∧ W.cell? ⟨bx, 2, none⟩ = some (.int .i64 typ) ∧ W.cell? ⟨bx, 3, none⟩ = some (.int .i64 frm) ∧ W.cell? ⟨bx, 4, none⟩ = some (.int .i64 guid) ∧ W.cell? ⟨bx, 5, none⟩ = some (.int .i64 origin) ∧ W.cell? ⟨bx, 6, none⟩ = some (.string snap) ∧ W.cell? ⟨bx, 7, none⟩ = some (.slice pp pn pc) ∧ W.cell? ⟨bx, 8, none⟩ = some (.int .i64 obj) ∧ W.cell? ⟨bx, 9, none⟩ = some (.int .i64 at_) ∧ W.cell? ⟨bx, 10, none⟩ = some (.int .i64 many) ∧ W.cell? ⟨bx, 11, none⟩ = some (.slice kp kn kc) ∧ W.cell? ⟨bx, 12, none⟩ = some (.slice dp dl dc) ∧ W.cell? ⟨bz, 0, none⟩ = some (.int .u64 t0) ∧ W.cell? ⟨bz, 1, none⟩ = some (.int .u64 t1) ∧ W.cell? ⟨bz, 2, none⟩ = some (.int .u64 t2) ∧ W.cell? ⟨bz, 3, none⟩ = some (.int .u64 t3))) 7 8 rfl (by kernel_rfl) (by kernel_rfl) ?_
  rw [hwd]
  refine hI (i := 0) (v := ?_) rfl ?_ s0' ?_
  rotate_left 1
  ·rintro W ⟨a0, a1, a2, a3, a4, a5, a6, a7, a8, a9, a10, a11, a12, b0, b1, b2, b3⟩; (try simp only [lA, lZ]); go_simp; try with_reducible rfl
  try simp only [lA, lZ, Act.put, lI, lW, lX]
  refine hI (i := 1) (v := ?_) rfl ?_ s0' ?_
  rotate_left 1
  ·rintro W ⟨a0, a1, a2, a3, a4, a5, a6, a7, a8, a9, a10, a11, a12, b0, b1, b2, b3⟩; (try simp only [lA, lS, lZ]); go_simp; try with_reducible rfl
  try simp only [lA, lS, lZ, Act.put, lI, lW, lX]
  refine hI (i := 2) (v := ?_) rfl ?_ s0' ?_
  rotate_left 1
  ·rintro W ⟨a0, a1, a2, a3, a4, a5, a6, a7, a8, a9, a10, a11, a12, b0, b1, b2, b3⟩; (try simp only [lA, lS, lZ]); go_simp; try with_reducible rfl
  try simp only [lA, lS, lZ, Act.put, lI, lW, lX]
  refine hI (i := 3) (v := ?_) rfl ?_ s0' ?_
  rotate_left 1
  ·rintro W ⟨a0, a1, a2, a3, a4, a5, a6, a7, a8, a9, a10, a11, a12, b0, b1, b2, b3⟩; (try simp only [lA, lS, lZ]); go_simp; try with_reducible rfl
  try simp only [lA, lS, lZ, Act.put, lI, lW, lX]
  refine wpAnyHT_one (i := 4) rfl (by kernel_rfl) (by kernel_rfl) (fun K hK => ?_)
  try simp only [lA, lS, lZ]
  go_simp
  try rw [hwz]
  refine hK _ _ s1' ?_
  clear hK K
  try simp only [lA, lS, lZ, Act.put, lI, lW, lX]
  refine wpAnyHT_one (i := 5) rfl (by kernel_rfl) (by kernel_rfl) (fun K hK => ?_)
  try simp only [lA, lS, lZ]
  go_simp
  refine hK _ _ s1' ?_
  clear hK K
  try simp only [lA, lS, lZ, Act.put, lI, lW, lX]
  refine wpAnyHT_one (i := 6) rfl (by kernel_rfl) (by kernel_rfl) (fun K hK => ?_)
  try simp only [lA, lS, lZ]
  go_simp
  try rw [hwy]
  refine hK _ _ s2' ?_
  clear hK K
  try simp only [lA, lS, lZ, Act.put, lI, lW, lX]
  refine wpAnyHT_end (by kernel_rfl) ?_
  simp only [List.drop_succ_cons, List.drop_zero]
  have u0 := cR 0 (.int .i64 K) h7
  have u1 := cR 1 (.string name) h7
  have u2 := cR 2 (.int .i64 typ) h7
  have u3 := cR 3 (.int .i64 frm) h7
  have u4 := cR 4 (.int .i64 guid) h7
  have u5 := cR 5 (.int .i64 origin) h7
  have u6 := cR 6 (.string snap) h7
  have u7 := cR 7 (.slice pp pn pc) h7
  have u8 := cR 8 (.int .i64 obj) h7
  have u9 := cR 9 (.int .i64 at_) h7
  have u10 := cR 10 (.int .i64 many) h7
  have u11 := cR 11 (.slice kp kn kc) h7
  have u12 := cR 12 (.slice dp dl dc) h7
  have k0 := cR 0 (.int .u64 t0) h6
  have k1 := cR 1 (.int .u64 t1) h6
  have k2 := cR 2 (.int .u64 t2) h6
  have k3 := cR 3 (.int .u64 t3) h6
  have HFY : Hid (Frm [] w Wy) := hid (((HFR.out.trans HFS.out (by simp)).trans f5 (fun i hi hl => by rw [List.mem_singleton] at hi; have := HBL.out; omega)).trans f6 (fun i hi hl => by rw [List.mem_singleton] at hi; have := HBL.out; omega))
  have hlow : ∀ k, w8.heap.size ≤ k → k ≠ br ∧ k ≠ br + 1 := fun k hk => by have h1 := HSZ.out; have h2 := HR7L.out; have h3 := HSZ8.out; have h4 := HF6.out.size; exact ⟨by omega, by omega⟩
  have own12 := HO11.out.k0 HFW.out
  have own13 := own12.kept f5 (fun k hk hm => by rw [List.mem_singleton] at hm; exact (hlow k (own12.pw k hk)).1 hm) (fun k hk hm => by rw [List.mem_singleton] at hm; exact (hlow k (own12.kw k hk)).1 hm) (fun k hk hm => by rw [List.mem_singleton] at hm; exact (hlow k (own12.dw k hk)).1 hm)
  have own14 := own13.kept f6 (fun k hk hm => by rw [List.mem_singleton] at hm; exact (hlow k (own12.pw k hk)).2 hm) (fun k hk hm => by rw [List.mem_singleton] at hm; exact (hlow k (own12.kw k hk)).2 hm) (fun k hk hm => by rw [List.mem_singleton] at hm; exact (hlow k (own12.dw k hk)).2 hm)
  have HOY := hid (own14.less (lo' := w.heap.size) (by have h1 := HFR.out.size; have h2 := HR7L.out; have h3 := HSZ8.out; have h4 := HF6.out.size; omega))
  clear h5 f5 h6 f6 h7 hlow own12 own13 own14 hwz hwy hWz hWy hx0 hz0 hx1 hz1 hS s0' s1' s2' hrr hrs hrs2 hwd z0 y0 z1 y1 z2 y2 z3 y3 z4 y4 z5 y5 z6 y6 z7 y7 z8 y8 z9 y9 z10 y10 z11 y11 z12 y12 n0 m0 n1 m1 n2 m2 n3 m3
  go_wp2_with fail
  refine bodyPost_ret (v := .tuple #[.agg #[.int .i64 K, .string name, .int .i64 typ, .int .i64 frm, .int .i64 guid, .int .i64 origin, .string snap, .slice pp pn pc, .int .i64 obj, .int .i64 at_, .int .i64 many, .slice kp kn kc, .slice dp dl dc], .int .i64 ((dN : Int) + 32), .agg #[.int .u64 t0, .int .u64 t1, .int .u64 t2, .int .u64 t3], .int .i64 0]) (by simp [results, Tryz.results22, go_sem, u0, u1, u2, u3, u4, u5, u6, u7, u8, u9, u10, u11, u12, k0, k1, k2, k3]) rfl ?_
  exact HPG.out ⟨K, name, typ, frm, guid, origin, snap, pp, pn, pc, obj, at_, many, kp, kn, kc, dp, dl, dc⟩ Wy HEE.out HCR.out HOY.out HFY.out
end
section
open Go.RowKit Go.Lib
theorem textT_le (ls : List Int) (k : Int) : (textT ls k).1.length ≤ ls.length := by
 unfold textT
 split
 ·simp
 ·split
  ·simp
  ·split
   ·simp
   ·simp only [List.length_take, List.length_drop]; omega
theorem txS_le (bs : List Int) (s : Rst) (k : Int) : (txS bs s k).1.length ≤ bs.length := by
 have h := textT_le (bs.drop s.1) k
 rw [List.length_drop] at h
 unfold txS readS
 split
 ·simp
 ·split
  ·show (textT _ _).1.length ≤ _; omega
  ·show (textT _ _).1.length ≤ _; omega
theorem tvK_name (k : Int) (b : List Int) : (tvK k b).c.name.size ≤ b.length := by
 unfold tvK
 split
 ·show (strOfNums _).size ≤ _
  rw [strOfNums_size]; exact txS_le _ _ _
 ·split
  ·show (strOfNums _).size ≤ _
   rw [strOfNums_size]; exact txS_le _ _ _
  ·split
   ·exact Nat.zero_le _
   ·split
    ·exact Nat.zero_le _
    ·split <;> exact Nat.zero_le _
theorem decodeR_any (p : Option Addr) (n c : Nat) (bs : List Int) (a : S4) (ha : a.Bd) (w : World) (hn : bs.length = n) (hnc : n ≤ c) (hnb : n ≤ 140737488355328) (hrd : Rd w p bs) (hb : ∀ z ∈ bs, 0 ≤ z ∧ z < 256) (hpr : Primes w) :
  Calls Tryz.prog 22 #[.slice p n c, .agg a.arr] w (DecP w a bs) := by
 by_cases hE : spE bs = 0
 case neg => exact decode_short p n c bs a w hn hnc hnb hrd hb hpr hE
 have hm0 := spM_bd hb
 have hm1 : spM bs ≤ 2048 ∧ (1 ≤ spK bs ∧ spK bs ≤ 7) := by
  unfold spE at hE
  split at hE
  ·omega
  ·split at hE
   ·omega
   ·omega
 have hbl : (dcB bs).length ≤ 2048 := by unfold dcB dcN; rw [List.length_drop, List.length_take]; omega
 have hbb : ∀ z ∈ dcB bs, 0 ≤ z ∧ z < 256 := fun z hz => hb z (List.mem_of_mem_take (List.mem_of_mem_drop hz))
 have hnm := tvK_name (spK bs) (dcB bs)
 have h7 : spK bs = 1 ∨ spK bs = 2 ∨ spK bs = 3 ∨ spK bs = 4 ∨ spK bs = 5 ∨ spK bs = 6 ∨ spK bs = 7 := by omega
 rcases h7 with h | h | h | h | h | h | h
 ·have e : tvK (spK bs) (dcB bs) = tvPk (dcB bs) := by unfold tvK; rw [h]; rfl
  rw [e] at hnm
  exact decode_row p n c bs a w hn hnc hnb hrd hb hpr ha 48 49 50 51 (tvPk (dcB bs)) hE (hid (fun _ _ => rfl)) (by unfold lkT; rw [h]; rfl) e (by omega) (hid (fun w0 w b g hr => takePackage_any w0 w b g (dcB bs) hbb hbl hr))
 ·have e : tvK (spK bs) (dcB bs) = tvBg (dcB bs) := by unfold tvK; rw [h]; rfl
  rw [e] at hnm
  exact decode_row p n c bs a w hn hnc hnb hrd hb hpr ha 52 53 54 55 (tvBg (dcB bs)) hE (hid (fun _ _ => rfl)) (by unfold lkT; rw [h]; rfl) e (by omega) (hid (fun w0 w b g hr => takeBegin_any w0 w b g (dcB bs) hbb hbl hr))
 ·have e : tvK (spK bs) (dcB bs) = tvLv (dcB bs) := by unfold tvK; rw [h]; rfl
  rw [e] at hnm
  exact decode_row p n c bs a w hn hnc hnb hrd hb hpr ha 56 57 58 59 (tvLv (dcB bs)) hE (hid (fun _ _ => rfl)) (by unfold lkT; rw [h]; rfl) e (by omega) (hid (fun w0 w b g hr => takeLive_any w0 w b g (dcB bs) hbb hbl hr))
 ·have e : tvK (spK bs) (dcB bs) = tvNd (dcB bs) := by unfold tvK; rw [h]; rfl
  rw [e] at hnm
  exact decode_row p n c bs a w hn hnc hnb hrd hb hpr ha 60 61 62 63 (tvNd (dcB bs)) hE (hid (fun _ _ => rfl)) (by unfold lkT; rw [h]; rfl) e (by omega) (hid (fun w0 w b g hr => takeNode_any w0 w b g (dcB bs) hbb hbl hr))
 ·have e : tvK (spK bs) (dcB bs) = tvWr (dcB bs) := by unfold tvK; rw [h]; rfl
  rw [e] at hnm
  exact decode_row p n c bs a w hn hnc hnb hrd hb hpr ha 64 65 66 67 (tvWr (dcB bs)) hE (hid (fun _ _ => rfl)) (by unfold lkT; rw [h]; rfl) e (by omega) (hid (fun w0 w b g hr => takeWrite_any w0 w b g (dcB bs) hbb hbl hr))
 ·have e : tvK (spK bs) (dcB bs) = tvCn (dcB bs) := by unfold tvK; rw [h]; rfl
  rw [e] at hnm
  exact decode_row p n c bs a w hn hnc hnb hrd hb hpr ha 44 45 46 47 (tvCn (dcB bs)) hE (hid (fun _ _ => rfl)) (by unfold lkT; rw [h]; rfl) e (by omega) (hid (fun w0 w b g hr => takeCount_any w0 w b g (dcB bs) hbb hbl hr))
 ·have e : tvK (spK bs) (dcB bs) = tvCn (dcB bs) := by unfold tvK; rw [h]; rfl
  rw [e] at hnm
  exact decode_row p n c bs a w hn hnc hnb hrd hb hpr ha 44 45 46 47 (tvCn (dcB bs)) hE (hid (fun _ _ => rfl)) (by unfold lkT; rw [h]; rfl) e (by omega) (hid (fun w0 w b g hr => takeCount_any w0 w b g (dcB bs) hbb hbl hr))
end
section
open Go.RowKit Go.Lib
theorem RdI.keeps {w w' : World} {p : Option Addr} {K : List Int} {A : List Nat} (h : RdI w p K) (hk : Keeps A w w') (hp : K ≠ [] → ∀ k ∈ blk p, k ∈ A) : RdI w' p K := by
 by_cases h0 : K = []
 ·subst h0; exact Or.inl rfl
 ·rcases h with h | ⟨g, o, rfl, hc⟩
  ·exact absurd (List.map_eq_nil_iff.1 h) h0
  ·refine Or.inr ⟨g, o, rfl, fun i u hi => ?_⟩
   rw [World.cell?_of_block (hk g (hp h0 g (by simp [blk])))]
   exact hc i u hi
theorem RdP.keeps {w w' : World} {p : Option Addr} {P : List Pr} {A : List Nat} (h : RdP w p P) (hk : Keeps A w w') (hp : P ≠ [] → ∀ k ∈ blk p, k ∈ A) : RdP w' p P := by
 rcases h with h | ⟨g, o, rfl, hc⟩
 ·exact Or.inl h
 ·by_cases h0 : P = []
  ·exact Or.inl h0
  refine Or.inr ⟨g, o, rfl, fun i x hi => ?_⟩
  have hg := hk g (hp h0 g (by simp [blk]))
  rw [World.cell?_of_block (a := ⟨g, o + i * 2, Option.none⟩) hg, World.cell?_of_block (a := ⟨g, o + i * 2 + 1, Option.none⟩) hg]
  exact hc i x hi
theorem Rd.keepsN {w w' : World} {p : Option Addr} {zs : List Int} {A : List Nat} (h : Rd w p zs) (hk : Keeps A w w') (hp : zs ≠ [] → ∀ k ∈ blk p, k ∈ A) : Rd w' p zs := by
 by_cases h0 : zs = []
 ·exact Or.inl h0
 ·exact h.keeps hk (hp h0)
structure RcA (A : List Nat) (r : Rc) (P : List Pr) (K D : List Int) : Prop where
 p : P ≠ [] → ∀ k ∈ blk r.pp, k ∈ A
 k : K ≠ [] → ∀ k ∈ blk r.kp, k ∈ A
 d : D ≠ [] → ∀ k ∈ blk r.dp, k ∈ A
theorem RcOk.keeps {A : List Nat} {w w' : World} {r : Rc} {P : List Pr} {K D : List Int} (h : RcOk w r P K D) (ha : RcA A r P K D) (hk : Keeps A w w') : RcOk w' r P K D :=
 ⟨h.pr.keeps hk ha.p, h.pl, h.kr.keeps hk ha.k, h.kl, h.dr.keepsN hk ha.d, h.dn, h.db, h.mx⟩
theorem RcA.more {A B : List Nat} {r : Rc} {P : List Pr} {K D : List Int} (h : RcA A r P K D) (hB : ∀ k ∈ A, k ∈ B) : RcA B r P K D :=
 ⟨fun a k b => hB k (h.p a k b), fun a k b => hB k (h.k a k b), fun a k b => hB k (h.d a k b)⟩
theorem RcOk.foot {w : World} {r : Rc} {P : List Pr} {K D : List Int} (h : RcOk w r P K D) : ∃ A, RcA A r P K D ∧ ∀ k ∈ A, k < w.heap.size := by
 obtain ⟨A1, h1, l1⟩ : ∃ A : List Nat, (P ≠ [] → ∀ k ∈ blk r.pp, k ∈ A) ∧ ∀ k ∈ A, k < w.heap.size := by
  by_cases h0 : P = []
  ·exact ⟨[], fun h => absurd h0 h, by simp⟩
  ·refine ⟨blk r.pp, fun _ k hk => hk, fun k hk => ?_⟩
   rcases h.pr with h1 | ⟨g, o, he, hc⟩
   ·exact absurd h1 h0
   ·rw [he] at hk; simp [blk] at hk; subst hk
    exact World.block_lt_of_cell? w _ (hc 0 _ (List.getElem?_eq_getElem (List.length_pos_iff.2 h0))).1
 obtain ⟨A2, h2, l2⟩ : ∃ A : List Nat, (K ≠ [] → ∀ k ∈ blk r.kp, k ∈ A) ∧ ∀ k ∈ A, k < w.heap.size := by
  by_cases h0 : K = []
  ·exact ⟨[], fun h => absurd h0 h, by simp⟩
  ·refine ⟨blk r.kp, fun _ k hk => hk, fun k hk => ?_⟩
   rcases h.kr with h1 | ⟨g, o, he, hc⟩
   ·exact absurd (List.map_eq_nil_iff.1 h1) h0
   ·rw [he] at hk; simp [blk] at hk; subst hk
    exact World.block_lt_of_cell? w _ (hc 0 _ (List.getElem?_eq_getElem (by rw [List.length_map]; exact List.length_pos_iff.2 h0)))
 obtain ⟨A3, h3, l3⟩ : ∃ A : List Nat, (D ≠ [] → ∀ k ∈ blk r.dp, k ∈ A) ∧ ∀ k ∈ A, k < w.heap.size := by
  by_cases h0 : D = []
  ·exact ⟨[], fun h => absurd h0 h, by simp⟩
  ·refine ⟨blk r.dp, fun _ k hk => hk, fun k hk => ?_⟩
   rcases h.dr with h1 | ⟨g, o, he, hc⟩
   ·exact absurd h1 h0
   ·rw [he] at hk; simp [blk] at hk; subst hk
    exact World.block_lt_of_cell? w _ (hc 0 (List.length_pos_iff.2 h0))
 refine ⟨A1 ++ A2 ++ A3, ⟨fun a k b => ?_, fun a k b => ?_, fun a k b => ?_⟩, fun k hk => ?_⟩
 ·simp [h1 a k b]
 ·simp [h2 a k b]
 ·simp [h3 a k b]
 ·rcases List.mem_append.1 hk with hk | hk
  ·rcases List.mem_append.1 hk with hk | hk
   ·exact l1 k hk
   ·exact l2 k hk
  ·exact l3 k hk
theorem wrapU {n : Int} (h0 : 0 ≤ n) (h1 : n < 18446744073709551616) : IntKind.u64.wrap n = n := by rw [IntKind.wrap_u64]; omega
def bodyCn (r : Rc) : List Int := le r.many 4
theorem putCount_any (w0 w : World) (b : Nat) (A : List Nat) (hw : FreshW w0 w b 2048 ([], 0) A) (r : Rc) (hm : MayCn r) :
  Calls Tryz.prog 46 #[.pointer (some ⟨b, 0, none⟩), .agg r.arr] w fun e w' => e = .returned (.tuple #[]) ∧ FreshW w0 w' b 2048 (bodyCn r, 0) A := by
 obtain ⟨m0, m1⟩ := hm
 unfold bodyCn
 have hal := hw.alloc (.cells r.arr 26)
 have hrow := heap_alloc_new w (.cells r.arr 26)
 have HFA := hid ((Frm.refl [] w).alloc (.cells r.arr 26))
 obtain ⟨bx, hbx⟩ := eX (w.heap.size)
 obtain ⟨wa, hwa⟩ := eX (w.alloc (.cells r.arr 26))
 rw [hbx, hwa] at hal hrow
 rw [hwa] at HFA
 have HW0 := hid hal.1
 have HRC : Hid (∀ W : World, Keeps (bx :: A) wa W → W.heap[bx]? = some (.cells r.arr 26 (0, 0))) := hid (fun W h => (h bx (by simp)).trans hrow)
 obtain ⟨q0, q1, q2, q3, q4, q5, q6, q7, q8, q9, q10, q11, q12⟩ := rc_cells hrow
 clear hal hrow hw
 obtain ⟨kind, name, typ, frm, guid, origin, snap, pp, pn, pc, obj, at_, many, kp, kn, kc, dp, dl, dc⟩ := r
 unfold Rc.arr at hwa ⊢
 simp only at hwa HRC m0 m1 q0 q1 q2 q3 q4 q5 q6 q7 q8 q9 q10 q11 q12 ⊢
 have u1 := wrapU (n := many) (by omega) (by omega)
 go_enter Tryz.func46, Tryz.ntmps46
 go_wp2_with fail
 refine (num_fit w0 wa b 2048 [] _ HW0.out (by omega) many 4 (by omega) (by omega) (by omega) (by omega) (by simp)).mono ?_
 rintro e w1 ⟨rfl, hw1, hk1⟩
 clear q0 q1 q2 q3 q4 q5 q6 q7 q8 q9 q10 q11 q12
 have HW1 := hid hw1
 have HK1 : Hid (Keeps (bx :: A) wa w1) := hid hk1
 obtain ⟨q0, q1, q2, q3, q4, q5, q6, q7, q8, q9, q10, q11, q12⟩ := rc_cells (HRC.out w1 HK1.out)
 simp only at q0 q1 q2 q3 q4 q5 q6 q7 q8 q9 q10 q11 q12
 clear hw1 hk1
 go_wp2_with fail
 try go_returns
 exact ⟨rfl, HW1.out.less (fun k hk => List.mem_cons_of_mem _ hk)⟩
def bodyPk (r : Rc) : List Int := txF r.name ++ le r.many 2
theorem putPackage_any (w0 w : World) (b : Nat) (A : List Nat) (hw : FreshW w0 w b 2048 ([], 0) A) (r : Rc) (hm : MayPk r) :
  Calls Tryz.prog 50 #[.pointer (some ⟨b, 0, none⟩), .agg r.arr] w fun e w' => e = .returned (.tuple #[]) ∧ FreshW w0 w' b 2048 (bodyPk r, 0) A := by
 obtain ⟨⟨⟨_, m3⟩, _⟩, m0, m1⟩ := hm
 rw [tx_length] at m3
 unfold bodyPk
 have hal := hw.alloc (.cells r.arr 26)
 have hrow := heap_alloc_new w (.cells r.arr 26)
 have HFA := hid ((Frm.refl [] w).alloc (.cells r.arr 26))
 obtain ⟨bx, hbx⟩ := eX (w.heap.size)
 obtain ⟨wa, hwa⟩ := eX (w.alloc (.cells r.arr 26))
 rw [hbx, hwa] at hal hrow
 rw [hwa] at HFA
 have HW0 := hid hal.1
 have HRC : Hid (∀ W : World, Keeps (bx :: A) wa W → W.heap[bx]? = some (.cells r.arr 26 (0, 0))) := hid (fun W h => (h bx (by simp)).trans hrow)
 obtain ⟨q0, q1, q2, q3, q4, q5, q6, q7, q8, q9, q10, q11, q12⟩ := rc_cells hrow
 clear hal hrow hw
 obtain ⟨kind, name, typ, frm, guid, origin, snap, pp, pn, pc, obj, at_, many, kp, kn, kc, dp, dl, dc⟩ := r
 unfold Rc.arr at hwa ⊢
 simp only at hwa HRC m0 m1 m3 q0 q1 q2 q3 q4 q5 q6 q7 q8 q9 q10 q11 q12 ⊢
 have u1 := wrapU (n := many) (by omega) (by omega)
 go_enter Tryz.func50, Tryz.ntmps50
 go_wp2_with fail
 refine (text_fit w0 wa b 2048 [] _ HW0.out (by omega) name (by omega) (by simp; omega)).mono ?_
 rintro e w1 ⟨rfl, hw1, hk1⟩
 clear q0 q1 q2 q3 q4 q5 q6 q7 q8 q9 q10 q11 q12
 have HW1 := hid hw1
 have HK1 : Hid (Keeps (bx :: A) wa w1) := hid hk1
 obtain ⟨q0, q1, q2, q3, q4, q5, q6, q7, q8, q9, q10, q11, q12⟩ := rc_cells (HRC.out w1 HK1.out)
 simp only at q0 q1 q2 q3 q4 q5 q6 q7 q8 q9 q10 q11 q12
 clear hw1 hk1
 go_wp2_with fail
 refine (num_fit w0 w1 b 2048 _ _ HW1.out (by omega) many 2 (by omega) (by omega) (by omega) (by omega) (by simp only [List.nil_append, txF_len]; omega)).mono ?_
 rintro e w2 ⟨rfl, hw2, hk2⟩
 clear q0 q1 q2 q3 q4 q5 q6 q7 q8 q9 q10 q11 q12
 have HW2 := hid hw2
 have HK2 : Hid (Keeps (bx :: A) wa w2) := hid (HK1.out.trans hk2)
 obtain ⟨q0, q1, q2, q3, q4, q5, q6, q7, q8, q9, q10, q11, q12⟩ := rc_cells (HRC.out w2 HK2.out)
 simp only at q0 q1 q2 q3 q4 q5 q6 q7 q8 q9 q10 q11 q12
 clear hw2 hk2
 go_wp2_with fail
 try go_returns
 exact ⟨rfl, HW2.out.less (fun k hk => List.mem_cons_of_mem _ hk)⟩
def bodyWr (r : Rc) (D : List Int) : List Int := le r.obj 4 ++ le (r.at_ + 1) 2 ++ le r.dl 2 ++ D
theorem putWrite_any (w0 w : World) (b : Nat) (A : List Nat) (hw : FreshW w0 w b 2048 ([], 0) A) (r : Rc) (P : List Pr) (K D : List Int) (hr : RcOk w r P K D) (ha : RcA A r P K D) (hm : MayWr r) :
  Calls Tryz.prog 66 #[.pointer (some ⟨b, 0, none⟩), .agg r.arr] w fun e w' => e = .returned (.tuple #[]) ∧ FreshW w0 w' b 2048 (bodyWr r D, 0) A := by
 obtain ⟨⟨m0, m1⟩, ⟨m2, m3⟩, m4, m5⟩ := hm
 have hdn := hr.dn
 unfold bodyWr
 have hal := hw.alloc (.cells r.arr 26)
 have hrow := heap_alloc_new w (.cells r.arr 26)
 have HFA := hid ((Frm.refl [] w).alloc (.cells r.arr 26))
 obtain ⟨bx, hbx⟩ := eX (w.heap.size)
 obtain ⟨wa, hwa⟩ := eX (w.alloc (.cells r.arr 26))
 rw [hbx, hwa] at hal hrow
 rw [hwa] at HFA
 have HW0 := hid hal.1
 have HRC : Hid (∀ W : World, Keeps (bx :: A) wa W → W.heap[bx]? = some (.cells r.arr 26 (0, 0))) := hid (fun W h => (h bx (by simp)).trans hrow)
 obtain ⟨q0, q1, q2, q3, q4, q5, q6, q7, q8, q9, q10, q11, q12⟩ := rc_cells hrow
 have HDK : Hid (∀ W : World, Keeps (bx :: A) wa W → Rd W r.dp D) := hid (fun W h => (hr.dr.kept HFA.out (by simp)).keepsN h (fun h0 k hk => List.mem_cons_of_mem _ (ha.d h0 k hk)))
 clear hr ha
 clear hal hrow hw
 obtain ⟨kind, name, typ, frm, guid, origin, snap, pp, pn, pc, obj, at_, many, kp, kn, kc, dp, dl, dc⟩ := r
 unfold Rc.arr at hwa ⊢
 simp only at hwa HRC HDK hdn m0 m1 m2 m3 m4 m5 q0 q1 q2 q3 q4 q5 q6 q7 q8 q9 q10 q11 q12 ⊢
 have u1 := wrapU (n := obj) (by omega) (by omega)
 have u2 := wrapU (n := at_ + 1) (by omega) (by omega)
 have u4 : wrap64 (at_ + 1) = at_ + 1 := by unfold wrap64; omega
 have u3 := wrapU (n := (dl : Int)) (by omega) (by omega)
 go_enter Tryz.func66, Tryz.ntmps66
 go_wp2_with fail
 refine (num_fit w0 wa b 2048 [] _ HW0.out (by omega) obj 4 (by omega) (by omega) (by omega) (by omega) (by simp)).mono ?_
 rintro e w1 ⟨rfl, hw1, hk1⟩
 clear q0 q1 q2 q3 q4 q5 q6 q7 q8 q9 q10 q11 q12
 have HW1 := hid hw1
 have HK1 : Hid (Keeps (bx :: A) wa w1) := hid hk1
 obtain ⟨q0, q1, q2, q3, q4, q5, q6, q7, q8, q9, q10, q11, q12⟩ := rc_cells (HRC.out w1 HK1.out)
 simp only at q0 q1 q2 q3 q4 q5 q6 q7 q8 q9 q10 q11 q12
 clear hw1 hk1
 go_wp2_with fail
 refine (num_fit w0 w1 b 2048 _ _ HW1.out (by omega) (at_ + 1) 2 (by omega) (by omega) (by omega) (by omega) (by simp only [List.nil_append, le_length]; omega)).mono ?_
 rintro e w2 ⟨rfl, hw2, hk2⟩
 clear q0 q1 q2 q3 q4 q5 q6 q7 q8 q9 q10 q11 q12
 have HW2 := hid hw2
 have HK2 : Hid (Keeps (bx :: A) wa w2) := hid (HK1.out.trans hk2)
 obtain ⟨q0, q1, q2, q3, q4, q5, q6, q7, q8, q9, q10, q11, q12⟩ := rc_cells (HRC.out w2 HK2.out)
 simp only at q0 q1 q2 q3 q4 q5 q6 q7 q8 q9 q10 q11 q12
 clear hw2 hk2
 go_wp2_with fail
 refine (num_fit w0 w2 b 2048 _ _ HW2.out (by omega) (dl : Int) 2 (by omega) (by omega) (by omega) (by omega) (by simp only [List.nil_append, List.length_append, le_length]; omega)).mono ?_
 rintro e w3 ⟨rfl, hw3, hk3⟩
 clear q0 q1 q2 q3 q4 q5 q6 q7 q8 q9 q10 q11 q12
 have HW3 := hid hw3
 have HK3 : Hid (Keeps (bx :: A) wa w3) := hid (HK2.out.trans hk3)
 obtain ⟨q0, q1, q2, q3, q4, q5, q6, q7, q8, q9, q10, q11, q12⟩ := rc_cells (HRC.out w3 HK3.out)
 simp only at q0 q1 q2 q3 q4 q5 q6 q7 q8 q9 q10 q11 q12
 clear hw3 hk3
 go_wp2_with fail
 have hbf := bytes_fit w0 w3 b 2048 _ _ HW3.out (by omega) dp D dc (fun h => by rw [h] at hdn; simp at hdn; omega) (HDK.out w3 HK3.out) (by simp only [List.nil_append, List.length_append, le_length]; omega)
 rw [hdn] at hbf
 refine hbf.mono ?_
 rintro e w4 ⟨rfl, hw4, hk4⟩
 have HW4 := hid hw4
 clear hw4 hk4 hbf
 go_wp2_with fail
 try go_returns
 exact ⟨rfl, HW4.out.less (fun k hk => List.mem_cons_of_mem _ hk)⟩
end
end Go.Proofs.YtajfjkfnmmfhmaaGreatDoor
