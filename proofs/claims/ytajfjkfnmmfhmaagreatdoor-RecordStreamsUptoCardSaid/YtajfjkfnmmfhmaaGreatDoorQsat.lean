/- Records, the document's side: Decode of bytes with a head; Decode. -/
import Derived.Test.YtajfjkfnmmfhmaaGreatDoorQsas
import Derived.Test.YtajfjkfnmmfhmaaGreatDoorQsap
import Derived.Test.YtajfjkfnmmfhmaaGreatDoorQsak
import Derived.Test.YtajfjkfnmmfhmaaGreatDoorQsaq
import Derived.Test.YtajfjkfnmmfhmaaGreatDoorQsad
namespace Go.Proofs.YtajfjkfnmmfhmaaGreatDoor
set_option maxRecDepth 100000
set_option maxHeartbeats 25600000
section
open Go.RowKit Go.Lib
theorem refDecode_row (p : Option Addr) (n c : Nat) (bs : List Int) (a : S4) (w : World) (hn : bs.length = n) (hnc : n ≤ c) (hnb : n ≤ 140737488355328) (hrd : Rd w p bs) (hb : ∀ z ∈ bs, 0 ≤ z ∧ z < 256) (hvs : Vars w) (ha : a.Bd) (hE : spE bs = 0) :
  Calls Tryz.prog 36 #[.slice p n c, .agg a.arr] w (DecP w a bs) := by
 obtain ⟨PO, hPO⟩ : ∃ PO : Ending → World → Prop, DecP w a bs = PO := ⟨_, rfl⟩
 rw [hPO]
 have HPB : Hid (∀ E w', dcE a bs = E ∧ E ≠ 0 → Frm [] w w' → PO (.returned (.tuple #[.agg #[.int .i64 0, .string ⟨#[]⟩, .int .i64 0, .int .i64 0, .int .i64 0, .int .i64 0, .string ⟨#[]⟩, .slice none 0 0, .int .i64 0, .int .i64 0, .int .i64 0, .slice none 0 0, .slice none 0 0], .int .i64 0, .agg #[.int .u64 0, .int .u64 0, .int .u64 0, .int .u64 0], .int .i64 E])) w') := hid (fun E w' h1 h3 => by rw [← hPO]; exact ⟨h3, Or.inl ⟨by rw [h1.1]; exact h1.2, by rw [h1.1]; rfl⟩⟩)
 have HPG : Hid (∀ (r : Rc) w', dcE a bs = 0 → r.core = ((tvK (spK bs) (dcB bs)).rc (spK bs)).core → RcOwn w' r (tvK (spK bs) (dcB bs)).p (tvK (spK bs) (dcB bs)).k (tvK (spK bs) (dcB bs)).d w.heap.size → Frm [] w w' → PO (.returned (.tuple #[.agg r.arr, .int .i64 (37 + spM bs), .agg (sealR a (dcH bs)).arr, .int .i64 0])) w') := hid (fun r w' h1 h2 h3 h4 => by rw [← hPO]; exact ⟨h4, Or.inr ⟨h1, r, rfl, h2, h3⟩⟩)
 have HRD := hid hrd
 have HB := hid hb
 have HLN := hid hn
 have HVS := hid hvs
 have hrow := heap_alloc_new w (.cells a.arr 29)
 have hfa : Frm [] w (w.alloc (.cells a.arr 29)) := (Frm.refl _ _).alloc _
 obtain ⟨wa, hwa⟩ := eX (w.alloc (.cells a.arr 29))
 obtain ⟨ba, hba⟩ := eX (w.heap.size)
 rw [hwa, hba] at hrow
 rw [hwa] at hfa
 have hrowr := heap_alloc_new wa (.cells #[.int .i64 0, .string ⟨#[]⟩, .int .i64 0, .int .i64 0, .int .i64 0, .int .i64 0, .string ⟨#[]⟩, .slice none 0 0, .int .i64 0, .int .i64 0, .int .i64 0, .slice none 0 0, .slice none 0 0] 26)
 have hfr : Frm [] wa (wa.alloc (.cells #[.int .i64 0, .string ⟨#[]⟩, .int .i64 0, .int .i64 0, .int .i64 0, .int .i64 0, .string ⟨#[]⟩, .slice none 0 0, .int .i64 0, .int .i64 0, .int .i64 0, .slice none 0 0, .slice none 0 0] 26)) := (Frm.refl _ _).alloc _
 obtain ⟨wr, hwr⟩ := eX (wa.alloc (.cells #[.int .i64 0, .string ⟨#[]⟩, .int .i64 0, .int .i64 0, .int .i64 0, .int .i64 0, .string ⟨#[]⟩, .slice none 0 0, .int .i64 0, .int .i64 0, .int .i64 0, .slice none 0 0, .slice none 0 0] 26))
 obtain ⟨br, hbr⟩ := eX (wa.heap.size)
 rw [hwr, hbr] at hrowr
 rw [hwr] at hfr
 have hrows := heap_alloc_new wr (.cells #[.int .u64 0, .int .u64 0, .int .u64 0, .int .u64 0] 29)
 have hfs : Frm [] wr (wr.alloc (.cells #[.int .u64 0, .int .u64 0, .int .u64 0, .int .u64 0] 29)) := (Frm.refl _ _).alloc _
 have hbs : wr.heap.size = br + 1 := by rw [← hwr, ← hbr]; simp
 obtain ⟨ws, hws⟩ := eX (wr.alloc (.cells #[.int .u64 0, .int .u64 0, .int .u64 0, .int .u64 0] 29))
 rw [hws, hbs] at hrows
 rw [hws] at hfs
 have hb1 : ba + 1 = br := by rw [← hbr, ← hwa, ← hba]; simp
 have HBL : Hid (w.heap.size < br) := hid (by omega)
 have HB1 := hid hb1
 have HFR : Hid (Frm [] w ws) := hid ((hfa.trans hfr (by simp)).trans hfs (by simp))
 have HRA : Hid (∀ W, Frm [] ws W → W.heap[ba]? = some (.cells a.arr 29 (0, 0))) := hid (fun W hf => hf.heap (hfs.heap (hfr.heap hrow (by simp)) (by simp)) (by simp))
 have HRR : Hid (∀ W, Frm [] ws W → W.heap[br]? = some (.cells #[.int .i64 0, .string ⟨#[]⟩, .int .i64 0, .int .i64 0, .int .i64 0, .int .i64 0, .string ⟨#[]⟩, .slice none 0 0, .int .i64 0, .int .i64 0, .int .i64 0, .slice none 0 0, .slice none 0 0] 26 (0, 0))) := hid (fun W hf => hf.heap (hfs.heap hrowr (by simp)) (by simp))
 have HRS : Hid (∀ W, Frm [] ws W → W.heap[br + 1]? = some (.cells #[.int .u64 0, .int .u64 0, .int .u64 0, .int .u64 0] 29 (0, 0))) := hid (fun W hf => hf.heap hrows (by simp))
 have HSZ : Hid (br + 1 < ws.heap.size) := hid (lt_of_heap hrows)
 have HWA := hid hwa
 have HWR := hid hwr
 have HWS := hid hws
 have HBA := hid hba
 have HBR := hid hbr
 have HBS := hid hbs
 have hbr13 : ∀ V, (Instr.build 26 #[]).run Tryz.prog V = .ok (.agg #[.int .i64 0, .string ⟨#[]⟩, .int .i64 0, .int .i64 0, .int .i64 0, .int .i64 0, .string ⟨#[]⟩, .slice none 0 0, .int .i64 0, .int .i64 0, .int .i64 0, .slice none 0 0, .slice none 0 0]) V := fun V => run_build V _ _ _ (by kernel_rfl)
 have hbr4 : ∀ V, (Instr.build 29 #[]).run Tryz.prog V = .ok (.agg #[.int .u64 0, .int .u64 0, .int .u64 0, .int .u64 0]) V := fun V => run_build V _ _ _ (by kernel_rfl)
 have HBA4 := hid ha
 have HRX : Hid (∀ W, Frm [] ws W → Rd W p bs) := hid (fun W hf => (hrd.kept HFR.out (by simp)).kept hf (by simp))
 have HVX : Hid (∀ W, Frm [] ws W → Vars W) := hid (fun W hf => hvs.kept (HFR.out.trans hf (by simp)))
 clear hrow hfa hwa hba hrowr hfr hwr hbr hrows hfs hws hbs hb1 hPO hn hrd hb hvs ha
 obtain ⟨s0, s1, s2, s3⟩ := a
 unfold S4.arr at HWA HRA HPG
 simp only at HWA HRA
 unfold S4.arr
 simp only
 go_enter Tryz.func36, Tryz.ntmps36
 go_upto_region 1 with fail
 try rw [HWA.out]
 try rw [HBA.out]
 try rw [HBR.out]
 try rw [HB1.out]
 try rw [HWR.out]
 try rw [HBS.out]
 try rw [HWS.out]
 have hspo := sp_ok hE
 rw [HLN.out] at hspo
 have h5 : ¬ n < 5 := by omega
 have i5 : ¬ (n : Int) < 5 := by omega
 obtain ⟨g0, o0, rfl⟩ : ∃ g0 o0, p = some ⟨g0, o0, none⟩ := by
  rcases HRD.out with h | ⟨g, o, h, _⟩
  ·have := HLN.out; rw [h] at this; simp at this; omega
  ·exact ⟨g, o, h⟩
 obtain ⟨hK0, hM0⟩ := sp_val (bs := bs) (by rw [HLN.out]; omega)
 have hm0 := spM_bd HB.out
 have HCB : Hid (∀ W, Frm [] ws W → W.cell? ⟨g0, o0, none⟩ = some (.int .u8 (zA bs 0)) ∧ W.cell? ⟨g0, o0 + 1, none⟩ = some (.int .u8 (zA bs 1)) ∧ W.cell? ⟨g0, o0 + 2, none⟩ = some (.int .u8 (zA bs 2)) ∧ W.cell? ⟨g0, o0 + 3, none⟩ = some (.int .u8 (zA bs 3)) ∧ W.cell? ⟨g0, o0 + 4, none⟩ = some (.int .u8 (zA bs 4))) := hid (fun W hf => by
  have h : ∀ i, i < bs.length → W.cell? ⟨g0, o0 + i, none⟩ = some (.int .u8 (zA bs i)) := fun i hi => by
   obtain ⟨g, o, e, hc⟩ := rd_byte (i := i) (HRX.out W hf) hi
   simp only [Option.some.injEq, Addr.mk.injEq, and_true] at e
   obtain ⟨rfl, rfl⟩ := e
   exact hc
  have hl := HLN.out
  refine ⟨?_, h 1 (by omega), h 2 (by omega), h 3 (by omega), h 4 (by omega)⟩
  have h0 := h 0 (by omega)
  rw [Nat.add_zero] at h0
  exact h0)
 have hzb : ∀ i, i < 5 → 0 ≤ zA bs i ∧ zA bs i < 256 := fun i hi => by
  have hl := HLN.out
  unfold zA
  rw [List.getD_eq_getElem?_getD, List.getElem?_eq_getElem (by omega)]
  exact HB.out _ (List.getElem_mem _)
 obtain ⟨b0, hb0⟩ := eX (zA bs 0)
 obtain ⟨b1, hb1⟩ := eX (zA bs 1)
 obtain ⟨b2, hb2⟩ := eX (zA bs 2)
 obtain ⟨b3, hb3⟩ := eX (zA bs 3)
 obtain ⟨b4, hb4⟩ := eX (zA bs 4)
 have hz0 := hzb 0 (by omega)
 rw [hb0] at hz0 HCB
 have hz1 := hzb 1 (by omega)
 rw [hb1] at hz1 HCB
 have hz2 := hzb 2 (by omega)
 rw [hb2] at hz2 HCB
 have hz3 := hzb 3 (by omega)
 rw [hb3] at hz3 HCB
 have hz4 := hzb 4 (by omega)
 rw [hb4] at hz4 HCB
 rw [hb0] at hK0
 rw [hb1, hb2, hb3, hb4] at hM0
 rw [hM0] at hm0
 obtain ⟨m4, hm4⟩ := eX (256 * b4)
 obtain ⟨m3, hm3⟩ := eX (b3 + m4)
 obtain ⟨m3q, hm3q⟩ := eX (256 * m3)
 obtain ⟨m2, hm2⟩ := eX (b2 + m3q)
 obtain ⟨m2q, hm2q⟩ := eX (256 * m2)
 obtain ⟨M, hM⟩ := eX (b1 + m2q)
 have hMM : spM bs = M := by rw [hM0]; omega
 have wb0 : IntKind.i64.wrap b0 = b0 := by rw [IntKind.wrap_i64]; omega
 have wb1 : IntKind.i64.wrap b1 = b1 := by rw [IntKind.wrap_i64]; omega
 have wb2 : IntKind.i64.wrap b2 = b2 := by rw [IntKind.wrap_i64]; omega
 have wb3 : IntKind.i64.wrap b3 = b3 := by rw [IntKind.wrap_i64]; omega
 have wb4 : IntKind.i64.wrap b4 = b4 := by rw [IntKind.wrap_i64]; omega
 have wm4 : IntKind.i64.wrap (256 * b4) = m4 := by rw [IntKind.wrap_i64]; omega
 have wm3 : IntKind.i64.wrap (b3 + m4) = m3 := by rw [IntKind.wrap_i64]; omega
 have wm3q : IntKind.i64.wrap (256 * m3) = m3q := by rw [IntKind.wrap_i64]; omega
 have wm2 : IntKind.i64.wrap (b2 + m3q) = m2 := by rw [IntKind.wrap_i64]; omega
 have wm2q : IntKind.i64.wrap (256 * m2) = m2q := by rw [IntKind.wrap_i64]; omega
 have wM : IntKind.i64.wrap (b1 + m2q) = M := by rw [IntKind.wrap_i64]; omega
 have hMb : 0 ≤ M ∧ M < 4294967296 := by omega
 have HSPK := hid hK0
 have HSPM := hid hMM
 have HB0B := hid hz0
 obtain ⟨hMb0, hMb1⟩ := hMb
 have i05 : (0 : Int) < (n : Int) := by omega
 have n05 : 0 < n := by omega
 have i15 : (1 : Int) < (n : Int) := by omega
 have i25 : (2 : Int) < (n : Int) := by omega
 have i35 : (3 : Int) < (n : Int) := by omega
 have i45 : (4 : Int) < (n : Int) := by omega
 have h5N : 5 ≤ n := by omega
 clear hm4 hm3 hm3q hm2 hm2q hM hM0 hm0 hK0 hMM hb0 hb1 hb2 hb3 hb4 hzb h5
 go_upto_region 3 with fail
 refine wp_region_tail (S := fun W => (W.cell? ⟨g0, o0, none⟩ = some (.int .u8 b0) ∧ W.cell? ⟨g0, o0 + 1, none⟩ = some (.int .u8 b1) ∧ W.cell? ⟨g0, o0 + 2, none⟩ = some (.int .u8 b2) ∧ W.cell? ⟨g0, o0 + 3, none⟩ = some (.int .u8 b3) ∧ W.cell? ⟨g0, o0 + 4, none⟩ = some (.int .u8 b4))) 22 23 rfl (by kernel_rfl) (by kernel_rfl) ?_
 obtain ⟨wd, hwd⟩ := eX (ws.drew)
 rw [hwd]
 have HFD : Hid (Frm [] ws wd) := hid (by rw [← hwd]; exact (Frm.refl [] ws).drew)
 clear hwd
 refine hI (i := 0) (v := ?_) rfl ?_ (HCB.out _ HFD.out) ?_
 rotate_left 1
 ·rintro W ⟨e0, e1, e2, e3, e4⟩; (try simp only [lA, lZ]); go_simp; try with_reducible rfl
 try simp only [lA, lZ, Act.put, lI, lW, lX]
 refine hI (i := 1) (v := ?_) rfl ?_ (HCB.out _ HFD.out) ?_
 rotate_left 1
 ·rintro W ⟨e0, e1, e2, e3, e4⟩; (try simp only [lA, lS, lZ]); go_simp; try with_reducible rfl
 try simp only [lA, lS, lZ, Act.put, lI, lW, lX]
 refine hI (i := 2) (v := ?_) rfl ?_ (HCB.out _ HFD.out) ?_
 rotate_left 1
 ·rintro W ⟨e0, e1, e2, e3, e4⟩; (try simp only [lA, lS, lZ]); go_simp; try with_reducible rfl
 try simp only [lA, lS, lZ, Act.put, lI, lW, lX]
 refine hI (i := 3) (v := ?_) rfl ?_ (HCB.out _ HFD.out) ?_
 rotate_left 1
 ·rintro W ⟨e0, e1, e2, e3, e4⟩; (try simp only [lA, lS, lZ]); go_simp; try with_reducible rfl
 try simp only [lA, lS, lZ, Act.put, lI, lW, lX]
 refine hI (i := 4) (v := ?_) rfl ?_ (HCB.out _ HFD.out) ?_
 rotate_left 1
 ·rintro W ⟨e0, e1, e2, e3, e4⟩; (try simp only [lA, lS, lZ]); go_simp; try with_reducible rfl
 try simp only [lA, lS, lZ, Act.put, lI, lW, lX]
 refine hI (i := 5) (v := ?_) rfl ?_ (HCB.out _ HFD.out) ?_
 rotate_left 1
 ·rintro W ⟨e0, e1, e2, e3, e4⟩; (try simp only [lA, lS, lZ]); go_simp; try with_reducible rfl
 try simp only [lA, lS, lZ, Act.put, lI, lW, lX]
 refine hI (i := 6) (v := ?_) rfl ?_ (HCB.out _ HFD.out) ?_
 rotate_left 1
 ·rintro W ⟨e0, e1, e2, e3, e4⟩; (try simp only [lA, lS, lZ]); go_simp; try with_reducible rfl
 try simp only [lA, lS, lZ, Act.put, lI, lW, lX]
 refine hI (i := 7) (v := ?_) rfl ?_ (HCB.out _ HFD.out) ?_
 rotate_left 1
 ·rintro W ⟨e0, e1, e2, e3, e4⟩; (try simp only [lA, lS, lZ]); go_simp; try with_reducible rfl
 try simp only [lA, lS, lZ, Act.put, lI, lW, lX]
 refine hI (i := 8) (v := ?_) rfl ?_ (HCB.out _ HFD.out) ?_
 rotate_left 1
 ·rintro W ⟨e0, e1, e2, e3, e4⟩; (try simp only [lA, lS, lZ]); go_simp; try with_reducible rfl
 try simp only [lA, lS, lZ, Act.put, lI, lW, lX]
 refine hI (i := 9) (v := ?_) rfl ?_ (HCB.out _ HFD.out) ?_
 rotate_left 1
 ·rintro W ⟨e0, e1, e2, e3, e4⟩; (try simp only [lA, lS, lZ]); go_simp; try with_reducible rfl
 try simp only [lA, lS, lZ, Act.put, lI, lW, lX]
 refine hI (i := 10) (v := ?_) rfl ?_ (HCB.out _ HFD.out) ?_
 rotate_left 1
 ·rintro W ⟨e0, e1, e2, e3, e4⟩; (try simp only [lA, lS, lZ]); go_simp; try with_reducible rfl
 try simp only [lA, lS, lZ, Act.put, lI, lW, lX]
 refine hI (i := 11) (v := ?_) rfl ?_ (HCB.out _ HFD.out) ?_
 rotate_left 1
 ·rintro W ⟨e0, e1, e2, e3, e4⟩; (try simp only [lA, lS, lZ]); go_simp; try with_reducible rfl
 try simp only [lA, lS, lZ, Act.put, lI, lW, lX]
 refine hI (i := 12) (v := ?_) rfl ?_ (HCB.out _ HFD.out) ?_
 rotate_left 1
 ·rintro W ⟨e0, e1, e2, e3, e4⟩; (try simp only [lA, lS, lZ]); go_simp; try with_reducible rfl
 try simp only [lA, lS, lZ, Act.put, lI, lW, lX]
 refine hI (i := 13) (v := ?_) rfl ?_ (HCB.out _ HFD.out) ?_
 rotate_left 1
 ·rintro W ⟨e0, e1, e2, e3, e4⟩; (try simp only [lA, lS, lZ]); go_simp; try with_reducible rfl
 try simp only [lA, lS, lZ, Act.put, lI, lW, lX]
 refine hI (i := 14) (v := ?_) rfl ?_ (HCB.out _ HFD.out) ?_
 rotate_left 1
 ·rintro W ⟨e0, e1, e2, e3, e4⟩; (try simp only [lA, lS, lZ]); go_simp; try with_reducible rfl
 try simp only [lA, lS, lZ, Act.put, lI, lW, lX]
 refine hI (i := 15) (v := ?_) rfl ?_ (HCB.out _ HFD.out) ?_
 rotate_left 1
 ·rintro W ⟨e0, e1, e2, e3, e4⟩; (try simp only [lA, lS, lZ]); go_simp; try with_reducible rfl
 try simp only [lA, lS, lZ, Act.put, lI, lW, lX]
 refine hI (i := 16) (v := ?_) rfl ?_ (HCB.out _ HFD.out) ?_
 rotate_left 1
 ·rintro W ⟨e0, e1, e2, e3, e4⟩; (try simp only [lA, lS, lZ]); go_simp; try with_reducible rfl
 try simp only [lA, lS, lZ, Act.put, lI, lW, lX]
 refine hI (i := 17) (v := ?_) rfl ?_ (HCB.out _ HFD.out) ?_
 rotate_left 1
 ·rintro W ⟨e0, e1, e2, e3, e4⟩; (try simp only [lA, lS, lZ]); go_simp; try with_reducible rfl
 try simp only [lA, lS, lZ, Act.put, lI, lW, lX]
 refine hI (i := 18) (v := ?_) rfl ?_ (HCB.out _ HFD.out) ?_
 rotate_left 1
 ·rintro W ⟨e0, e1, e2, e3, e4⟩; (try simp only [lA, lS, lZ]); go_simp; try with_reducible rfl
 try simp only [lA, lS, lZ, Act.put, lI, lW, lX]
 refine hI (i := 19) (v := ?_) rfl ?_ (HCB.out _ HFD.out) ?_
 rotate_left 1
 ·rintro W ⟨e0, e1, e2, e3, e4⟩; (try simp only [lA, lS, lZ]); go_simp; try with_reducible rfl
 try simp only [lA, lS, lZ, Act.put, lI, lW, lX]
 refine hI (i := 20) (v := ?_) rfl ?_ (HCB.out _ HFD.out) ?_
 rotate_left 1
 ·rintro W ⟨e0, e1, e2, e3, e4⟩; (try simp only [lA, lS, lZ]); go_simp; try with_reducible rfl
 try simp only [lA, lS, lZ, Act.put, lI, lW, lX]
 refine hI (i := 21) (v := ?_) rfl ?_ (HCB.out _ HFD.out) ?_
 rotate_left 1
 ·rintro W ⟨e0, e1, e2, e3, e4⟩; (try simp only [lA, lS, lZ]); go_simp; try with_reducible rfl
 try simp only [lA, lS, lZ, Act.put, lI, lW, lX]
 refine wpAnyHT_end (by kernel_rfl) ?_
 simp only [List.drop_succ_cons, List.drop_zero]
 clear wb1 wb2 wb3 wb4 wm4 wm3 wm3q wm2 wm2q wM
 go_upto_region 4 with fail
 obtain ⟨c0, _, _, _, _⟩ := HCB.out wd HFD.out
 have hk1 : ¬ b0 < 1 := by rw [HSPK.out, HSPM.out] at hspo; omega
 have dk1 := decide_eq_false hk1
 have hk7 : ¬ 7 < b0 := by rw [HSPK.out, HSPM.out] at hspo; omega
 have dk7 := decide_eq_false hk7
 have hM2 : ¬ 2048 < M := by rw [HSPK.out, HSPM.out] at hspo; omega
 have dM2 := decide_eq_false hM2
 have h37 : ¬ (n : Int) < 37 + M := by rw [HSPK.out, HSPM.out] at hspo; omega
 have d37 := decide_eq_false h37
 go_upto_region 8 with fail
 obtain ⟨dN, hdN⟩ := eX (dcN bs)
 have hdn : 5 + M = (dN : Int) := by rw [← hdN]; unfold dcN; rw [HSPM.out]; omega
 have h37e : 37 + M = (dN : Int) + 32 := by omega
 have hdb : 5 ≤ dN ∧ dN ≤ 2053 ∧ dN + 32 ≤ n := by omega
 obtain ⟨hdb0, hdb1, hdb2⟩ := hdb
 have hkb : 1 ≤ b0 ∧ b0 ≤ 7 := by omega
 have hn := HLN.out
 have hbl : (dcB bs).length = dN - 5 := by unfold dcB; rw [hdN, List.length_drop, List.length_take, hn]; omega
 have hhl : (dcH bs).length = dN := by unfold dcH; rw [hdN, List.length_take, hn]; omega
 have htl : (dcT bs).length = 32 := by unfold dcT; rw [hdN, List.length_take, List.length_drop, hn]; omega
 have hBB2 : ∀ z ∈ dcB bs, 0 ≤ z ∧ z < 256 := fun z hz => HB.out z (List.mem_of_mem_take (List.mem_of_mem_drop hz))
 have hBH2 : ∀ z ∈ dcH bs, 0 ≤ z ∧ z < 256 := fun z hz => HB.out z (List.mem_of_mem_take hz)
 have hBT2 : ∀ z ∈ dcT bs, 0 ≤ z ∧ z < 256 := fun z hz => HB.out z (List.mem_of_mem_drop (List.mem_of_mem_take hz))
 have hhb : hbL b0 (dcB bs) = dcH bs := by
  have h1 := sp_inv HB.out (by rw [hn]; exact h5N)
  rw [HSPK.out, HSPM.out] at h1
  unfold hbL
  rw [hbl, show ((dN - 5 : Nat) : Int) = M by omega, ← h1]
  unfold dcB dcH
  rw [hdN]
  have h2 : bs.take 5 = (bs.take dN).take 5 := by rw [List.take_take, Nat.min_eq_left hdb0]
  rw [h2, List.take_append_drop]
 have hpre : bs.take (dN + 32) = dcH bs ++ dcT bs := by unfold dcH dcT; rw [hdN, ← List.take_add]
 have hDE0 : dcE ⟨s0, s1, s2, s3⟩ bs = if sealR ⟨s0, s1, s2, s3⟩ (dcH bs) ≠ dcS bs then 201 else if ¬ okD b0 (dcB bs) then 200 else 0 := by
  unfold dcE
  rw [if_neg (by rw [hE]; simp), HSPK.out]
  by_cases hs : sealR ⟨s0, s1, s2, s3⟩ (dcH bs) = dcS bs
  ·have hs2 : ¬ (sealR ⟨s0, s1, s2, s3⟩ (dcH bs) ≠ dcS bs) := fun h => h hs
   rw [if_neg hs2, if_neg hs2]
   by_cases hk : okD b0 (dcB bs)
   ·have hk2 : ¬ ¬ okB b0 (dcB bs) := fun h => h ((okD_iff hkb hBB2).1 hk)
    have hk3 : ¬ ¬ okD b0 (dcB bs) := fun h => h hk
    rw [if_neg hk2, if_neg hk3]
   ·have hk2 : ¬ okB b0 (dcB bs) := fun h => hk ((okD_iff hkb hBB2).2 h)
    rw [if_pos hk2, if_pos hk]
  ·have hs2 : sealR ⟨s0, s1, s2, s3⟩ (dcH bs) ≠ dcS bs := hs
   rw [if_pos hs2, if_pos hs2]
 have hPG2 : okD b0 (dcB bs) → ∀ (r : Rc) w', dcE ⟨s0, s1, s2, s3⟩ bs = 0 → r.core = ((tdK b0 (dcB bs)).rc b0).core → RcOwn w' r (tdK b0 (dcB bs)).p (tdK b0 (dcB bs)).k (tdK b0 (dcB bs)).d w.heap.size → Frm [] w w' → PO (.returned (.tuple #[.agg r.arr, .int .i64 ((dN : Int) + 32), .agg (sealR ⟨s0, s1, s2, s3⟩ (dcH bs)).arr, .int .i64 0])) w' := fun hd r w' g1 g2 g3 g4 => by
  have h := HPG.out r w' g1
  rw [HSPK.out, HSPM.out, okD_eq hkb hBB2 hd, h37e] at h
  exact h g2 g3 g4
 have hrec : recL ⟨s0, s1, s2, s3⟩ b0 (dcB bs) = dcH bs ++ selL (sealR ⟨s0, s1, s2, s3⟩ (dcH bs)) := by unfold recL; rw [hhb]
 have hseq : (recL ⟨s0, s1, s2, s3⟩ b0 (dcB bs) = dcH bs ++ dcT bs) ↔ sealR ⟨s0, s1, s2, s3⟩ (dcH bs) = dcS bs := by
  rw [hrec]
  constructor
  ·intro h
   have h1 := List.append_cancel_left h
   have h2 := sel_back (sealR ⟨s0, s1, s2, s3⟩ (dcH bs)) (shaD_Bd _)
   unfold dcS
   rw [← h1, h2]
  ·intro h
   have h2 := sel_inv hBT2 htl
   rw [h]
   unfold dcS
   rw [h2]
 have HSE := hid (fun W (hf : Frm [] ws W) (hrd : Rd W (some ⟨g0, o0 + 5, none⟩) (dcB bs)) => refSealed_any b0 (by omega) (by omega) (some ⟨g0, o0 + 5, none⟩) (dN - 5) (c - 5) (dcB bs) ⟨s0, s1, s2, s3⟩ HBA4.out W hbl (fun _ h => by cases h) (by omega) hrd hBB2 (HVX.out W hf))
 unfold SldP at HSE
 rw [hhb] at HSE
 rw [hbl, show 37 + (dN - 5) = dN + 32 by omega] at HSE
 have hrl : (recL ⟨s0, s1, s2, s3⟩ b0 (dcB bs)).length = dN + 32 := by rw [recL_len, hbl]; omega
 have hrb : ∀ z ∈ recL ⟨s0, s1, s2, s3⟩ b0 (dcB bs), 0 ≤ z ∧ z < 256 := recL_bd hBB2
 have HRBD : Hid (∀ W, Frm [] ws W → Rd W (some ⟨g0, o0 + 5, none⟩) (dcB bs)) := hid (fun W hf => ((HRX.out W hf).take _).drop 5)
 have HRY : Hid (∀ W, Frm [] ws W → Rd W (some ⟨g0, o0, none⟩) (dcH bs ++ dcT bs)) := hid (fun W hf => by rw [← hpre]; exact (HRX.out W hf).take _)
 have hyl : (dcH bs ++ dcT bs).length = dN + 32 := by rw [List.length_append, hhl, htl]
 have hyb : ∀ z ∈ dcH bs ++ dcT bs, 0 ≤ z ∧ z < 256 := fun z hz => by
  rcases List.mem_append.1 hz with h | h
  ·exact hBH2 z h
  ·exact hBT2 z h
 have hne := str_eqB hrb hyb
 have hs3 : ∀ W, (Instr.slice 24 (.slice (some ⟨g0, o0, none⟩) n c) (some (.int .i64 5)) (some (.int .i64 (dN : Int))) none).run Tryz.prog W = .ok (.slice (some ⟨g0, o0 + 5, none⟩) (dN - 5) (c - 5)) W := fun W => by
  have h := sl_lh (P := Tryz.prog) (sz := 1) Tryz.underlying24 infoU8R (some ⟨g0, o0, none⟩) n c 5 dN (by omega) (by omega) W
  rw [part1R g0 o0 c 5 (by omega)] at h
  exact h
 have hs1 : ∀ W, (Instr.slice 24 (.slice (some ⟨g0, o0, none⟩) n c) none (some (.int .i64 ((dN : Int) + 32))) none).run Tryz.prog W = .ok (.slice (some ⟨g0, o0, none⟩) (dN + 32) c) W := fun W => sl_h (P := Tryz.prog) Tryz.underlying24 infoU8R (some ⟨g0, o0, none⟩) n c (dN + 32) (by omega) W
 have HTD := hid (fun w0 W b q c (h : QrR w0 W b q c (dcB bs) (0, 0)) => told_any b0 hkb w0 W b c q (dcB bs) hBB2 (by rw [hbl]; omega) h)
 have hop := fun W (hf : Frm [] ws W) => open_any (some ⟨g0, o0 + 5, none⟩) (c - 5) (dcB bs) W (HRBD.out W hf) (fun _ h => by cases h) (by rw [hbl]; omega)
 rw [hbl] at hop
 have HOP := hid hop
 have hnm := tdK_name b0 (dcB bs)
 have hpv := tdK_pv b0 (dcB bs) (by rw [hbl]; omega)
 have hnm2 : (tdK b0 (dcB bs)).c.name.size ≤ 2048 := by omega
 have hOKD : okD b0 (dcB bs) ↔ doneS (dcB bs).length (tdK b0 (dcB bs)).s.1 (tdK b0 (dcB bs)).s.2 = 0 ∧ RcMay ((tdK b0 (dcB bs)).rc b0) (tdK b0 (dcB bs)).p (tdK b0 (dcB bs)).k (tdK b0 (dcB bs)).d := Iff.rfl
 obtain ⟨V, hV⟩ := eX (tdK b0 (dcB bs))
 rw [hV] at hPG2 HTD hnm2 hpv hOKD
 obtain ⟨S, hS⟩ := eX (sealR ⟨s0, s1, s2, s3⟩ (dcH bs))
 rw [hS] at hDE0 hPG2 hseq HSE
 obtain ⟨RB, hRB⟩ := eX (recL ⟨s0, s1, s2, s3⟩ b0 (dcB bs))
 rw [hRB] at hseq HSE hrl hne
 obtain ⟨YY, hYY⟩ := eX (dcH bs ++ dcT bs)
 rw [hYY] at hseq HRY hyl hne
 obtain ⟨BB, hBBq⟩ := eX (dcB bs)
 rw [hBBq] at hDE0 hPG2 HSE HRBD HTD HOP hOKD
 have HDE := hid hDE0
 have HPG2 := hid hPG2
 have HOK := hid hOKD
 have HNM := hid hnm2
 have HPV := hid hpv
 have HRLN := hid hrl
 have HYLN := hid hyl
 have HKB := hid hkb
 obtain ⟨B, hB⟩ : ∃ z, decide (RB = YY) = z := ⟨_, rfl⟩
 rw [hB] at hne
 have HBE : Hid (B = true ↔ S = dcS bs) := hid (by rw [← hB, decide_eq_true_iff]; exact hseq)
 have w5M : IntKind.i64.wrap (dN : Int) = (dN : Int) := by rw [IntKind.wrap_i64]; omega
 have w37M : IntKind.i64.wrap ((dN : Int) + 32) = (dN : Int) + 32 := by rw [IntKind.wrap_i64]; omega
 have HNE := hid hne
 clear hDE0 hPG2 hOKD hnm2 hpv hrl hyl hkb hseq hrec hhb hpre hbl hhl htl hBB2 hBH2 hBT2 hrb hyb hop hnm hV hS hRB hYY hBBq hB hdN hE HPG hne hn h37 d37 c0 HLN HSPK HSPM HVX HRX HRD HB
 obtain ⟨t0, t1, t2, t3⟩ := S
 unfold S4.arr at HSE HPG2
 simp only at HSE HPG2
 go_cut [9, 10] from 58 to 77 (fun bv ov wx => ∃ (q : Option Addr) (d bz : Nat), bv = .slice q (dN + 32) d ∧ ov = .pointer (some ⟨bz, 0, none⟩) ∧ Hid (wx.heap[bz]? = some (.cells #[.int .u64 t0, .int .u64 t1, .int .u64 t2, .int .u64 t3] 29 (0, 0))) ∧ Hid (BufF ws none wx q (dN + 32) d RB) ∧ Hid (ws.heap.size ≤ bz))
 case first =>
  have sA : ∀ W, Frm [] ws W → W.cell? ⟨g0, o0, none⟩ = some (.int .u8 b0) ∧ W.cell? ⟨ba, 0, none⟩ = some (.int .u64 s0) ∧ W.cell? ⟨ba, 1, none⟩ = some (.int .u64 s1) ∧ W.cell? ⟨ba, 2, none⟩ = some (.int .u64 s2) ∧ W.cell? ⟨ba, 3, none⟩ = some (.int .u64 s3) := fun W hf => by
   refine ⟨(HCB.out W hf).1, ?_, ?_, ?_, ?_⟩ <;> (rw [cell_of_row _ _ _ _ _ _ (HRA.out W hf)]; rfl)
  refine wp_region_tail (S := fun W => (W.cell? ⟨g0, o0, none⟩ = some (.int .u8 b0) ∧ W.cell? ⟨ba, 0, none⟩ = some (.int .u64 s0) ∧ W.cell? ⟨ba, 1, none⟩ = some (.int .u64 s1) ∧ W.cell? ⟨ba, 2, none⟩ = some (.int .u64 s2) ∧ W.cell? ⟨ba, 3, none⟩ = some (.int .u64 s3))) 15 16 rfl (by kernel_rfl) (by kernel_rfl) ?_
  obtain ⟨wg, hwg⟩ := eX (wd.drew)
  rw [hwg]
  have HFG : Hid (Frm [] ws wg) := hid (by rw [← hwg]; exact HFD.out.drew)
  clear hwg
  refine hI (i := 0) (v := ?_) rfl ?_ (sA _ HFG.out) ?_
  rotate_left 1
  ·rintro W ⟨eb, e0, e1, e2, e3⟩; (try simp only [lA, lZ]); go_simp; try with_reducible rfl
  try simp only [lA, lZ, Act.put, lI, lW, lX]
  refine hI (i := 1) (v := ?_) rfl ?_ (sA _ HFG.out) ?_
  rotate_left 1
  ·rintro W ⟨eb, e0, e1, e2, e3⟩; (try simp only [lA, lS, lZ]); go_simp; try with_reducible rfl
  try simp only [lA, lS, lZ, Act.put, lI, lW, lX]
  refine hI (i := 2) (v := ?_) rfl ?_ (sA _ HFG.out) ?_
  rotate_left 1
  ·rintro W ⟨eb, e0, e1, e2, e3⟩; (try simp only [lA, lS, lZ]); go_simp; try with_reducible rfl
  try simp only [lA, lS, lZ, Act.put, lI, lW, lX]
  refine hI (i := 3) (v := ?_) rfl ?_ (sA _ HFG.out) ?_
  rotate_left 1
  ·rintro W ⟨eb, e0, e1, e2, e3⟩; (try simp only [lA, lS, lZ]); go_simp; try with_reducible rfl
  try simp only [lA, lS, lZ, Act.put, lI, lW, lX]
  refine hI (i := 4) (v := ?_) rfl ?_ (sA _ HFG.out) ?_
  rotate_left 1
  ·rintro W ⟨eb, e0, e1, e2, e3⟩; (try simp only [lA, lS, lZ]); go_simp; try with_reducible rfl
  try simp only [lA, lS, lZ, Act.put, lI, lW, lX]
  refine hI (i := 5) (v := ?_) rfl ?_ (sA _ HFG.out) ?_
  rotate_left 1
  ·rintro W ⟨eb, e0, e1, e2, e3⟩; (try simp only [lA, lS, lZ]); go_simp; try with_reducible rfl
  try simp only [lA, lS, lZ, Act.put, lI, lW, lX]
  refine hI (i := 6) (v := ?_) rfl ?_ (sA _ HFG.out) ?_
  rotate_left 1
  ·rintro W ⟨eb, e0, e1, e2, e3⟩; (try simp only [lA, lS, lZ]); go_simp; try with_reducible rfl
  try simp only [lA, lS, lZ, Act.put, lI, lW, lX]
  refine hI (i := 7) (v := ?_) rfl ?_ (sA _ HFG.out) ?_
  rotate_left 1
  ·(intro W hSw; obtain ⟨eb, e0, e1, e2, e3⟩ := hSw; have hsl := hs3 W; (try simp only [lA, lS, lZ]); go_simp; try with_reducible rfl)
  try simp only [lA, lS, lZ, Act.put, lI, lW, lX]
  refine hI (i := 8) (v := ?_) rfl ?_ (sA _ HFG.out) ?_
  rotate_left 1
  ·rintro W ⟨eb, e0, e1, e2, e3⟩; (try simp only [lA, lS, lZ]); go_simp; try with_reducible rfl
  try simp only [lA, lS, lZ, Act.put, lI, lW, lX]
  refine wpAnyHT_two (i := 9) (j := 13) rfl rfl (by kernel_rfl) (by kernel_rfl) (by kernel_rfl) (fun K hK => ?_) (fun K hK => ?_)
  ·try simp only [lA, lS, lZ]
   go_simp
   refine (HSE.out _ HFG.out (HRBD.out _ HFG.out)).mono ?_
   rintro e w5 ⟨q5, d5, rfl, hb5⟩
   have HB5 := hid hb5
   have HF5 : Hid (Frm [] ws w5) := hid (HFG.out.trans hb5.nil.1 (by simp))
   clear hb5
   refine hK _ _ (sA _ HF5.out) ?_
   clear hK K
   try simp only [lA, lS, lZ, Act.put, lI, lW, lX]
   refine hI (i := 10) (v := ?_) rfl ?_ (sA _ HF5.out) ?_
   rotate_left 1
   ·rintro W ⟨eb, e0, e1, e2, e3⟩; (try simp only [lA, lS, lZ]); go_simp; try with_reducible rfl
   try simp only [lA, lS, lZ, Act.put, lI, lW, lX]
   refine hI (i := 11) (v := ?_) rfl ?_ (sA _ HF5.out) ?_
   rotate_left 1
   ·rintro W ⟨eb, e0, e1, e2, e3⟩; (try simp only [lA, lS, lZ]); go_simp; try with_reducible rfl
   try simp only [lA, lS, lZ, Act.put, lI, lW, lX]
   refine hI (i := 12) (v := ?_) rfl ?_ (sA _ HF5.out) ?_
   rotate_left 1
   ·rintro W ⟨eb, e0, e1, e2, e3⟩; (try simp only [lA, lS, lZ]); go_simp; try with_reducible rfl
   try simp only [lA, lS, lZ, Act.put, lI, lW, lX]
   refine wpAnyHT_one (i := 13) rfl (by kernel_rfl) (by kernel_rfl) (fun K hK => ?_)
   try simp only [lA, lS, lZ]
   go_simp
   have hnew := heap_alloc_new w5 (.cells #[.int .u64 0, .int .u64 0, .int .u64 0, .int .u64 0] 29)
   have hfn : Frm [] w5 (w5.alloc (.cells #[.int .u64 0, .int .u64 0, .int .u64 0, .int .u64 0] 29)) := (Frm.refl _ _).alloc _
   obtain ⟨wz, hwn⟩ := eX (w5.alloc (.cells #[.int .u64 0, .int .u64 0, .int .u64 0, .int .u64 0] 29))
   obtain ⟨bz, hbz⟩ := eX (w5.heap.size)
   rw [hwn, hbz] at hnew
   rw [hwn] at hfn
   have HNW := hid hnew
   have HFN := hid hfn
   have HZB : Hid (w5.heap.size = bz) := hid hbz
   try rw [hwn]
   try rw [hbz]
   clear hnew hfn hwn hbz
   have HF9 : Hid (Frm [] ws wz) := hid (HF5.out.trans HFN.out (by simp))
   refine hK _ _ (sA _ HF9.out) ?_
   clear hK K
   try simp only [lA, lS, lZ, Act.put, lI, lW, lX]
   refine hI (i := 14) (v := ?_) rfl ?_ (sA _ HF9.out) ?_
   rotate_left 1
   ·rintro W ⟨eb, e0, e1, e2, e3⟩; (try simp only [lA, lS, lZ]); go_simp; try with_reducible rfl
   try simp only [lA, lS, lZ, Act.put, lI, lW, lX]
   refine wpAnyHT_end (by kernel_rfl) ?_
   simp only [List.drop_succ_cons, List.drop_zero]
   have hq := HNW.out
   have z0 := cR 0 (.int .u64 0) hq
   have x0 := fZ 0 hq
   have z1 := cR 1 (.int .u64 0) hq
   have x1 := fZ 1 hq
   have z2 := cR 2 (.int .u64 0) hq
   have x2 := fZ 2 hq
   have z3 := cR 3 (.int .u64 0) hq
   have x3 := fZ 3 hq
   obtain ⟨Wz, hwz, h4, f4⟩ := sE bz 29 [(0, .int .u64 t0), (1, .int .u64 t1), (2, .int .u64 t2), (3, .int .u64 t3)] wz _ hq
   simp only [List.foldl, List.setIfInBounds_toArray, List.set_cons_zero, List.set_cons_succ] at h4
   simp only [setsF] at hwz
   have hWz := hwz
   have HBF : Hid (BufF ws none Wz q5 (dN + 32) d5 RB) := hid (bufD_set ((BufF.pre HFG.out HB5.out).post HFN.out) f4 (fun i hi he => by have h1 := HB5.out.own.lows i hi; have h2 := HZB.out; omega) (by have h1 := HF5.out.size; have h2 := HZB.out; omega))
   have HH4 := hid h4
   have HLO : Hid (ws.heap.size ≤ bz) := hid (by have h1 := HF5.out.size; have h2 := HZB.out; omega)
   clear h4 f4 hWz
   go_wp2_with fail
   go_meet
   case rel => first | exact ⟨q5, d5, bz, rfl, rfl, HH4, HBF, HLO⟩ | (rw [hwz]; exact ⟨q5, d5, bz, rfl, rfl, HH4, HBF, HLO⟩)
  ·try simp only [lA, lS, lZ]
   go_simp
   have hnew := heap_alloc_new wg (.cells #[.int .u64 0, .int .u64 0, .int .u64 0, .int .u64 0] 29)
   have hfn : Frm [] wg (wg.alloc (.cells #[.int .u64 0, .int .u64 0, .int .u64 0, .int .u64 0] 29)) := (Frm.refl _ _).alloc _
   obtain ⟨wz, hwn⟩ := eX (wg.alloc (.cells #[.int .u64 0, .int .u64 0, .int .u64 0, .int .u64 0] 29))
   obtain ⟨bz, hbz⟩ := eX (wg.heap.size)
   rw [hwn, hbz] at hnew
   rw [hwn] at hfn
   have HNW := hid hnew
   have HFN := hid hfn
   have HZB : Hid (wg.heap.size = bz) := hid hbz
   try rw [hwn]
   try rw [hbz]
   clear hnew hfn hwn hbz
   have HF9 : Hid (Frm [] ws wz) := hid (HFG.out.trans HFN.out (by simp))
   refine hK _ _ (sA _ HF9.out) ?_
   clear hK K
   try simp only [lA, lS, lZ, Act.put, lI, lW, lX]
   refine wpAnyHT_one (i := 9) rfl (by kernel_rfl) (by kernel_rfl) (fun K hK => ?_)
   try simp only [lA, lS, lZ]
   go_simp
   refine (HSE.out _ HF9.out (HRBD.out _ HF9.out)).mono ?_
   rintro e w5 ⟨q5, d5, rfl, hb5⟩
   have HB5 := hid hb5
   have HF5 : Hid (Frm [] ws w5) := hid (HF9.out.trans hb5.nil.1 (by simp))
   clear hb5
   refine hK _ _ (sA _ HF5.out) ?_
   clear hK K
   try simp only [lA, lS, lZ, Act.put, lI, lW, lX]
   refine hI (i := 10) (v := ?_) rfl ?_ (sA _ HF5.out) ?_
   rotate_left 1
   ·rintro W ⟨eb, e0, e1, e2, e3⟩; (try simp only [lA, lS, lZ]); go_simp; try with_reducible rfl
   try simp only [lA, lS, lZ, Act.put, lI, lW, lX]
   refine hI (i := 11) (v := ?_) rfl ?_ (sA _ HF5.out) ?_
   rotate_left 1
   ·rintro W ⟨eb, e0, e1, e2, e3⟩; (try simp only [lA, lS, lZ]); go_simp; try with_reducible rfl
   try simp only [lA, lS, lZ, Act.put, lI, lW, lX]
   refine hI (i := 12) (v := ?_) rfl ?_ (sA _ HF5.out) ?_
   rotate_left 1
   ·rintro W ⟨eb, e0, e1, e2, e3⟩; (try simp only [lA, lS, lZ]); go_simp; try with_reducible rfl
   try simp only [lA, lS, lZ, Act.put, lI, lW, lX]
   refine hI (i := 14) (v := ?_) rfl ?_ (sA _ HF5.out) ?_
   rotate_left 1
   ·rintro W ⟨eb, e0, e1, e2, e3⟩; (try simp only [lA, lS, lZ]); go_simp; try with_reducible rfl
   try simp only [lA, lS, lZ, Act.put, lI, lW, lX]
   refine wpAnyHT_end (by kernel_rfl) ?_
   simp only [List.drop_succ_cons, List.drop_zero]
   have hq := (HB5.out.nil.1.heap HNW.out (by simp))
   have z0 := cR 0 (.int .u64 0) hq
   have x0 := fZ 0 hq
   have z1 := cR 1 (.int .u64 0) hq
   have x1 := fZ 1 hq
   have z2 := cR 2 (.int .u64 0) hq
   have x2 := fZ 2 hq
   have z3 := cR 3 (.int .u64 0) hq
   have x3 := fZ 3 hq
   obtain ⟨Wz, hwz, h4, f4⟩ := sE bz 29 [(0, .int .u64 t0), (1, .int .u64 t1), (2, .int .u64 t2), (3, .int .u64 t3)] w5 _ hq
   simp only [List.foldl, List.setIfInBounds_toArray, List.set_cons_zero, List.set_cons_succ] at h4
   simp only [setsF] at hwz
   have hWz := hwz
   have HBF : Hid (BufF ws none Wz q5 (dN + 32) d5 RB) := hid (bufD_set (BufF.pre HF9.out HB5.out) f4 (fun i hi he => by have h1 := HB5.out.nil.2 i hi; have h2 := lt_of_heap HNW.out; omega) (by have h1 := HFG.out.size; have h2 := HZB.out; omega))
   have HH4 := hid h4
   have HLO : Hid (ws.heap.size ≤ bz) := hid (by have h1 := HFG.out.size; have h2 := HZB.out; omega)
   clear h4 f4 hWz
   go_wp2_with fail
   go_meet
   case rel => first | exact ⟨q5, d5, bz, rfl, rfl, HH4, HBF, HLO⟩ | (rw [hwz]; exact ⟨q5, d5, bz, rfl, rfl, HH4, HBF, HLO⟩)
 obtain ⟨q, d, bz, rfl, rfl, HZ, HBUF, HZL⟩ := hcut
 have HFX : Hid (Frm [] ws wc) := hid HBUF.out.nil.1
 go_upto_region 9 with fail
 refine wp_region_tail (S := fun W => (Rd W q RB ∧ Rd W (some ⟨g0, o0, none⟩) YY)) 7 8 rfl (by kernel_rfl) (by kernel_rfl) ?_
 obtain ⟨we, hwe⟩ := eX (wc.drew)
 rw [hwe]
 have HFE0 : Hid (Frm [] wc we) := hid (by rw [← hwe]; exact (Frm.refl [] wc).drew)
 clear hwe
 have HFE : Hid (Frm [] ws we) := hid (HFX.out.trans HFE0.out (by simp))
 have HSY : Hid (Rd we q RB ∧ Rd we (some ⟨g0, o0, none⟩) YY) := hid ⟨HBUF.out.own.rd.kept HFE0.out (by simp), HRY.out we HFE.out⟩
 refine hI (i := 0) (v := ?_) rfl ?_ HSY.out ?_
 rotate_left 1
 ·rintro W ⟨r1, r2⟩; (try simp only [lA, lZ]); go_simp; try with_reducible rfl
 try simp only [lA, lZ, Act.put, lI, lW, lX]
 refine hI (i := 1) (v := ?_) rfl ?_ HSY.out ?_
 rotate_left 1
 ·(intro W hSw; obtain ⟨r1, r2⟩ := hSw; have hcv := cv_any (P := Tryz.prog) (w := W) 24 5 9 Tryz.underlying24 Tryz.underlying5 Tryz.underlying9 (n := dN + 32) r1 d HRLN.out; (try simp only [lA, lS, lZ]); go_simp; try with_reducible rfl)
 try simp only [lA, lS, lZ, Act.put, lI, lW, lX]
 refine hI (i := 2) (v := ?_) rfl ?_ HSY.out ?_
 rotate_left 1
 ·rintro W ⟨r1, r2⟩; (try simp only [lA, lS, lZ]); go_simp; try with_reducible rfl
 try simp only [lA, lS, lZ, Act.put, lI, lW, lX]
 refine hI (i := 3) (v := ?_) rfl ?_ HSY.out ?_
 rotate_left 1
 ·rintro W ⟨r1, r2⟩; (try simp only [lA, lS, lZ]); go_simp; try with_reducible rfl
 try simp only [lA, lS, lZ, Act.put, lI, lW, lX]
 refine hI (i := 4) (v := ?_) rfl ?_ HSY.out ?_
 rotate_left 1
 ·rintro W ⟨r1, r2⟩; (try simp only [lA, lS, lZ]); go_simp; try with_reducible rfl
 try simp only [lA, lS, lZ, Act.put, lI, lW, lX]
 refine hI (i := 5) (v := ?_) rfl ?_ HSY.out ?_
 rotate_left 1
 ·(intro W hSw; obtain ⟨r1, r2⟩ := hSw; have hsl := hs1 W; (try simp only [lA, lS, lZ]); go_simp; try with_reducible rfl)
 try simp only [lA, lS, lZ, Act.put, lI, lW, lX]
 refine hI (i := 6) (v := ?_) rfl ?_ HSY.out ?_
 rotate_left 1
 ·(intro W hSw; obtain ⟨r1, r2⟩ := hSw; have hcv := cv_any (P := Tryz.prog) (w := W) 24 5 9 Tryz.underlying24 Tryz.underlying5 Tryz.underlying9 (n := dN + 32) r2 c HYLN.out; (try simp only [lA, lS, lZ]); go_simp; try with_reducible rfl)
 try simp only [lA, lS, lZ, Act.put, lI, lW, lX]
 refine wpAnyHT_end (by kernel_rfl) ?_
 simp only [List.drop_succ_cons, List.drop_zero]
 have hne := HNE.out
 cases B with
 | false =>
  have HEE : Hid (dcE ⟨s0, s1, s2, s3⟩ bs = 201) := hid (by rw [HDE.out, if_pos (fun h => absurd (HBE.out.2 h) (by simp))])
  have hrr := HRR.out we HFE.out
  have hrs := HRS.out we HFE.out
  have z0 := cR 0 (.int .i64 0) hrr
  have y0 := fZ 0 hrr
  have z1 := cR 1 (.string ⟨#[]⟩) hrr
  have y1 := fZ 1 hrr
  have z2 := cR 2 (.int .i64 0) hrr
  have y2 := fZ 2 hrr
  have z3 := cR 3 (.int .i64 0) hrr
  have y3 := fZ 3 hrr
  have z4 := cR 4 (.int .i64 0) hrr
  have y4 := fZ 4 hrr
  have z5 := cR 5 (.int .i64 0) hrr
  have y5 := fZ 5 hrr
  have z6 := cR 6 (.string ⟨#[]⟩) hrr
  have y6 := fZ 6 hrr
  have z7 := cR 7 (.slice none 0 0) hrr
  have y7 := fZ 7 hrr
  have z8 := cR 8 (.int .i64 0) hrr
  have y8 := fZ 8 hrr
  have z9 := cR 9 (.int .i64 0) hrr
  have y9 := fZ 9 hrr
  have z10 := cR 10 (.int .i64 0) hrr
  have y10 := fZ 10 hrr
  have z11 := cR 11 (.slice none 0 0) hrr
  have y11 := fZ 11 hrr
  have z12 := cR 12 (.slice none 0 0) hrr
  have y12 := fZ 12 hrr
  have n0 := cR 0 (.int .u64 0) hrs
  have m0 := fZ 0 hrs
  have n1 := cR 1 (.int .u64 0) hrs
  have m1 := fZ 1 hrs
  have n2 := cR 2 (.int .u64 0) hrs
  have m2 := fZ 2 hrs
  have n3 := cR 3 (.int .u64 0) hrs
  have m3 := fZ 3 hrs
  go_wp2_with fail
  obtain ⟨Wz, hwz, h5, f5⟩ := sE br 26 [(0, .int .i64 0), (1, .string ⟨#[]⟩), (2, .int .i64 0), (3, .int .i64 0), (4, .int .i64 0), (5, .int .i64 0), (6, .string ⟨#[]⟩), (7, .slice none 0 0), (8, .int .i64 0), (9, .int .i64 0), (10, .int .i64 0), (11, .slice none 0 0), (12, .slice none 0 0)] we _ hrr
  simp only [List.foldl, List.setIfInBounds_toArray, List.set_cons_zero, List.set_cons_succ] at h5
  simp only [setsF] at hwz
  have hWz := hwz
  rw [hwz]
  have hrs2 := f5.heap hrs (by simp)
  obtain ⟨Wy, hwy, h6, f6⟩ := sE (br + 1) 29 [(0, .int .u64 0), (1, .int .u64 0), (2, .int .u64 0), (3, .int .u64 0)] Wz _ hrs2
  simp only [List.foldl, List.setIfInBounds_toArray, List.set_cons_zero, List.set_cons_succ] at h6
  simp only [setsF] at hwy
  have hWy := hwy
  rw [hwy]
  have h7 := f6.heap h5 (by simp)
  have u0 := cR 0 (.int .i64 0) h7
  have u1 := cR 1 (.string ⟨#[]⟩) h7
  have u2 := cR 2 (.int .i64 0) h7
  have u3 := cR 3 (.int .i64 0) h7
  have u4 := cR 4 (.int .i64 0) h7
  have u5 := cR 5 (.int .i64 0) h7
  have u6 := cR 6 (.string ⟨#[]⟩) h7
  have u7 := cR 7 (.slice none 0 0) h7
  have u8 := cR 8 (.int .i64 0) h7
  have u9 := cR 9 (.int .i64 0) h7
  have u10 := cR 10 (.int .i64 0) h7
  have u11 := cR 11 (.slice none 0 0) h7
  have u12 := cR 12 (.slice none 0 0) h7
  have k0 := cR 0 (.int .u64 0) h6
  have k1 := cR 1 (.int .u64 0) h6
  have k2 := cR 2 (.int .u64 0) h6
  have k3 := cR 3 (.int .u64 0) h6
  refine bodyPost_ret (v := .tuple #[.agg #[.int .i64 0, .string ⟨#[]⟩, .int .i64 0, .int .i64 0, .int .i64 0, .int .i64 0, .string ⟨#[]⟩, .slice none 0 0, .int .i64 0, .int .i64 0, .int .i64 0, .slice none 0 0, .slice none 0 0], .int .i64 0, .agg #[.int .u64 0, .int .u64 0, .int .u64 0, .int .u64 0], .int .i64 201]) (by simp [results, Tryz.results36, go_sem, u0, u1, u2, u3, u4, u5, u6, u7, u8, u9, u10, u11, u12, k0, k1, k2, k3]) rfl ?_
  exact HPB.out _ _ ⟨HEE.out, by decide⟩ (((HFR.out.trans HFE.out (by simp)).trans f5 (fun i hi hl => by rw [List.mem_singleton] at hi; have := HBL.out; omega)).trans f6 (fun i hi hl => by rw [List.mem_singleton] at hi; have := HBL.out; omega))
 | true =>
 have HD2 : Hid (dcE ⟨s0, s1, s2, s3⟩ bs = if ¬ okD b0 BB then 200 else 0) := hid (by rw [HDE.out, if_neg (fun h => h (HBE.out.1 rfl))])
 have hs3w := hs3 we
 go_wp2_with fail
 refine (HOP.out we HFE.out).mono ?_
 rintro e w7 ⟨r7, q7, c7, rfl, hiq, hf7, hb7, hq7⟩
 have HR7 : Hid (QrR we w7 r7 q7 c7 BB (0, 0)) := hid ⟨hiq, hf7, hb7, hq7⟩
 have HF7 : Hid (Frm [] ws w7) := hid (HFE.out.trans hf7 (by simp))
 have HF67 : Hid (Frm [] we w7) := hid hf7
 clear hiq hf7 hb7 hq7 hne hs3w
 obtain ⟨c0, _, _, _, _⟩ := HCB.out w7 HF7.out
 go_wp2_with fail
 refine (HTD.out we w7 r7 q7 c7 HR7.out).mono ?_
 rintro e w9 ⟨r, rfl, hcr, hown, hqr, hfm9⟩
 have hns : r.name.size ≤ 2048 := by
  have h : r.core.name = V.c.name := by rw [hcr]; rfl
  have h2 : r.name = V.c.name := h
  rw [h2]; exact HNM.out
 have hkind : r.kind = b0 := by
  have h : r.core.kind = b0 := by rw [hcr]; rfl
  exact h
 have HCR := hid hcr
 have HLP : Hid (r.pn = V.p.length ∧ r.kn = V.k.length ∧ r.dl = V.d.length) := hid ⟨hown.pl.symm, hown.kl.symm, hown.dl.symm⟩
 have HF9 : Hid (Frm [] ws w9) := hid (HF7.out.trans hfm9 (fun i hi hl => by rw [List.mem_singleton] at hi; have h1 := HR7.out.2.2.1; have h2 := HFE.out.size; omega))
 have HQ9 := hid hqr
 have HOW9 := hid hown
 have HF79 : Hid (Frm [] we w9) := hid hqr.2.1
 have HSZ7 : Hid (ws.heap.size ≤ w7.heap.size) := hid HF7.out.size
 clear hcr hown hqr hfm9 c0 HR7
 obtain ⟨kind, name, typ, frm, guid, origin, snap, pp, pn, pc, obj, at_, many, kp, kn, kc, dp, dl, dc⟩ := r
 simp only at hkind
 subst hkind
 unfold Rc.arr
 simp only at hns HCR HLP HOW9 ⊢
 have hrx := heap_alloc_new w9 (.cells #[.int .i64 kind, .string name, .int .i64 typ, .int .i64 frm, .int .i64 guid, .int .i64 origin, .string snap, .slice pp pn pc, .int .i64 obj, .int .i64 at_, .int .i64 many, .slice kp kn kc, .slice dp dl dc] 26)
 have hfx : Frm [] w9 (w9.alloc (.cells #[.int .i64 kind, .string name, .int .i64 typ, .int .i64 frm, .int .i64 guid, .int .i64 origin, .string snap, .slice pp pn pc, .int .i64 obj, .int .i64 at_, .int .i64 many, .slice kp kn kc, .slice dp dl dc] 26)) := (Frm.refl _ _).alloc _
 obtain ⟨bx, hbx⟩ := eX (w9.heap.size)
 obtain ⟨wx, hwx⟩ := eX (w9.alloc (.cells #[.int .i64 kind, .string name, .int .i64 typ, .int .i64 frm, .int .i64 guid, .int .i64 origin, .string snap, .slice pp pn pc, .int .i64 obj, .int .i64 at_, .int .i64 many, .slice kp kn kc, .slice dp dl dc] 26))
 rw [hwx, hbx] at hrx
 rw [hwx] at hfx
 have HOW := hid (HOW9.out.k0 hfx)
 have HQX := hid (HQ9.out.k0 hfx)
 have HFWX : Hid (Frm [] ws wx) := hid (HF9.out.trans hfx (by simp))
 have HZ11 : Hid (∀ W, Frm [] wx W → W.heap[bz]? = some (.cells #[.int .u64 t0, .int .u64 t1, .int .u64 t2, .int .u64 t3] 29 (0, 0))) := hid (fun W hf => hf.heap ((HF79.out.trans hfx (by simp)).heap (HFE0.out.heap HZ.out (by simp)) (by simp)) (by simp))
 have HR11 : Hid (∀ W, Frm [] wx W → W.heap[bx]? = some (.cells #[.int .i64 kind, .string name, .int .i64 typ, .int .i64 frm, .int .i64 guid, .int .i64 origin, .string snap, .slice pp pn pc, .int .i64 obj, .int .i64 at_, .int .i64 many, .slice kp kn kc, .slice dp dl dc] 26 (0, 0))) := hid (fun W hf => hf.heap hrx (by simp))
 have HXL : Hid (ws.heap.size ≤ bx) := hid (by have h1 := HF9.out.size; omega)
 have HBXE := hid hbx
 have HWXE := hid hwx
 clear hbx hwx hfx hrx HOW9 HQ9
 go_upto_region 13 with fail
 try rw [HBXE.out]
 try rw [HWXE.out]
 have HDN := hid (qdone_any r7 c7 V.s.1 q7 BB V.s.2 wx HQX.out.1)
 obtain ⟨DN, hDN⟩ := eX (doneS BB.length V.s.1 V.s.2)
 rw [hDN] at HDN HOK
 have HMY : Hid (RcMay ⟨kind, name, typ, frm, guid, origin, snap, pp, pn, pc, obj, at_, many, kp, kn, kc, dp, dl, dc⟩ V.p V.k V.d ↔ RcMay (V.rc kind) V.p V.k V.d) := hid (rcMay_core HCR.out HLP.out.1 HLP.out.2.1 HLP.out.2.2)
 have HCK := hid (fun W (hf : Frm [] wx W) => refCheck_any ⟨kind, name, typ, frm, guid, origin, snap, pp, pn, pc, obj, at_, many, kp, kn, kc, dp, dl, dc⟩ V.p V.k V.d W (HOW.out.k0 hf).ok (by show name.size ≤ _; omega) HPV.out)
 clear hDN hns
 go_wp2_with fail
 refine HDN.out.mono ?_
 rintro e _ ⟨rfl, nn, rfl⟩
 have HFD2 : Hid (Frm [] wx (wx.drewN nn)) := hid ((Frm.refl _ _).drewN nn)
 obtain ⟨w12, hw12⟩ := eX (wx.drewN nn)
 rw [hw12] at HFD2 ⊢
 clear hw12 HDN
 have q0 := cR 0 (.int .i64 kind) (HR11.out w12 HFD2.out)
 have q1 := cR 1 (.string name) (HR11.out w12 HFD2.out)
 have q2 := cR 2 (.int .i64 typ) (HR11.out w12 HFD2.out)
 have q3 := cR 3 (.int .i64 frm) (HR11.out w12 HFD2.out)
 have q4 := cR 4 (.int .i64 guid) (HR11.out w12 HFD2.out)
 have q5 := cR 5 (.int .i64 origin) (HR11.out w12 HFD2.out)
 have q6 := cR 6 (.string snap) (HR11.out w12 HFD2.out)
 have q7 := cR 7 (.slice pp pn pc) (HR11.out w12 HFD2.out)
 have q8 := cR 8 (.int .i64 obj) (HR11.out w12 HFD2.out)
 have q9 := cR 9 (.int .i64 at_) (HR11.out w12 HFD2.out)
 have q10 := cR 10 (.int .i64 many) (HR11.out w12 HFD2.out)
 have q11 := cR 11 (.slice kp kn kc) (HR11.out w12 HFD2.out)
 have q12 := cR 12 (.slice dp dl dc) (HR11.out w12 HFD2.out)
 have HC12 := hid (HCK.out w12 HFD2.out)
 obtain ⟨CE, hCE⟩ : ∃ z : Int, (if RcMay ⟨kind, name, typ, frm, guid, origin, snap, pp, pn, pc, obj, at_, many, kp, kn, kc, dp, dl, dc⟩ V.p V.k V.d then (0 : Int) else 200) = z := ⟨_, rfl⟩
 rw [hCE] at HC12
 have HCE := hid hCE
 unfold Rc.arr at HC12
 simp only at HC12
 clear hCE HCK
 go_wp2_with fail
 refine HC12.out.mono ?_
 rintro e w13 ⟨rfl, hf13⟩
 have HFE3 : Hid (Frm [] wx w13) := hid (HFD2.out.trans hf13 (by simp))
 have HF13 : Hid (Frm [] ws w13) := hid (HFWX.out.trans HFE3.out (by simp))
 clear hf13 HC12 q0 q1 q2 q3 q4 q5 q6 q7 q8 q9 q10 q11 q12
 by_cases hd : DN = 0
 case neg =>
  have HEE : Hid (dcE ⟨s0, s1, s2, s3⟩ bs = 200) := hid (by rw [HD2.out, if_pos (fun h => hd (HOK.out.1 h).1)])
  have hbd : (DN != 0) = true := by rw [bne_iff_ne]; exact hd
  clear hd
  have hrr := HRR.out w13 HF13.out
  have hrs := HRS.out w13 HF13.out
  have z0 := cR 0 (.int .i64 0) hrr
  have y0 := fZ 0 hrr
  have z1 := cR 1 (.string ⟨#[]⟩) hrr
  have y1 := fZ 1 hrr
  have z2 := cR 2 (.int .i64 0) hrr
  have y2 := fZ 2 hrr
  have z3 := cR 3 (.int .i64 0) hrr
  have y3 := fZ 3 hrr
  have z4 := cR 4 (.int .i64 0) hrr
  have y4 := fZ 4 hrr
  have z5 := cR 5 (.int .i64 0) hrr
  have y5 := fZ 5 hrr
  have z6 := cR 6 (.string ⟨#[]⟩) hrr
  have y6 := fZ 6 hrr
  have z7 := cR 7 (.slice none 0 0) hrr
  have y7 := fZ 7 hrr
  have z8 := cR 8 (.int .i64 0) hrr
  have y8 := fZ 8 hrr
  have z9 := cR 9 (.int .i64 0) hrr
  have y9 := fZ 9 hrr
  have z10 := cR 10 (.int .i64 0) hrr
  have y10 := fZ 10 hrr
  have z11 := cR 11 (.slice none 0 0) hrr
  have y11 := fZ 11 hrr
  have z12 := cR 12 (.slice none 0 0) hrr
  have y12 := fZ 12 hrr
  have n0 := cR 0 (.int .u64 0) hrs
  have m0 := fZ 0 hrs
  have n1 := cR 1 (.int .u64 0) hrs
  have m1 := fZ 1 hrs
  have n2 := cR 2 (.int .u64 0) hrs
  have m2 := fZ 2 hrs
  have n3 := cR 3 (.int .u64 0) hrs
  have m3 := fZ 3 hrs
  go_wp2_with fail
  obtain ⟨Wz, hwz, h5, f5⟩ := sE br 26 [(0, .int .i64 0), (1, .string ⟨#[]⟩), (2, .int .i64 0), (3, .int .i64 0), (4, .int .i64 0), (5, .int .i64 0), (6, .string ⟨#[]⟩), (7, .slice none 0 0), (8, .int .i64 0), (9, .int .i64 0), (10, .int .i64 0), (11, .slice none 0 0), (12, .slice none 0 0)] w13 _ hrr
  simp only [List.foldl, List.setIfInBounds_toArray, List.set_cons_zero, List.set_cons_succ] at h5
  simp only [setsF] at hwz
  have hWz := hwz
  rw [hwz]
  have hrs2 := f5.heap hrs (by simp)
  obtain ⟨Wy, hwy, h6, f6⟩ := sE (br + 1) 29 [(0, .int .u64 0), (1, .int .u64 0), (2, .int .u64 0), (3, .int .u64 0)] Wz _ hrs2
  simp only [List.foldl, List.setIfInBounds_toArray, List.set_cons_zero, List.set_cons_succ] at h6
  simp only [setsF] at hwy
  have hWy := hwy
  rw [hwy]
  have h7 := f6.heap h5 (by simp)
  have u0 := cR 0 (.int .i64 0) h7
  have u1 := cR 1 (.string ⟨#[]⟩) h7
  have u2 := cR 2 (.int .i64 0) h7
  have u3 := cR 3 (.int .i64 0) h7
  have u4 := cR 4 (.int .i64 0) h7
  have u5 := cR 5 (.int .i64 0) h7
  have u6 := cR 6 (.string ⟨#[]⟩) h7
  have u7 := cR 7 (.slice none 0 0) h7
  have u8 := cR 8 (.int .i64 0) h7
  have u9 := cR 9 (.int .i64 0) h7
  have u10 := cR 10 (.int .i64 0) h7
  have u11 := cR 11 (.slice none 0 0) h7
  have u12 := cR 12 (.slice none 0 0) h7
  have k0 := cR 0 (.int .u64 0) h6
  have k1 := cR 1 (.int .u64 0) h6
  have k2 := cR 2 (.int .u64 0) h6
  have k3 := cR 3 (.int .u64 0) h6
  refine bodyPost_ret (v := .tuple #[.agg #[.int .i64 0, .string ⟨#[]⟩, .int .i64 0, .int .i64 0, .int .i64 0, .int .i64 0, .string ⟨#[]⟩, .slice none 0 0, .int .i64 0, .int .i64 0, .int .i64 0, .slice none 0 0, .slice none 0 0], .int .i64 0, .agg #[.int .u64 0, .int .u64 0, .int .u64 0, .int .u64 0], .int .i64 200]) (by simp [results, Tryz.results36, go_sem, u0, u1, u2, u3, u4, u5, u6, u7, u8, u9, u10, u11, u12, k0, k1, k2, k3]) rfl ?_
  exact HPB.out _ _ ⟨HEE.out, by decide⟩ (((HFR.out.trans HF13.out (by simp)).trans f5 (fun i hi hl => by rw [List.mem_singleton] at hi; have := HBL.out; omega)).trans f6 (fun i hi hl => by rw [List.mem_singleton] at hi; have := HBL.out; omega))
 subst hd
 by_cases hm : RcMay ⟨kind, name, typ, frm, guid, origin, snap, pp, pn, pc, obj, at_, many, kp, kn, kc, dp, dl, dc⟩ V.p V.k V.d
 case neg =>
  have HEE : Hid (dcE ⟨s0, s1, s2, s3⟩ bs = 200) := hid (by rw [HD2.out, if_pos (fun h => hm (HMY.out.2 (HOK.out.1 h).2))])
  have hce : CE = 200 := by rw [← HCE.out, if_neg hm]
  subst hce
  clear hm
  have hrr := HRR.out w13 HF13.out
  have hrs := HRS.out w13 HF13.out
  have z0 := cR 0 (.int .i64 0) hrr
  have y0 := fZ 0 hrr
  have z1 := cR 1 (.string ⟨#[]⟩) hrr
  have y1 := fZ 1 hrr
  have z2 := cR 2 (.int .i64 0) hrr
  have y2 := fZ 2 hrr
  have z3 := cR 3 (.int .i64 0) hrr
  have y3 := fZ 3 hrr
  have z4 := cR 4 (.int .i64 0) hrr
  have y4 := fZ 4 hrr
  have z5 := cR 5 (.int .i64 0) hrr
  have y5 := fZ 5 hrr
  have z6 := cR 6 (.string ⟨#[]⟩) hrr
  have y6 := fZ 6 hrr
  have z7 := cR 7 (.slice none 0 0) hrr
  have y7 := fZ 7 hrr
  have z8 := cR 8 (.int .i64 0) hrr
  have y8 := fZ 8 hrr
  have z9 := cR 9 (.int .i64 0) hrr
  have y9 := fZ 9 hrr
  have z10 := cR 10 (.int .i64 0) hrr
  have y10 := fZ 10 hrr
  have z11 := cR 11 (.slice none 0 0) hrr
  have y11 := fZ 11 hrr
  have z12 := cR 12 (.slice none 0 0) hrr
  have y12 := fZ 12 hrr
  have n0 := cR 0 (.int .u64 0) hrs
  have m0 := fZ 0 hrs
  have n1 := cR 1 (.int .u64 0) hrs
  have m1 := fZ 1 hrs
  have n2 := cR 2 (.int .u64 0) hrs
  have m2 := fZ 2 hrs
  have n3 := cR 3 (.int .u64 0) hrs
  have m3 := fZ 3 hrs
  go_wp2_with fail
  obtain ⟨Wz, hwz, h5, f5⟩ := sE br 26 [(0, .int .i64 0), (1, .string ⟨#[]⟩), (2, .int .i64 0), (3, .int .i64 0), (4, .int .i64 0), (5, .int .i64 0), (6, .string ⟨#[]⟩), (7, .slice none 0 0), (8, .int .i64 0), (9, .int .i64 0), (10, .int .i64 0), (11, .slice none 0 0), (12, .slice none 0 0)] w13 _ hrr
  simp only [List.foldl, List.setIfInBounds_toArray, List.set_cons_zero, List.set_cons_succ] at h5
  simp only [setsF] at hwz
  have hWz := hwz
  rw [hwz]
  have hrs2 := f5.heap hrs (by simp)
  obtain ⟨Wy, hwy, h6, f6⟩ := sE (br + 1) 29 [(0, .int .u64 0), (1, .int .u64 0), (2, .int .u64 0), (3, .int .u64 0)] Wz _ hrs2
  simp only [List.foldl, List.setIfInBounds_toArray, List.set_cons_zero, List.set_cons_succ] at h6
  simp only [setsF] at hwy
  have hWy := hwy
  rw [hwy]
  have h7 := f6.heap h5 (by simp)
  have u0 := cR 0 (.int .i64 0) h7
  have u1 := cR 1 (.string ⟨#[]⟩) h7
  have u2 := cR 2 (.int .i64 0) h7
  have u3 := cR 3 (.int .i64 0) h7
  have u4 := cR 4 (.int .i64 0) h7
  have u5 := cR 5 (.int .i64 0) h7
  have u6 := cR 6 (.string ⟨#[]⟩) h7
  have u7 := cR 7 (.slice none 0 0) h7
  have u8 := cR 8 (.int .i64 0) h7
  have u9 := cR 9 (.int .i64 0) h7
  have u10 := cR 10 (.int .i64 0) h7
  have u11 := cR 11 (.slice none 0 0) h7
  have u12 := cR 12 (.slice none 0 0) h7
  have k0 := cR 0 (.int .u64 0) h6
  have k1 := cR 1 (.int .u64 0) h6
  have k2 := cR 2 (.int .u64 0) h6
  have k3 := cR 3 (.int .u64 0) h6
  refine bodyPost_ret (v := .tuple #[.agg #[.int .i64 0, .string ⟨#[]⟩, .int .i64 0, .int .i64 0, .int .i64 0, .int .i64 0, .string ⟨#[]⟩, .slice none 0 0, .int .i64 0, .int .i64 0, .int .i64 0, .slice none 0 0, .slice none 0 0], .int .i64 0, .agg #[.int .u64 0, .int .u64 0, .int .u64 0, .int .u64 0], .int .i64 200]) (by simp [results, Tryz.results36, go_sem, u0, u1, u2, u3, u4, u5, u6, u7, u8, u9, u10, u11, u12, k0, k1, k2, k3]) rfl ?_
  exact HPB.out _ _ ⟨HEE.out, by decide⟩ (((HFR.out.trans HF13.out (by simp)).trans f5 (fun i hi hl => by rw [List.mem_singleton] at hi; have := HBL.out; omega)).trans f6 (fun i hi hl => by rw [List.mem_singleton] at hi; have := HBL.out; omega))
 have HOD : Hid (okD kind BB) := hid (HOK.out.2 ⟨by trivial, HMY.out.1 hm⟩)
 have HEE : Hid (dcE ⟨s0, s1, s2, s3⟩ bs = 0) := hid (by rw [HD2.out, if_neg (fun h => h HOD.out)])
 have hce : CE = 0 := by rw [← HCE.out, if_pos hm]
 subst hce
 clear hm
 go_upto_region 17 with fail
 obtain ⟨wf, hwf⟩ := eX (w13.drew)
 have HFW : Hid (Frm [] wx wf) := hid (by rw [← hwf]; exact HFE3.out.drew)
 have HFS : Hid (Frm [] ws wf) := hid (HFWX.out.trans HFW.out (by simp))
 have HXB : Hid (bx ≠ br ∧ bx ≠ br + 1 ∧ bz ≠ br ∧ bz ≠ br + 1) := hid (by have h1 := HXL.out; have h2 := HSZ.out; have h3 := HZL.out; exact ⟨by omega, by omega, by omega, by omega⟩)
 have hS : ∀ W : World, W.heap[bx]? = some (.cells #[.int .i64 kind, .string name, .int .i64 typ, .int .i64 frm, .int .i64 guid, .int .i64 origin, .string snap, .slice pp pn pc, .int .i64 obj, .int .i64 at_, .int .i64 many, .slice kp kn kc, .slice dp dl dc] 26 (0, 0)) → W.heap[bz]? = some (.cells #[.int .u64 t0, .int .u64 t1, .int .u64 t2, .int .u64 t3] 29 (0, 0)) → W.cell? ⟨bx, 0, none⟩ = some (.int .i64 kind) ∧ W.cell? ⟨bx, 1, none⟩ = some (.string name) ∧ W.cell? ⟨bx, 2, none⟩ = some (.int .i64 typ) ∧ W.cell? ⟨bx, 3, none⟩ = some (.int .i64 frm) ∧ W.cell? ⟨bx, 4, none⟩ = some (.int .i64 guid) ∧ W.cell? ⟨bx, 5, none⟩ = some (.int .i64 origin) ∧ W.cell? ⟨bx, 6, none⟩ = some (.string snap) ∧ W.cell? ⟨bx, 7, none⟩ = some (.slice pp pn pc) ∧ W.cell? ⟨bx, 8, none⟩ = some (.int .i64 obj) ∧ W.cell? ⟨bx, 9, none⟩ = some (.int .i64 at_) ∧ W.cell? ⟨bx, 10, none⟩ = some (.int .i64 many) ∧ W.cell? ⟨bx, 11, none⟩ = some (.slice kp kn kc) ∧ W.cell? ⟨bx, 12, none⟩ = some (.slice dp dl dc) ∧ W.cell? ⟨bz, 0, none⟩ = some (.int .u64 t0) ∧ W.cell? ⟨bz, 1, none⟩ = some (.int .u64 t1) ∧ W.cell? ⟨bz, 2, none⟩ = some (.int .u64 t2) ∧ W.cell? ⟨bz, 3, none⟩ = some (.int .u64 t3) := fun W h1 h2 => by
  refine ⟨?_, ?_, ?_, ?_, ?_, ?_, ?_, ?_, ?_, ?_, ?_, ?_, ?_, ?_, ?_, ?_, ?_⟩ <;> first | (rw [cell_of_row _ _ _ _ _ _ h1]; rfl) | (rw [cell_of_row _ _ _ _ _ _ h2]; rfl)
 have hx0 := HR11.out wf HFW.out
 have hz0 := HZ11.out wf HFW.out
 have s0' := hS wf hx0 hz0
 have hrr := HRR.out wf HFS.out
 have hrs := HRS.out wf HFS.out
 have z0 := cR 0 (.int .i64 0) hrr
 have y0 := fZ 0 hrr
 have z1 := cR 1 (.string ⟨#[]⟩) hrr
 have y1 := fZ 1 hrr
 have z2 := cR 2 (.int .i64 0) hrr
 have y2 := fZ 2 hrr
 have z3 := cR 3 (.int .i64 0) hrr
 have y3 := fZ 3 hrr
 have z4 := cR 4 (.int .i64 0) hrr
 have y4 := fZ 4 hrr
 have z5 := cR 5 (.int .i64 0) hrr
 have y5 := fZ 5 hrr
 have z6 := cR 6 (.string ⟨#[]⟩) hrr
 have y6 := fZ 6 hrr
 have z7 := cR 7 (.slice none 0 0) hrr
 have y7 := fZ 7 hrr
 have z8 := cR 8 (.int .i64 0) hrr
 have y8 := fZ 8 hrr
 have z9 := cR 9 (.int .i64 0) hrr
 have y9 := fZ 9 hrr
 have z10 := cR 10 (.int .i64 0) hrr
 have y10 := fZ 10 hrr
 have z11 := cR 11 (.slice none 0 0) hrr
 have y11 := fZ 11 hrr
 have z12 := cR 12 (.slice none 0 0) hrr
 have y12 := fZ 12 hrr
 obtain ⟨Wz, hwz, h5, f5⟩ := sE br 26 [(0, .int .i64 kind), (1, .string name), (2, .int .i64 typ), (3, .int .i64 frm), (4, .int .i64 guid), (5, .int .i64 origin), (6, .string snap), (7, .slice pp pn pc), (8, .int .i64 obj), (9, .int .i64 at_), (10, .int .i64 many), (11, .slice kp kn kc), (12, .slice dp dl dc)] wf _ hrr
 simp only [List.foldl, List.setIfInBounds_toArray, List.set_cons_zero, List.set_cons_succ] at h5
 simp only [setsF] at hwz
 have hWz := hwz
 have hrs2 := f5.heap hrs (by simp)
 have hx1 := f5.heap hx0 (by simpa using HXB.out.1)
 have hz1 := f5.heap hz0 (by simpa using HXB.out.2.2.1)
 have s1' := hS Wz hx1 hz1
 have n0 := cR 0 (.int .u64 0) hrs2
 have m0 := fZ 0 hrs2
 have n1 := cR 1 (.int .u64 0) hrs2
 have m1 := fZ 1 hrs2
 have n2 := cR 2 (.int .u64 0) hrs2
 have m2 := fZ 2 hrs2
 have n3 := cR 3 (.int .u64 0) hrs2
 have m3 := fZ 3 hrs2
 obtain ⟨Wy, hwy, h6, f6⟩ := sE (br + 1) 29 [(0, .int .u64 t0), (1, .int .u64 t1), (2, .int .u64 t2), (3, .int .u64 t3)] Wz _ hrs2
 simp only [List.foldl, List.setIfInBounds_toArray, List.set_cons_zero, List.set_cons_succ] at h6
 simp only [setsF] at hwy
 have hWy := hwy
 have h7 := f6.heap h5 (by simp)
 have s2' := hS Wy (f6.heap hx1 (by simpa using HXB.out.2.1)) (f6.heap hz1 (by simpa using HXB.out.2.2.2))
 refine wp_region_tail (S := fun W => (W.cell? ⟨bx, 0, none⟩ = some (.int .i64 kind) ∧ W.cell? ⟨bx, 1, none⟩ = some (.string name) ∧ W.cell? ⟨bx, 2, none⟩ = some (.int .i64 typ) ∧ W.cell? ⟨bx, 3, none⟩ = some (.int .i64 frm) ∧ W.cell? ⟨bx, 4, none⟩ = some (.int .i64 guid) ∧ W.cell? ⟨bx, 5, none⟩ = some (.int .i64 origin) ∧ W.cell? ⟨bx, 6, none⟩ = some (.string snap) ∧ W.cell? ⟨bx, 7, none⟩ = some (.slice pp pn pc) ∧ W.cell? ⟨bx, 8, none⟩ = some (.int .i64 obj) ∧ W.cell? ⟨bx, 9, none⟩ = some (.int .i64 at_) ∧ W.cell? ⟨bx, 10, none⟩ = some (.int .i64 many) ∧ W.cell? ⟨bx, 11, none⟩ = some (.slice kp kn kc) ∧ W.cell? ⟨bx, 12, none⟩ = some (.slice dp dl dc) ∧ W.cell? ⟨bz, 0, none⟩ = some (.int .u64 t0) ∧ W.cell? ⟨bz, 1, none⟩ = some (.int .u64 t1) ∧ W.cell? ⟨bz, 2, none⟩ = some (.int .u64 t2) ∧ W.cell? ⟨bz, 3, none⟩ = some (.int .u64 t3))) 7 8 rfl (by kernel_rfl) (by kernel_rfl) ?_
 rw [hwf]
 refine hI (i := 0) (v := ?_) rfl ?_ s0' ?_
 rotate_left 1
 ·rintro W ⟨a0, a1, a2, a3, a4, a5, a6, a7, a8, a9, a10, a11, a12, b0, b1, b2, b3⟩; (try simp only [lA, lZ]); go_simp; try with_reducible rfl
 try simp only [lA, lZ, Act.put, lI, lW, lX]
 refine hI (i := 1) (v := ?_) rfl ?_ s0' ?_
 rotate_left 1
 ·rintro W ⟨a0, a1, a2, a3, a4, a5, a6, a7, a8, a9, a10, a11, a12, b0, b1, b2, b3⟩; (try simp only [lA, lS, lZ]); go_simp; try with_reducible rfl
 try simp only [lA, lS, lZ, Act.put, lI, lW, lX]
 refine hI (i := 2) (v := ?_) rfl ?_ s0' ?_
 rotate_left 1
 ·rintro W ⟨a0, a1, a2, a3, a4, a5, a6, a7, a8, a9, a10, a11, a12, b0, b1, b2, b3⟩; (try simp only [lA, lS, lZ]); go_simp; try with_reducible rfl
 try simp only [lA, lS, lZ, Act.put, lI, lW, lX]
 refine hI (i := 3) (v := ?_) rfl ?_ s0' ?_
 rotate_left 1
 ·rintro W ⟨a0, a1, a2, a3, a4, a5, a6, a7, a8, a9, a10, a11, a12, b0, b1, b2, b3⟩; (try simp only [lA, lS, lZ]); go_simp; try with_reducible rfl
 try simp only [lA, lS, lZ, Act.put, lI, lW, lX]
 refine wpAnyHT_one (i := 4) rfl (by kernel_rfl) (by kernel_rfl) (fun K hK => ?_)
 try simp only [lA, lS, lZ]
 go_simp
 try rw [hwz]
 refine hK _ _ s1' ?_
 clear hK K
 try simp only [lA, lS, lZ, Act.put, lI, lW, lX]
 refine wpAnyHT_one (i := 5) rfl (by kernel_rfl) (by kernel_rfl) (fun K hK => ?_)
 try simp only [lA, lS, lZ]
 go_simp
 refine hK _ _ s1' ?_
 clear hK K
 try simp only [lA, lS, lZ, Act.put, lI, lW, lX]
 refine wpAnyHT_one (i := 6) rfl (by kernel_rfl) (by kernel_rfl) (fun K hK => ?_)
 try simp only [lA, lS, lZ]
 go_simp
 try rw [hwy]
 refine hK _ _ s2' ?_
 clear hK K
 try simp only [lA, lS, lZ, Act.put, lI, lW, lX]
 refine wpAnyHT_end (by kernel_rfl) ?_
 simp only [List.drop_succ_cons, List.drop_zero]
 have u0 := cR 0 (.int .i64 kind) h7
 have u1 := cR 1 (.string name) h7
 have u2 := cR 2 (.int .i64 typ) h7
 have u3 := cR 3 (.int .i64 frm) h7
 have u4 := cR 4 (.int .i64 guid) h7
 have u5 := cR 5 (.int .i64 origin) h7
 have u6 := cR 6 (.string snap) h7
 have u7 := cR 7 (.slice pp pn pc) h7
 have u8 := cR 8 (.int .i64 obj) h7
 have u9 := cR 9 (.int .i64 at_) h7
 have u10 := cR 10 (.int .i64 many) h7
 have u11 := cR 11 (.slice kp kn kc) h7
 have u12 := cR 12 (.slice dp dl dc) h7
 have k0 := cR 0 (.int .u64 t0) h6
 have k1 := cR 1 (.int .u64 t1) h6
 have k2 := cR 2 (.int .u64 t2) h6
 have k3 := cR 3 (.int .u64 t3) h6
 have HFY : Hid (Frm [] w Wy) := hid (((HFR.out.trans HFS.out (by simp)).trans f5 (fun i hi hl => by rw [List.mem_singleton] at hi; have := HBL.out; omega)).trans f6 (fun i hi hl => by rw [List.mem_singleton] at hi; have := HBL.out; omega))
 have hlow : ∀ k, w7.heap.size ≤ k → k ≠ br ∧ k ≠ br + 1 := fun k hk => by have h1 := HSZ.out; have h2 := HSZ7.out; exact ⟨by omega, by omega⟩
 have own12 := HOW.out.k0 HFW.out
 have own13 := own12.kept f5 (fun k hk hm => by rw [List.mem_singleton] at hm; exact (hlow k (own12.pw k hk)).1 hm) (fun k hk hm => by rw [List.mem_singleton] at hm; exact (hlow k (own12.kw k hk)).1 hm) (fun k hk hm => by rw [List.mem_singleton] at hm; exact (hlow k (own12.dw k hk)).1 hm)
 have own14 := own13.kept f6 (fun k hk hm => by rw [List.mem_singleton] at hm; exact (hlow k (own12.pw k hk)).2 hm) (fun k hk hm => by rw [List.mem_singleton] at hm; exact (hlow k (own12.kw k hk)).2 hm) (fun k hk hm => by rw [List.mem_singleton] at hm; exact (hlow k (own12.dw k hk)).2 hm)
 have HOY := hid (own14.less (lo' := w.heap.size) (by have h1 := HFR.out.size; have h2 := HSZ7.out; omega))
 clear h5 f5 h6 f6 h7 hlow own12 own13 own14 hwz hwy hWz hWy hx0 hz0 hx1 hz1 hS s0' s1' s2' hrr hrs hrs2 hwf z0 y0 z1 y1 z2 y2 z3 y3 z4 y4 z5 y5 z6 y6 z7 y7 z8 y8 z9 y9 z10 y10 z11 y11 z12 y12 n0 m0 n1 m1 n2 m2 n3 m3
 go_wp2_with fail
 refine bodyPost_ret (v := .tuple #[.agg #[.int .i64 kind, .string name, .int .i64 typ, .int .i64 frm, .int .i64 guid, .int .i64 origin, .string snap, .slice pp pn pc, .int .i64 obj, .int .i64 at_, .int .i64 many, .slice kp kn kc, .slice dp dl dc], .int .i64 ((dN : Int) + 32), .agg #[.int .u64 t0, .int .u64 t1, .int .u64 t2, .int .u64 t3], .int .i64 0]) (by simp [results, Tryz.results36, go_sem, u0, u1, u2, u3, u4, u5, u6, u7, u8, u9, u10, u11, u12, k0, k1, k2, k3]) rfl ?_
 exact HPG2.out HOD.out ⟨kind, name, typ, frm, guid, origin, snap, pp, pn, pc, obj, at_, many, kp, kn, kc, dp, dl, dc⟩ Wy HEE.out HCR.out HOY.out HFY.out
theorem refDecode_any (p : Option Addr) (n c : Nat) (bs : List Int) (a : S4) (w : World) (hn : bs.length = n) (hnc : n ≤ c) (hnb : n ≤ 140737488355328) (hrd : Rd w p bs) (hb : ∀ z ∈ bs, 0 ≤ z ∧ z < 256) (hvs : Vars w) (ha : a.Bd) :
  Calls Tryz.prog 36 #[.slice p n c, .agg a.arr] w (DecP w a bs) := by
 by_cases hE : spE bs = 0
 ·exact refDecode_row p n c bs a w hn hnc hnb hrd hb hvs ha hE
 ·exact refDecode_short p n c bs a w hn hnc hnb hrd hb hvs ha hE
end
section
open Go.RowKit Go.Lib
theorem bytesT_le (ls : List Int) (k : Int) : (bytesT ls k).1.length ≤ ls.length := by
 unfold bytesT
 split
 ·simp
 ·split
  ·simp
  ·simp only [List.length_take]; omega
theorem byS_le (bs : List Int) (s : Rst) (k : Int) : (byS bs s k).1.length ≤ bs.length := by
 have h := bytesT_le (bs.drop s.1) k
 rw [List.length_drop] at h
 unfold byS readS
 split
 ·simp
 ·split
  ·show (bytesT _ _).1.length ≤ _; omega
  ·show (bytesT _ _).1.length ≤ _; omega
theorem tvK_d (k : Int) (b : List Int) : (tvK k b).d.length ≤ b.length := by
 unfold tvK
 split
 ·exact Nat.zero_le _
 ·split
  ·exact Nat.zero_le _
  ·split
   ·exact Nat.zero_le _
   ·split
    ·exact Nat.zero_le _
    ·split
     ·exact byS_le _ _ _
     ·exact Nat.zero_le _
def duV (bs : List Int) : TkV := tvK (spK bs) (dcB bs)
def duC (a : S4) (bs : List Int) : Rc := if dcE a bs = 0 then ((duV bs).rc (spK bs)).core else Rc.z.core
def duP (a : S4) (bs : List Int) : List Pr := if dcE a bs = 0 then (duV bs).p else []
def duK (a : S4) (bs : List Int) : List Int := if dcE a bs = 0 then (duV bs).k else []
def duD (a : S4) (bs : List Int) : List Int := if dcE a bs = 0 then (duV bs).d else []
def duN (a : S4) (bs : List Int) : Int := if dcE a bs = 0 then 37 + spM bs else 0
def duT (a : S4) (bs : List Int) : S4 := if dcE a bs = 0 then sealR a (dcH bs) else S4.z
def DecU (w : World) (a : S4) (bs : List Int) (e : Ending) (w' : World) : Prop := ∃ r : Rc, e = .returned (.tuple #[.agg r.arr, .int .i64 (duN a bs), .agg (duT a bs).arr, .int .i64 (dcE a bs)]) ∧ r.core = duC a bs ∧ RcLn w' r (duP a bs) (duK a bs) (duD a bs) w.heap.size ∧ Frm [] w w'
theorem decU_of {w w' : World} {a : S4} {bs : List Int} {e : Ending} (h : DecP w a bs e w') : DecU w a bs e w' := by
 unfold DecU duC duP duK duD duN duT duV
 by_cases h0 : dcE a bs = 0
 ·obtain ⟨hf, r, rfl, hc, ho⟩ := DecP.good h h0
  simp only [if_pos h0]
  have h1 := (dcE_len h0).2
  have h2 : (dcB bs).length ≤ 2048 := by unfold dcB dcN; rw [List.length_drop, List.length_take]; omega
  have h3 := tvK_d (spK bs) (dcB bs)
  have h4 := ho.dl
  exact ⟨r, by rw [h0], hc, ho.ln (by omega), hf⟩
 ·obtain ⟨hf, rfl⟩ := DecP.bad h rfl h0
  simp only [if_neg h0]
  exact ⟨Rc.z, rfl, rfl, ⟨World.ownsRow_nil _ _ _ _, rfl, by simp [blk, Rc.z], World.ownsRow_nil _ _ _ _, rfl, by simp [blk, Rc.z], Own.nil _ _, rfl, by simp [blk, Rc.z], by simp, by simp [Rc.z]⟩, hf⟩
end
section
section
variable {P : Program} {ops : Array Oper} {Q : Exit → Act → World → Prop} {md : Region.Mode} {S : World → Prop}
theorem wpAnyHT_three {n i j k : Nat} {L : Array Bool → Act → World → Prop} {oi oj ok : Oper} {fuel : Nat} {listed : Array Bool} {a : Act} {w : World} (hi : ops[i]? = some oi) (hj : ops[j]? = some oj) (hk : ops[k]? = some ok) (hr : Region.ready md ops listed = [i, j, k]) (hin : decide (i < n) = true) (hjn : decide (j < n) = true) (hkn : decide (k < n) = true)
  (h1 : ∀ K' : Act → World → Prop, (∀ a w, S w → wpAnyHT P md ops Q S n L fuel (listed.setIfInBounds i true) a w → K' a w) → if Region.wanted oi (yielded ops a.tmps) = true then Oper.wp P oi a w K' Q else K' (a.put oi.dst undef) w)
  (h2 : ∀ K' : Act → World → Prop, (∀ a w, S w → wpAnyHT P md ops Q S n L fuel (listed.setIfInBounds j true) a w → K' a w) → if Region.wanted oj (yielded ops a.tmps) = true then Oper.wp P oj a w K' Q else K' (a.put oj.dst undef) w)
  (h3 : ∀ K' : Act → World → Prop, (∀ a w, S w → wpAnyHT P md ops Q S n L fuel (listed.setIfInBounds k true) a w → K' a w) → if Region.wanted ok (yielded ops a.tmps) = true then Oper.wp P ok a w K' Q else K' (a.put ok.dst undef) w) :
  wpAnyHT P md ops Q S n L (fuel + 1) listed a w := by
 refine ⟨by rw [hr]; simp, fun l hl => ?_⟩
 rw [hr, List.mem_cons, List.mem_cons, List.mem_singleton] at hl
 rcases hl with rfl | rfl | rfl
 ·exact ⟨of_decide_eq_true hin, wpOp_step hi (fun K' hK => h1 K' (fun a w hS hW => hK a w ⟨hS, hW⟩))⟩
 ·exact ⟨of_decide_eq_true hjn, wpOp_step hj (fun K' hK => h2 K' (fun a w hS hW => hK a w ⟨hS, hW⟩))⟩
 ·exact ⟨of_decide_eq_true hkn, wpOp_step hk (fun K' hK => h3 K' (fun a w hS hW => hK a w ⟨hS, hW⟩))⟩
end
end
end Go.Proofs.YtajfjkfnmmfhmaaGreatDoor
