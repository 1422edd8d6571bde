/- Records, the document's side: Decode of bytes with a head; Decode. -/
import Derived.Test.YtajfjkfnmmfhmaaGreatDoorQraq
import Derived.Laws.EntriesVeiled
import Derived.Test.YtajfjkfnmmfhmaaGreatDoorQrak
import Derived.BigQuiet
import Derived.Test.YtajfjkfnmmfhmaaGreatDoorQrag
import Derived.Test.YtajfjkfnmmfhmaaGreatDoorQraj
namespace Go.Proofs.YtajfjkfnmmfhmaaGreatDoor
set_option maxRecDepth 100000
set_option maxHeartbeats 25600000
section
open Go.RowKit Go.Lib
theorem refDecode_row (p : Option Addr) (n c : Nat) (bs : List Int) (a : S4) (w : World) (hn : bs.length = n) (hnc : n ≤ c) (hnb : n ≤ 140737488355328) (hrd : Rd w p bs) (hb : ∀ z ∈ bs, 0 ≤ z ∧ z < 256) (hvs : Vars w) (ha : a.Bd) (hE : spE bs = 0) :
  Calls Tryz.prog 36 #[.slice p n c, .agg a.arr] w (DecP w a bs) := by
 obtain ⟨PO, hPO⟩ : ∃ PO : Ending → World → Prop, DecP w a bs = PO := ⟨_, rfl⟩
 rw [hPO]
 have HPB : Hid (∀ E w', dcE a bs = E ∧ E ≠ 0 → Frm [] w w' → PO (.returned (.tuple #[.agg #[.int .i64 0, .string ⟨#[]⟩, .int .i64 0, .int .i64 0, .int .i64 0, .int .i64 0, .string ⟨#[]⟩, .slice none 0 0, .int .i64 0, .int .i64 0, .int .i64 0, .slice none 0 0, .slice none 0 0], .int .i64 0, .agg #[.int .u64 0, .int .u64 0, .int .u64 0, .int .u64 0], .int .i64 E])) w') := hid (fun E w' h1 h3 => by rw [← hPO]; exact ⟨h3, Or.inl ⟨by rw [h1.1]; exact h1.2, by rw [h1.1]; rfl⟩⟩)
 have HPG : Hid (∀ (r : Rc) w', dcE a bs = 0 → r.core = ((tvK (spK bs) (dcB bs)).rc (spK bs)).core → RcOwn w' r (tvK (spK bs) (dcB bs)).p (tvK (spK bs) (dcB bs)).k (tvK (spK bs) (dcB bs)).d w.heap.size → Frm [] w w' → PO (.returned (.tuple #[.agg r.arr, .int .i64 (37 + spM bs), .agg (sealR a (dcH bs)).arr, .int .i64 0])) w') := hid (fun r w' h1 h2 h3 h4 => by rw [← hPO]; exact ⟨h4, Or.inr ⟨h1, r, rfl, h2, h3⟩⟩)
 have HRD := hid hrd
 have HB := hid hb
 have HLN := hid hn
 have HVS := hid hvs
 have hrow := heap_alloc_new w (.cells a.arr 29)
 have hfa : Frm [] w (w.alloc (.cells a.arr 29)) := (Frm.refl _ _).alloc _
 obtain ⟨wa, hwa⟩ := eX (w.alloc (.cells a.arr 29))
 obtain ⟨ba, hba⟩ := eX (w.heap.size)
 rw [hwa, hba] at hrow
 rw [hwa] at hfa
 have hrowr := heap_alloc_new wa (.cells #[.int .i64 0, .string ⟨#[]⟩, .int .i64 0, .int .i64 0, .int .i64 0, .int .i64 0, .string ⟨#[]⟩, .slice none 0 0, .int .i64 0, .int .i64 0, .int .i64 0, .slice none 0 0, .slice none 0 0] 26)
 have hfr : Frm [] wa (wa.alloc (.cells #[.int .i64 0, .string ⟨#[]⟩, .int .i64 0, .int .i64 0, .int .i64 0, .int .i64 0, .string ⟨#[]⟩, .slice none 0 0, .int .i64 0, .int .i64 0, .int .i64 0, .slice none 0 0, .slice none 0 0] 26)) := (Frm.refl _ _).alloc _
 obtain ⟨wr, hwr⟩ := eX (wa.alloc (.cells #[.int .i64 0, .string ⟨#[]⟩, .int .i64 0, .int .i64 0, .int .i64 0, .int .i64 0, .string ⟨#[]⟩, .slice none 0 0, .int .i64 0, .int .i64 0, .int .i64 0, .slice none 0 0, .slice none 0 0] 26))
 obtain ⟨br, hbr⟩ := eX (wa.heap.size)
 rw [hwr, hbr] at hrowr
 rw [hwr] at hfr
 have hrows := heap_alloc_new wr (.cells #[.int .u64 0, .int .u64 0, .int .u64 0, .int .u64 0] 29)
 have hfs : Frm [] wr (wr.alloc (.cells #[.int .u64 0, .int .u64 0, .int .u64 0, .int .u64 0] 29)) := (Frm.refl _ _).alloc _
 have hbs : wr.heap.size = br + 1 := by rw [← hwr, ← hbr]; simp
 obtain ⟨ws, hws⟩ := eX (wr.alloc (.cells #[.int .u64 0, .int .u64 0, .int .u64 0, .int .u64 0] 29))
 rw [hws, hbs] at hrows
 rw [hws] at hfs
 have hb1 : ba + 1 = br := by rw [← hbr, ← hwa, ← hba]; simp
 have HBL : Hid (w.heap.size < br) := hid (by omega)
 have HB1 := hid hb1
 have HFR : Hid (Frm [] w ws) := hid ((hfa.trans hfr (by simp)).trans hfs (by simp))
 have HRA : Hid (∀ W, Frm [] ws W → W.heap[ba]? = some (.cells a.arr 29 (0, 0))) := hid (fun W hf => hf.heap (hfs.heap (hfr.heap hrow (by simp)) (by simp)) (by simp))
 have HRR : Hid (∀ W, Frm [] ws W → W.heap[br]? = some (.cells #[.int .i64 0, .string ⟨#[]⟩, .int .i64 0, .int .i64 0, .int .i64 0, .int .i64 0, .string ⟨#[]⟩, .slice none 0 0, .int .i64 0, .int .i64 0, .int .i64 0, .slice none 0 0, .slice none 0 0] 26 (0, 0))) := hid (fun W hf => hf.heap (hfs.heap hrowr (by simp)) (by simp))
 have HRS : Hid (∀ W, Frm [] ws W → W.heap[br + 1]? = some (.cells #[.int .u64 0, .int .u64 0, .int .u64 0, .int .u64 0] 29 (0, 0))) := hid (fun W hf => hf.heap hrows (by simp))
 have HSZ : Hid (br + 1 < ws.heap.size) := hid (lt_of_heap hrows)
 have HWA := hid hwa
 have HWR := hid hwr
 have HWS := hid hws
 have HBA := hid hba
 have HBR := hid hbr
 have HBS := hid hbs
 have hbr13 : ∀ V, (Instr.build 26 #[]).run Tryz.prog V = .ok (.agg #[.int .i64 0, .string ⟨#[]⟩, .int .i64 0, .int .i64 0, .int .i64 0, .int .i64 0, .string ⟨#[]⟩, .slice none 0 0, .int .i64 0, .int .i64 0, .int .i64 0, .slice none 0 0, .slice none 0 0]) V := fun V => run_build V _ _ _ (by kernel_rfl)
 have hbr4 : ∀ V, (Instr.build 29 #[]).run Tryz.prog V = .ok (.agg #[.int .u64 0, .int .u64 0, .int .u64 0, .int .u64 0]) V := fun V => run_build V _ _ _ (by kernel_rfl)
 have HBA4 := hid ha
 have HRX : Hid (∀ W, Frm [] ws W → Rd W p bs) := hid (fun W hf => (hrd.kept HFR.out (by simp)).kept hf (by simp))
 have HVX : Hid (∀ W, Frm [] ws W → Vars W) := hid (fun W hf => hvs.kept (HFR.out.trans hf (by simp)))
 clear hrow hfa hwa hba hrowr hfr hwr hbr hrows hfs hws hbs hb1 hPO hn hrd hb hvs ha
 obtain ⟨s0, s1, s2, s3⟩ := a
 unfold S4.arr at HWA HRA HPG
 simp only at HWA HRA
 unfold S4.arr
 simp only
 go_enter Tryz.func36, Tryz.ntmps36
 go_upto_region 1 with fail
 try rw [HWA.out]
 try rw [HBA.out]
 try rw [HBR.out]
 try rw [HB1.out]
 try rw [HWR.out]
 try rw [HBS.out]
 try rw [HWS.out]
 have hspo := sp_ok hE
 rw [HLN.out] at hspo
 have h5 : ¬ n < 5 := by omega
 have i5 : ¬ (n : Int) < 5 := by omega
 obtain ⟨g0, o0, rfl⟩ : ∃ g0 o0, p = some ⟨g0, o0, none⟩ := by
  rcases HRD.out with h | ⟨g, o, h, _⟩
  ·have := HLN.out; rw [h] at this; simp at this; omega
  ·exact ⟨g, o, h⟩
 obtain ⟨hK0, hM0⟩ := sp_val (bs := bs) (by rw [HLN.out]; omega)
 have hm0 := spM_bd HB.out
 have HCB : Hid (∀ W, Frm [] ws W → W.cell? ⟨g0, o0, none⟩ = some (.int .u8 (zA bs 0)) ∧ W.cell? ⟨g0, o0 + 1, none⟩ = some (.int .u8 (zA bs 1)) ∧ W.cell? ⟨g0, o0 + 2, none⟩ = some (.int .u8 (zA bs 2)) ∧ W.cell? ⟨g0, o0 + 3, none⟩ = some (.int .u8 (zA bs 3)) ∧ W.cell? ⟨g0, o0 + 4, none⟩ = some (.int .u8 (zA bs 4))) := hid (fun W hf => by
  have h : ∀ i, i < bs.length → W.cell? ⟨g0, o0 + i, none⟩ = some (.int .u8 (zA bs i)) := fun i hi => by
   obtain ⟨g, o, e, hc⟩ := rd_byte (i := i) (HRX.out W hf) hi
   simp only [Option.some.injEq, Addr.mk.injEq, and_true] at e
   obtain ⟨rfl, rfl⟩ := e
   exact hc
  have hl := HLN.out
  refine ⟨?_, h 1 (by omega), h 2 (by omega), h 3 (by omega), h 4 (by omega)⟩
  have h0 := h 0 (by omega)
  rw [Nat.add_zero] at h0
  exact h0)
 have hzb : ∀ i, i < 5 → 0 ≤ zA bs i ∧ zA bs i < 256 := fun i hi => by
  have hl := HLN.out
  unfold zA
  rw [List.getD_eq_getElem?_getD, List.getElem?_eq_getElem (by omega)]
  exact HB.out _ (List.getElem_mem _)
 obtain ⟨b0, hb0⟩ := eX (zA bs 0)
 obtain ⟨b1, hb1⟩ := eX (zA bs 1)
 obtain ⟨b2, hb2⟩ := eX (zA bs 2)
 obtain ⟨b3, hb3⟩ := eX (zA bs 3)
 obtain ⟨b4, hb4⟩ := eX (zA bs 4)
 have hz0 := hzb 0 (by omega)
 rw [hb0] at hz0 HCB
 have hz1 := hzb 1 (by omega)
 rw [hb1] at hz1 HCB
 have hz2 := hzb 2 (by omega)
 rw [hb2] at hz2 HCB
 have hz3 := hzb 3 (by omega)
 rw [hb3] at hz3 HCB
 have hz4 := hzb 4 (by omega)
 rw [hb4] at hz4 HCB
 rw [hb0] at hK0
 rw [hb1, hb2, hb3, hb4] at hM0
 rw [hM0] at hm0
 obtain ⟨m4, hm4⟩ := eX (256 * b4)
 obtain ⟨m3, hm3⟩ := eX (b3 + m4)
 obtain ⟨m3q, hm3q⟩ := eX (256 * m3)
 obtain ⟨m2, hm2⟩ := eX (b2 + m3q)
 obtain ⟨m2q, hm2q⟩ := eX (256 * m2)
 obtain ⟨M, hM⟩ := eX (b1 + m2q)
 have hMM : spM bs = M := by rw [hM0]; omega
 have wb0 : IntKind.i64.wrap b0 = b0 := by rw [IntKind.wrap_i64]; omega
 have wb1 : IntKind.i64.wrap b1 = b1 := by rw [IntKind.wrap_i64]; omega
 have wb2 : IntKind.i64.wrap b2 = b2 := by rw [IntKind.wrap_i64]; omega
 have wb3 : IntKind.i64.wrap b3 = b3 := by rw [IntKind.wrap_i64]; omega
 have wb4 : IntKind.i64.wrap b4 = b4 := by rw [IntKind.wrap_i64]; omega
 have wm4 : IntKind.i64.wrap (256 * b4) = m4 := by rw [IntKind.wrap_i64]; omega
 have wm3 : IntKind.i64.wrap (b3 + m4) = m3 := by rw [IntKind.wrap_i64]; omega
 have wm3q : IntKind.i64.wrap (256 * m3) = m3q := by rw [IntKind.wrap_i64]; omega
 have wm2 : IntKind.i64.wrap (b2 + m3q) = m2 := by rw [IntKind.wrap_i64]; omega
 have wm2q : IntKind.i64.wrap (256 * m2) = m2q := by rw [IntKind.wrap_i64]; omega
 have wM : IntKind.i64.wrap (b1 + m2q) = M := by rw [IntKind.wrap_i64]; omega
 have hMb : 0 ≤ M ∧ M < 4294967296 := by omega
 have HSPK := hid hK0
 have HSPM := hid hMM
 have HB0B := hid hz0
 obtain ⟨hMb0, hMb1⟩ := hMb
 have i05 : (0 : Int) < (n : Int) := by omega
 have n05 : 0 < n := by omega
 have i15 : (1 : Int) < (n : Int) := by omega
 have i25 : (2 : Int) < (n : Int) := by omega
 have i35 : (3 : Int) < (n : Int) := by omega
 have i45 : (4 : Int) < (n : Int) := by omega
 have h5N : 5 ≤ n := by omega
 clear hm4 hm3 hm3q hm2 hm2q hM hM0 hm0 hK0 hMM hb0 hb1 hb2 hb3 hb4 hzb h5
 go_upto_region 3 with fail
 refine wp_region_tail (S := fun W => (W.cell? ⟨g0, o0, none⟩ = some (.int .u8 b0) ∧ W.cell? ⟨g0, o0 + 1, none⟩ = some (.int .u8 b1) ∧ W.cell? ⟨g0, o0 + 2, none⟩ = some (.int .u8 b2) ∧ W.cell? ⟨g0, o0 + 3, none⟩ = some (.int .u8 b3) ∧ W.cell? ⟨g0, o0 + 4, none⟩ = some (.int .u8 b4))) 22 23 rfl (by kernel_rfl) (by kernel_rfl) ?_
 obtain ⟨wd, hwd⟩ := eX (ws.drew)
 rw [hwd]
 have HFD : Hid (Frm [] ws wd) := hid (by rw [← hwd]; exact (Frm.refl [] ws).drew)
 clear hwd
 refine hI (i := 0) (v := ?_) rfl ?_ (HCB.out _ HFD.out) ?_
 rotate_left 1
 ·rintro W ⟨e0, e1, e2, e3, e4⟩; (try simp only [lA, lZ]); go_simp; try with_reducible rfl
 try simp only [lA, lZ, Act.put, lI, lW, lX]
 refine hI (i := 1) (v := ?_) rfl ?_ (HCB.out _ HFD.out) ?_
 rotate_left 1
 ·rintro W ⟨e0, e1, e2, e3, e4⟩; (try simp only [lA, lS, lZ]); go_simp; try with_reducible rfl
 try simp only [lA, lS, lZ, Act.put, lI, lW, lX]
 refine hI (i := 2) (v := ?_) rfl ?_ (HCB.out _ HFD.out) ?_
 rotate_left 1
 ·rintro W ⟨e0, e1, e2, e3, e4⟩; (try simp only [lA, lS, lZ]); go_simp; try with_reducible rfl
 try simp only [lA, lS, lZ, Act.put, lI, lW, lX]
 refine hI (i := 3) (v := ?_) rfl ?_ (HCB.out _ HFD.out) ?_
 rotate_left 1
 ·rintro W ⟨e0, e1, e2, e3, e4⟩; (try simp only [lA, lS, lZ]); go_simp; try with_reducible rfl
 try simp only [lA, lS, lZ, Act.put, lI, lW, lX]
 refine hI (i := 4) (v := ?_) rfl ?_ (HCB.out _ HFD.out) ?_
 rotate_left 1
 ·rintro W ⟨e0, e1, e2, e3, e4⟩; (try simp only [lA, lS, lZ]); go_simp; try with_reducible rfl
 try simp only [lA, lS, lZ, Act.put, lI, lW, lX]
 refine hI (i := 5) (v := ?_) rfl ?_ (HCB.out _ HFD.out) ?_
 rotate_left 1
 ·rintro W ⟨e0, e1, e2, e3, e4⟩; (try simp only [lA, lS, lZ]); go_simp; try with_reducible rfl
 try simp only [lA, lS, lZ, Act.put, lI, lW, lX]
 refine hI (i := 6) (v := ?_) rfl ?_ (HCB.out _ HFD.out) ?_
 rotate_left 1
 ·rintro W ⟨e0, e1, e2, e3, e4⟩; (try simp only [lA, lS, lZ]); go_simp; try with_reducible rfl
 try simp only [lA, lS, lZ, Act.put, lI, lW, lX]
 refine hI (i := 7) (v := ?_) rfl ?_ (HCB.out _ HFD.out) ?_
 rotate_left 1
 ·rintro W ⟨e0, e1, e2, e3, e4⟩; (try simp only [lA, lS, lZ]); go_simp; try with_reducible rfl
 try simp only [lA, lS, lZ, Act.put, lI, lW, lX]
 refine hI (i := 8) (v := ?_) rfl ?_ (HCB.out _ HFD.out) ?_
 rotate_left 1
 ·rintro W ⟨e0, e1, e2, e3, e4⟩; (try simp only [lA, lS, lZ]); go_simp; try with_reducible rfl
 try simp only [lA, lS, lZ, Act.put, lI, lW, lX]
 refine hI (i := 9) (v := ?_) rfl ?_ (HCB.out _ HFD.out) ?_
 rotate_left 1
 ·rintro W ⟨e0, e1, e2, e3, e4⟩; (try simp only [lA, lS, lZ]); go_simp; try with_reducible rfl
 try simp only [lA, lS, lZ, Act.put, lI, lW, lX]
 refine hI (i := 10) (v := ?_) rfl ?_ (HCB.out _ HFD.out) ?_
 rotate_left 1
 ·rintro W ⟨e0, e1, e2, e3, e4⟩; (try simp only [lA, lS, lZ]); go_simp; try with_reducible rfl
 try simp only [lA, lS, lZ, Act.put, lI, lW, lX]
 refine hI (i := 11) (v := ?_) rfl ?_ (HCB.out _ HFD.out) ?_
 rotate_left 1
 ·rintro W ⟨e0, e1, e2, e3, e4⟩; (try simp only [lA, lS, lZ]); go_simp; try with_reducible rfl
 try simp only [lA, lS, lZ, Act.put, lI, lW, lX]
 refine hI (i := 12) (v := ?_) rfl ?_ (HCB.out _ HFD.out) ?_
 rotate_left 1
 ·rintro W ⟨e0, e1, e2, e3, e4⟩; (try simp only [lA, lS, lZ]); go_simp; try with_reducible rfl
 try simp only [lA, lS, lZ, Act.put, lI, lW, lX]
 refine hI (i := 13) (v := ?_) rfl ?_ (HCB.out _ HFD.out) ?_
 rotate_left 1
 ·rintro W ⟨e0, e1, e2, e3, e4⟩; (try simp only [lA, lS, lZ]); go_simp; try with_reducible rfl
 try simp only [lA, lS, lZ, Act.put, lI, lW, lX]
 refine hI (i := 14) (v := ?_) rfl ?_ (HCB.out _ HFD.out) ?_
 rotate_left 1
 ·rintro W ⟨e0, e1, e2, e3, e4⟩; (try simp only [lA, lS, lZ]); go_simp; try with_reducible rfl
 try simp only [lA, lS, lZ, Act.put, lI, lW, lX]
 refine hI (i := 15) (v := ?_) rfl ?_ (HCB.out _ HFD.out) ?_
 rotate_left 1
 ·rintro W ⟨e0, e1, e2, e3, e4⟩; (try simp only [lA, lS, lZ]); go_simp; try with_reducible rfl
 try simp only [lA, lS, lZ, Act.put, lI, lW, lX]
 refine hI (i := 16) (v := ?_) rfl ?_ (HCB.out _ HFD.out) ?_
 rotate_left 1
 ·rintro W ⟨e0, e1, e2, e3, e4⟩; (try simp only [lA, lS, lZ]); go_simp; try with_reducible rfl
 try simp only [lA, lS, lZ, Act.put, lI, lW, lX]
 refine hI (i := 17) (v := ?_) rfl ?_ (HCB.out _ HFD.out) ?_
 rotate_left 1
 ·rintro W ⟨e0, e1, e2, e3, e4⟩; (try simp only [lA, lS, lZ]); go_simp; try with_reducible rfl
 try simp only [lA, lS, lZ, Act.put, lI, lW, lX]
 refine hI (i := 18) (v := ?_) rfl ?_ (HCB.out _ HFD.out) ?_
 rotate_left 1
 ·rintro W ⟨e0, e1, e2, e3, e4⟩; (try simp only [lA, lS, lZ]); go_simp; try with_reducible rfl
 try simp only [lA, lS, lZ, Act.put, lI, lW, lX]
 refine hI (i := 19) (v := ?_) rfl ?_ (HCB.out _ HFD.out) ?_
 rotate_left 1
 ·rintro W ⟨e0, e1, e2, e3, e4⟩; (try simp only [lA, lS, lZ]); go_simp; try with_reducible rfl
 try simp only [lA, lS, lZ, Act.put, lI, lW, lX]
 refine hI (i := 20) (v := ?_) rfl ?_ (HCB.out _ HFD.out) ?_
 rotate_left 1
 ·rintro W ⟨e0, e1, e2, e3, e4⟩; (try simp only [lA, lS, lZ]); go_simp; try with_reducible rfl
 try simp only [lA, lS, lZ, Act.put, lI, lW, lX]
 refine hI (i := 21) (v := ?_) rfl ?_ (HCB.out _ HFD.out) ?_
 rotate_left 1
 ·rintro W ⟨e0, e1, e2, e3, e4⟩; (try simp only [lA, lS, lZ]); go_simp; try with_reducible rfl
 try simp only [lA, lS, lZ, Act.put, lI, lW, lX]
 refine wpAnyHT_end (by kernel_rfl) ?_
 simp only [List.drop_succ_cons, List.drop_zero]
 clear wb1 wb2 wb3 wb4 wm4 wm3 wm3q wm2 wm2q wM
 go_upto_region 4 with fail
 obtain ⟨c0, _, _, _, _⟩ := HCB.out wd HFD.out
 have hk1 : ¬ b0 < 1 := by rw [HSPK.out, HSPM.out] at hspo; omega
 have dk1 := decide_eq_false hk1
 have hk7 : ¬ 7 < b0 := by rw [HSPK.out, HSPM.out] at hspo; omega
 have dk7 := decide_eq_false hk7
 have hM2 : ¬ 2048 < M := by rw [HSPK.out, HSPM.out] at hspo; omega
 have dM2 := decide_eq_false hM2
 have h37 : ¬ (n : Int) < 37 + M := by rw [HSPK.out, HSPM.out] at hspo; omega
 have d37 := decide_eq_false h37
 go_upto_region 8 with fail
 obtain ⟨dN, hdN⟩ := eX (dcN bs)
 have hdn : 5 + M = (dN : Int) := by rw [← hdN]; unfold dcN; rw [HSPM.out]; omega
 have h37e : 37 + M = (dN : Int) + 32 := by omega
 have hdb : 5 ≤ dN ∧ dN ≤ 2053 ∧ dN + 32 ≤ n := by omega
 obtain ⟨hdb0, hdb1, hdb2⟩ := hdb
 have hkb : 1 ≤ b0 ∧ b0 ≤ 7 := by omega
 have hn := HLN.out
 have hbl : (dcB bs).length = dN - 5 := by unfold dcB; rw [hdN, List.length_drop, List.length_take, hn]; omega
 have hhl : (dcH bs).length = dN := by unfold dcH; rw [hdN, List.length_take, hn]; omega
 have htl : (dcT bs).length = 32 := by unfold dcT; rw [hdN, List.length_take, List.length_drop, hn]; omega
 have hBB2 : ∀ z ∈ dcB bs, 0 ≤ z ∧ z < 256 := fun z hz => HB.out z (List.mem_of_mem_take (List.mem_of_mem_drop hz))
 have hBH2 : ∀ z ∈ dcH bs, 0 ≤ z ∧ z < 256 := fun z hz => HB.out z (List.mem_of_mem_take hz)
 have hBT2 : ∀ z ∈ dcT bs, 0 ≤ z ∧ z < 256 := fun z hz => HB.out z (List.mem_of_mem_drop (List.mem_of_mem_take hz))
 have hhb : hbL b0 (dcB bs) = dcH bs := by
  have h1 := sp_inv HB.out (by rw [hn]; exact h5N)
  rw [HSPK.out, HSPM.out] at h1
  unfold hbL
  rw [hbl, show ((dN - 5 : Nat) : Int) = M by omega, ← h1]
  unfold dcB dcH
  rw [hdN]
  have h2 : bs.take 5 = (bs.take dN).take 5 := by rw [List.take_take, Nat.min_eq_left hdb0]
  rw [h2, List.take_append_drop]
 have hpre : bs.take (dN + 32) = dcH bs ++ dcT bs := by unfold dcH dcT; rw [hdN, ← List.take_add]
 have hDE0 : dcE ⟨s0, s1, s2, s3⟩ bs = if sealR ⟨s0, s1, s2, s3⟩ (dcH bs) ≠ dcS bs then 201 else if ¬ okD b0 (dcB bs) then 200 else 0 := by
  unfold dcE
  rw [if_neg (by rw [hE]; simp), HSPK.out]
  by_cases hs : sealR ⟨s0, s1, s2, s3⟩ (dcH bs) = dcS bs
  ·have hs2 : ¬ (sealR ⟨s0, s1, s2, s3⟩ (dcH bs) ≠ dcS bs) := fun h => h hs
   rw [if_neg hs2, if_neg hs2]
   by_cases hk : okD b0 (dcB bs)
   ·have hk2 : ¬ ¬ okB b0 (dcB bs) := fun h => h ((okD_iff hkb hBB2).1 hk)
    have hk3 : ¬ ¬ okD b0 (dcB bs) := fun h => h hk
    rw [if_neg hk2, if_neg hk3]
   ·have hk2 : ¬ okB b0 (dcB bs) := fun h => hk ((okD_iff hkb hBB2).2 h)
    rw [if_pos hk2, if_pos hk]
  ·have hs2 : sealR ⟨s0, s1, s2, s3⟩ (dcH bs) ≠ dcS bs := hs
   rw [if_pos hs2, if_pos hs2]
 have hPG2 : okD b0 (dcB bs) → ∀ (r : Rc) w', dcE ⟨s0, s1, s2, s3⟩ bs = 0 → r.core = ((tdK b0 (dcB bs)).rc b0).core → RcOwn w' r (tdK b0 (dcB bs)).p (tdK b0 (dcB bs)).k (tdK b0 (dcB bs)).d w.heap.size → Frm [] w w' → PO (.returned (.tuple #[.agg r.arr, .int .i64 ((dN : Int) + 32), .agg (sealR ⟨s0, s1, s2, s3⟩ (dcH bs)).arr, .int .i64 0])) w' := fun hd r w' g1 g2 g3 g4 => by
  have h := HPG.out r w' g1
  rw [HSPK.out, HSPM.out, okD_eq hkb hBB2 hd, h37e] at h
  exact h g2 g3 g4
 have hrec : recL ⟨s0, s1, s2, s3⟩ b0 (dcB bs) = dcH bs ++ selL (sealR ⟨s0, s1, s2, s3⟩ (dcH bs)) := by unfold recL; rw [hhb]
 have hseq : (recL ⟨s0, s1, s2, s3⟩ b0 (dcB bs) = dcH bs ++ dcT bs) ↔ sealR ⟨s0, s1, s2, s3⟩ (dcH bs) = dcS bs := by
  rw [hrec]
  constructor
  ·intro h
   have h1 := List.append_cancel_left h
   have h2 := sel_back (sealR ⟨s0, s1, s2, s3⟩ (dcH bs)) (shaD_Bd _)
   unfold dcS
   rw [← h1, h2]
  ·intro h
   have h2 := sel_inv hBT2 htl
   rw [h]
   unfold dcS
   rw [h2]
 have HSE := hid (fun W (hf : Frm [] ws W) (hrd : Rd W (some ⟨g0, o0 + 5, none⟩) (dcB bs)) => refSealed_any b0 (by omega) (by omega) (some ⟨g0, o0 + 5, none⟩) (dN - 5) (c - 5) (dcB bs) ⟨s0, s1, s2, s3⟩ HBA4.out W hbl (fun _ h => by cases h) (by omega) hrd hBB2 (HVX.out W hf))
 unfold SldP at HSE
 rw [hhb] at HSE
 rw [hbl, show 37 + (dN - 5) = dN + 32 by omega] at HSE
 have hrl : (recL ⟨s0, s1, s2, s3⟩ b0 (dcB bs)).length = dN + 32 := by rw [recL_len, hbl]; omega
 have hrb : ∀ z ∈ recL ⟨s0, s1, s2, s3⟩ b0 (dcB bs), 0 ≤ z ∧ z < 256 := recL_bd hBB2
 have HRBD : Hid (∀ W, Frm [] ws W → Rd W (some ⟨g0, o0 + 5, none⟩) (dcB bs)) := hid (fun W hf => ((HRX.out W hf).take _).drop 5)
 have HRY : Hid (∀ W, Frm [] ws W → Rd W (some ⟨g0, o0, none⟩) (dcH bs ++ dcT bs)) := hid (fun W hf => by rw [← hpre]; exact (HRX.out W hf).take _)
 have hyl : (dcH bs ++ dcT bs).length = dN + 32 := by rw [List.length_append, hhl, htl]
 have hyb : ∀ z ∈ dcH bs ++ dcT bs, 0 ≤ z ∧ z < 256 := fun z hz => by
  rcases List.mem_append.1 hz with h | h
  ·exact hBH2 z h
  ·exact hBT2 z h
 have hne := str_eqB hrb hyb
 have hs3 : ∀ W, (Instr.slice 24 (.slice (some ⟨g0, o0, none⟩) n c) (some (.int .i64 5)) (some (.int .i64 (dN : Int))) none).run Tryz.prog W = .ok (.slice (some ⟨g0, o0 + 5, none⟩) (dN - 5) (c - 5)) W := fun W => by
  have h := sl_lh (P := Tryz.prog) (sz := 1) Tryz.underlying24 infoU8R (some ⟨g0, o0, none⟩) n c 5 dN (by omega) (by omega) W
  rw [part1R g0 o0 c 5 (by omega)] at h
  exact h
 have hs1 : ∀ W, (Instr.slice 24 (.slice (some ⟨g0, o0, none⟩) n c) none (some (.int .i64 ((dN : Int) + 32))) none).run Tryz.prog W = .ok (.slice (some ⟨g0, o0, none⟩) (dN + 32) c) W := fun W => sl_h (P := Tryz.prog) Tryz.underlying24 infoU8R (some ⟨g0, o0, none⟩) n c (dN + 32) (by omega) W
 have HTD := hid (fun w0 W b q c (h : QrR w0 W b q c (dcB bs) (0, 0)) => told_any b0 hkb w0 W b c q (dcB bs) hBB2 (by rw [hbl]; omega) h)
 have hop := fun W (hf : Frm [] ws W) => open_any (some ⟨g0, o0 + 5, none⟩) (c - 5) (dcB bs) W (HRBD.out W hf) (fun _ h => by cases h) (by rw [hbl]; omega)
 rw [hbl] at hop
 have HOP := hid hop
 have hnm := tdK_name b0 (dcB bs)
 have hpv := tdK_pv b0 (dcB bs) (by rw [hbl]; omega)
 have hnm2 : (tdK b0 (dcB bs)).c.name.size ≤ 2048 := by omega
 have hOKD : okD b0 (dcB bs) ↔ doneS (dcB bs).length (tdK b0 (dcB bs)).s.1 (tdK b0 (dcB bs)).s.2 = 0 ∧ RcMay ((tdK b0 (dcB bs)).rc b0) (tdK b0 (dcB bs)).p (tdK b0 (dcB bs)).k (tdK b0 (dcB bs)).d := Iff.rfl
 obtain ⟨V, hV⟩ := eX (tdK b0 (dcB bs))
 rw [hV] at hPG2 HTD hnm2 hpv hOKD
 obtain ⟨S, hS⟩ := eX (sealR ⟨s0, s1, s2, s3⟩ (dcH bs))
 rw [hS] at hDE0 hPG2 hseq HSE
 obtain ⟨RB, hRB⟩ := eX (recL ⟨s0, s1, s2, s3⟩ b0 (dcB bs))
 rw [hRB] at hseq HSE hrl hne
 obtain ⟨YY, hYY⟩ := eX (dcH bs ++ dcT bs)
 rw [hYY] at hseq HRY hyl hne
 obtain ⟨BB, hBBq⟩ := eX (dcB bs)
 rw [hBBq] at hDE0 hPG2 HSE HRBD HTD HOP hOKD
 have HDE := hid hDE0
 have HPG2 := hid hPG2
 have HOK := hid hOKD
 have HNM := hid hnm2
 have HPV := hid hpv
 have HRLN := hid hrl
 have HYLN := hid hyl
 have HKB := hid hkb
 obtain ⟨B, hB⟩ : ∃ z, decide (RB = YY) = z := ⟨_, rfl⟩
 rw [hB] at hne
 have HBE : Hid (B = true ↔ S = dcS bs) := hid (by rw [← hB, decide_eq_true_iff]; exact hseq)
 have w5M : IntKind.i64.wrap (dN : Int) = (dN : Int) := by rw [IntKind.wrap_i64]; omega
 have w37M : IntKind.i64.wrap ((dN : Int) + 32) = (dN : Int) + 32 := by rw [IntKind.wrap_i64]; omega
 have HNE := hid hne
 clear hDE0 hPG2 hOKD hnm2 hpv hrl hyl hkb hseq hrec hhb hpre hbl hhl htl hBB2 hBH2 hBT2 hrb hyb hop hnm hV hS hRB hYY hBBq hB hdN hE HPG hne hn h37 d37 c0 HLN HSPK HSPM HVX HRX HRD HB
 obtain ⟨t0, t1, t2, t3⟩ := S
 unfold S4.arr at HSE HPG2
 simp only at HSE HPG2
 go_cut [9, 10] from 58 to 77 (fun bv ov wx => ∃ (q : Option Addr) (d bz : Nat), bv = .slice q (dN + 32) d ∧ ov = .pointer (some ⟨bz, 0, none⟩) ∧ Hid (wx.heap[bz]? = some (.cells #[.int .u64 t0, .int .u64 t1, .int .u64 t2, .int .u64 t3] 29 (0, 0))) ∧ Hid (BufF ws none wx q (dN + 32) d RB) ∧ Hid (ws.heap.size ≤ bz))
 case first =>
  have sA : ∀ W, Frm [] ws W → W.cell? ⟨g0, o0, none⟩ = some (.int .u8 b0) ∧ W.cell? ⟨ba, 0, none⟩ = some (.int .u64 s0) ∧ W.cell? ⟨ba, 1, none⟩ = some (.int .u64 s1) ∧ W.cell? ⟨ba, 2, none⟩ = some (.int .u64 s2) ∧ W.cell? ⟨ba, 3, none⟩ = some (.int .u64 s3) := fun W hf => by
   refine ⟨(HCB.out W hf).1, ?_, ?_, ?_, ?_⟩ <;> (rw [cell_of_row _ _ _ _ _ _ (HRA.out W hf)]; rfl)
  refine wp_region_tail (S := fun W => (W.cell? ⟨g0, o0, none⟩ = some (.int .u8 b0) ∧ W.cell? ⟨ba, 0, none⟩ = some (.int .u64 s0) ∧ W.cell? ⟨ba, 1, none⟩ = some (.int .u64 s1) ∧ W.cell? ⟨ba, 2, none⟩ = some (.int .u64 s2) ∧ W.cell? ⟨ba, 3, none⟩ = some (.int .u64 s3))) 15 16 rfl (by kernel_rfl) (by kernel_rfl) ?_
  obtain ⟨wg, hwg⟩ := eX (wd.drew)
  rw [hwg]
  have HFG : Hid (Frm [] ws wg) := hid (by rw [← hwg]; exact HFD.out.drew)
  clear hwg
  refine hI (i := 0) (v := ?_) rfl ?_ (sA _ HFG.out) ?_
  rotate_left 1
  ·rintro W ⟨eb, e0, e1, e2, e3⟩; (try simp only [lA, lZ]); go_simp; try with_reducible rfl
  try simp only [lA, lZ, Act.put, lI, lW, lX]
  refine hI (i := 1) (v := ?_) rfl ?_ (sA _ HFG.out) ?_
  rotate_left 1
  ·rintro W ⟨eb, e0, e1, e2, e3⟩; (try simp only [lA, lS, lZ]); go_simp; try with_reducible rfl
  try simp only [lA, lS, lZ, Act.put, lI, lW, lX]
  refine hI (i := 2) (v := ?_) rfl ?_ (sA _ HFG.out) ?_
  rotate_left 1
  ·rintro W ⟨eb, e0, e1, e2, e3⟩; (try simp only [lA, lS, lZ]); go_simp; try with_reducible rfl
  try simp only [lA, lS, lZ, Act.put, lI, lW, lX]
  refine hI (i := 3) (v := ?_) rfl ?_ (sA _ HFG.out) ?_
  rotate_left 1
  ·rintro W ⟨eb, e0, e1, e2, e3⟩; (try simp only [lA, lS, lZ]); go_simp; try with_reducible rfl
  try simp only [lA, lS, lZ, Act.put, lI, lW, lX]
  refine hI (i := 4) (v := ?_) rfl ?_ (sA _ HFG.out) ?_
  rotate_left 1
  ·rintro W ⟨eb, e0, e1, e2, e3⟩; (try simp only [lA, lS, lZ]); go_simp; try with_reducible rfl
  try simp only [lA, lS, lZ, Act.put, lI, lW, lX]
  refine hI (i := 5) (v := ?_) rfl ?_ (sA _ HFG.out) ?_
  rotate_left 1
  ·rintro W ⟨eb, e0, e1, e2, e3⟩; (try simp only [lA, lS, lZ]); go_simp; try with_reducible rfl
  try simp only [lA, lS, lZ, Act.put, lI, lW, lX]
  refine hI (i := 6) (v := ?_) rfl ?_ (sA _ HFG.out) ?_
  rotate_left 1
  ·rintro W ⟨eb, e0, e1, e2, e3⟩; (try simp only [lA, lS, lZ]); go_simp; try with_reducible rfl
  try simp only [lA, lS, lZ, Act.put, lI, lW, lX]
  refine hI (i := 7) (v := ?_) rfl ?_ (sA _ HFG.out) ?_
  rotate_left 1
  ·(intro W hSw; obtain ⟨eb, e0, e1, e2, e3⟩ := hSw; have hsl := hs3 W; (try simp only [lA, lS, lZ]); go_simp; try with_reducible rfl)
  try simp only [lA, lS, lZ, Act.put, lI, lW, lX]
  refine hI (i := 8) (v := ?_) rfl ?_ (sA _ HFG.out) ?_
  rotate_left 1
  ·rintro W ⟨eb, e0, e1, e2, e3⟩; (try simp only [lA, lS, lZ]); go_simp; try with_reducible rfl
  try simp only [lA, lS, lZ, Act.put, lI, lW, lX]
  refine wpAnyHT_two (i := 9) (j := 13) rfl rfl (by kernel_rfl) (by kernel_rfl) (by kernel_rfl) (fun K hK => ?_) (fun K hK => ?_)
  ·try simp only [lA, lS, lZ]
   go_simp
   refine (HSE.out _ HFG.out (HRBD.out _ HFG.out)).mono ?_
   rintro e w5 ⟨q5, d5, rfl, hb5⟩
   have HB5 := hid hb5
   have HF5 : Hid (Frm [] ws w5) := hid (HFG.out.trans hb5.nil.1 (by simp))
   clear hb5
   refine hK _ _ (sA _ HF5.out) ?_
   clear hK K
   try simp only [lA, lS, lZ, Act.put, lI, lW, lX]
   refine hI (i := 10) (v := ?_) rfl ?_ (sA _ HF5.out) ?_
   rotate_left 1
   ·rintro W ⟨eb, e0, e1, e2, e3⟩; (try simp only [lA, lS, lZ]); go_simp; try with_reducible rfl
   try simp only [lA, lS, lZ, Act.put, lI, lW, lX]
   refine hI (i := 11) (v := ?_) rfl ?_ (sA _ HF5.out) ?_
   rotate_left 1
   ·rintro W ⟨eb, e0, e1, e2, e3⟩; (try simp only [lA, lS, lZ]); go_simp; try with_reducible rfl
   try simp only [lA, lS, lZ, Act.put, lI, lW, lX]
   refine hI (i := 12) (v := ?_) rfl ?_ (sA _ HF5.out) ?_
   rotate_left 1
   ·rintro W ⟨eb, e0, e1, e2, e3⟩; (try simp only [lA, lS, lZ]); go_simp; try with_reducible rfl
   try simp only [lA, lS, lZ, Act.put, lI, lW, lX]
   refine wpAnyHT_one (i := 13) rfl (by kernel_rfl) (by kernel_rfl) (fun K hK => ?_)
   try simp only [lA, lS, lZ]
   go_simp
   have hnew := heap_alloc_new w5 (.cells #[.int .u64 0, .int .u64 0, .int .u64 0, .int .u64 0] 29)
   have hfn : Frm [] w5 (w5.alloc (.cells #[.int .u64 0, .int .u64 0, .int .u64 0, .int .u64 0] 29)) := (Frm.refl _ _).alloc _
   obtain ⟨wz, hwn⟩ := eX (w5.alloc (.cells #[.int .u64 0, .int .u64 0, .int .u64 0, .int .u64 0] 29))
   obtain ⟨bz, hbz⟩ := eX (w5.heap.size)
   rw [hwn, hbz] at hnew
   rw [hwn] at hfn
   have HNW := hid hnew
   have HFN := hid hfn
   have HZB : Hid (w5.heap.size = bz) := hid hbz
   try rw [hwn]
   try rw [hbz]
   clear hnew hfn hwn hbz
   have HF9 : Hid (Frm [] ws wz) := hid (HF5.out.trans HFN.out (by simp))
   refine hK _ _ (sA _ HF9.out) ?_
   clear hK K
   try simp only [lA, lS, lZ, Act.put, lI, lW, lX]
   refine hI (i := 14) (v := ?_) rfl ?_ (sA _ HF9.out) ?_
   rotate_left 1
   ·rintro W ⟨eb, e0, e1, e2, e3⟩; (try simp only [lA, lS, lZ]); go_simp; try with_reducible rfl
   try simp only [lA, lS, lZ, Act.put, lI, lW, lX]
   refine wpAnyHT_end (by kernel_rfl) ?_
   simp only [List.drop_succ_cons, List.drop_zero]
   have hq := HNW.out
   have z0 := cR 0 (.int .u64 0) hq
   have x0 := fZ 0 hq
   have z1 := cR 1 (.int .u64 0) hq
   have x1 := fZ 1 hq
   have z2 := cR 2 (.int .u64 0) hq
   have x2 := fZ 2 hq
   have z3 := cR 3 (.int .u64 0) hq
   have x3 := fZ 3 hq
   obtain ⟨Wz, hwz, h4, f4⟩ := sE bz 29 [(0, .int .u64 t0), (1, .int .u64 t1), (2, .int .u64 t2), (3, .int .u64 t3)] wz _ hq
   simp only [List.foldl, List.setIfInBounds_toArray, List.set_cons_zero, List.set_cons_succ] at h4
   simp only [setsF] at hwz
   have hWz := hwz
   have HBF : Hid (BufF ws none Wz q5 (dN + 32) d5 RB) := hid (bufD_set ((BufF.pre HFG.out HB5.out).post HFN.out) f4 (fun i hi he => by have h1 := HB5.out.own.lows i hi; have h2 := HZB.out; omega) (by have h1 := HF5.out.size; have h2 := HZB.out; omega))
   have HH4 := hid h4
   have HLO : Hid (ws.heap.size ≤ bz) := hid (by have h1 := HF5.out.size; have h2 := HZB.out; omega)
   clear h4 f4 hWz
   go_wp2_with fail
   go_meet
   case rel => first | exact ⟨q5, d5, bz, rfl, rfl, HH4, HBF, HLO⟩ | (rw [hwz]; exact ⟨q5, d5, bz, rfl, rfl, HH4, HBF, HLO⟩)
  ·try simp only [lA, lS, lZ]
   go_simp
   have hnew := heap_alloc_new wg (.cells #[.int .u64 0, .int .u64 0, .int .u64 0, .int .u64 0] 29)
   have hfn : Frm [] wg (wg.alloc (.cells #[.int .u64 0, .int .u64 0, .int .u64 0, .int .u64 0] 29)) := (Frm.refl _ _).alloc _
   obtain ⟨wz, hwn⟩ := eX (wg.alloc (.cells #[.int .u64 0, .int .u64 0, .int .u64 0, .int .u64 0] 29))
   obtain ⟨bz, hbz⟩ := eX (wg.heap.size)
   rw [hwn, hbz] at hnew
   rw [hwn] at hfn
   have HNW := hid hnew
   have HFN := hid hfn
   have HZB : Hid (wg.heap.size = bz) := hid hbz
   try rw [hwn]
   try rw [hbz]
   clear hnew hfn hwn hbz
   have HF9 : Hid (Frm [] ws wz) := hid (HFG.out.trans HFN.out (by simp))
   refine hK _ _ (sA _ HF9.out) ?_
   clear hK K
   try simp only [lA, lS, lZ, Act.put, lI, lW, lX]
   refine wpAnyHT_one (i := 9) rfl (by kernel_rfl) (by kernel_rfl) (fun K hK => ?_)
   try simp only [lA, lS, lZ]
   go_simp
   refine (HSE.out _ HF9.out (HRBD.out _ HF9.out)).mono ?_
   rintro e w5 ⟨q5, d5, rfl, hb5⟩
   have HB5 := hid hb5
   have HF5 : Hid (Frm [] ws w5) := hid (HF9.out.trans hb5.nil.1 (by simp))
   clear hb5
   refine hK _ _ (sA _ HF5.out) ?_
   clear hK K
   try simp only [lA, lS, lZ, Act.put, lI, lW, lX]
   refine hI (i := 10) (v := ?_) rfl ?_ (sA _ HF5.out) ?_
   rotate_left 1
   ·rintro W ⟨eb, e0, e1, e2, e3⟩; (try simp only [lA, lS, lZ]); go_simp; try with_reducible rfl
   try simp only [lA, lS, lZ, Act.put, lI, lW, lX]
   refine hI (i := 11) (v := ?_) rfl ?_ (sA _ HF5.out) ?_
   rotate_left 1
   ·rintro W ⟨eb, e0, e1, e2, e3⟩; (try simp only [lA, lS, lZ]); go_simp; try with_reducible rfl
   try simp only [lA, lS, lZ, Act.put, lI, lW, lX]
   refine hI (i := 12) (v := ?_) rfl ?_ (sA _ HF5.out) ?_
   rotate_left 1
   ·rintro W ⟨eb, e0, e1, e2, e3⟩; (try simp only [lA, lS, lZ]); go_simp; try with_reducible rfl
   try simp only [lA, lS, lZ, Act.put, lI, lW, lX]
   refine hI (i := 14) (v := ?_) rfl ?_ (sA _ HF5.out) ?_
   rotate_left 1
   ·rintro W ⟨eb, e0, e1, e2, e3⟩; (try simp only [lA, lS, lZ]); go_simp; try with_reducible rfl
   try simp only [lA, lS, lZ, Act.put, lI, lW, lX]
   refine wpAnyHT_end (by kernel_rfl) ?_
   simp only [List.drop_succ_cons, List.drop_zero]
   have hq := (HB5.out.nil.1.heap HNW.out (by simp))
   have z0 := cR 0 (.int .u64 0) hq
   have x0 := fZ 0 hq
   have z1 := cR 1 (.int .u64 0) hq
   have x1 := fZ 1 hq
   have z2 := cR 2 (.int .u64 0) hq
   have x2 := fZ 2 hq
   have z3 := cR 3 (.int .u64 0) hq
   have x3 := fZ 3 hq
   obtain ⟨Wz, hwz, h4, f4⟩ := sE bz 29 [(0, .int .u64 t0), (1, .int .u64 t1), (2, .int .u64 t2), (3, .int .u64 t3)] w5 _ hq
   simp only [List.foldl, List.setIfInBounds_toArray, List.set_cons_zero, List.set_cons_succ] at h4
   simp only [setsF] at hwz
   have hWz := hwz
   have HBF : Hid (BufF ws none Wz q5 (dN + 32) d5 RB) := hid (bufD_set (BufF.pre HF9.out HB5.out) f4 (fun i hi he => by have h1 := HB5.out.nil.2 i hi; have h2 := lt_of_heap HNW.out; omega) (by have h1 := HFG.out.size; have h2 := HZB.out; omega))
   have HH4 := hid h4
   have HLO : Hid (ws.heap.size ≤ bz) := hid (by have h1 := HFG.out.size; have h2 := HZB.out; omega)
   clear h4 f4 hWz
   go_wp2_with fail
   go_meet
   case rel => first | exact ⟨q5, d5, bz, rfl, rfl, HH4, HBF, HLO⟩ | (rw [hwz]; exact ⟨q5, d5, bz, rfl, rfl, HH4, HBF, HLO⟩)
 obtain ⟨q, d, bz, rfl, rfl, HZ, HBUF, HZL⟩ := hcut
 have HFX : Hid (Frm [] ws wc) := hid HBUF.out.nil.1
 go_upto_region 9 with fail
 refine wp_region_tail (S := fun W => (Rd W q RB ∧ Rd W (some ⟨g0, o0, none⟩) YY)) 7 8 rfl (by kernel_rfl) (by kernel_rfl) ?_
 obtain ⟨we, hwe⟩ := eX (wc.drew)
 rw [hwe]
 have HFE0 : Hid (Frm [] wc we) := hid (by rw [← hwe]; exact (Frm.refl [] wc).drew)
 clear hwe
 have HFE : Hid (Frm [] ws we) := hid (HFX.out.trans HFE0.out (by simp))
 have HSY : Hid (Rd we q RB ∧ Rd we (some ⟨g0, o0, none⟩) YY) := hid ⟨HBUF.out.own.rd.kept HFE0.out (by simp), HRY.out we HFE.out⟩
 refine hI (i := 0) (v := ?_) rfl ?_ HSY.out ?_
 rotate_left 1
 ·rintro W ⟨r1, r2⟩; (try simp only [lA, lZ]); go_simp; try with_reducible rfl
 try simp only [lA, lZ, Act.put, lI, lW, lX]
 refine hI (i := 1) (v := ?_) rfl ?_ HSY.out ?_
 rotate_left 1
 ·(intro W hSw; obtain ⟨r1, r2⟩ := hSw; have hcv := cv_any (P := Tryz.prog) (w := W) 24 5 9 Tryz.underlying24 Tryz.underlying5 Tryz.underlying9 (n := dN + 32) r1 d HRLN.out; (try simp only [lA, lS, lZ]); go_simp; try with_reducible rfl)
 try simp only [lA, lS, lZ, Act.put, lI, lW, lX]
 refine hI (i := 2) (v := ?_) rfl ?_ HSY.out ?_
 rotate_left 1
 ·rintro W ⟨r1, r2⟩; (try simp only [lA, lS, lZ]); go_simp; try with_reducible rfl
 try simp only [lA, lS, lZ, Act.put, lI, lW, lX]
 refine hI (i := 3) (v := ?_) rfl ?_ HSY.out ?_
 rotate_left 1
 ·rintro W ⟨r1, r2⟩; (try simp only [lA, lS, lZ]); go_simp; try with_reducible rfl
 try simp only [lA, lS, lZ, Act.put, lI, lW, lX]
 refine hI (i := 4) (v := ?_) rfl ?_ HSY.out ?_
 rotate_left 1
 ·rintro W ⟨r1, r2⟩; (try simp only [lA, lS, lZ]); go_simp; try with_reducible rfl
 try simp only [lA, lS, lZ, Act.put, lI, lW, lX]
 refine hI (i := 5) (v := ?_) rfl ?_ HSY.out ?_
 rotate_left 1
 ·(intro W hSw; obtain ⟨r1, r2⟩ := hSw; have hsl := hs1 W; (try simp only [lA, lS, lZ]); go_simp; try with_reducible rfl)
 try simp only [lA, lS, lZ, Act.put, lI, lW, lX]
 refine hI (i := 6) (v := ?_) rfl ?_ HSY.out ?_
 rotate_left 1
 ·(intro W hSw; obtain ⟨r1, r2⟩ := hSw; have hcv := cv_any (P := Tryz.prog) (w := W) 24 5 9 Tryz.underlying24 Tryz.underlying5 Tryz.underlying9 (n := dN + 32) r2 c HYLN.out; (try simp only [lA, lS, lZ]); go_simp; try with_reducible rfl)
 try simp only [lA, lS, lZ, Act.put, lI, lW, lX]
 refine wpAnyHT_end (by kernel_rfl) ?_
 simp only [List.drop_succ_cons, List.drop_zero]
 have hne := HNE.out
 cases B with
 | false =>
  have HEE : Hid (dcE ⟨s0, s1, s2, s3⟩ bs = 201) := hid (by rw [HDE.out, if_pos (fun h => absurd (HBE.out.2 h) (by simp))])
  have hrr := HRR.out we HFE.out
  have hrs := HRS.out we HFE.out
  have z0 := cR 0 (.int .i64 0) hrr
  have y0 := fZ 0 hrr
  have z1 := cR 1 (.string ⟨#[]⟩) hrr
  have y1 := fZ 1 hrr
  have z2 := cR 2 (.int .i64 0) hrr
  have y2 := fZ 2 hrr
  have z3 := cR 3 (.int .i64 0) hrr
  have y3 := fZ 3 hrr
  have z4 := cR 4 (.int .i64 0) hrr
  have y4 := fZ 4 hrr
  have z5 := cR 5 (.int .i64 0) hrr
  have y5 := fZ 5 hrr
  have z6 := cR 6 (.string ⟨#[]⟩) hrr
  have y6 := fZ 6 hrr
  have z7 := cR 7 (.slice none 0 0) hrr
  have y7 := fZ 7 hrr
  have z8 := cR 8 (.int .i64 0) hrr
  have y8 := fZ 8 hrr
  have z9 := cR 9 (.int .i64 0) hrr
  have y9 := fZ 9 hrr
  have z10 := cR 10 (.int .i64 0) hrr
  have y10 := fZ 10 hrr
  have z11 := cR 11 (.slice none 0 0) hrr
  have y11 := fZ 11 hrr
  have z12 := cR 12 (.slice none 0 0) hrr
  have y12 := fZ 12 hrr
  have n0 := cR 0 (.int .u64 0) hrs
  have m0 := fZ 0 hrs
  have n1 := cR 1 (.int .u64 0) hrs
  have m1 := fZ 1 hrs
  have n2 := cR 2 (.int .u64 0) hrs
  have m2 := fZ 2 hrs
  have n3 := cR 3 (.int .u64 0) hrs
  have m3 := fZ 3 hrs
  go_wp2_with fail
  obtain ⟨Wz, hwz, h5, f5⟩ := sE br 26 [(0, .int .i64 0), (1, .string ⟨#[]⟩), (2, .int .i64 0), (3, .int .i64 0), (4, .int .i64 0), (5, .int .i64 0), (6, .string ⟨#[]⟩), (7, .slice none 0 0), (8, .int .i64 0), (9, .int .i64 0), (10, .int .i64 0), (11, .slice none 0 0), (12, .slice none 0 0)] we _ hrr
  simp only [List.foldl, List.setIfInBounds_toArray, List.set_cons_zero, List.set_cons_succ] at h5
  simp only [setsF] at hwz
  have hWz := hwz
  rw [hwz]
  have hrs2 := f5.heap hrs (by simp)
  obtain ⟨Wy, hwy, h6, f6⟩ := sE (br + 1) 29 [(0, .int .u64 0), (1, .int .u64 0), (2, .int .u64 0), (3, .int .u64 0)] Wz _ hrs2
  simp only [List.foldl, List.setIfInBounds_toArray, List.set_cons_zero, List.set_cons_succ] at h6
  simp only [setsF] at hwy
  have hWy := hwy
  rw [hwy]
  have h7 := f6.heap h5 (by simp)
  have u0 := cR 0 (.int .i64 0) h7
  have u1 := cR 1 (.string ⟨#[]⟩) h7
  have u2 := cR 2 (.int .i64 0) h7
  have u3 := cR 3 (.int .i64 0) h7
  have u4 := cR 4 (.int .i64 0) h7
  have u5 := cR 5 (.int .i64 0) h7
  have u6 := cR 6 (.string ⟨#[]⟩) h7
  have u7 := cR 7 (.slice none 0 0) h7
  have u8 := cR 8 (.int .i64 0) h7
  have u9 := cR 9 (.int .i64 0) h7
  have u10 := cR 10 (.int .i64 0) h7
  have u11 := cR 11 (.slice none 0 0) h7
  have u12 := cR 12 (.slice none 0 0) h7
  have k0 := cR 0 (.int .u64 0) h6
  have k1 := cR 1 (.int .u64 0) h6
  have k2 := cR 2 (.int .u64 0) h6
  have k3 := cR 3 (.int .u64 0) h6
  refine bodyPost_ret (v := .tuple #[.agg #[.int .i64 0, .string ⟨#[]⟩, .int .i64 0, .int .i64 0, .int .i64 0, .int .i64 0, .string ⟨#[]⟩, .slice none 0 0, .int .i64 0, .int .i64 0, .int .i64 0, .slice none 0 0, .slice none 0 0], .int .i64 0, .agg #[.int .u64 0, .int .u64 0, .int .u64 0, .int .u64 0], .int .i64 201]) (by simp [results, Tryz.results36, go_sem, u0, u1, u2, u3, u4, u5, u6, u7, u8, u9, u10, u11, u12, k0, k1, k2, k3]) rfl ?_
  exact HPB.out _ _ ⟨HEE.out, by decide⟩ (((HFR.out.trans HFE.out (by simp)).trans f5 (fun i hi hl => by rw [List.mem_singleton] at hi; have := HBL.out; omega)).trans f6 (fun i hi hl => by rw [List.mem_singleton] at hi; have := HBL.out; omega))
 | true =>
 have HD2 : Hid (dcE ⟨s0, s1, s2, s3⟩ bs = if ¬ okD b0 BB then 200 else 0) := hid (by rw [HDE.out, if_neg (fun h => h (HBE.out.1 rfl))])
 have hs3w := hs3 we
 go_wp2_with fail
 refine (HOP.out we HFE.out).mono ?_
 rintro e w7 ⟨r7, q7, c7, rfl, hiq, hf7, hb7, hq7⟩
 have HR7 : Hid (QrR we w7 r7 q7 c7 BB (0, 0)) := hid ⟨hiq, hf7, hb7, hq7⟩
 have HF7 : Hid (Frm [] ws w7) := hid (HFE.out.trans hf7 (by simp))
 have HF67 : Hid (Frm [] we w7) := hid hf7
 clear hiq hf7 hb7 hq7 hne hs3w
 obtain ⟨c0, _, _, _, _⟩ := HCB.out w7 HF7.out
 go_wp2_with fail
 refine (HTD.out we w7 r7 q7 c7 HR7.out).mono ?_
 rintro e w9 ⟨r, rfl, hcr, hown, hqr, hfm9⟩
 have hns : r.name.size ≤ 2048 := by
  have h : r.core.name = V.c.name := by rw [hcr]; rfl
  have h2 : r.name = V.c.name := h
  rw [h2]; exact HNM.out
 have hkind : r.kind = b0 := by
  have h : r.core.kind = b0 := by rw [hcr]; rfl
  exact h
 have HCR := hid hcr
 have HLP : Hid (r.pn = V.p.length ∧ r.kn = V.k.length ∧ r.dl = V.d.length) := hid ⟨hown.pl.symm, hown.kl.symm, hown.dl.symm⟩
 have HF9 : Hid (Frm [] ws w9) := hid (HF7.out.trans hfm9 (fun i hi hl => by rw [List.mem_singleton] at hi; have h1 := HR7.out.2.2.1; have h2 := HFE.out.size; omega))
 have HQ9 := hid hqr
 have HOW9 := hid hown
 have HF79 : Hid (Frm [] we w9) := hid hqr.2.1
 have HSZ7 : Hid (ws.heap.size ≤ w7.heap.size) := hid HF7.out.size
 clear hcr hown hqr hfm9 c0 HR7
 obtain ⟨kind, name, typ, frm, guid, origin, snap, pp, pn, pc, obj, at_, many, kp, kn, kc, dp, dl, dc⟩ := r
 simp only at hkind
 subst hkind
 unfold Rc.arr
 simp only at hns HCR HLP HOW9 ⊢
 have hrx := heap_alloc_new w9 (.cells #[.int .i64 kind, .string name, .int .i64 typ, .int .i64 frm, .int .i64 guid, .int .i64 origin, .string snap, .slice pp pn pc, .int .i64 obj, .int .i64 at_, .int .i64 many, .slice kp kn kc, .slice dp dl dc] 26)
 have hfx : Frm [] w9 (w9.alloc (.cells #[.int .i64 kind, .string name, .int .i64 typ, .int .i64 frm, .int .i64 guid, .int .i64 origin, .string snap, .slice pp pn pc, .int .i64 obj, .int .i64 at_, .int .i64 many, .slice kp kn kc, .slice dp dl dc] 26)) := (Frm.refl _ _).alloc _
 obtain ⟨bx, hbx⟩ := eX (w9.heap.size)
 obtain ⟨wx, hwx⟩ := eX (w9.alloc (.cells #[.int .i64 kind, .string name, .int .i64 typ, .int .i64 frm, .int .i64 guid, .int .i64 origin, .string snap, .slice pp pn pc, .int .i64 obj, .int .i64 at_, .int .i64 many, .slice kp kn kc, .slice dp dl dc] 26))
 rw [hwx, hbx] at hrx
 rw [hwx] at hfx
 have HOW := hid (HOW9.out.k0 hfx)
 have HQX := hid (HQ9.out.k0 hfx)
 have HFWX : Hid (Frm [] ws wx) := hid (HF9.out.trans hfx (by simp))
 have HZ11 : Hid (∀ W, Frm [] wx W → W.heap[bz]? = some (.cells #[.int .u64 t0, .int .u64 t1, .int .u64 t2, .int .u64 t3] 29 (0, 0))) := hid (fun W hf => hf.heap ((HF79.out.trans hfx (by simp)).heap (HFE0.out.heap HZ.out (by simp)) (by simp)) (by simp))
 have HR11 : Hid (∀ W, Frm [] wx W → W.heap[bx]? = some (.cells #[.int .i64 kind, .string name, .int .i64 typ, .int .i64 frm, .int .i64 guid, .int .i64 origin, .string snap, .slice pp pn pc, .int .i64 obj, .int .i64 at_, .int .i64 many, .slice kp kn kc, .slice dp dl dc] 26 (0, 0))) := hid (fun W hf => hf.heap hrx (by simp))
 have HXL : Hid (ws.heap.size ≤ bx) := hid (by have h1 := HF9.out.size; omega)
 have HBXE := hid hbx
 have HWXE := hid hwx
 clear hbx hwx hfx hrx HOW9 HQ9
 go_upto_region 13 with fail
 try rw [HBXE.out]
 try rw [HWXE.out]
 have HDN := hid (qdone_any r7 c7 V.s.1 q7 BB V.s.2 wx HQX.out.1)
 obtain ⟨DN, hDN⟩ := eX (doneS BB.length V.s.1 V.s.2)
 rw [hDN] at HDN HOK
 have HMY : Hid (RcMay ⟨kind, name, typ, frm, guid, origin, snap, pp, pn, pc, obj, at_, many, kp, kn, kc, dp, dl, dc⟩ V.p V.k V.d ↔ RcMay (V.rc kind) V.p V.k V.d) := hid (rcMay_core HCR.out HLP.out.1 HLP.out.2.1 HLP.out.2.2)
 have HCK := hid (fun W (hf : Frm [] wx W) => refCheck_any ⟨kind, name, typ, frm, guid, origin, snap, pp, pn, pc, obj, at_, many, kp, kn, kc, dp, dl, dc⟩ V.p V.k V.d W (HOW.out.k0 hf).ok (by show name.size ≤ _; omega) HPV.out)
 clear hDN hns
 go_wp2_with fail
 refine HDN.out.mono ?_
 rintro e _ ⟨rfl, nn, rfl⟩
 have HFD2 : Hid (Frm [] wx (wx.drewN nn)) := hid ((Frm.refl _ _).drewN nn)
 obtain ⟨w12, hw12⟩ := eX (wx.drewN nn)
 rw [hw12] at HFD2 ⊢
 clear hw12 HDN
 have q0 := cR 0 (.int .i64 kind) (HR11.out w12 HFD2.out)
 have q1 := cR 1 (.string name) (HR11.out w12 HFD2.out)
 have q2 := cR 2 (.int .i64 typ) (HR11.out w12 HFD2.out)
 have q3 := cR 3 (.int .i64 frm) (HR11.out w12 HFD2.out)
 have q4 := cR 4 (.int .i64 guid) (HR11.out w12 HFD2.out)
 have q5 := cR 5 (.int .i64 origin) (HR11.out w12 HFD2.out)
 have q6 := cR 6 (.string snap) (HR11.out w12 HFD2.out)
 have q7 := cR 7 (.slice pp pn pc) (HR11.out w12 HFD2.out)
 have q8 := cR 8 (.int .i64 obj) (HR11.out w12 HFD2.out)
 have q9 := cR 9 (.int .i64 at_) (HR11.out w12 HFD2.out)
 have q10 := cR 10 (.int .i64 many) (HR11.out w12 HFD2.out)
 have q11 := cR 11 (.slice kp kn kc) (HR11.out w12 HFD2.out)
 have q12 := cR 12 (.slice dp dl dc) (HR11.out w12 HFD2.out)
 have HC12 := hid (HCK.out w12 HFD2.out)
 obtain ⟨CE, hCE⟩ : ∃ z : Int, (if RcMay ⟨kind, name, typ, frm, guid, origin, snap, pp, pn, pc, obj, at_, many, kp, kn, kc, dp, dl, dc⟩ V.p V.k V.d then (0 : Int) else 200) = z := ⟨_, rfl⟩
 rw [hCE] at HC12
 have HCE := hid hCE
 unfold Rc.arr at HC12
 simp only at HC12
 clear hCE HCK
 go_wp2_with fail
 refine HC12.out.mono ?_
 rintro e w13 ⟨rfl, hf13⟩
 have HFE3 : Hid (Frm [] wx w13) := hid (HFD2.out.trans hf13 (by simp))
 have HF13 : Hid (Frm [] ws w13) := hid (HFWX.out.trans HFE3.out (by simp))
 clear hf13 HC12 q0 q1 q2 q3 q4 q5 q6 q7 q8 q9 q10 q11 q12
 by_cases hd : DN = 0
 case neg =>
  have HEE : Hid (dcE ⟨s0, s1, s2, s3⟩ bs = 200) := hid (by rw [HD2.out, if_pos (fun h => hd (HOK.out.1 h).1)])
  have hbd : (DN != 0) = true := by rw [bne_iff_ne]; exact hd
  clear hd
  have hrr := HRR.out w13 HF13.out
  have hrs := HRS.out w13 HF13.out
  have z0 := cR 0 (.int .i64 0) hrr
  have y0 := fZ 0 hrr
  have z1 := cR 1 (.string ⟨#[]⟩) hrr
  have y1 := fZ 1 hrr
  have z2 := cR 2 (.int .i64 0) hrr
  have y2 := fZ 2 hrr
  have z3 := cR 3 (.int .i64 0) hrr
  have y3 := fZ 3 hrr
  have z4 := cR 4 (.int .i64 0) hrr
  have y4 := fZ 4 hrr
  have z5 := cR 5 (.int .i64 0) hrr
  have y5 := fZ 5 hrr
  have z6 := cR 6 (.string ⟨#[]⟩) hrr
  have y6 := fZ 6 hrr
  have z7 := cR 7 (.slice none 0 0) hrr
  have y7 := fZ 7 hrr
  have z8 := cR 8 (.int .i64 0) hrr
  have y8 := fZ 8 hrr
  have z9 := cR 9 (.int .i64 0) hrr
  have y9 := fZ 9 hrr
  have z10 := cR 10 (.int .i64 0) hrr
  have y10 := fZ 10 hrr
  have z11 := cR 11 (.slice none 0 0) hrr
  have y11 := fZ 11 hrr
  have z12 := cR 12 (.slice none 0 0) hrr
  have y12 := fZ 12 hrr
  have n0 := cR 0 (.int .u64 0) hrs
  have m0 := fZ 0 hrs
  have n1 := cR 1 (.int .u64 0) hrs
  have m1 := fZ 1 hrs
  have n2 := cR 2 (.int .u64 0) hrs
  have m2 := fZ 2 hrs
  have n3 := cR 3 (.int .u64 0) hrs
  have m3 := fZ 3 hrs
  go_wp2_with fail
  obtain ⟨Wz, hwz, h5, f5⟩ := sE br 26 [(0, .int .i64 0), (1, .string ⟨#[]⟩), (2, .int .i64 0), (3, .int .i64 0), (4, .int .i64 0), (5, .int .i64 0), (6, .string ⟨#[]⟩), (7, .slice none 0 0), (8, .int .i64 0), (9, .int .i64 0), (10, .int .i64 0), (11, .slice none 0 0), (12, .slice none 0 0)] w13 _ hrr
  simp only [List.foldl, List.setIfInBounds_toArray, List.set_cons_zero, List.set_cons_succ] at h5
  simp only [setsF] at hwz
  have hWz := hwz
  rw [hwz]
  have hrs2 := f5.heap hrs (by simp)
  obtain ⟨Wy, hwy, h6, f6⟩ := sE (br + 1) 29 [(0, .int .u64 0), (1, .int .u64 0), (2, .int .u64 0), (3, .int .u64 0)] Wz _ hrs2
  simp only [List.foldl, List.setIfInBounds_toArray, List.set_cons_zero, List.set_cons_succ] at h6
  simp only [setsF] at hwy
  have hWy := hwy
  rw [hwy]
  have h7 := f6.heap h5 (by simp)
  have u0 := cR 0 (.int .i64 0) h7
  have u1 := cR 1 (.string ⟨#[]⟩) h7
  have u2 := cR 2 (.int .i64 0) h7
  have u3 := cR 3 (.int .i64 0) h7
  have u4 := cR 4 (.int .i64 0) h7
  have u5 := cR 5 (.int .i64 0) h7
  have u6 := cR 6 (.string ⟨#[]⟩) h7
  have u7 := cR 7 (.slice none 0 0) h7
  have u8 := cR 8 (.int .i64 0) h7
  have u9 := cR 9 (.int .i64 0) h7
  have u10 := cR 10 (.int .i64 0) h7
  have u11 := cR 11 (.slice none 0 0) h7
  have u12 := cR 12 (.slice none 0 0) h7
  have k0 := cR 0 (.int .u64 0) h6
  have k1 := cR 1 (.int .u64 0) h6
  have k2 := cR 2 (.int .u64 0) h6
  have k3 := cR 3 (.int .u64 0) h6
  refine bodyPost_ret (v := .tuple #[.agg #[.int .i64 0, .string ⟨#[]⟩, .int .i64 0, .int .i64 0, .int .i64 0, .int .i64 0, .string ⟨#[]⟩, .slice none 0 0, .int .i64 0, .int .i64 0, .int .i64 0, .slice none 0 0, .slice none 0 0], .int .i64 0, .agg #[.int .u64 0, .int .u64 0, .int .u64 0, .int .u64 0], .int .i64 200]) (by simp [results, Tryz.results36, go_sem, u0, u1, u2, u3, u4, u5, u6, u7, u8, u9, u10, u11, u12, k0, k1, k2, k3]) rfl ?_
  exact HPB.out _ _ ⟨HEE.out, by decide⟩ (((HFR.out.trans HF13.out (by simp)).trans f5 (fun i hi hl => by rw [List.mem_singleton] at hi; have := HBL.out; omega)).trans f6 (fun i hi hl => by rw [List.mem_singleton] at hi; have := HBL.out; omega))
 subst hd
 by_cases hm : RcMay ⟨kind, name, typ, frm, guid, origin, snap, pp, pn, pc, obj, at_, many, kp, kn, kc, dp, dl, dc⟩ V.p V.k V.d
 case neg =>
  have HEE : Hid (dcE ⟨s0, s1, s2, s3⟩ bs = 200) := hid (by rw [HD2.out, if_pos (fun h => hm (HMY.out.2 (HOK.out.1 h).2))])
  have hce : CE = 200 := by rw [← HCE.out, if_neg hm]
  subst hce
  clear hm
  have hrr := HRR.out w13 HF13.out
  have hrs := HRS.out w13 HF13.out
  have z0 := cR 0 (.int .i64 0) hrr
  have y0 := fZ 0 hrr
  have z1 := cR 1 (.string ⟨#[]⟩) hrr
  have y1 := fZ 1 hrr
  have z2 := cR 2 (.int .i64 0) hrr
  have y2 := fZ 2 hrr
  have z3 := cR 3 (.int .i64 0) hrr
  have y3 := fZ 3 hrr
  have z4 := cR 4 (.int .i64 0) hrr
  have y4 := fZ 4 hrr
  have z5 := cR 5 (.int .i64 0) hrr
  have y5 := fZ 5 hrr
  have z6 := cR 6 (.string ⟨#[]⟩) hrr
  have y6 := fZ 6 hrr
  have z7 := cR 7 (.slice none 0 0) hrr
  have y7 := fZ 7 hrr
  have z8 := cR 8 (.int .i64 0) hrr
  have y8 := fZ 8 hrr
  have z9 := cR 9 (.int .i64 0) hrr
  have y9 := fZ 9 hrr
  have z10 := cR 10 (.int .i64 0) hrr
  have y10 := fZ 10 hrr
  have z11 := cR 11 (.slice none 0 0) hrr
  have y11 := fZ 11 hrr
  have z12 := cR 12 (.slice none 0 0) hrr
  have y12 := fZ 12 hrr
  have n0 := cR 0 (.int .u64 0) hrs
  have m0 := fZ 0 hrs
  have n1 := cR 1 (.int .u64 0) hrs
  have m1 := fZ 1 hrs
  have n2 := cR 2 (.int .u64 0) hrs
  have m2 := fZ 2 hrs
  have n3 := cR 3 (.int .u64 0) hrs
  have m3 := fZ 3 hrs
  go_wp2_with fail
  obtain ⟨Wz, hwz, h5, f5⟩ := sE br 26 [(0, .int .i64 0), (1, .string ⟨#[]⟩), (2, .int .i64 0), (3, .int .i64 0), (4, .int .i64 0), (5, .int .i64 0), (6, .string ⟨#[]⟩), (7, .slice none 0 0), (8, .int .i64 0), (9, .int .i64 0), (10, .int .i64 0), (11, .slice none 0 0), (12, .slice none 0 0)] w13 _ hrr
  simp only [List.foldl, List.setIfInBounds_toArray, List.set_cons_zero, List.set_cons_succ] at h5
  simp only [setsF] at hwz
  have hWz := hwz
  rw [hwz]
  have hrs2 := f5.heap hrs (by simp)
  obtain ⟨Wy, hwy, h6, f6⟩ := sE (br + 1) 29 [(0, .int .u64 0), (1, .int .u64 0), (2, .int .u64 0), (3, .int .u64 0)] Wz _ hrs2
  simp only [List.foldl, List.setIfInBounds_toArray, List.set_cons_zero, List.set_cons_succ] at h6
  simp only [setsF] at hwy
  have hWy := hwy
  rw [hwy]
  have h7 := f6.heap h5 (by simp)
  have u0 := cR 0 (.int .i64 0) h7
  have u1 := cR 1 (.string ⟨#[]⟩) h7
  have u2 := cR 2 (.int .i64 0) h7
  have u3 := cR 3 (.int .i64 0) h7
  have u4 := cR 4 (.int .i64 0) h7
  have u5 := cR 5 (.int .i64 0) h7
  have u6 := cR 6 (.string ⟨#[]⟩) h7
  have u7 := cR 7 (.slice none 0 0) h7
  have u8 := cR 8 (.int .i64 0) h7
  have u9 := cR 9 (.int .i64 0) h7
  have u10 := cR 10 (.int .i64 0) h7
  have u11 := cR 11 (.slice none 0 0) h7
  have u12 := cR 12 (.slice none 0 0) h7
  have k0 := cR 0 (.int .u64 0) h6
  have k1 := cR 1 (.int .u64 0) h6
  have k2 := cR 2 (.int .u64 0) h6
  have k3 := cR 3 (.int .u64 0) h6
  refine bodyPost_ret (v := .tuple #[.agg #[.int .i64 0, .string ⟨#[]⟩, .int .i64 0, .int .i64 0, .int .i64 0, .int .i64 0, .string ⟨#[]⟩, .slice none 0 0, .int .i64 0, .int .i64 0, .int .i64 0, .slice none 0 0, .slice none 0 0], .int .i64 0, .agg #[.int .u64 0, .int .u64 0, .int .u64 0, .int .u64 0], .int .i64 200]) (by simp [results, Tryz.results36, go_sem, u0, u1, u2, u3, u4, u5, u6, u7, u8, u9, u10, u11, u12, k0, k1, k2, k3]) rfl ?_
  exact HPB.out _ _ ⟨HEE.out, by decide⟩ (((HFR.out.trans HF13.out (by simp)).trans f5 (fun i hi hl => by rw [List.mem_singleton] at hi; have := HBL.out; omega)).trans f6 (fun i hi hl => by rw [List.mem_singleton] at hi; have := HBL.out; omega))
 have HOD : Hid (okD kind BB) := hid (HOK.out.2 ⟨by trivial, HMY.out.1 hm⟩)
 have HEE : Hid (dcE ⟨s0, s1, s2, s3⟩ bs = 0) := hid (by rw [HD2.out, if_neg (fun h => h HOD.out)])
 have hce : CE = 0 := by rw [← HCE.out, if_pos hm]
 subst hce
 clear hm
 go_upto_region 17 with fail
 obtain ⟨wf, hwf⟩ := eX (w13.drew)
 have HFW : Hid (Frm [] wx wf) := hid (by rw [← hwf]; exact HFE3.out.drew)
 have HFS : Hid (Frm [] ws wf) := hid (HFWX.out.trans HFW.out (by simp))
 have HXB : Hid (bx ≠ br ∧ bx ≠ br + 1 ∧ bz ≠ br ∧ bz ≠ br + 1) := hid (by have h1 := HXL.out; have h2 := HSZ.out; have h3 := HZL.out; exact ⟨by omega, by omega, by omega, by omega⟩)
 have hS : ∀ W : World, W.heap[bx]? = some (.cells #[.int .i64 kind, .string name, .int .i64 typ, .int .i64 frm, .int .i64 guid, .int .i64 origin, .string snap, .slice pp pn pc, .int .i64 obj, .int .i64 at_, .int .i64 many, .slice kp kn kc, .slice dp dl dc] 26 (0, 0)) → W.heap[bz]? = some (.cells #[.int .u64 t0, .int .u64 t1, .int .u64 t2, .int .u64 t3] 29 (0, 0)) → W.cell? ⟨bx, 0, none⟩ = some (.int .i64 kind) ∧ W.cell? ⟨bx, 1, none⟩ = some (.string name) ∧ W.cell? ⟨bx, 2, none⟩ = some (.int .i64 typ) ∧ W.cell? ⟨bx, 3, none⟩ = some (.int .i64 frm) ∧ W.cell? ⟨bx, 4, none⟩ = some (.int .i64 guid) ∧ W.cell? ⟨bx, 5, none⟩ = some (.int .i64 origin) ∧ W.cell? ⟨bx, 6, none⟩ = some (.string snap) ∧ W.cell? ⟨bx, 7, none⟩ = some (.slice pp pn pc) ∧ W.cell? ⟨bx, 8, none⟩ = some (.int .i64 obj) ∧ W.cell? ⟨bx, 9, none⟩ = some (.int .i64 at_) ∧ W.cell? ⟨bx, 10, none⟩ = some (.int .i64 many) ∧ W.cell? ⟨bx, 11, none⟩ = some (.slice kp kn kc) ∧ W.cell? ⟨bx, 12, none⟩ = some (.slice dp dl dc) ∧ W.cell? ⟨bz, 0, none⟩ = some (.int .u64 t0) ∧ W.cell? ⟨bz, 1, none⟩ = some (.int .u64 t1) ∧ W.cell? ⟨bz, 2, none⟩ = some (.int .u64 t2) ∧ W.cell? ⟨bz, 3, none⟩ = some (.int .u64 t3) := fun W h1 h2 => by
  refine ⟨?_, ?_, ?_, ?_, ?_, ?_, ?_, ?_, ?_, ?_, ?_, ?_, ?_, ?_, ?_, ?_, ?_⟩ <;> first | (rw [cell_of_row _ _ _ _ _ _ h1]; rfl) | (rw [cell_of_row _ _ _ _ _ _ h2]; rfl)
 have hx0 := HR11.out wf HFW.out
 have hz0 := HZ11.out wf HFW.out
 have s0' := hS wf hx0 hz0
 have hrr := HRR.out wf HFS.out
 have hrs := HRS.out wf HFS.out
 have z0 := cR 0 (.int .i64 0) hrr
 have y0 := fZ 0 hrr
 have z1 := cR 1 (.string ⟨#[]⟩) hrr
 have y1 := fZ 1 hrr
 have z2 := cR 2 (.int .i64 0) hrr
 have y2 := fZ 2 hrr
 have z3 := cR 3 (.int .i64 0) hrr
 have y3 := fZ 3 hrr
 have z4 := cR 4 (.int .i64 0) hrr
 have y4 := fZ 4 hrr
 have z5 := cR 5 (.int .i64 0) hrr
 have y5 := fZ 5 hrr
 have z6 := cR 6 (.string ⟨#[]⟩) hrr
 have y6 := fZ 6 hrr
 have z7 := cR 7 (.slice none 0 0) hrr
 have y7 := fZ 7 hrr
 have z8 := cR 8 (.int .i64 0) hrr
 have y8 := fZ 8 hrr
 have z9 := cR 9 (.int .i64 0) hrr
 have y9 := fZ 9 hrr
 have z10 := cR 10 (.int .i64 0) hrr
 have y10 := fZ 10 hrr
 have z11 := cR 11 (.slice none 0 0) hrr
 have y11 := fZ 11 hrr
 have z12 := cR 12 (.slice none 0 0) hrr
 have y12 := fZ 12 hrr
 obtain ⟨Wz, hwz, h5, f5⟩ := sE br 26 [(0, .int .i64 kind), (1, .string name), (2, .int .i64 typ), (3, .int .i64 frm), (4, .int .i64 guid), (5, .int .i64 origin), (6, .string snap), (7, .slice pp pn pc), (8, .int .i64 obj), (9, .int .i64 at_), (10, .int .i64 many), (11, .slice kp kn kc), (12, .slice dp dl dc)] wf _ hrr
 simp only [List.foldl, List.setIfInBounds_toArray, List.set_cons_zero, List.set_cons_succ] at h5
 simp only [setsF] at hwz
 have hWz := hwz
 have hrs2 := f5.heap hrs (by simp)
 have hx1 := f5.heap hx0 (by simpa using HXB.out.1)
 have hz1 := f5.heap hz0 (by simpa using HXB.out.2.2.1)
 have s1' := hS Wz hx1 hz1
 have n0 := cR 0 (.int .u64 0) hrs2
 have m0 := fZ 0 hrs2
 have n1 := cR 1 (.int .u64 0) hrs2
 have m1 := fZ 1 hrs2
 have n2 := cR 2 (.int .u64 0) hrs2
 have m2 := fZ 2 hrs2
 have n3 := cR 3 (.int .u64 0) hrs2
 have m3 := fZ 3 hrs2
 obtain ⟨Wy, hwy, h6, f6⟩ := sE (br + 1) 29 [(0, .int .u64 t0), (1, .int .u64 t1), (2, .int .u64 t2), (3, .int .u64 t3)] Wz _ hrs2
 simp only [List.foldl, List.setIfInBounds_toArray, List.set_cons_zero, List.set_cons_succ] at h6
 simp only [setsF] at hwy
 have hWy := hwy
 have h7 := f6.heap h5 (by simp)
 have s2' := hS Wy (f6.heap hx1 (by simpa using HXB.out.2.1)) (f6.heap hz1 (by simpa using HXB.out.2.2.2))
 refine wp_region_tail (S := fun W => (W.cell? ⟨bx, 0, none⟩ = some (.int .i64 kind) ∧ W.cell? ⟨bx, 1, none⟩ = some (.string name) ∧ W.cell? ⟨bx, 2, none⟩ = some (.int .i64 typ) ∧ W.cell? ⟨bx, 3, none⟩ = some (.int .i64 frm) ∧ W.cell? ⟨bx, 4, none⟩ = some (.int .i64 guid) ∧ W.cell? ⟨bx, 5, none⟩ = some (.int .i64 origin) ∧ W.cell? ⟨bx, 6, none⟩ = some (.string snap) ∧ W.cell? ⟨bx, 7, none⟩ = some (.slice pp pn pc) ∧ W.cell? ⟨bx, 8, none⟩ = some (.int .i64 obj) ∧ W.cell? ⟨bx, 9, none⟩ = some (.int .i64 at_) ∧ W.cell? ⟨bx, 10, none⟩ = some (.int .i64 many) ∧ W.cell? ⟨bx, 11, none⟩ = some (.slice kp kn kc) ∧ W.cell? ⟨bx, 12, none⟩ = some (.slice dp dl dc) ∧ W.cell? ⟨bz, 0, none⟩ = some (.int .u64 t0) ∧ W.cell? ⟨bz, 1, none⟩ = some (.int .u64 t1) ∧ W.cell? ⟨bz, 2, none⟩ = some (.int .u64 t2) ∧ W.cell? ⟨bz, 3, none⟩ = some (.int .u64 t3))) 7 8 rfl (by kernel_rfl) (by kernel_rfl) ?_
 rw [hwf]
 refine hI (i := 0) (v := ?_) rfl ?_ s0' ?_
 rotate_left 1
 ·rintro W ⟨a0, a1, a2, a3, a4, a5, a6, a7, a8, a9, a10, a11, a12, b0, b1, b2, b3⟩; (try simp only [lA, lZ]); go_simp; try with_reducible rfl
 try simp only [lA, lZ, Act.put, lI, lW, lX]
 refine hI (i := 1) (v := ?_) rfl ?_ s0' ?_
 rotate_left 1
 ·rintro W ⟨a0, a1, a2, a3, a4, a5, a6, a7, a8, a9, a10, a11, a12, b0, b1, b2, b3⟩; (try simp only [lA, lS, lZ]); go_simp; try with_reducible rfl
 try simp only [lA, lS, lZ, Act.put, lI, lW, lX]
 refine hI (i := 2) (v := ?_) rfl ?_ s0' ?_
 rotate_left 1
 ·rintro W ⟨a0, a1, a2, a3, a4, a5, a6, a7, a8, a9, a10, a11, a12, b0, b1, b2, b3⟩; (try simp only [lA, lS, lZ]); go_simp; try with_reducible rfl
 try simp only [lA, lS, lZ, Act.put, lI, lW, lX]
 refine hI (i := 3) (v := ?_) rfl ?_ s0' ?_
 rotate_left 1
 ·rintro W ⟨a0, a1, a2, a3, a4, a5, a6, a7, a8, a9, a10, a11, a12, b0, b1, b2, b3⟩; (try simp only [lA, lS, lZ]); go_simp; try with_reducible rfl
 try simp only [lA, lS, lZ, Act.put, lI, lW, lX]
 refine wpAnyHT_one (i := 4) rfl (by kernel_rfl) (by kernel_rfl) (fun K hK => ?_)
 try simp only [lA, lS, lZ]
 go_simp
 try rw [hwz]
 refine hK _ _ s1' ?_
 clear hK K
 try simp only [lA, lS, lZ, Act.put, lI, lW, lX]
 refine wpAnyHT_one (i := 5) rfl (by kernel_rfl) (by kernel_rfl) (fun K hK => ?_)
 try simp only [lA, lS, lZ]
 go_simp
 refine hK _ _ s1' ?_
 clear hK K
 try simp only [lA, lS, lZ, Act.put, lI, lW, lX]
 refine wpAnyHT_one (i := 6) rfl (by kernel_rfl) (by kernel_rfl) (fun K hK => ?_)
 try simp only [lA, lS, lZ]
 go_simp
 try rw [hwy]
 refine hK _ _ s2' ?_
 clear hK K
 try simp only [lA, lS, lZ, Act.put, lI, lW, lX]
 refine wpAnyHT_end (by kernel_rfl) ?_
 simp only [List.drop_succ_cons, List.drop_zero]
 have u0 := cR 0 (.int .i64 kind) h7
 have u1 := cR 1 (.string name) h7
 have u2 := cR 2 (.int .i64 typ) h7
 have u3 := cR 3 (.int .i64 frm) h7
 have u4 := cR 4 (.int .i64 guid) h7
 have u5 := cR 5 (.int .i64 origin) h7
 have u6 := cR 6 (.string snap) h7
 have u7 := cR 7 (.slice pp pn pc) h7
 have u8 := cR 8 (.int .i64 obj) h7
 have u9 := cR 9 (.int .i64 at_) h7
 have u10 := cR 10 (.int .i64 many) h7
 have u11 := cR 11 (.slice kp kn kc) h7
 have u12 := cR 12 (.slice dp dl dc) h7
 have k0 := cR 0 (.int .u64 t0) h6
 have k1 := cR 1 (.int .u64 t1) h6
 have k2 := cR 2 (.int .u64 t2) h6
 have k3 := cR 3 (.int .u64 t3) h6
 have HFY : Hid (Frm [] w Wy) := hid (((HFR.out.trans HFS.out (by simp)).trans f5 (fun i hi hl => by rw [List.mem_singleton] at hi; have := HBL.out; omega)).trans f6 (fun i hi hl => by rw [List.mem_singleton] at hi; have := HBL.out; omega))
 have hlow : ∀ k, w7.heap.size ≤ k → k ≠ br ∧ k ≠ br + 1 := fun k hk => by have h1 := HSZ.out; have h2 := HSZ7.out; exact ⟨by omega, by omega⟩
 have own12 := HOW.out.k0 HFW.out
 have own13 := own12.kept f5 (fun k hk hm => by rw [List.mem_singleton] at hm; exact (hlow k (own12.pw k hk)).1 hm) (fun k hk hm => by rw [List.mem_singleton] at hm; exact (hlow k (own12.kw k hk)).1 hm) (fun k hk hm => by rw [List.mem_singleton] at hm; exact (hlow k (own12.dw k hk)).1 hm)
 have own14 := own13.kept f6 (fun k hk hm => by rw [List.mem_singleton] at hm; exact (hlow k (own12.pw k hk)).2 hm) (fun k hk hm => by rw [List.mem_singleton] at hm; exact (hlow k (own12.kw k hk)).2 hm) (fun k hk hm => by rw [List.mem_singleton] at hm; exact (hlow k (own12.dw k hk)).2 hm)
 have HOY := hid (own14.less (lo' := w.heap.size) (by have h1 := HFR.out.size; have h2 := HSZ7.out; omega))
 clear h5 f5 h6 f6 h7 hlow own12 own13 own14 hwz hwy hWz hWy hx0 hz0 hx1 hz1 hS s0' s1' s2' hrr hrs hrs2 hwf z0 y0 z1 y1 z2 y2 z3 y3 z4 y4 z5 y5 z6 y6 z7 y7 z8 y8 z9 y9 z10 y10 z11 y11 z12 y12 n0 m0 n1 m1 n2 m2 n3 m3
 go_wp2_with fail
 refine bodyPost_ret (v := .tuple #[.agg #[.int .i64 kind, .string name, .int .i64 typ, .int .i64 frm, .int .i64 guid, .int .i64 origin, .string snap, .slice pp pn pc, .int .i64 obj, .int .i64 at_, .int .i64 many, .slice kp kn kc, .slice dp dl dc], .int .i64 ((dN : Int) + 32), .agg #[.int .u64 t0, .int .u64 t1, .int .u64 t2, .int .u64 t3], .int .i64 0]) (by simp [results, Tryz.results36, go_sem, u0, u1, u2, u3, u4, u5, u6, u7, u8, u9, u10, u11, u12, k0, k1, k2, k3]) rfl ?_
 exact HPG2.out HOD.out ⟨kind, name, typ, frm, guid, origin, snap, pp, pn, pc, obj, at_, many, kp, kn, kc, dp, dl, dc⟩ Wy HEE.out HCR.out HOY.out HFY.out
theorem refDecode_any (p : Option Addr) (n c : Nat) (bs : List Int) (a : S4) (w : World) (hn : bs.length = n) (hnc : n ≤ c) (hnb : n ≤ 140737488355328) (hrd : Rd w p bs) (hb : ∀ z ∈ bs, 0 ≤ z ∧ z < 256) (hvs : Vars w) (ha : a.Bd) :
  Calls Tryz.prog 36 #[.slice p n c, .agg a.arr] w (DecP w a bs) := by
 by_cases hE : spE bs = 0
 ·exact refDecode_row p n c bs a w hn hnc hnb hrd hb hvs ha hE
 ·exact refDecode_short p n c bs a w hn hnc hnb hrd hb hvs ha hE
end
section
open Go.RowKit Go.Lib
structure RcLn (w : World) (r : Rc) (P : List Pr) (K D : List Int) (lo : Nat) : Prop where
 po : w.ownsRow 0 70 2 (.slice r.pp r.pn r.pc) r.pn (prC P)
 pl : P.length = r.pn
 pw : ∀ k ∈ blk r.pp, lo ≤ k
 ko : w.ownsRow 0 3 1 (.slice r.kp r.kn r.kc) r.kn (K.map (Value.int .i64))
 kl : K.length = r.kn
 kw : ∀ k ∈ blk r.kp, lo ≤ k
 ow : Own w 5 (.slice r.dp r.dl r.dc) D
 dl : D.length = r.dl
 dw : ∀ k ∈ blk r.dp, lo ≤ k
 db : ∀ z ∈ D, 0 ≤ z ∧ z < 256
 mx : r.pn ≤ 140737488355328 ∧ r.kn ≤ 140737488355328 ∧ r.dl ≤ 140737488355328
theorem RcLn.ok {w : World} {r : Rc} {P : List Pr} {K D : List Int} {lo : Nat} (h : RcLn w r P K D lo) : RcOk w r P K D := by
 refine ⟨?_, h.pl, ?_, h.kl, h.ow.rd, h.dl, h.db, by have := h.mx; omega⟩
 ·rcases rv_of1 h.po (by rw [prC_len, h.pl]) with h1 | ⟨g, o, he, hc⟩
  ·cases P with
   | nil => exact Or.inl rfl
   | cons x l => simp [prC] at h1
  ·refine Or.inr ⟨g, o, he, fun i x hx => ?_⟩
   obtain ⟨h1, h2⟩ := prC_at P i x hx
   rw [Nat.add_assoc]
   exact ⟨hc _ _ h1, hc _ _ h2⟩
 ·exact rv_of1 h.ko (by rw [List.length_map, h.kl, Nat.mul_one])
theorem RcLn.kept {S : List Nat} {w w' : World} {r : Rc} {P : List Pr} {K D : List Int} {lo : Nat} (h : RcLn w r P K D lo) (hf : Frm S w w') (h1 : ∀ k ∈ blk r.pp, k ∉ S) (h2 : ∀ k ∈ blk r.kp, k ∉ S) (h3 : ∀ k ∈ blk r.dp, k ∉ S) : RcLn w' r P K D lo :=
 ⟨ownsRow_kept h.po hf h1, h.pl, h.pw, ownsRow_kept h.ko hf h2, h.kl, h.kw, h.ow.kept hf (by rw [own_blk]; exact h3), h.dl, h.dw, h.db, h.mx⟩
theorem RcLn.k0 {w w' : World} {r : Rc} {P : List Pr} {K D : List Int} {lo : Nat} (h : RcLn w r P K D lo) (hf : Frm [] w w') : RcLn w' r P K D lo := h.kept hf (by simp) (by simp) (by simp)
theorem RcOwn.ln {w : World} {r : Rc} {P : List Pr} {K D : List Int} {lo : Nat} (h : RcOwn w r P K D lo) (hd : r.dl ≤ 140737488355328) : RcLn w r P K D lo := ⟨h.po, h.pl, h.pw, h.ko, h.kl, h.kw, h.ow, h.dl, h.dw, h.db, by have := h.mx; omega⟩
def ShpR (w w' : World) : Prop := ∀ (g : Nat) (cur : Array Value) (T : TypeId), w.heap[g]? = some (Obj.cells cur T (0, 0)) → ∃ cur' : Array Value, w'.heap[g]? = some (Obj.cells cur' T (0, 0)) ∧ cur'.size = cur.size
theorem ShpR.refl (w : World) : ShpR w w := fun _ cur _ h => ⟨cur, h, rfl⟩
theorem ShpR.trans {w w1 w2 : World} (h : ShpR w w1) (h2 : ShpR w1 w2) : ShpR w w2 := fun g cur T hg => by
 obtain ⟨c1, a1, b1⟩ := h g cur T hg
 obtain ⟨c2, a2, b2⟩ := h2 g c1 T a1
 exact ⟨c2, a2, by omega⟩
theorem ShpR.of {w w' : World} (h : Frm [] w w') : ShpR w w' := fun g cur T hg => ⟨cur, h.heap hg (by simp), rfl⟩
theorem ShpR.set {w : World} {g t : Nat} {cur : Array Value} {T : TypeId} {v : Value} (hg : w.heap[g]? = some (.cells cur T (0, 0))) : ShpR w (w.setCell ⟨g, t, none⟩ v) := fun g' cur' T' h => by
 by_cases e : g' = g
 ·subst e
  rw [hg] at h
  simp only [Option.some.injEq, Obj.cells.injEq] at h
  obtain ⟨rfl, rfl, _⟩ := h
  exact ⟨_, heap_setCell_same w g' t _ _ v hg, by simp⟩
 ·have hf : Frm [g] w (w.setCell ⟨g, t, none⟩ v) := (Frm.refl _ _).setCell _ _ (by simp)
  exact ⟨cur', hf.heap h (by simpa using e), rfl⟩
def BlkZ (w : World) (p : Option Addr) (m : Nat) : Prop := m = 0 ∨ ∃ g cur T, p = some ⟨g, 0, Option.none⟩ ∧ w.heap[g]? = some (Obj.cells cur T (0, 0)) ∧ m ≤ cur.size
theorem BlkZ.kept {w w' : World} {p : Option Addr} {m : Nat} (h : BlkZ w p m) (hs : ShpR w w') : BlkZ w' p m := by
 rcases h with h | ⟨g, cur, T, h1, h2, h3⟩
 ·exact Or.inl h
 ·obtain ⟨c, h4, h5⟩ := hs g cur T h2
  exact Or.inr ⟨g, c, T, h1, h4, by omega⟩
theorem owns_blockR {w : World} {T : TypeId} {sz : Nat} {p : Option Addr} {n c : Nat} {xs : List Value} (h : w.ownsRow 0 T sz (.slice p n c) n xs) : BlkZ w p (n * sz) := by
 rcases h.2 with ⟨_, h0⟩ | ⟨g, c', cur, he, _, hg, hc, hm, hs, ht⟩
 ·exact Or.inl (by rw [h0, Nat.zero_mul])
 ·simp only [Value.slice.injEq] at he
  exact Or.inr ⟨g, cur, T, he.1, hg, by rw [hs]; exact Nat.mul_le_mul_right _ hc⟩
def Rc.B (r : Rc) : List Nat := blk r.pp ++ (blk r.kp ++ blk r.dp)
structure SpR (w : World) (r : Rc) : Prop where
 p : BlkZ w r.pp (r.pn * 2)
 k : BlkZ w r.kp r.kn
 d : BlkZ w r.dp r.dl
 low : ∀ i ∈ r.B, i < w.heap.size
 mx : r.pn ≤ 140737488355328 ∧ r.kn ≤ 140737488355328 ∧ r.dl ≤ 140737488355328
theorem RcLn.sp {w : World} {r : Rc} {P : List Pr} {K D : List Int} {lo : Nat} (h : RcLn w r P K D lo) : SpR w r :=
 ⟨owns_blockR h.po, by have := owns_blockR h.ko; rwa [Nat.mul_one] at this, by
  have h2 : w.ownsRow 0 5 1 (.slice r.dp r.dl r.dc) r.dl (bv D) := by
   have h3 := h.ow
   unfold Own at h3
   rw [h.dl] at h3
   exact h3
  have := owns_blockR h2; rwa [Nat.mul_one] at this, fun i hi => by
  unfold Rc.B at hi
  simp only [List.mem_append] at hi
  rcases hi with hi | hi | hi
  ·exact ownsRow_low h.po i hi
  ·exact ownsRow_low h.ko i hi
  ·exact h.ow.lows i hi, h.mx⟩
theorem SpR.kept {w w' : World} {r : Rc} (h : SpR w r) (hs : ShpR w w') (hz : w.heap.size ≤ w'.heap.size) : SpR w' r := ⟨h.p.kept hs, h.k.kept hs, h.d.kept hs, fun i hi => Nat.lt_of_lt_of_le (h.low i hi) hz, h.mx⟩
structure SpI (r : Rc) (b0 bx : Nat) (w W : World) : Prop where
 fr : Frm (b0 :: r.B) w W
 row : W.heap[bx]? = some (.cells r.arr 26 (0, 0))
 sp : SpR W r
theorem SpI.put {r : Rc} {b0 bx g t : Nat} {w W : World} {v : Value} {cur : Array Value} {T : TypeId} (h : SpI r b0 bx w W) (hg : W.heap[g]? = some (.cells cur T (0, 0))) (hB : g ∈ r.B) (hn : ¬ g = bx) : SpI r b0 bx w (W.setCell ⟨g, t, none⟩ v) := by
 have hf : Frm [g] W (W.setCell ⟨g, t, none⟩ v) := (Frm.refl _ _).setCell _ _ (by simp)
 exact ⟨h.fr.trans hf (fun i hi _ => by rw [List.mem_singleton] at hi; subst hi; exact List.mem_cons_of_mem _ hB), hf.heap h.row (by simp; exact fun e => hn e.symm), h.sp.kept (ShpR.set hg) hf.size⟩
theorem spoil20_any (r : Rc) (w : World) (h : SpR w r) :
  Calls Tryz.prog 12 #[.agg r.arr] w fun e w' => e = .returned (.tuple #[]) ∧ Frm r.B w w' := by
 obtain ⟨PO, hPO⟩ : ∃ PO : Ending → World → Prop, (fun e w' => e = .returned (.tuple #[]) ∧ Frm r.B w w') = PO := ⟨_, rfl⟩
 rw [hPO]
 obtain ⟨bx, hbx⟩ := eX (w.heap.size)
 have HP : Hid (∀ w', Frm (bx :: r.B) w w' → PO (.returned (.tuple #[])) w') := hid (fun w' h1 => by
  rw [← hPO]
  refine ⟨rfl, h1.mono (fun i hi hl => ?_)⟩
  rcases List.mem_cons.1 hi with h2 | h2
  ·omega
  ·exact h2)
 obtain ⟨wa, hwa⟩ := eX (w.alloc (.cells r.arr 26))
 have hfx : Frm [] w wa := by rw [← hwa]; exact (Frm.refl _ _).alloc _
 have hrx : wa.heap[bx]? = some (.cells r.arr 26 (0, 0)) := by rw [← hwa]; exact heap_alloc_to _ _ hbx
 have HI0 : Hid (SpI r bx bx w wa) := hid ⟨hfx.mono (by simp), hrx, h.kept (ShpR.of hfx) hfx.size⟩
 have HNB : Hid (∀ g, g ∈ r.B → ¬ g = bx) := hid (fun g hg e => by have := h.low g hg; omega)
 have HMB1 : Hid (∀ k ∈ blk r.pp, k ∈ r.B) := hid (fun k hk => by unfold Rc.B; simp [hk])
 have HMB2 : Hid (∀ k ∈ blk r.kp, k ∈ r.B) := hid (fun k hk => by unfold Rc.B; simp [hk])
 have HMB3 : Hid (∀ k ∈ blk r.dp, k ∈ r.B) := hid (fun k hk => by unfold Rc.B; simp [hk])
 obtain ⟨m1, m2, m3⟩ := h.mx
 have HWA := hid hwa
 have HBX := hid hbx
 clear hPO h hfx hrx hwa hbx
 obtain ⟨R, hR⟩ := eX (r)
 have HIX : Hid (∀ W, SpI R bx bx w W → SpI r bx bx w W) := hid (fun W h => by rw [hR]; exact h)
 rw [hR] at HI0 HNB HP
 have HBB : Hid (∀ k, k ∈ r.B → k ∈ R.B) := hid (fun k hk => by rw [← hR]; exact hk)
 have HXX := hid (fun (W : World) (h : SpI R bx bx w W) => rc_cells (r := r) (T := 26) (b := bx) (V := W) (by rw [hR]; exact h.row))
 have HS1 : Hid (∀ W, SpI R bx bx w W → BlkZ W r.pp (r.pn * 2)) := hid (fun W h => by rw [hR]; exact h.sp.p)
 have HS2 : Hid (∀ W, SpI R bx bx w W → BlkZ W r.kp r.kn) := hid (fun W h => by rw [hR]; exact h.sp.k)
 have HS3 : Hid (∀ W, SpI R bx bx w W → BlkZ W r.dp r.dl) := hid (fun W h => by rw [hR]; exact h.sp.d)
 clear hR HIX
 obtain ⟨kind, name, typ, frm, guid, origin, snap, pp, pn, pc, obj, at_, many, kp, kn, kc, dp, dl, dc⟩ := r
 unfold Rc.arr at HWA ⊢
 simp only at HWA HXX HS1 HS2 HS3 HMB1 HMB2 HMB3 m1 m2 m3 ⊢
 go_enter Tryz.func12, Tryz.ntmps12
 go_upto_region 1 with fail
 try rw [HBX.out]
 try rw [HWA.out]
 clear HWA
 go_wp2_with fail
 go_loopw [2] (fun i wr => ∃ t : Nat, t ≤ pn ∧ i = .int .i64 (t : Int) ∧ Hid (SpI R bx bx w wr)) (fun i _ => pn - (intOf i).toNat)
 case atStart => exact ⟨0, Nat.zero_le _, rfl, HI0⟩
 case round =>
  obtain ⟨t, ht, rfl, hin⟩ := hrel
  have HIN := hid hin.out
  clear hin
  obtain ⟨x0, x1, x2, x3, x4, x5, x6, x7, x8, x9, x10, x11, x12⟩ := HXX.out wr HIN.out
  clear x0 x1 x2 x3 x4 x5 x6 x8 x9 x10 x11 x12
  by_cases hlt : t < pn
  case pos =>
   have t1 : (t : Int) < (pn : Int) := by omega
   obtain ⟨g, cur, T, rfl, hg, hcs⟩ : ∃ g cur T, pp = some ⟨g, 0, none⟩ ∧ wr.heap[g]? = some (Obj.cells cur T (0, 0)) ∧ pn * 2 ≤ cur.size := by
    rcases HS1.out wr HIN.out with h | h
    ·omega
    ·exact h
   have hgB : g ∈ R.B := HBB.out g (HMB1.out g (by simp [blk]))
   have y0 : wr.cell? ⟨g, t * 2, none⟩ = some cur[t * 2] := by rw [cell_of_row _ _ _ _ _ _ hg]; simp
   have z0 := fZ (t * 2) hg
   have HIN2 : Hid (SpI R bx bx w (wr.setCell ⟨g, t * 2, none⟩ (.string { data := #[63] }))) := hid (HIN.out.put hg hgB (HNB.out g hgB))
   clear hg hgB
   go_wp2_with fail
   go_roundw
   case rel => exact ⟨t + 1, by omega, by go_num, HIN2⟩
   case measure => simp [intOf] <;> omega
  obtain rfl : pn = t := by omega
  go_wp2_with fail
  clear x7
  have HI1 := HIN
  go_loopw [3] (fun i wr => ∃ t : Nat, t ≤ kn ∧ i = .int .i64 (t : Int) ∧ Hid (SpI R bx bx w wr)) (fun i _ => kn - (intOf i).toNat)
  case atStart => exact ⟨0, Nat.zero_le _, rfl, HI1⟩
  case round =>
   obtain ⟨t, ht, rfl, hin⟩ := hrel
   have HIN := hid hin.out
   clear hin
   obtain ⟨x0, x1, x2, x3, x4, x5, x6, x7, x8, x9, x10, x11, x12⟩ := HXX.out wr HIN.out
   clear x0 x1 x2 x3 x4 x5 x6 x7 x8 x9 x10 x12
   by_cases hlt : t < kn
   case pos =>
    have t1 : (t : Int) < (kn : Int) := by omega
    obtain ⟨g, cur, T, rfl, hg, hcs⟩ : ∃ g cur T, kp = some ⟨g, 0, none⟩ ∧ wr.heap[g]? = some (Obj.cells cur T (0, 0)) ∧ kn ≤ cur.size := by
     rcases HS2.out wr HIN.out with h | h
     ·omega
     ·exact h
    have hgB : g ∈ R.B := HBB.out g (HMB2.out g (by simp [blk]))
    have y0 : wr.cell? ⟨g, t, none⟩ = some cur[t] := by rw [cell_of_row _ _ _ _ _ _ hg]; simp
    have z0 := fZ (t) hg
    have HIN2 : Hid (SpI R bx bx w (wr.setCell ⟨g, t, none⟩ (.int .i64 (-7)))) := hid (HIN.out.put hg hgB (HNB.out g hgB))
    clear hg hgB
    go_wp2_with fail
    go_roundw
    case rel => exact ⟨t + 1, by omega, by go_num, HIN2⟩
    case measure => simp [intOf] <;> omega
   obtain rfl : kn = t := by omega
   go_wp2_with fail
   clear x11
   have HI2 := HIN
   go_loopw [4] (fun i wr => ∃ t : Nat, t ≤ dl ∧ i = .int .i64 (t : Int) ∧ Hid (SpI R bx bx w wr)) (fun i _ => dl - (intOf i).toNat)
   case atStart => exact ⟨0, Nat.zero_le _, rfl, HI2⟩
   case round =>
    obtain ⟨t, ht, rfl, hin⟩ := hrel
    have HIN := hid hin.out
    clear hin
    obtain ⟨x0, x1, x2, x3, x4, x5, x6, x7, x8, x9, x10, x11, x12⟩ := HXX.out wr HIN.out
    clear x0 x1 x2 x3 x4 x5 x6 x7 x8 x9 x10 x11
    by_cases hlt : t < dl
    case pos =>
     have t1 : (t : Int) < (dl : Int) := by omega
     obtain ⟨g, cur, T, rfl, hg, hcs⟩ : ∃ g cur T, dp = some ⟨g, 0, none⟩ ∧ wr.heap[g]? = some (Obj.cells cur T (0, 0)) ∧ dl ≤ cur.size := by
      rcases HS3.out wr HIN.out with h | h
      ·omega
      ·exact h
     have hgB : g ∈ R.B := HBB.out g (HMB3.out g (by simp [blk]))
     have y0 : wr.cell? ⟨g, t, none⟩ = some cur[t] := by rw [cell_of_row _ _ _ _ _ _ hg]; simp
     have z0 := fZ (t) hg
     have HIN2 : Hid (SpI R bx bx w (wr.setCell ⟨g, t, none⟩ (.int .u8 99))) := hid (HIN.out.put hg hgB (HNB.out g hgB))
     clear hg hgB
     go_wp2_with fail
     go_roundw
     case rel => exact ⟨t + 1, by omega, by go_num, HIN2⟩
     case measure => simp [intOf] <;> omega
    obtain rfl : dl = t := by omega
    go_wp2_with fail
    go_returns
    exact HP.out _ HIN.out.fr
end
section
open Go.RowKit Go.Lib
theorem sameTrue_any (r s : Rc) (P : List Pr) (K D : List Int) (w : World) (hr : RcOk w r P K D) (hs : RcOk w s P K D) (hc : r.core = s.core) :
  Calls Tryz.prog 11 #[.agg r.arr, .agg s.arr] w fun e w' => e = .returned (.bool true) ∧ Frm [] w w' := by
 have hp := hr.pl.symm.trans hs.pl
 have hk := hr.kl.symm.trans hs.kl
 have hd := hr.dn.symm.trans hs.dn
 obtain ⟨kind, name, typ, frm, guid, origin, snap, pp, pn, pc, obj, at_, many, kp, kn, kc, dp, dl, dc⟩ := r
 obtain ⟨kind', name', typ', frm', guid', origin', snap', pp', pn', pc', obj', at', many', kp', kn', kc', dp', dl', dc'⟩ := s
 unfold Rc.core at hc
 simp only [Rc.mk.injEq] at hc hp hk hd
 obtain ⟨rfl, rfl, rfl, rfl, rfl, rfl, rfl, _, _, _, rfl, rfl, rfl, _⟩ := hc
 subst hp hk hd
 have hrow := heap_alloc_new w (.cells (Rc.mk kind name typ frm guid origin snap pp pn pc obj at_ many kp kn kc dp dl dc).arr 26)
 have hfa : Frm [] w (w.alloc (.cells (Rc.mk kind name typ frm guid origin snap pp pn pc obj at_ many kp kn kc dp dl dc).arr 26)) := (Frm.refl _ _).alloc _
 obtain ⟨wa, hwa⟩ := eX (w.alloc (.cells (Rc.mk kind name typ frm guid origin snap pp pn pc obj at_ many kp kn kc dp dl dc).arr 26))
 obtain ⟨ba, hba⟩ := eX (w.heap.size)
 rw [hwa, hba] at hrow
 rw [hwa] at hfa
 have hrow2 := heap_alloc_new wa (.cells (Rc.mk kind name typ frm guid origin snap pp' pn pc' obj at_ many kp' kn kc' dp' dl dc').arr 26)
 have hfb : Frm [] wa (wa.alloc (.cells (Rc.mk kind name typ frm guid origin snap pp' pn pc' obj at_ many kp' kn kc' dp' dl dc').arr 26)) := (Frm.refl _ _).alloc _
 obtain ⟨wb, hwb⟩ := eX (wa.alloc (.cells (Rc.mk kind name typ frm guid origin snap pp' pn pc' obj at_ many kp' kn kc' dp' dl dc').arr 26))
 obtain ⟨bb, hbb⟩ := eX (wa.heap.size)
 rw [hwb, hbb] at hrow2
 rw [hwb] at hfb
 have hb1 : ba + 1 = bb := by rw [← hbb, ← hwa, ← hba]; simp
 have HB1 := hid hb1
 have HFB : Hid (Frm [] w wb) := hid (hfa.trans hfb (by simp))
 have HX := hid (fun V (hf : Frm [] wb V) => rc_cells (hf.heap (hfb.heap hrow (by simp)) (by simp)))
 have HY := hid (fun V (hf : Frm [] wb V) => rc_cells (hf.heap hrow2 (by simp)))
 have HR := hid (fun V (hf : Frm [] wb V) => hr.k0 (HFB.out.trans hf (by simp)))
 have HS := hid (fun V (hf : Frm [] wb V) => hs.k0 (HFB.out.trans hf (by simp)))
 have HWA := hid hwa
 have HWB := hid hwb
 have HBA := hid hba
 have HBB := hid hbb
 have HPL : Hid (P.length = pn) := hid hr.pl
 have HKL : Hid (K.length = kn) := hid hr.kl
 have hmx := hr.mx
 simp only at hmx
 clear hrow hfa hwa hba hrow2 hfb hwb hbb hb1 hr hs
 unfold Rc.arr at HWA HWB ⊢
 simp only at HX HY HR HS HWA HWB ⊢
 obtain ⟨x0, x1, x2, x3, x4, x5, x6, x7, x8, x9, x10, x11, x12⟩ := HX.out wb (Frm.refl _ _)
 obtain ⟨y0, y1, y2, y3, y4, y5, y6, y7, y8, y9, y10, y11, y12⟩ := HY.out wb (Frm.refl _ _)
 have hcv1 := cv_any (P := Tryz.prog) (w := wb) 24 5 9 Tryz.underlying24 Tryz.underlying5 Tryz.underlying9 (n := dl) (HR.out wb (Frm.refl _ _)).dr dc (HR.out wb (Frm.refl _ _)).dn
 have hcv2 := cv_any (P := Tryz.prog) (w := wb) 24 5 9 Tryz.underlying24 Tryz.underlying5 Tryz.underlying9 (n := dl) (HS.out wb (Frm.refl _ _)).dr dc' (HS.out wb (Frm.refl _ _)).dn
 go_enter Tryz.func11, Tryz.ntmps11
 go_upto_region 1 with fail
 try rw [HWA.out]
 try rw [HBA.out]
 try rw [HBB.out]
 try rw [HB1.out]
 try rw [HWB.out]
 go_wp2_with fail
 clear x0 x1 x2 x3 x4 x5 x6 x7 x8 x9 x10 x11 x12 y0 y1 y2 y3 y4 y5 y6 y7 y8 y9 y10 y11 y12 hcv1 hcv2
 go_loopw [5] (fun i wr => ∃ t : Nat, t ≤ pn ∧ i = .int .i64 (t : Int) ∧ Hid (Frm [] wb wr)) (fun i _ => pn - (intOf i).toNat)
 case atStart => exact ⟨0, Nat.zero_le _, rfl, hid (Frm.refl _ _)⟩
 case round =>
  obtain ⟨t, ht, rfl, hf⟩ := hrel
  have HF := hid hf.out
  clear hf
  obtain ⟨x0, x1, x2, x3, x4, x5, x6, x7, x8, x9, x10, x11, x12⟩ := HX.out wr HF.out
  obtain ⟨y0, y1, y2, y3, y4, y5, y6, y7, y8, y9, y10, y11, y12⟩ := HY.out wr HF.out
  clear x0 x1 x2 x3 x4 x5 x6 x8 x9 x10 x12 y0 y1 y2 y3 y4 y5 y6 y8 y9 y10 y12
  by_cases hlt : t < pn
  case pos =>
   have t1 : (t : Int) < (pn : Int) := by omega
   obtain ⟨g1, o1, rfl, k1⟩ := (HR.out wr HF.out).pr.at (i := t) (by rw [HPL.out]; exact hlt)
   obtain ⟨g2, o2, rfl, k2⟩ := (HS.out wr HF.out).pr.at (i := t) (by rw [HPL.out]; exact hlt)
   obtain ⟨z1, z3⟩ := k1 t (by rw [HPL.out]; exact hlt)
   obtain ⟨z2, z4⟩ := k2 t (by rw [HPL.out]; exact hlt)
   obtain ⟨pa, hpa⟩ := eX (P[t]'(by rw [HPL.out]; exact hlt))
   rw [hpa] at z1 z2 z3 z4
   obtain ⟨a0, a1⟩ := pa
   have hne := fun W => neqPr a0 a1 a0 a1 W
   rw [decide_eq_true rfl] at hne
   have hne2 : ∀ W, (binOp .neq 70 (.agg #[.string a0, .string a1]) (.agg #[.string a0, .string a1])).run Tryz.prog W = .ok (.bool false) W := hne
   have HF2 : Hid (∀ k, Frm [] wb (wr.drewN k)) := hid (fun k => HF.out.drewN k)
   clear k1 k2 hpa hne
   go_wp2_with fail
   go_quiet (fail)
   go_wp2_with fail
   go_roundw
   case rel => exact ⟨t + 1, by omega, by go_num, hid (HF2.out _)⟩
   case measure => simp [intOf] <;> omega
  obtain rfl : t = pn := by omega
  clear hlt
  obtain ⟨wc, hwc⟩ := eX (wr)
  subst hwc
  go_wp2_with fail
  clear x7 x11 y7 y11
  go_loopw [6] (fun i wr2 => ∃ u : Nat, u ≤ kn ∧ i = .int .i64 (u : Int) ∧ Hid (Frm [] wb wr2)) (fun i _ => kn - (intOf i).toNat)
  case atStart => exact ⟨0, Nat.zero_le _, rfl, HF⟩
  case round =>
   clear HF
   obtain ⟨u, hu, rfl, hf⟩ := hrel
   have HF := hid hf.out
   clear hf
   obtain ⟨x0, x1, x2, x3, x4, x5, x6, x7, x8, x9, x10, x11, x12⟩ := HX.out _ HF.out
   obtain ⟨y0, y1, y2, y3, y4, y5, y6, y7, y8, y9, y10, y11, y12⟩ := HY.out _ HF.out
   clear x0 x1 x2 x3 x4 x5 x6 x7 x8 x9 x10 x12 y0 y1 y2 y3 y4 y5 y6 y7 y8 y9 y10 y12
   by_cases hlt : u < kn
   case pos =>
    have t1 : (u : Int) < (kn : Int) := by omega
    obtain ⟨g1, o1, rfl, k1⟩ := (HR.out _ HF.out).kr.at (i := u) (by rw [HKL.out]; exact hlt)
    obtain ⟨g2, o2, rfl, k2⟩ := (HS.out _ HF.out).kr.at (i := u) (by rw [HKL.out]; exact hlt)
    have z1 := k1 u (by rw [HKL.out]; exact hlt)
    have z2 := k2 u (by rw [HKL.out]; exact hlt)
    have HF2 := hid (fun k => HF.out.drewN k)
    obtain ⟨x, hx⟩ := eX (zA K u)
    rw [hx] at z1 z2
    clear k1 k2 hx
    go_wp2_with fail
    go_quiet (fail)
    go_wp2_with fail
    go_roundw
    case rel => exact ⟨u + 1, by omega, by go_num, hid (HF2.out _)⟩
    case measure => simp [intOf] <;> omega
   obtain rfl : u = kn := by omega
   clear hlt
   go_wp2_with fail
   try go_returns
   exact ⟨rfl, HFB.out.trans HF.out (by simp)⟩
end
end Go.Proofs.YtajfjkfnmmfhmaaGreatDoor
