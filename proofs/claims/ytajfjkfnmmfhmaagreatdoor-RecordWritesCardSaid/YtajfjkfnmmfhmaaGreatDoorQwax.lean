/- Records, the document's side: a head and a body, with their seal. -/
import Derived.Test.YtajfjkfnmmfhmaaGreatDoorQwav
import Derived.Test.YtajfjkfnmmfhmaaGreatDoorQwas
import Derived.Test.YtajfjkfnmmfhmaaGreatDoorQwai
import Derived.Test.YtajfjkfnmmfhmaaGreatDoorQwaw
namespace Go.Proofs.YtajfjkfnmmfhmaaGreatDoor
section
open Go.RowKit Go.Lib
set_option maxRecDepth 100000
theorem wp_appR {P : Program} {w : World} {o : Oper} {a : Act} {K : Act → World → Prop} {Q : Exit → Act → World → Prop} (hgd : o.guard = none) (sl x : Operand) (t : TypeId)
    (ho : o.op = .call { callee := .builtin .append, args := #[sl, x], argTypes := #[t, t] })
    (E : TypeId) (ht : P.underlying t = some (.slice E)) (hI : (P.info? E).map (fun i => (i.zero, i.size, i.bytes)) = some (some (.int .u8 0), 1, 1))
    (p0 : Option Addr) (n0 c0 : Nat) (zs : List Int) (hs : a.eval sl = .slice p0 n0 c0) (hn0 : n0 = zs.length) (hown : Own w E (.slice p0 zs.length c0) zs)
    (p : Option Addr) (n c : Nat) (ns : List Int) (hx : a.eval x = .slice p n c) (hn : n = ns.length) (hp : ns = [] → p = none → c = 0) (hrd : Rd w p ns) (hsz : zs.length + ns.length ≤ 140737488355328)
    (h : ∀ xs p2 c2 w', Hid (xs = zs ++ ns) → Hid (Own w' E (.slice p2 xs.length c2) xs) → Hid (Frm (blk p0) w w') → Hid (∀ k ∈ blk p2, k ∈ blk p0 ∨ w.heap.size ≤ k) → K (a.put o.dst (.slice p2 xs.length c2)) w') :
    Oper.wp P o a w K Q := by
  have h2 := step_appB (P := P) (ops := #[]) (Z := True) (Q := Q) hgd sl x t ho E ht hI p0 n0 c0 zs hs hn0 hown p n c ns hx hn hp hrd hsz h
  rwa [if_pos (by simp [Region.wanted, hgd])] at h2
/-- What Sealed answers and leaves. -/
def SldP (w : World) (k : Int) (zs : List Int) (a : S4) (e : Ending) (w' : World) : Prop := ∃ q d, e = .returned (.tuple #[.slice q (37 + zs.length) d, .agg (sealR a (hbL k zs)).arr]) ∧ BufF w none w' q (37 + zs.length) d (recL a k zs)
theorem le_one {k : Int} (h0 : 0 ≤ k) (h1 : k < 256) : le k 1 = [k] := by
  have := le_succ k 0
  simp [le] at this ⊢
  omega
set_option maxHeartbeats 6400000 in
theorem refSealed_any (k : Int) (hk0 : 0 ≤ k) (hk1 : k < 256) (p : Option Addr) (n c : Nat) (zs : List Int) (a : S4) (ha : a.Bd) (w : World) (hn : zs.length = n) (hpc : zs = [] → p = none → c = 0) (hnb : n ≤ 140737488351232) (hrd : Rd w p zs) (hb : ∀ z ∈ zs, 0 ≤ z ∧ z < 256) (hv : Vars w) :
    Calls Tryz.prog 16 #[.int .i64 k, .slice p n c, .agg a.arr] w (SldP w k zs a) := by
  obtain ⟨PO, hPO⟩ : ∃ PO : Ending → World → Prop, SldP w k zs a = PO := ⟨_, rfl⟩
  rw [hPO]
  have HP : Hid (∀ q d w', BufF w none w' q (37 + n) d (recL a k zs) → PO (.returned (.tuple #[.slice q (37 + n) d, .agg (sealR a (hbL k zs)).arr])) w') := hid (fun q d w' h => by rw [← hPO]; unfold SldP; rw [hn]; exact ⟨q, d, rfl, h⟩)
  have hrow := heap_alloc_new w (.cells a.arr 29)
  have hfa : Frm [] w (w.alloc (.cells a.arr 29)) := (Frm.refl _ _).alloc _
  obtain ⟨wa, hwa⟩ : ∃ z, w.alloc (.cells a.arr 29) = z := ⟨_, rfl⟩
  obtain ⟨ba, hba⟩ : ∃ z, w.heap.size = z := ⟨_, rfl⟩
  rw [hwa, hba] at hrow
  rw [hwa] at hfa
  have hrw2 := heap_alloc_new wa (.cells S4.z.arr 29)
  have hfr : Frm [] wa (wa.alloc (.cells S4.z.arr 29)) := (Frm.refl _ _).alloc _
  obtain ⟨wr, hwr⟩ : ∃ z, wa.alloc (.cells S4.z.arr 29) = z := ⟨_, rfl⟩
  obtain ⟨br, hbr⟩ : ∃ z, wa.heap.size = z := ⟨_, rfl⟩
  rw [hwr, hbr] at hrw2
  rw [hwr] at hfr
  have hrw3 := heap_alloc_new wr (.cells #[.int .u8 k] 5)
  have hfk : Frm [] wr (wr.alloc (.cells #[.int .u8 k] 5)) := (Frm.refl _ _).alloc _
  obtain ⟨wk, hwk⟩ : ∃ z, wr.alloc (.cells #[.int .u8 k] 5) = z := ⟨_, rfl⟩
  obtain ⟨bk, hbk⟩ : ∃ z, wr.heap.size = z := ⟨_, rfl⟩
  rw [hwk, hbk] at hrw3
  rw [hwk] at hfk
  have hb1 : ba + 1 = br := by rw [← hbr, ← hwa, ← hba]; simp
  have hb2 : br + 1 = bk := by rw [← hbk, ← hwr, ← hbr]; simp
  have HB1 := hid hb1
  have HB2 := hid hb2
  have HFW : Hid (Frm [] w wr) := hid (hfa.trans hfr (by simp))
  have HOK : Hid (BufF wr none wk (some ⟨bk, 0, none⟩) 1 1 [k]) := hid ⟨own_of_block (E := 5) (zs := [k]) hrw3 (by simp [maxLen]), rfl, hfk.mono (by simp), fun i hi => by simp [blk] at hi; subst hi; right; omega⟩
  have HRA : Hid (∀ V, Frm [] wr V → V.heap[ba]? = some (.cells a.arr 29 (0, 0))) := hid (fun V hf => hf.heap (hfr.heap hrow (by simp)) (by simp))
  have HRR : Hid (∀ V, Frm [] wr V → V.heap[br]? = some (.cells S4.z.arr 29 (0, 0))) := hid (fun V hf => hf.heap hrw2 (by simp))
  have HRD := hid (fun V (hf : Frm [] wr V) => hrd.kept (HFW.out.trans hf (by simp)) (by simp))
  have HVS := hid (fun V (hf : Frm [] wr V) => hv.kept (HFW.out.trans hf (by simp)))
  have HSA := hid (fun V => refSealBytes_any a ha V)
  have HN := hid hn
  have HPC := hid hpc
  have HZB := hid hb
  have HSB := hid (selL_bd a)
  have HWA := hid hwa
  have HWR := hid hwr
  have HWK := hid hwk
  have HBA := hid hba
  have HBR := hid hbr
  have HBK := hid hbk
  have HLK : Hid (le k 1 = [k]) := hid (le_one hk0 hk1)
  have HBR2 : Hid (w.heap.size ≤ br) := hid (by have := hfa.size; omega)
  have HBW : Hid (br < wr.heap.size) := hid (lt_of_heap (HRR.out wr (Frm.refl _ _)))
  clear hPO hrow hfa hwa hba hrw2 hfr hwr hbr hrw3 hfk hwk hbk hb1 hb2 ha hn hpc hrd hb hv
  obtain ⟨a0, a1, a2, a3⟩ := a
  unfold S4.arr at HWA HRA HSA ⊢
  unfold S4.z S4.arr at HWR HRR
  simp only at HWA HRA HSA HWR HRR ⊢
  go_enter Tryz.func16, Tryz.ntmps16
  go_upto_region 1 with fail
  first | rw [HWA.out] | skip
  first | rw [HBA.out] | skip
  first | rw [HB1.out] | skip
  first | rw [HWR.out] | skip
  first | rw [HBR.out] | skip
  have kw : IntKind.u8.wrap k = k := by rw [IntKind.wrap_u8]; omega
  have kw2 : k % 256 = k := by omega
  have HKW := hid kw
  have HKW2 := hid kw2
  go_upto_region 2 with fail
  first | rw [HKW2.out] | skip
  first | rw [HWK.out] | skip
  first | rw [HBK.out] | skip
  first | rw [HB2.out] | skip
  clear HWA HBA HWR HBR HWK HBK HB1 HB2 kw kw2
  have HC := hid (refNumF_any (some ⟨bk, 0, none⟩) 1 1 [k] (n : Int) 4 wk HOK.out.own rfl (by omega) (by omega) (by omega) (by omega))
  go_wp2_with fail
  refine HC.out.mono ?_
  rintro e w2 ⟨p2, c2, rfl, hb⟩
  have HB2 := hid (HOK.out.trans hb)
  obtain ⟨z2, hz2⟩ : ∃ z, [k] ++ le (n : Int) 4 = z := ⟨_, rfl⟩
  rw [hz2] at HB2
  have HZ2 := hid hz2
  obtain ⟨n2, hn2⟩ : ∃ z, 1 + 4 = z := ⟨_, rfl⟩
  rw [hn2] at HB2
  rw [hn2]
  have hn2b : n2 = 5 := hn2.symm
  have HN2 := hid hn2b
  clear hb hz2 hn2 hn2b HC
  have HR2 := hid (HRD.out w2 HB2.out.nil.1)
  go_wp2_with (at_builtin; refine wpList_appB rfl _ _ 24 rfl 5 Tryz.underlying24 infoE p2 n2 c2 z2 rfl HB2.out.len.symm (by rw [HB2.out.len]; exact HB2.out.own) p n c zs rfl HN.out.symm HPC.out HR2.out (by rw [HB2.out.len, HN.out, HN2.out]; omega) ?_)
  intro hb3 p3 c3 w3 hxs ho3 hf3 hfr3
  have HB3 := hid (HB2.out.trans (⟨ho3.out, rfl, hf3.out, hfr3.out⟩ : BufF w2 p2 w3 p3 hb3.length c3 hb3))
  have HE3 : Hid (hb3 = hbL k zs) := hid (by rw [hxs.out, ← HZ2.out, ← HLK.out]; unfold hbL; rw [HN.out])
  have hl3 : hb3.length = 5 + n := by rw [HE3.out, hbL_len, HN.out]
  have HL3 := hid hl3
  obtain ⟨n3, hn3⟩ : ∃ z, hb3.length = z := ⟨_, rfl⟩
  rw [hn3] at HB3
  rw [hn3]
  have hn3b : n3 ≤ 140737488351237 := by omega
  have HN3 := hid hn3
  clear hxs ho3 hf3 hfr3 hl3 hn3
  have y0 : w3.cell? ⟨ba, 0, none⟩ = some (.int .u64 a0) := by rw [cell_of_row _ _ _ _ _ _ (HRA.out w3 HB3.out.nil.1)]; rfl
  have y1 : w3.cell? ⟨ba, 1, none⟩ = some (.int .u64 a1) := by rw [cell_of_row _ _ _ _ _ _ (HRA.out w3 HB3.out.nil.1)]; rfl
  have y2 : w3.cell? ⟨ba, 2, none⟩ = some (.int .u64 a2) := by rw [cell_of_row _ _ _ _ _ _ (HRA.out w3 HB3.out.nil.1)]; rfl
  have y3 : w3.cell? ⟨ba, 3, none⟩ = some (.int .u64 a3) := by rw [cell_of_row _ _ _ _ _ _ (HRA.out w3 HB3.out.nil.1)]; rfl
  go_wp2_with fail
  refine (HSA.out w3).mono ?_
  rintro e w4 ⟨p4, c4, rfl, hb⟩
  have HB4 := hid hb
  have HB34 := hid (HB3.out.post hb.nil.1)
  obtain ⟨z4, hz4⟩ : ∃ z, selL ⟨a0, a1, a2, a3⟩ = z := ⟨_, rfl⟩
  rw [hz4] at HB4
  have HZ4 := hid hz4
  clear hb y0 y1 y2 y3 hz4 HSA
  go_wp2_with (at_builtin; refine wpList_appB rfl _ _ 24 rfl 5 Tryz.underlying24 infoE p4 32 c4 z4 rfl HB4.out.len.symm (by rw [HB4.out.len]; exact HB4.out.own) p3 n3 c3 hb3 rfl HN3.out.symm (fun h _ => by have := HL3.out; rw [h] at this; simp at this; omega) HB34.out.own.rd (by rw [HB4.out.len, HN3.out]; omega) ?_)
  intro al p5 c5 w5 hxs ho5 hf5 hfr5
  have HB5 := hid (HB4.out.trans (⟨ho5.out, rfl, hf5.out, hfr5.out⟩ : BufF w4 p4 w5 p5 al.length c5 al))
  have HEA : Hid (al = selL ⟨a0, a1, a2, a3⟩ ++ hbL k zs) := hid (by rw [hxs.out, HE3.out, HZ4.out])
  have HO35 : Hid (Own w5 5 (.slice p3 n3 c3) hb3) := hid (HB34.out.own.kept hf5.out (by
    intro i hi hi4
    rw [own_blk] at hi
    have h1 := HB4.out.nil.2 i hi4
    have h2 := HB3.out.own.lows i hi
    omega))
  have HF5 : Hid (Frm [] wr w5) := hid (HB3.out.nil.1.trans HB5.out.nil.1 (by simp))
  have hla : al.length = 37 + n := by rw [HEA.out, List.length_append, selL_len, hbL_len, HN.out]; omega
  have HLA := hid hla
  clear hxs ho5 hf5 hfr5 hla
  have hof := refOf_any 2 p5 al.length c5 al w5 rfl (fun h _ => by have := HLA.out; rw [h] at this; simp at this; omega) (by rw [HLA.out]; omega) HB5.out.own.rd (fun z hz => by
    rw [HEA.out] at hz
    rcases List.mem_append.1 hz with h | h
    · exact HSB.out z h
    · exact hbL_bd HZB.out z h) (HVS.out w5 HF5.out)
  have hsr : (ofS 2 al).1 = sealR ⟨a0, a1, a2, a3⟩ (hbL k zs) := by
    unfold ofS sealR
    rw [if_neg (by omega), if_pos rfl, HEA.out]
  rw [hsr] at hof
  have hsb := shaD_Bd (selL ⟨a0, a1, a2, a3⟩ ++ hbL k zs)
  have HREC : Hid (recL ⟨a0, a1, a2, a3⟩ k zs = hbL k zs ++ selL (sealR ⟨a0, a1, a2, a3⟩ (hbL k zs))) := hid rfl
  have hsd : (sealR ⟨a0, a1, a2, a3⟩ (hbL k zs)).Bd := hsb
  obtain ⟨T, hT⟩ : ∃ z, sealR ⟨a0, a1, a2, a3⟩ (hbL k zs) = z := ⟨_, rfl⟩
  rw [hT] at hof hsd HREC HP
  obtain ⟨t0, t1, t2, t3⟩ := T
  have HSL := hid (fun V => refSealBytes_any ⟨t0, t1, t2, t3⟩ hsd V)
  unfold S4.arr at hof HP HSL
  simp only at hof HP HSL
  have HOF := hid hof
  clear hof hsr hsb hsd hT
  go_wp2_with fail
  refine HOF.out.mono ?_
  rintro e w6 ⟨rfl, hf6⟩
  have hrw := heap_alloc_new w6 (.cells #[.int .u64 t0, .int .u64 t1, .int .u64 t2, .int .u64 t3] 29)
  have hf7 : Frm [] w6 (w6.alloc (.cells #[.int .u64 t0, .int .u64 t1, .int .u64 t2, .int .u64 t3] 29)) := (Frm.refl _ _).alloc _
  obtain ⟨wo, hwo⟩ : ∃ z, w6.alloc (.cells #[.int .u64 t0, .int .u64 t1, .int .u64 t2, .int .u64 t3] 29) = z := ⟨_, rfl⟩
  obtain ⟨bo, hbo⟩ : ∃ z, w6.heap.size = z := ⟨_, rfl⟩
  rw [hwo, hbo] at hrw
  rw [hwo] at hf7
  have HF5O : Hid (Frm [] w5 wo) := hid (hf6.trans hf7 (by simp))
  have HFO : Hid (Frm [] wr wo) := hid (HF5.out.trans HF5O.out (by simp))
  have HROW : Hid (∀ V, Frm [] wo V → V.heap[bo]? = some (.cells #[.int .u64 t0, .int .u64 t1, .int .u64 t2, .int .u64 t3] 29 (0, 0))) := hid (fun V hf => hf.heap hrw (by simp))
  have HCQ : Hid (∀ V, Frm [] wo V → V.cell? ⟨bo, 0, none⟩ = some (.int .u64 t0) ∧ V.cell? ⟨bo, 1, none⟩ = some (.int .u64 t1) ∧ V.cell? ⟨bo, 2, none⟩ = some (.int .u64 t2) ∧ V.cell? ⟨bo, 3, none⟩ = some (.int .u64 t3)) := hid (fun V hf => by
    have h := HROW.out V hf
    refine ⟨?_, ?_, ?_, ?_⟩ <;> (rw [cell_of_row _ _ _ _ _ _ h]; rfl))
  have HO3 : Hid (∀ V, Frm [] wo V → Own V 5 (.slice p3 n3 c3) hb3) := hid (fun V hf => HO35.out.kept (HF5O.out.trans hf (by simp)) (by simp))
  have HBO : Hid (∀ k ∈ blk p3, ¬ k = bo) := hid (fun k hk he => by
    have h2 := HO35.out.lows k hk
    have h3 := hf6.size
    omega)
  have HCR : Hid (∀ V W, Frm [] wo V → Frm (blk p3) V W → W.cell? ⟨bo, 0, none⟩ = some (.int .u64 t0) ∧ W.cell? ⟨bo, 1, none⟩ = some (.int .u64 t1) ∧ W.cell? ⟨bo, 2, none⟩ = some (.int .u64 t2) ∧ W.cell? ⟨bo, 3, none⟩ = some (.int .u64 t3)) := hid (fun V W h1 h2 => by
    have h := h2.heap (HROW.out V h1) (fun hk => HBO.out bo hk rfl)
    refine ⟨?_, ?_, ?_, ?_⟩ <;> (rw [cell_of_row _ _ _ _ _ _ h]; rfl))
  have HWO := hid hwo
  have HBOQ := hid hbo
  clear hrw hf7 hwo hbo hf6
  go_upto_region 7 with fail
  first | rw [HBOQ.out] | skip
  first | rw [HWO.out] | skip
  have x0 := HCQ.out wo (Frm.refl _ _)
  clear x0
  refine wp_region_tail (S := fun W => (W.cell? ⟨bo, 0, none⟩ = some (.int .u64 t0) ∧ W.cell? ⟨bo, 1, none⟩ = some (.int .u64 t1) ∧ W.cell? ⟨bo, 2, none⟩ = some (.int .u64 t2) ∧ W.cell? ⟨bo, 3, none⟩ = some (.int .u64 t3))) 6 7 rfl (by kernel_rfl) (by kernel_rfl) ?_
  refine htk (i := 0) (v := ?_) (by kernel_rfl) rfl (fun _ _ _ h => h) (Or.inl ⟨by rfl, ?_⟩) (HCQ.out _ (Frm.refl [] wo).drew) ?_
  rotate_left 1
  · (intro W hSw; obtain ⟨q0, q1, q2, q3⟩ := hSw; (try simp only [lA, lZ]); go_simp; try with_reducible rfl)
  try simp only [lA, lZ, Act.put, lI, lW, lX]
  refine htk (i := 1) (v := ?_) (by kernel_rfl) rfl (fun _ _ _ h => h) (Or.inl ⟨by rfl, ?_⟩) (HCQ.out _ (Frm.refl [] wo).drew) ?_
  rotate_left 1
  · (intro W hSw; obtain ⟨q0, q1, q2, q3⟩ := hSw; (try simp only [lA, lS, lZ]); go_simp; try with_reducible rfl)
  try simp only [lA, lS, lZ, Act.put, lI, lW, lX]
  refine htk (i := 4) (v := ?_) (by kernel_rfl) rfl (fun _ _ _ h => h) (Or.inl ⟨by rfl, ?_⟩) (HCQ.out _ (Frm.refl [] wo).drew) ?_
  rotate_left 1
  · (intro W hSw; obtain ⟨q0, q1, q2, q3⟩ := hSw; (try simp only [lA, lS, lZ]); go_simp; try with_reducible rfl)
  try simp only [lA, lS, lZ, Act.put, lI, lW, lX]
  refine wpAnyHT_one (i := 2) rfl (by kernel_rfl) (by kernel_rfl) (fun K hK => ?_)
  try simp only [lA, lS, lZ]
  go_simp
  refine (HSL.out _).mono ?_
  rintro e w7 ⟨p7, c7, rfl, hb⟩
  have HB7 := hid hb
  have HF7 : Hid (Frm [] wo w7) := hid ((Frm.refl [] wo).drew.trans hb.nil.1 (by simp))
  clear hb
  refine hK _ _ (HCQ.out _ HF7.out) ?_
  clear hK K
  try simp only [lA, lS, lZ, Act.put, lI, lW, lX]
  refine wpAnyHT_one (i := 3) rfl (by kernel_rfl) (by kernel_rfl) (fun K hK => ?_)
  try simp only [lA, lS, lZ]
  rw [if_pos (by rfl)]
  apply wp_appR (sl := .tmp 32) (x := .tmp 34) (t := 24) (E := 5) (p0 := p3) (n0 := n3) (c0 := c3) (zs := hb3) (p := p7) (n := 32) (c := c7) (ns := selL ⟨t0, t1, t2, t3⟩)
  case hgd => exact rfl
  case ho => exact rfl
  case ht => exact Tryz.underlying24
  case hI => exact infoB
  case hs => exact rfl
  case hn0 => exact HB3.out.len.symm
  case hown => rw [HB3.out.len]; exact HO3.out w7 HF7.out
  case hx => exact rfl
  case hn => exact (selL_len _).symm
  case hp => exact (fun h _ => by have h2 := selL_len ⟨t0, t1, t2, t3⟩; rw [h] at h2; simp at h2)
  case hrd => exact HB7.out.own.rd
  case hsz => rw [HB3.out.len, selL_len]; omega
  intro xs p8 c8 w8 hxs ho8 hf8 hb8
  refine hK _ _ (HCR.out _ _ HF7.out hf8.out) ?_
  clear hK K
  try simp only [Act.put, lI, lW, lX]
  refine htk (i := 5) (v := ?_) (by kernel_rfl) rfl (fun _ _ _ h => h) (Or.inl ⟨by rfl, ?_⟩) (HCR.out _ _ HF7.out hf8.out) ?_
  rotate_left 1
  · (intro W hSw; obtain ⟨q0, q1, q2, q3⟩ := hSw; (try simp only [lA, lS, lZ]); go_simp; try with_reducible rfl)
  try simp only [lA, lS, lZ, Act.put, lI, lW, lX]
  refine wpAnyHT_end (by kernel_rfl) ?_
  simp only [List.drop_succ_cons, List.drop_zero]
  have HX8 : Hid (hb3 ++ selL ⟨t0, t1, t2, t3⟩ = recL ⟨a0, a1, a2, a3⟩ k zs) := hid (by rw [HREC.out, HE3.out])
  obtain rfl : xs = recL ⟨a0, a1, a2, a3⟩ k zs := by rw [hxs.out, HX8.out]
  have hlr : (recL ⟨a0, a1, a2, a3⟩ k zs).length = 37 + n := by rw [recL_len, HN.out]
  rw [hlr]
  have ho8x := ho8.out
  rw [hlr] at ho8x
  have HB3O : Hid (BufF wr none w7 p3 n3 c3 hb3) := hid (HB3.out.post ((HB5.out.nil.1.trans HF5O.out (by simp)).trans HF7.out (by simp)) |> fun _ => ⟨HO3.out w7 HF7.out, HB3.out.len, ((HFO.out.trans HF7.out (by simp)).mono (by simp)), HB3.out.bk⟩)
  have HB8 : Hid (BufF wr none w8 p8 (37 + n) c8 (recL ⟨a0, a1, a2, a3⟩ k zs)) := hid (HB3O.out.trans ⟨ho8x, hlr, hf8.out, hb8.out⟩)
  have hr8 := HRR.out w8 HB8.out.nil.1
  have y0 := frozen_of_row w8 br 0 _ _ hr8
  have y1 := frozen_of_row w8 br 1 _ _ hr8
  have y2 := frozen_of_row w8 br 2 _ _ hr8
  have y3 := frozen_of_row w8 br 3 _ _ hr8
  have v0 : w8.cell? ⟨br, 0, none⟩ = some (.int .u64 0) := by rw [cell_of_row _ _ _ _ _ _ hr8]; rfl
  have v1 : w8.cell? ⟨br, 1, none⟩ = some (.int .u64 0) := by rw [cell_of_row _ _ _ _ _ _ hr8]; rfl
  have v2 : w8.cell? ⟨br, 2, none⟩ = some (.int .u64 0) := by rw [cell_of_row _ _ _ _ _ _ hr8]; rfl
  have v3 : w8.cell? ⟨br, 3, none⟩ = some (.int .u64 0) := by rw [cell_of_row _ _ _ _ _ _ hr8]; rfl
  have HR8 := hid hr8
  clear hxs ho8 hf8 hb8 hlr ho8x hr8
  go_wp2_with fail
  obtain ⟨h4, f4⟩ := set4 (y0 := .int .u64 t0) (y1 := .int .u64 t1) (y2 := .int .u64 t2) (y3 := .int .u64 t3) HR8.out
  obtain ⟨Wz, hWz⟩ : ∃ z, ((((w8.setCell ⟨br, 0, none⟩ (.int .u64 t0)).setCell ⟨br, 1, none⟩ (.int .u64 t1)).setCell ⟨br, 2, none⟩ (.int .u64 t2)).setCell ⟨br, 3, none⟩ (.int .u64 t3)) = z := ⟨_, rfl⟩
  rw [hWz] at h4 f4
  rw [hWz]
  have u0 : Wz.cell? ⟨br, 0, none⟩ = some (.int .u64 t0) := by rw [cell_of_row _ _ _ _ _ _ h4]; rfl
  have u1 : Wz.cell? ⟨br, 1, none⟩ = some (.int .u64 t1) := by rw [cell_of_row _ _ _ _ _ _ h4]; rfl
  have u2 : Wz.cell? ⟨br, 2, none⟩ = some (.int .u64 t2) := by rw [cell_of_row _ _ _ _ _ _ h4]; rfl
  have u3 : Wz.cell? ⟨br, 3, none⟩ = some (.int .u64 t3) := by rw [cell_of_row _ _ _ _ _ _ h4]; rfl
  refine bodyPost_ret (v := .tuple #[.slice p8 (37 + n) c8, .agg #[.int .u64 t0, .int .u64 t1, .int .u64 t2, .int .u64 t3]]) (by simp [results, Tryz.results16, go_sem, u0, u1, u2, u3]) rfl ?_
  refine HP.out _ _ _ ⟨HB8.out.own.kept f4 (fun i hi he => ?_), HB8.out.len, ?_, ?_⟩
  · rw [own_blk] at hi
    rw [List.mem_singleton] at he
    have h1 := HB8.out.nil.2 i hi
    have h2 := HBW.out
    omega
  · have h1 : Frm [] w w8 := HFW.out.trans HB8.out.nil.1 (by simp)
    exact (h1.trans f4 (fun i hi hl => by rw [List.mem_singleton] at hi; have := HBR2.out; omega)).mono (by simp)
  · intro i hi
    have h1 := HB8.out.nil.2 i hi
    have h2 := HFW.out.size
    omega
end
end Go.Proofs.YtajfjkfnmmfhmaaGreatDoor
