/- Records: Decode. -/
import Derived.Test.YtajfjkfnmmfhmaaDoorQai
import Derived.Test.YtajfjkfnmmfhmaaDoorQan
import Derived.Test.YtajfjkfnmmfhmaaDoorQap
import Derived.DeepKeys
namespace Go.Proofs.YtajfjkfnmmfhmaaDoor
section
open Go.RowKit Go.Lib
set_option maxRecDepth 100000

instance : DecidableEq S4 := fun s t => decidable_of_iff (s.a = t.a ∧ s.b = t.b ∧ s.c = t.c ∧ s.d = t.d) (by
  obtain ⟨a0, a1, a2, a3⟩ := s
  obtain ⟨b0, b1, b2, b3⟩ := t
  simp)
theorem eqS (a0 a1 a2 a3 b0 b1 b2 b3 : Int) (d : Nat) (w : World) : (Op.equalIn (d + 3) 39 (.agg #[.int .u64 a0, .int .u64 a1, .int .u64 a2, .int .u64 a3]) (.agg #[.int .u64 b0, .int .u64 b1, .int .u64 b2, .int .u64 b3])).run Tryd.prog w = .ok (decide (a0 = b0 ∧ a1 = b1 ∧ a2 = b2 ∧ a3 = b3)) w := by
  have hS : Tryd.prog.underlying 39 = some (.struct (Tryd.prog.fieldsOf 39)) := by kernel_rfl
  have hp : Tryd.prog.stoodInHeld 39 = false := by kernel_rfl
  rw [show d + 3 = (d + 2) + 1 from rfl, run_equalIn_agg w (d + 2) _ _ _ hS hp]
  simp only [Program.fieldsOf, Tryd.underlying39]
  go_simp
  by_cases h0 : a0 = b0 <;> by_cases h1 : a1 = b1 <;> by_cases h2 : a2 = b2 <;> by_cases h3 : a3 = b3 <;> simp [h0, h1, h2, h3]
theorem neqS (s t : S4) (w : World) : (binOp .neq 39 (.agg #[.int .u64 s.a, .int .u64 s.b, .int .u64 s.c, .int .u64 s.d]) (.agg #[.int .u64 t.a, .int .u64 t.b, .int .u64 t.c, .int .u64 t.d])).run Tryd.prog w = .ok (.bool (!decide (s = t))) w := by
  rw [run_neq_struct, show (10000 : Nat) = 9997 + 3 from rfl, eqS]
  have e : (s.a = t.a ∧ s.b = t.b ∧ s.c = t.c ∧ s.d = t.d) ↔ s = t := by
    obtain ⟨a0, a1, a2, a3⟩ := s
    obtain ⟨b0, b1, b2, b3⟩ := t
    simp
  simp only [e]
  rfl
/-- Where head and body end; they; the body; the seal's bytes; the seal that they say. -/
def dcN (bs : List Int) : Nat := 5 + (spM bs).toNat
def dcH (bs : List Int) : List Int := bs.take (dcN bs)
def dcB (bs : List Int) : List Int := (bs.take (dcN bs)).drop 5
def dcT (bs : List Int) : List Int := (bs.drop (dcN bs)).take 32
def u1 (b : List Int) := nuS b (0, 0) 8
def u2 (b : List Int) := nuS b (u1 b).2 8
def u3 (b : List Int) := nuS b (u2 b).2 8
def u4 (b : List Int) := nuS b (u3 b).2 8
def dcS (bs : List Int) : S4 := ⟨(u1 (dcT bs)).1, (u2 (dcT bs)).1, (u3 (dcT bs)).1, (u4 (dcT bs)).1⟩
/-- What a body of a kind says. -/
def tvK (k : Int) (b : List Int) : TkV := if k = 1 then tvPk b else if k = 2 then tvBg b else if k = 3 then tvLv b else if k = 4 then tvNd b else if k = 5 then tvWr b else tvCn b
def TkV.rc (V : TkV) (k : Int) : Rc := ⟨k, V.c.name, V.c.typ, V.c.frm, V.c.guid, V.c.origin, V.c.snap, none, V.p.length, 0, V.c.obj, V.c.at_, V.c.many, none, V.k.length, 0, none, V.d.length, 0⟩
def okB (k : Int) (b : List Int) : Prop := doneS b.length (tvK k b).s.1 (tvK k b).s.2 = 0 ∧ RcMay ((tvK k b).rc k) (tvK k b).p (tvK k b).k (tvK k b).d
instance (k : Int) (b : List Int) : Decidable (okB k b) := by unfold okB; infer_instance
def dcE (a : S4) (bs : List Int) : Int := if spE bs ≠ 0 then spE bs else if sealR a (dcH bs) ≠ dcS bs then 201 else if ¬ okB (spK bs) (dcB bs) then 200 else 0
def Rc.z : Rc := ⟨0, ⟨#[]⟩, 0, 0, 0, 0, ⟨#[]⟩, none, 0, 0, 0, 0, 0, none, 0, 0, none, 0, 0⟩
/-- What Decode answers and leaves. -/
def DecP (w : World) (a : S4) (bs : List Int) (e : Ending) (w' : World) : Prop := Frm [] w w' ∧ ((dcE a bs ≠ 0 ∧ e = .returned (.tuple #[.agg Rc.z.arr, .int .i64 0, .agg S4.z.arr, .int .i64 (dcE a bs)])) ∨
  (dcE a bs = 0 ∧ ∃ r : Rc, e = .returned (.tuple #[.agg r.arr, .int .i64 (37 + spM bs), .agg (sealR a (dcH bs)).arr, .int .i64 0]) ∧ r.core = ((tvK (spK bs) (dcB bs)).rc (spK bs)).core ∧ RcOwn w' r (tvK (spK bs) (dcB bs)).p (tvK (spK bs) (dcB bs)).k (tvK (spK bs) (dcB bs)).d w.heap.size))
/-- Whether a record may be hangs on what it says alone. -/
theorem rcMay_core {r s : Rc} {P : List Pr} {K D : List Int} (hc : r.core = s.core) (h1 : r.pn = s.pn) (h2 : r.kn = s.kn) (h3 : r.dl = s.dl) : RcMay r P K D ↔ RcMay s P K D := by
  obtain ⟨kind, name, typ, frm, guid, origin, snap, pp, pn, pc, obj, at_, many, kp, kn, kc, dp, dl, dc⟩ := r
  obtain ⟨kind', name', typ', frm', guid', origin', snap', pp', pn', pc', obj', at', many', kp', kn', kc', dp', dl', dc'⟩ := s
  unfold Rc.core at hc
  simp only [Rc.mk.injEq] at hc h1 h2 h3
  obtain ⟨rfl, rfl, rfl, rfl, rfl, rfl, rfl, _, _, _, rfl, rfl, rfl, _⟩ := hc
  subst h1 h2 h3
  exact Iff.rfl
theorem part1R (g o c lo : Nat) (h : c ≠ lo) : partAt (some ⟨g, o, none⟩) c lo 1 = some ⟨g, o + lo, none⟩ := by
  unfold partAt
  rw [if_neg h]
  simp [Addr.add]
theorem spM_bd {bs : List Int} (hb : ∀ z ∈ bs, 0 ≤ z ∧ z < 256) : 0 ≤ spM bs := (nuS_bd (fun z hz => hb z (List.mem_of_mem_take hz)) _ 4 (by omega)).1
set_option maxHeartbeats 12800000 in
/-- Bytes whose head is no head, or that end too early. -/
theorem decode_short (p : Option Addr) (n c : Nat) (bs : List Int) (a : S4) (w : World) (hn : bs.length = n) (hnc : n ≤ c) (hnb : n ≤ 140737488355328) (hrd : Rd w p bs) (hb : ∀ z ∈ bs, 0 ≤ z ∧ z < 256) (hpr : Primes w) (hE : spE bs ≠ 0) :
    Calls Tryd.prog 11 #[.slice p n c, .agg a.arr] w (DecP w a bs) := by
  obtain ⟨PO, hPO⟩ : ∃ PO : Ending → World → Prop, DecP w a bs = PO := ⟨_, rfl⟩
  rw [hPO]
  have HPB : Hid (∀ E w', dcE a bs = E ∧ E ≠ 0 → Frm [] w w' → PO (.returned (.tuple #[.agg #[.int .i64 0, .string ⟨#[]⟩, .int .i64 0, .int .i64 0, .int .i64 0, .int .i64 0, .string ⟨#[]⟩, .slice none 0 0, .int .i64 0, .int .i64 0, .int .i64 0, .slice none 0 0, .slice none 0 0], .int .i64 0, .agg #[.int .u64 0, .int .u64 0, .int .u64 0, .int .u64 0], .int .i64 E])) w') := hid (fun E w' h1 h3 => by rw [← hPO]; exact ⟨h3, Or.inl ⟨by rw [h1.1]; exact h1.2, by rw [h1.1]; rfl⟩⟩)
  have HPG : Hid (∀ (r : Rc) w', dcE a bs = 0 → r.core = ((tvK (spK bs) (dcB bs)).rc (spK bs)).core → RcOwn w' r (tvK (spK bs) (dcB bs)).p (tvK (spK bs) (dcB bs)).k (tvK (spK bs) (dcB bs)).d w.heap.size → Frm [] w w' → PO (.returned (.tuple #[.agg r.arr, .int .i64 (37 + spM bs), .agg (sealR a (dcH bs)).arr, .int .i64 0])) w') := hid (fun r w' h1 h2 h3 h4 => by rw [← hPO]; exact ⟨h4, Or.inr ⟨h1, r, rfl, h2, h3⟩⟩)
  have HRD := hid hrd
  have HB := hid hb
  have HLN := hid hn
  have HPR := hid hpr
  have hrow := heap_alloc_new w (.cells a.arr 39)
  have hfa : Frm [] w (w.alloc (.cells a.arr 39)) := (Frm.refl _ _).alloc _
  obtain ⟨wa, hwa⟩ : ∃ z, w.alloc (.cells a.arr 39) = z := ⟨_, rfl⟩
  obtain ⟨ba, hba⟩ : ∃ z, w.heap.size = z := ⟨_, rfl⟩
  rw [hwa, hba] at hrow
  rw [hwa] at hfa
  have hrowr := heap_alloc_new wa (.cells #[.int .i64 0, .string ⟨#[]⟩, .int .i64 0, .int .i64 0, .int .i64 0, .int .i64 0, .string ⟨#[]⟩, .slice none 0 0, .int .i64 0, .int .i64 0, .int .i64 0, .slice none 0 0, .slice none 0 0] 30)
  have hfr : Frm [] wa (wa.alloc (.cells #[.int .i64 0, .string ⟨#[]⟩, .int .i64 0, .int .i64 0, .int .i64 0, .int .i64 0, .string ⟨#[]⟩, .slice none 0 0, .int .i64 0, .int .i64 0, .int .i64 0, .slice none 0 0, .slice none 0 0] 30)) := (Frm.refl _ _).alloc _
  obtain ⟨wr, hwr⟩ : ∃ z, wa.alloc (.cells #[.int .i64 0, .string ⟨#[]⟩, .int .i64 0, .int .i64 0, .int .i64 0, .int .i64 0, .string ⟨#[]⟩, .slice none 0 0, .int .i64 0, .int .i64 0, .int .i64 0, .slice none 0 0, .slice none 0 0] 30) = z := ⟨_, rfl⟩
  obtain ⟨br, hbr⟩ : ∃ z, wa.heap.size = z := ⟨_, rfl⟩
  rw [hwr, hbr] at hrowr
  rw [hwr] at hfr
  have hrows := heap_alloc_new wr (.cells #[.int .u64 0, .int .u64 0, .int .u64 0, .int .u64 0] 39)
  have hfs : Frm [] wr (wr.alloc (.cells #[.int .u64 0, .int .u64 0, .int .u64 0, .int .u64 0] 39)) := (Frm.refl _ _).alloc _
  have hbs : wr.heap.size = br + 1 := by rw [← hwr, ← hbr]; simp
  obtain ⟨ws, hws⟩ : ∃ z, wr.alloc (.cells #[.int .u64 0, .int .u64 0, .int .u64 0, .int .u64 0] 39) = z := ⟨_, rfl⟩
  rw [hws, hbs] at hrows
  rw [hws] at hfs
  have hb1 : ba + 1 = br := by rw [← hbr, ← hwa, ← hba]; simp
  have HBL : Hid (w.heap.size < br) := hid (by omega)
  have HB1 := hid hb1
  have HFR : Hid (Frm [] w ws) := hid ((hfa.trans hfr (by simp)).trans hfs (by simp))
  have HRA : Hid (∀ W, Frm [] ws W → W.heap[ba]? = some (.cells a.arr 39 (0, 0))) := hid (fun W hf => hf.heap (hfs.heap (hfr.heap hrow (by simp)) (by simp)) (by simp))
  have HRR : Hid (∀ W, Frm [] ws W → W.heap[br]? = some (.cells #[.int .i64 0, .string ⟨#[]⟩, .int .i64 0, .int .i64 0, .int .i64 0, .int .i64 0, .string ⟨#[]⟩, .slice none 0 0, .int .i64 0, .int .i64 0, .int .i64 0, .slice none 0 0, .slice none 0 0] 30 (0, 0))) := hid (fun W hf => hf.heap (hfs.heap hrowr (by simp)) (by simp))
  have HRS : Hid (∀ W, Frm [] ws W → W.heap[br + 1]? = some (.cells #[.int .u64 0, .int .u64 0, .int .u64 0, .int .u64 0] 39 (0, 0))) := hid (fun W hf => hf.heap hrows (by simp))
  have HSZ : Hid (br + 1 < ws.heap.size) := hid (lt_of_heap hrows)
  have HWA := hid hwa
  have HWR := hid hwr
  have HWS := hid hws
  have HBA := hid hba
  have HBR := hid hbr
  have HBS := hid hbs
  have HSP := hid (split_any20 p n c bs ws hn hnc hnb (hrd.kept HFR.out (by simp)) hb)
  have hbr13 : ∀ V, (Instr.build 30 #[]).run Tryd.prog V = .ok (.agg #[.int .i64 0, .string ⟨#[]⟩, .int .i64 0, .int .i64 0, .int .i64 0, .int .i64 0, .string ⟨#[]⟩, .slice none 0 0, .int .i64 0, .int .i64 0, .int .i64 0, .slice none 0 0, .slice none 0 0]) V := fun V => run_build V _ _ _ (by kernel_rfl)
  have hbr4 : ∀ V, (Instr.build 39 #[]).run Tryd.prog V = .ok (.agg #[.int .u64 0, .int .u64 0, .int .u64 0, .int .u64 0]) V := fun V => run_build V _ _ _ (by kernel_rfl)
  rw [if_neg hE, if_neg hE] at HSP
  have HDE : Hid (dcE a bs = spE bs) := hid (by unfold dcE; rw [if_pos hE])
  obtain ⟨E, hEE⟩ : ∃ z, spE bs = z := ⟨_, rfl⟩
  rw [hEE] at HSP HDE hE
  have HEN := hid hE
  have hbE : (E != 0) = true := by rw [bne_iff_ne]; exact hE
  clear hrow hfa hwa hba hrowr hfr hwr hbr hrows hfs hws hbs hb1 hPO hn hrd hb hpr hEE hE
  obtain ⟨s0, s1, s2, s3⟩ := a
  unfold S4.arr at HWA HRA
  simp only at HWA HRA
  unfold S4.arr
  simp only
  go_enter Tryd.func11, Tryd.ntmps11
  go_upto_region 1 with fail
  first | rw [HWA.out] | skip
  first | rw [HBA.out] | skip
  first | rw [HBR.out] | skip
  first | rw [HB1.out] | skip
  first | rw [HWR.out] | skip
  first | rw [HBS.out] | skip
  first | rw [HWS.out] | skip
  go_wp2_with fail
  refine HSP.out.mono ?_
  rintro e w1 ⟨rfl, hf1⟩
  have HF1 := hid hf1
  clear hf1 HSP
  have hrr := HRR.out w1 HF1.out
  have hrs := HRS.out w1 HF1.out
  have z0 : w1.cell? ⟨br, 0, none⟩ = some (.int .i64 0) := by rw [cell_of_row _ _ _ _ _ _ hrr]; rfl
  have y0 := frozen_of_row w1 br 0 _ _ hrr
  have z1 : w1.cell? ⟨br, 1, none⟩ = some (.string ⟨#[]⟩) := by rw [cell_of_row _ _ _ _ _ _ hrr]; rfl
  have y1 := frozen_of_row w1 br 1 _ _ hrr
  have z2 : w1.cell? ⟨br, 2, none⟩ = some (.int .i64 0) := by rw [cell_of_row _ _ _ _ _ _ hrr]; rfl
  have y2 := frozen_of_row w1 br 2 _ _ hrr
  have z3 : w1.cell? ⟨br, 3, none⟩ = some (.int .i64 0) := by rw [cell_of_row _ _ _ _ _ _ hrr]; rfl
  have y3 := frozen_of_row w1 br 3 _ _ hrr
  have z4 : w1.cell? ⟨br, 4, none⟩ = some (.int .i64 0) := by rw [cell_of_row _ _ _ _ _ _ hrr]; rfl
  have y4 := frozen_of_row w1 br 4 _ _ hrr
  have z5 : w1.cell? ⟨br, 5, none⟩ = some (.int .i64 0) := by rw [cell_of_row _ _ _ _ _ _ hrr]; rfl
  have y5 := frozen_of_row w1 br 5 _ _ hrr
  have z6 : w1.cell? ⟨br, 6, none⟩ = some (.string ⟨#[]⟩) := by rw [cell_of_row _ _ _ _ _ _ hrr]; rfl
  have y6 := frozen_of_row w1 br 6 _ _ hrr
  have z7 : w1.cell? ⟨br, 7, none⟩ = some (.slice none 0 0) := by rw [cell_of_row _ _ _ _ _ _ hrr]; rfl
  have y7 := frozen_of_row w1 br 7 _ _ hrr
  have z8 : w1.cell? ⟨br, 8, none⟩ = some (.int .i64 0) := by rw [cell_of_row _ _ _ _ _ _ hrr]; rfl
  have y8 := frozen_of_row w1 br 8 _ _ hrr
  have z9 : w1.cell? ⟨br, 9, none⟩ = some (.int .i64 0) := by rw [cell_of_row _ _ _ _ _ _ hrr]; rfl
  have y9 := frozen_of_row w1 br 9 _ _ hrr
  have z10 : w1.cell? ⟨br, 10, none⟩ = some (.int .i64 0) := by rw [cell_of_row _ _ _ _ _ _ hrr]; rfl
  have y10 := frozen_of_row w1 br 10 _ _ hrr
  have z11 : w1.cell? ⟨br, 11, none⟩ = some (.slice none 0 0) := by rw [cell_of_row _ _ _ _ _ _ hrr]; rfl
  have y11 := frozen_of_row w1 br 11 _ _ hrr
  have z12 : w1.cell? ⟨br, 12, none⟩ = some (.slice none 0 0) := by rw [cell_of_row _ _ _ _ _ _ hrr]; rfl
  have y12 := frozen_of_row w1 br 12 _ _ hrr
  have n0 : w1.cell? ⟨br + 1, 0, none⟩ = some (.int .u64 0) := by rw [cell_of_row _ _ _ _ _ _ hrs]; rfl
  have m0 := frozen_of_row w1 (br + 1) 0 _ _ hrs
  have n1 : w1.cell? ⟨br + 1, 1, none⟩ = some (.int .u64 0) := by rw [cell_of_row _ _ _ _ _ _ hrs]; rfl
  have m1 := frozen_of_row w1 (br + 1) 1 _ _ hrs
  have n2 : w1.cell? ⟨br + 1, 2, none⟩ = some (.int .u64 0) := by rw [cell_of_row _ _ _ _ _ _ hrs]; rfl
  have m2 := frozen_of_row w1 (br + 1) 2 _ _ hrs
  have n3 : w1.cell? ⟨br + 1, 3, none⟩ = some (.int .u64 0) := by rw [cell_of_row _ _ _ _ _ _ hrs]; rfl
  have m3 := frozen_of_row w1 (br + 1) 3 _ _ hrs
  go_wp2_with fail
  obtain ⟨h5, f5⟩ := sets_rowF br 30 [(0, .int .i64 0), (1, .string ⟨#[]⟩), (2, .int .i64 0), (3, .int .i64 0), (4, .int .i64 0), (5, .int .i64 0), (6, .string ⟨#[]⟩), (7, .slice none 0 0), (8, .int .i64 0), (9, .int .i64 0), (10, .int .i64 0), (11, .slice none 0 0), (12, .slice none 0 0)] w1 _ hrr
  simp only [List.foldl, List.setIfInBounds_toArray, List.set_cons_zero, List.set_cons_succ] at h5
  obtain ⟨Wz, hWz⟩ : ∃ z, setsF w1 br [(0, .int .i64 0), (1, .string ⟨#[]⟩), (2, .int .i64 0), (3, .int .i64 0), (4, .int .i64 0), (5, .int .i64 0), (6, .string ⟨#[]⟩), (7, .slice none 0 0), (8, .int .i64 0), (9, .int .i64 0), (10, .int .i64 0), (11, .slice none 0 0), (12, .slice none 0 0)] = z := ⟨_, rfl⟩
  rw [hWz] at h5 f5
  have hwz : (((((((((((((w1.setCell ⟨br, 0, none⟩ (.int .i64 0)).setCell ⟨br, 1, none⟩ (.string ⟨#[]⟩)).setCell ⟨br, 2, none⟩ (.int .i64 0)).setCell ⟨br, 3, none⟩ (.int .i64 0)).setCell ⟨br, 4, none⟩ (.int .i64 0)).setCell ⟨br, 5, none⟩ (.int .i64 0)).setCell ⟨br, 6, none⟩ (.string ⟨#[]⟩)).setCell ⟨br, 7, none⟩ (.slice none 0 0)).setCell ⟨br, 8, none⟩ (.int .i64 0)).setCell ⟨br, 9, none⟩ (.int .i64 0)).setCell ⟨br, 10, none⟩ (.int .i64 0)).setCell ⟨br, 11, none⟩ (.slice none 0 0)).setCell ⟨br, 12, none⟩ (.slice none 0 0)) = Wz := hWz
  rw [hwz]
  have hrs2 := f5.heap hrs (by simp)
  obtain ⟨h6, f6⟩ := sets_rowF (br + 1) 39 [(0, .int .u64 0), (1, .int .u64 0), (2, .int .u64 0), (3, .int .u64 0)] Wz _ hrs2
  simp only [List.foldl, List.setIfInBounds_toArray, List.set_cons_zero, List.set_cons_succ] at h6
  obtain ⟨Wy, hWy⟩ : ∃ z, setsF Wz (br + 1) [(0, .int .u64 0), (1, .int .u64 0), (2, .int .u64 0), (3, .int .u64 0)] = z := ⟨_, rfl⟩
  rw [hWy] at h6 f6
  have hwy : ((((Wz.setCell ⟨br + 1, 0, none⟩ (.int .u64 0)).setCell ⟨br + 1, 1, none⟩ (.int .u64 0)).setCell ⟨br + 1, 2, none⟩ (.int .u64 0)).setCell ⟨br + 1, 3, none⟩ (.int .u64 0)) = Wy := hWy
  rw [hwy]
  have h7 := f6.heap h5 (by simp)
  have u0 : Wy.cell? ⟨br, 0, none⟩ = some (.int .i64 0) := by rw [cell_of_row _ _ _ _ _ _ h7]; rfl
  have u1 : Wy.cell? ⟨br, 1, none⟩ = some (.string ⟨#[]⟩) := by rw [cell_of_row _ _ _ _ _ _ h7]; rfl
  have u2 : Wy.cell? ⟨br, 2, none⟩ = some (.int .i64 0) := by rw [cell_of_row _ _ _ _ _ _ h7]; rfl
  have u3 : Wy.cell? ⟨br, 3, none⟩ = some (.int .i64 0) := by rw [cell_of_row _ _ _ _ _ _ h7]; rfl
  have u4 : Wy.cell? ⟨br, 4, none⟩ = some (.int .i64 0) := by rw [cell_of_row _ _ _ _ _ _ h7]; rfl
  have u5 : Wy.cell? ⟨br, 5, none⟩ = some (.int .i64 0) := by rw [cell_of_row _ _ _ _ _ _ h7]; rfl
  have u6 : Wy.cell? ⟨br, 6, none⟩ = some (.string ⟨#[]⟩) := by rw [cell_of_row _ _ _ _ _ _ h7]; rfl
  have u7 : Wy.cell? ⟨br, 7, none⟩ = some (.slice none 0 0) := by rw [cell_of_row _ _ _ _ _ _ h7]; rfl
  have u8 : Wy.cell? ⟨br, 8, none⟩ = some (.int .i64 0) := by rw [cell_of_row _ _ _ _ _ _ h7]; rfl
  have u9 : Wy.cell? ⟨br, 9, none⟩ = some (.int .i64 0) := by rw [cell_of_row _ _ _ _ _ _ h7]; rfl
  have u10 : Wy.cell? ⟨br, 10, none⟩ = some (.int .i64 0) := by rw [cell_of_row _ _ _ _ _ _ h7]; rfl
  have u11 : Wy.cell? ⟨br, 11, none⟩ = some (.slice none 0 0) := by rw [cell_of_row _ _ _ _ _ _ h7]; rfl
  have u12 : Wy.cell? ⟨br, 12, none⟩ = some (.slice none 0 0) := by rw [cell_of_row _ _ _ _ _ _ h7]; rfl
  have k0 : Wy.cell? ⟨br + 1, 0, none⟩ = some (.int .u64 0) := by rw [cell_of_row _ _ _ _ _ _ h6]; rfl
  have k1 : Wy.cell? ⟨br + 1, 1, none⟩ = some (.int .u64 0) := by rw [cell_of_row _ _ _ _ _ _ h6]; rfl
  have k2 : Wy.cell? ⟨br + 1, 2, none⟩ = some (.int .u64 0) := by rw [cell_of_row _ _ _ _ _ _ h6]; rfl
  have k3 : Wy.cell? ⟨br + 1, 3, none⟩ = some (.int .u64 0) := by rw [cell_of_row _ _ _ _ _ _ h6]; rfl
  refine bodyPost_ret (v := .tuple #[.agg #[.int .i64 0, .string ⟨#[]⟩, .int .i64 0, .int .i64 0, .int .i64 0, .int .i64 0, .string ⟨#[]⟩, .slice none 0 0, .int .i64 0, .int .i64 0, .int .i64 0, .slice none 0 0, .slice none 0 0], .int .i64 0, .agg #[.int .u64 0, .int .u64 0, .int .u64 0, .int .u64 0], .int .i64 E]) (by simp [results, Tryd.results11, go_sem, u0, u1, u2, u3, u4, u5, u6, u7, u8, u9, u10, u11, u12, k0, k1, k2, k3]) rfl ?_
  exact HPB.out _ _ ⟨HDE.out, HEN.out⟩ (((HFR.out.trans HF1.out (by simp)).trans f5 (fun i hi hl => by rw [List.mem_singleton] at hi; have := HBL.out; omega)).trans f6 (fun i hi hl => by rw [List.mem_singleton] at hi; have := HBL.out; omega))
end
end Go.Proofs.YtajfjkfnmmfhmaaDoor
