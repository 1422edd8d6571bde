/- Records: split. Records: Decode. -/
import Derived.Test.YtajfjkfnmmfhmaaGreatDoorQwap
import Derived.Test.YtajfjkfnmmfhmaaGreatDoorQwaz
import Derived.Test.YtajfjkfnmmfhmaaGreatDoorQwbc
import Derived.DeepKeys
import Derived.Test.YtajfjkfnmmfhmaaGreatDoorQwaq
import Derived.Test.YtajfjkfnmmfhmaaGreatDoorQwbb
namespace Go.Proofs.YtajfjkfnmmfhmaaGreatDoor
section
open Go.RowKit Go.Lib
set_option maxRecDepth 100000
theorem lkT_some {k : Int} (h : 1 ≤ k ∧ k ≤ 7) : ∃ a b c d : FuncId, lkT k = some #[.func (.func a) #[] #[], .func (.func b) #[] #[], .func (.func c) #[] #[], .func (.func d) #[] #[]] := by
  have h7 : k = 1 ∨ k = 2 ∨ k = 3 ∨ k = 4 ∨ k = 5 ∨ k = 6 ∨ k = 7 := by omega
  rcases h7 with rfl | rfl | rfl | rfl | rfl | rfl | rfl <;> exact ⟨_, _, _, _, rfl⟩
theorem lkT_none {k : Int} (h : ¬ (1 ≤ k ∧ k ≤ 7)) : lkT k = none := by
  unfold lkT
  rw [if_neg (by omega), if_neg (by omega), if_neg (by omega), if_neg (by omega), if_neg (by omega), if_neg (by omega), if_neg (by omega)]
/-- The kind and the length that a head says. -/
def spK (bs : List Int) : Int := (nuS (bs.take 5) (0, 0) 1).1
def spM (bs : List Int) : Int := (nuS (bs.take 5) (nuS (bs.take 5) (0, 0) 1).2 4).1
def spE (bs : List Int) : Int := if bs.length < 5 then 10 else if ¬ (1 ≤ spK bs ∧ spK bs ≤ 7) ∨ 2048 < spM bs then 200 else if (bs.length : Int) < 37 + spM bs then 10 else 0
theorem infoU8R : (Tryz.prog.info? 5).map (fun i => (i.zero, i.size, i.bytes)) = some (some (.int .u8 0), 1, 1) := by kernel_rfl
set_option maxHeartbeats 6400000 in
theorem split_any20 (p : Option Addr) (n c : Nat) (bs : List Int) (w : World) (hn : bs.length = n) (hnc : n ≤ c) (hnb : n ≤ 140737488355328) (hrd : Rd w p bs) (hb : ∀ z ∈ bs, 0 ≤ z ∧ z < 256) :
    Calls Tryz.prog 40 #[.slice p n c] w fun e w' => e = .returned (.tuple #[.int .i64 (if spE bs = 0 then spK bs else 0), .int .i64 (if spE bs = 0 then 5 + spM bs else 0), .int .i64 (spE bs)]) ∧ Frm [] w w' := by
  obtain ⟨PO, hPO⟩ : ∃ PO : Ending → World → Prop, (fun e w' => e = .returned (.tuple #[.int .i64 (if spE bs = 0 then spK bs else 0), .int .i64 (if spE bs = 0 then 5 + spM bs else 0), .int .i64 (spE bs)]) ∧ Frm [] w w') = PO := ⟨_, rfl⟩
  rw [hPO]
  have HPB : Hid (∀ E w', spE bs = E → E ≠ 0 → Frm [] w w' → PO (.returned (.tuple #[.int .i64 0, .int .i64 0, .int .i64 E])) w') := hid (fun E w' h1 h2 h3 => by rw [← hPO, h1, if_neg h2, if_neg h2]; exact ⟨rfl, h3⟩)
  have HPG : Hid (∀ K M w', spK bs = K → spM bs = M → spE bs = 0 → Frm [] w w' → PO (.returned (.tuple #[.int .i64 K, .int .i64 (5 + M), .int .i64 0])) w') := hid (fun K M w' h1 h2 h3 h4 => by rw [← hPO, h3, if_pos rfl, if_pos rfl, h1, h2]; exact ⟨rfl, h4⟩)
  have HRD := hid hrd
  have HB := hid hb
  have HLN := hid hn
  clear hPO hn hrd hb
  go_enter Tryz.func40, Tryz.ntmps40
  by_cases h5 : n < 5
  case pos =>
    have e5 : (n : Int) < 5 := by omega
    have HE := hid (HPB.out 10 w (by unfold spE; rw [if_pos (by rw [HLN.out]; exact h5)]) (by decide) (Frm.refl _ _))
    clear h5
    go_wp2_with fail
    first | go_returns | skip
    exact HE.out
  have e5 : ¬ (n : Int) < 5 := by omega
  have HE1 : Hid (¬ bs.length < 5) := hid (by rw [HLN.out]; exact h5)
  obtain ⟨g0, o0, rfl⟩ : ∃ g0 o0, p = some ⟨g0, o0, none⟩ := by
    rcases HRD.out with h | ⟨g, o, h, _⟩
    · have := HLN.out; rw [h] at this; simp at this; omega
    · exact ⟨g, o, h⟩
  have hsl1 := fun W => sl_h (P := Tryz.prog) Tryz.underlying24 infoU8R (some ⟨g0, o0, none⟩) n c 5 (by omega) W
  have hl5 : (bs.take 5).length = 5 := by rw [List.length_take, HLN.out]; omega
  have HB5 : Hid (∀ z ∈ bs.take 5, 0 ≤ z ∧ z < 256) := hid (fun z hz => HB.out z (List.mem_of_mem_take hz))
  have hnr := newReader_any (some ⟨g0, o0, none⟩) c (bs.take 5) w (HRD.out.take 5) (by omega)
  rw [hl5] at hnr
  have HNR := hid hnr
  clear hnr hl5
  go_wp2_with fail
  refine HNR.out.mono ?_
  rintro e w1 ⟨r1, g1, rfl, hr1, hf1, hnb1, hng1⟩
  have hr : FrR w w1 r1 g1 (bs.take 5) (0, 0) := ⟨hr1, hf1, hnb1, hng1⟩
  have HC1 := hid (nR_any w w1 r1 g1 (bs.take 5) HB5.out (0, 0) hr 1 (by omega) (by omega))
  have HSK : Hid (spK bs = (nuS (bs.take 5) (0, 0) 1).1) := hid rfl
  have HSM : Hid (spM bs = (nuS (bs.take 5) (nuS (bs.take 5) (0, 0) 1).2 4).1) := hid rfl
  have hbd1 := nuS_bd HB5.out (0, 0) 1 (by omega)
  obtain ⟨v1, hv1⟩ : ∃ v, nuS (bs.take 5) (0, 0) 1 = v := ⟨_, rfl⟩
  rw [hv1] at HC1 HSK HSM hbd1
  have hw1 : IntKind.i64.wrap v1.1 = v1.1 := by rw [IntKind.wrap_i64]; omega
  clear hr1 hf1 hnb1 hng1 hv1 HNR hr
  go_wp2_with fail
  refine HC1.out.mono ?_
  rintro e w2 ⟨rfl, hr2, _⟩
  have HR2 := hid hr2
  have HC2 := hid (nR_any w w2 r1 g1 (bs.take 5) HB5.out v1.2 hr2 4 (by omega) (by omega))
  have hbd2 := nuS_bd HB5.out v1.2 4 (by omega)
  obtain ⟨v2, hv2⟩ : ∃ v, nuS (bs.take 5) v1.2 4 = v := ⟨_, rfl⟩
  rw [hv2] at HC2 HSM hbd2
  have hw2 : IntKind.i64.wrap v2.1 = v2.1 := by rw [IntKind.wrap_i64]; omega
  clear hr2 hv2 HC1
  go_wp2_with fail
  refine HC2.out.mono ?_
  rintro e w3 ⟨rfl, hr3, _⟩
  have HF3 : Hid (Frm [] w w3) := hid hr3.2.1
  obtain ⟨KK, hKK⟩ : ∃ z, v1.1 = z := ⟨_, rfl⟩
  obtain ⟨MM, hMM⟩ : ∃ z, v2.1 = z := ⟨_, rfl⟩
  rw [hKK] at HSK hbd1 hw1 ⊢
  rw [hMM] at HSM hbd2 hw2 ⊢
  clear hr3 HC2 HR2 hKK hMM
  go_wp2_with fail
  refine (rows_any _).mono ?_
  rintro e w4 ⟨m, rfl, _, hmap, hf4⟩
  have HF4 : Hid (Frm [] w w4) := hid (HF3.out.trans hf4 (by simp))
  have hlk := run_lookR (P := Tryz.prog) (w := w4) 60 3 58 m 7 (rowsT 7) KK (.agg #[.nilFunc, .nilFunc, .nilFunc, .nilFunc]) Tryz.underlying60 Tryz.underlying3 (by kernel_rfl) hmap (rowsT_int 7)
  rw [lkT_of] at hlk
  clear hmap hf4 hw1 hw2
  by_cases hk : 1 ≤ KK ∧ KK ≤ 7
  case neg =>
    rw [lkT_none hk] at hlk
    have hlk2 : (Instr.lookup 60 (.map (some m)) (.int .i64 KK) true).run Tryz.prog w4 = .ok (.tuple #[.agg #[.nilFunc, .nilFunc, .nilFunc, .nilFunc], .bool false]) w4 := hlk
    have HE := hid (fun W hf => HPB.out 200 W (by unfold spE; rw [if_neg HE1.out, if_pos (Or.inl (by rw [HSK.out]; exact hk))]) (by decide) hf)
    clear hk hlk
    go_wp2_with fail
    first | go_returns | skip
    exact HE.out _ (HF4.out.alloc _)
  obtain ⟨fa, fb, fc, fd, hft⟩ := lkT_some hk
  rw [hft] at hlk
  have hlk2 : (Instr.lookup 60 (.map (some m)) (.int .i64 KK) true).run Tryz.prog w4 = .ok (.tuple #[.agg #[.func (.func fa) #[] #[], .func (.func fb) #[] #[], .func (.func fc) #[] #[], .func (.func fd) #[] #[]], .bool true]) w4 := hlk
  have HK := hid hk
  clear hlk hft
  by_cases hm : 2048 < MM
  case pos =>
    have HE := hid (fun W hf => HPB.out 200 W (by unfold spE; rw [if_neg HE1.out, if_pos (Or.inr (by rw [HSM.out]; exact hm))]) (by decide) hf)
    clear hk
    go_wp2_with fail
    first | go_returns | skip
    exact HE.out _ (HF4.out.alloc _)
  have HE2 : Hid (¬ (¬ (1 ≤ spK bs ∧ spK bs ≤ 7) ∨ 2048 < spM bs)) := hid (by rw [HSK.out, HSM.out]; omega)
  clear hk
  by_cases hs : (n : Int) < 37 + MM
  case pos =>
    have HE := hid (fun W hf => HPB.out 10 W (by unfold spE; rw [if_neg HE1.out, if_neg HE2.out, if_pos (by rw [HSM.out, HLN.out]; exact hs)]) (by decide) hf)
    have hs2 : (n : Int) < 5 + MM + 32 := by omega
    clear hs
    go_wp2_with fail
    first | go_returns | skip
    exact HE.out _ (HF4.out.alloc _)
  have HE := hid (fun W hf => HPG.out KK MM W HSK.out HSM.out (by unfold spE; rw [if_neg HE1.out, if_neg HE2.out, if_neg (by rw [HSM.out, HLN.out]; exact hs)]) hf)
  have hs2 : ¬ (n : Int) < 5 + MM + 32 := by omega
  clear hs
  go_wp2_with fail
  first | go_returns | skip
  exact HE.out _ (HF4.out.alloc _)
end
section
open Go.RowKit Go.Lib
set_option maxRecDepth 100000
instance : DecidableEq S4 := fun s t => decidable_of_iff (s.a = t.a ∧ s.b = t.b ∧ s.c = t.c ∧ s.d = t.d) (by
  obtain ⟨a0, a1, a2, a3⟩ := s
  obtain ⟨b0, b1, b2, b3⟩ := t
  simp)
theorem eqS (a0 a1 a2 a3 b0 b1 b2 b3 : Int) (d : Nat) (w : World) : (Op.equalIn (d + 3) 29 (.agg #[.int .u64 a0, .int .u64 a1, .int .u64 a2, .int .u64 a3]) (.agg #[.int .u64 b0, .int .u64 b1, .int .u64 b2, .int .u64 b3])).run Tryz.prog w = .ok (decide (a0 = b0 ∧ a1 = b1 ∧ a2 = b2 ∧ a3 = b3)) w := by
  have hS : Tryz.prog.underlying 29 = some (.struct (Tryz.prog.fieldsOf 29)) := by kernel_rfl
  have hp : Tryz.prog.stoodInHeld 29 = false := by kernel_rfl
  rw [show d + 3 = (d + 2) + 1 from rfl, run_equalIn_agg w (d + 2) _ _ _ hS hp]
  simp only [Program.fieldsOf, Tryz.underlying29]
  go_simp
  by_cases h0 : a0 = b0 <;> by_cases h1 : a1 = b1 <;> by_cases h2 : a2 = b2 <;> by_cases h3 : a3 = b3 <;> simp [h0, h1, h2, h3]
theorem neqS (s t : S4) (w : World) : (binOp .neq 29 (.agg #[.int .u64 s.a, .int .u64 s.b, .int .u64 s.c, .int .u64 s.d]) (.agg #[.int .u64 t.a, .int .u64 t.b, .int .u64 t.c, .int .u64 t.d])).run Tryz.prog w = .ok (.bool (!decide (s = t))) w := by
  rw [run_neq_struct, show (10000 : Nat) = 9997 + 3 from rfl, eqS]
  have e : (s.a = t.a ∧ s.b = t.b ∧ s.c = t.c ∧ s.d = t.d) ↔ s = t := by
    obtain ⟨a0, a1, a2, a3⟩ := s
    obtain ⟨b0, b1, b2, b3⟩ := t
    simp
  simp only [e]
  rfl
/-- Where head and body end; they; the body; the seal's bytes; the seal that they say. -/
def dcN (bs : List Int) : Nat := 5 + (spM bs).toNat
def dcH (bs : List Int) : List Int := bs.take (dcN bs)
def dcB (bs : List Int) : List Int := (bs.take (dcN bs)).drop 5
def dcT (bs : List Int) : List Int := (bs.drop (dcN bs)).take 32
def u1 (b : List Int) := nuS b (0, 0) 8
def u2 (b : List Int) := nuS b (u1 b).2 8
def u3 (b : List Int) := nuS b (u2 b).2 8
def u4 (b : List Int) := nuS b (u3 b).2 8
def dcS (bs : List Int) : S4 := ⟨(u1 (dcT bs)).1, (u2 (dcT bs)).1, (u3 (dcT bs)).1, (u4 (dcT bs)).1⟩
/-- What a body of a kind says. -/
def tvK (k : Int) (b : List Int) : TkV := if k = 1 then tvPk b else if k = 2 then tvBg b else if k = 3 then tvLv b else if k = 4 then tvNd b else if k = 5 then tvWr b else tvCn b
def TkV.rc (V : TkV) (k : Int) : Rc := ⟨k, V.c.name, V.c.typ, V.c.frm, V.c.guid, V.c.origin, V.c.snap, none, V.p.length, 0, V.c.obj, V.c.at_, V.c.many, none, V.k.length, 0, none, V.d.length, 0⟩
def okB (k : Int) (b : List Int) : Prop := doneS b.length (tvK k b).s.1 (tvK k b).s.2 = 0 ∧ RcMay ((tvK k b).rc k) (tvK k b).p (tvK k b).k (tvK k b).d
instance (k : Int) (b : List Int) : Decidable (okB k b) := by unfold okB; infer_instance
def dcE (a : S4) (bs : List Int) : Int := if spE bs ≠ 0 then spE bs else if sealR a (dcH bs) ≠ dcS bs then 201 else if ¬ okB (spK bs) (dcB bs) then 200 else 0
def Rc.z : Rc := ⟨0, ⟨#[]⟩, 0, 0, 0, 0, ⟨#[]⟩, none, 0, 0, 0, 0, 0, none, 0, 0, none, 0, 0⟩
/-- What Decode answers and leaves. -/
def DecP (w : World) (a : S4) (bs : List Int) (e : Ending) (w' : World) : Prop := Frm [] w w' ∧ ((dcE a bs ≠ 0 ∧ e = .returned (.tuple #[.agg Rc.z.arr, .int .i64 0, .agg S4.z.arr, .int .i64 (dcE a bs)])) ∨
  (dcE a bs = 0 ∧ ∃ r : Rc, e = .returned (.tuple #[.agg r.arr, .int .i64 (37 + spM bs), .agg (sealR a (dcH bs)).arr, .int .i64 0]) ∧ r.core = ((tvK (spK bs) (dcB bs)).rc (spK bs)).core ∧ RcOwn w' r (tvK (spK bs) (dcB bs)).p (tvK (spK bs) (dcB bs)).k (tvK (spK bs) (dcB bs)).d w.heap.size))
/-- Whether a record may be hangs on what it says alone. -/
theorem rcMay_core {r s : Rc} {P : List Pr} {K D : List Int} (hc : r.core = s.core) (h1 : r.pn = s.pn) (h2 : r.kn = s.kn) (h3 : r.dl = s.dl) : RcMay r P K D ↔ RcMay s P K D := by
  obtain ⟨kind, name, typ, frm, guid, origin, snap, pp, pn, pc, obj, at_, many, kp, kn, kc, dp, dl, dc⟩ := r
  obtain ⟨kind', name', typ', frm', guid', origin', snap', pp', pn', pc', obj', at', many', kp', kn', kc', dp', dl', dc'⟩ := s
  unfold Rc.core at hc
  simp only [Rc.mk.injEq] at hc h1 h2 h3
  obtain ⟨rfl, rfl, rfl, rfl, rfl, rfl, rfl, _, _, _, rfl, rfl, rfl, _⟩ := hc
  subst h1 h2 h3
  exact Iff.rfl
theorem part1R (g o c lo : Nat) (h : c ≠ lo) : partAt (some ⟨g, o, none⟩) c lo 1 = some ⟨g, o + lo, none⟩ := by
  unfold partAt
  rw [if_neg h]
  simp [Addr.add]
theorem spM_bd {bs : List Int} (hb : ∀ z ∈ bs, 0 ≤ z ∧ z < 256) : 0 ≤ spM bs := (nuS_bd (fun z hz => hb z (List.mem_of_mem_take hz)) _ 4 (by omega)).1
set_option maxHeartbeats 12800000 in
/-- Bytes whose head is no head, or that end too early. -/
theorem decode_short (p : Option Addr) (n c : Nat) (bs : List Int) (a : S4) (w : World) (hn : bs.length = n) (hnc : n ≤ c) (hnb : n ≤ 140737488355328) (hrd : Rd w p bs) (hb : ∀ z ∈ bs, 0 ≤ z ∧ z < 256) (hpr : Primes w) (hE : spE bs ≠ 0) :
    Calls Tryz.prog 22 #[.slice p n c, .agg a.arr] w (DecP w a bs) := by
  obtain ⟨PO, hPO⟩ : ∃ PO : Ending → World → Prop, DecP w a bs = PO := ⟨_, rfl⟩
  rw [hPO]
  have HPB : Hid (∀ E w', dcE a bs = E ∧ E ≠ 0 → Frm [] w w' → PO (.returned (.tuple #[.agg #[.int .i64 0, .string ⟨#[]⟩, .int .i64 0, .int .i64 0, .int .i64 0, .int .i64 0, .string ⟨#[]⟩, .slice none 0 0, .int .i64 0, .int .i64 0, .int .i64 0, .slice none 0 0, .slice none 0 0], .int .i64 0, .agg #[.int .u64 0, .int .u64 0, .int .u64 0, .int .u64 0], .int .i64 E])) w') := hid (fun E w' h1 h3 => by rw [← hPO]; exact ⟨h3, Or.inl ⟨by rw [h1.1]; exact h1.2, by rw [h1.1]; rfl⟩⟩)
  have HPG : Hid (∀ (r : Rc) w', dcE a bs = 0 → r.core = ((tvK (spK bs) (dcB bs)).rc (spK bs)).core → RcOwn w' r (tvK (spK bs) (dcB bs)).p (tvK (spK bs) (dcB bs)).k (tvK (spK bs) (dcB bs)).d w.heap.size → Frm [] w w' → PO (.returned (.tuple #[.agg r.arr, .int .i64 (37 + spM bs), .agg (sealR a (dcH bs)).arr, .int .i64 0])) w') := hid (fun r w' h1 h2 h3 h4 => by rw [← hPO]; exact ⟨h4, Or.inr ⟨h1, r, rfl, h2, h3⟩⟩)
  have HRD := hid hrd
  have HB := hid hb
  have HLN := hid hn
  have HPR := hid hpr
  have hrow := heap_alloc_new w (.cells a.arr 29)
  have hfa : Frm [] w (w.alloc (.cells a.arr 29)) := (Frm.refl _ _).alloc _
  obtain ⟨wa, hwa⟩ : ∃ z, w.alloc (.cells a.arr 29) = z := ⟨_, rfl⟩
  obtain ⟨ba, hba⟩ : ∃ z, w.heap.size = z := ⟨_, rfl⟩
  rw [hwa, hba] at hrow
  rw [hwa] at hfa
  have hrowr := heap_alloc_new wa (.cells #[.int .i64 0, .string ⟨#[]⟩, .int .i64 0, .int .i64 0, .int .i64 0, .int .i64 0, .string ⟨#[]⟩, .slice none 0 0, .int .i64 0, .int .i64 0, .int .i64 0, .slice none 0 0, .slice none 0 0] 26)
  have hfr : Frm [] wa (wa.alloc (.cells #[.int .i64 0, .string ⟨#[]⟩, .int .i64 0, .int .i64 0, .int .i64 0, .int .i64 0, .string ⟨#[]⟩, .slice none 0 0, .int .i64 0, .int .i64 0, .int .i64 0, .slice none 0 0, .slice none 0 0] 26)) := (Frm.refl _ _).alloc _
  obtain ⟨wr, hwr⟩ : ∃ z, wa.alloc (.cells #[.int .i64 0, .string ⟨#[]⟩, .int .i64 0, .int .i64 0, .int .i64 0, .int .i64 0, .string ⟨#[]⟩, .slice none 0 0, .int .i64 0, .int .i64 0, .int .i64 0, .slice none 0 0, .slice none 0 0] 26) = z := ⟨_, rfl⟩
  obtain ⟨br, hbr⟩ : ∃ z, wa.heap.size = z := ⟨_, rfl⟩
  rw [hwr, hbr] at hrowr
  rw [hwr] at hfr
  have hrows := heap_alloc_new wr (.cells #[.int .u64 0, .int .u64 0, .int .u64 0, .int .u64 0] 29)
  have hfs : Frm [] wr (wr.alloc (.cells #[.int .u64 0, .int .u64 0, .int .u64 0, .int .u64 0] 29)) := (Frm.refl _ _).alloc _
  have hbs : wr.heap.size = br + 1 := by rw [← hwr, ← hbr]; simp
  obtain ⟨ws, hws⟩ : ∃ z, wr.alloc (.cells #[.int .u64 0, .int .u64 0, .int .u64 0, .int .u64 0] 29) = z := ⟨_, rfl⟩
  rw [hws, hbs] at hrows
  rw [hws] at hfs
  have hb1 : ba + 1 = br := by rw [← hbr, ← hwa, ← hba]; simp
  have HBL : Hid (w.heap.size < br) := hid (by omega)
  have HB1 := hid hb1
  have HFR : Hid (Frm [] w ws) := hid ((hfa.trans hfr (by simp)).trans hfs (by simp))
  have HRA : Hid (∀ W, Frm [] ws W → W.heap[ba]? = some (.cells a.arr 29 (0, 0))) := hid (fun W hf => hf.heap (hfs.heap (hfr.heap hrow (by simp)) (by simp)) (by simp))
  have HRR : Hid (∀ W, Frm [] ws W → W.heap[br]? = some (.cells #[.int .i64 0, .string ⟨#[]⟩, .int .i64 0, .int .i64 0, .int .i64 0, .int .i64 0, .string ⟨#[]⟩, .slice none 0 0, .int .i64 0, .int .i64 0, .int .i64 0, .slice none 0 0, .slice none 0 0] 26 (0, 0))) := hid (fun W hf => hf.heap (hfs.heap hrowr (by simp)) (by simp))
  have HRS : Hid (∀ W, Frm [] ws W → W.heap[br + 1]? = some (.cells #[.int .u64 0, .int .u64 0, .int .u64 0, .int .u64 0] 29 (0, 0))) := hid (fun W hf => hf.heap hrows (by simp))
  have HSZ : Hid (br + 1 < ws.heap.size) := hid (lt_of_heap hrows)
  have HWA := hid hwa
  have HWR := hid hwr
  have HWS := hid hws
  have HBA := hid hba
  have HBR := hid hbr
  have HBS := hid hbs
  have HSP := hid (split_any20 p n c bs ws hn hnc hnb (hrd.kept HFR.out (by simp)) hb)
  have hbr13 : ∀ V, (Instr.build 26 #[]).run Tryz.prog V = .ok (.agg #[.int .i64 0, .string ⟨#[]⟩, .int .i64 0, .int .i64 0, .int .i64 0, .int .i64 0, .string ⟨#[]⟩, .slice none 0 0, .int .i64 0, .int .i64 0, .int .i64 0, .slice none 0 0, .slice none 0 0]) V := fun V => run_build V _ _ _ (by kernel_rfl)
  have hbr4 : ∀ V, (Instr.build 29 #[]).run Tryz.prog V = .ok (.agg #[.int .u64 0, .int .u64 0, .int .u64 0, .int .u64 0]) V := fun V => run_build V _ _ _ (by kernel_rfl)
  rw [if_neg hE, if_neg hE] at HSP
  have HDE : Hid (dcE a bs = spE bs) := hid (by unfold dcE; rw [if_pos hE])
  obtain ⟨E, hEE⟩ : ∃ z, spE bs = z := ⟨_, rfl⟩
  rw [hEE] at HSP HDE hE
  have HEN := hid hE
  have hbE : (E != 0) = true := by rw [bne_iff_ne]; exact hE
  clear hrow hfa hwa hba hrowr hfr hwr hbr hrows hfs hws hbs hb1 hPO hn hrd hb hpr hEE hE
  obtain ⟨s0, s1, s2, s3⟩ := a
  unfold S4.arr at HWA HRA
  simp only at HWA HRA
  unfold S4.arr
  simp only
  go_enter Tryz.func22, Tryz.ntmps22
  go_upto_region 1 with fail
  first | rw [HWA.out] | skip
  first | rw [HBA.out] | skip
  first | rw [HBR.out] | skip
  first | rw [HB1.out] | skip
  first | rw [HWR.out] | skip
  first | rw [HBS.out] | skip
  first | rw [HWS.out] | skip
  go_wp2_with fail
  refine HSP.out.mono ?_
  rintro e w1 ⟨rfl, hf1⟩
  have HF1 := hid hf1
  clear hf1 HSP
  have hrr := HRR.out w1 HF1.out
  have hrs := HRS.out w1 HF1.out
  have z0 : w1.cell? ⟨br, 0, none⟩ = some (.int .i64 0) := by rw [cell_of_row _ _ _ _ _ _ hrr]; rfl
  have y0 := frozen_of_row w1 br 0 _ _ hrr
  have z1 : w1.cell? ⟨br, 1, none⟩ = some (.string ⟨#[]⟩) := by rw [cell_of_row _ _ _ _ _ _ hrr]; rfl
  have y1 := frozen_of_row w1 br 1 _ _ hrr
  have z2 : w1.cell? ⟨br, 2, none⟩ = some (.int .i64 0) := by rw [cell_of_row _ _ _ _ _ _ hrr]; rfl
  have y2 := frozen_of_row w1 br 2 _ _ hrr
  have z3 : w1.cell? ⟨br, 3, none⟩ = some (.int .i64 0) := by rw [cell_of_row _ _ _ _ _ _ hrr]; rfl
  have y3 := frozen_of_row w1 br 3 _ _ hrr
  have z4 : w1.cell? ⟨br, 4, none⟩ = some (.int .i64 0) := by rw [cell_of_row _ _ _ _ _ _ hrr]; rfl
  have y4 := frozen_of_row w1 br 4 _ _ hrr
  have z5 : w1.cell? ⟨br, 5, none⟩ = some (.int .i64 0) := by rw [cell_of_row _ _ _ _ _ _ hrr]; rfl
  have y5 := frozen_of_row w1 br 5 _ _ hrr
  have z6 : w1.cell? ⟨br, 6, none⟩ = some (.string ⟨#[]⟩) := by rw [cell_of_row _ _ _ _ _ _ hrr]; rfl
  have y6 := frozen_of_row w1 br 6 _ _ hrr
  have z7 : w1.cell? ⟨br, 7, none⟩ = some (.slice none 0 0) := by rw [cell_of_row _ _ _ _ _ _ hrr]; rfl
  have y7 := frozen_of_row w1 br 7 _ _ hrr
  have z8 : w1.cell? ⟨br, 8, none⟩ = some (.int .i64 0) := by rw [cell_of_row _ _ _ _ _ _ hrr]; rfl
  have y8 := frozen_of_row w1 br 8 _ _ hrr
  have z9 : w1.cell? ⟨br, 9, none⟩ = some (.int .i64 0) := by rw [cell_of_row _ _ _ _ _ _ hrr]; rfl
  have y9 := frozen_of_row w1 br 9 _ _ hrr
  have z10 : w1.cell? ⟨br, 10, none⟩ = some (.int .i64 0) := by rw [cell_of_row _ _ _ _ _ _ hrr]; rfl
  have y10 := frozen_of_row w1 br 10 _ _ hrr
  have z11 : w1.cell? ⟨br, 11, none⟩ = some (.slice none 0 0) := by rw [cell_of_row _ _ _ _ _ _ hrr]; rfl
  have y11 := frozen_of_row w1 br 11 _ _ hrr
  have z12 : w1.cell? ⟨br, 12, none⟩ = some (.slice none 0 0) := by rw [cell_of_row _ _ _ _ _ _ hrr]; rfl
  have y12 := frozen_of_row w1 br 12 _ _ hrr
  have n0 : w1.cell? ⟨br + 1, 0, none⟩ = some (.int .u64 0) := by rw [cell_of_row _ _ _ _ _ _ hrs]; rfl
  have m0 := frozen_of_row w1 (br + 1) 0 _ _ hrs
  have n1 : w1.cell? ⟨br + 1, 1, none⟩ = some (.int .u64 0) := by rw [cell_of_row _ _ _ _ _ _ hrs]; rfl
  have m1 := frozen_of_row w1 (br + 1) 1 _ _ hrs
  have n2 : w1.cell? ⟨br + 1, 2, none⟩ = some (.int .u64 0) := by rw [cell_of_row _ _ _ _ _ _ hrs]; rfl
  have m2 := frozen_of_row w1 (br + 1) 2 _ _ hrs
  have n3 : w1.cell? ⟨br + 1, 3, none⟩ = some (.int .u64 0) := by rw [cell_of_row _ _ _ _ _ _ hrs]; rfl
  have m3 := frozen_of_row w1 (br + 1) 3 _ _ hrs
  go_wp2_with fail
  obtain ⟨h5, f5⟩ := sets_rowF br 26 [(0, .int .i64 0), (1, .string ⟨#[]⟩), (2, .int .i64 0), (3, .int .i64 0), (4, .int .i64 0), (5, .int .i64 0), (6, .string ⟨#[]⟩), (7, .slice none 0 0), (8, .int .i64 0), (9, .int .i64 0), (10, .int .i64 0), (11, .slice none 0 0), (12, .slice none 0 0)] w1 _ hrr
  simp only [List.foldl, List.setIfInBounds_toArray, List.set_cons_zero, List.set_cons_succ] at h5
  obtain ⟨Wz, hWz⟩ : ∃ z, setsF w1 br [(0, .int .i64 0), (1, .string ⟨#[]⟩), (2, .int .i64 0), (3, .int .i64 0), (4, .int .i64 0), (5, .int .i64 0), (6, .string ⟨#[]⟩), (7, .slice none 0 0), (8, .int .i64 0), (9, .int .i64 0), (10, .int .i64 0), (11, .slice none 0 0), (12, .slice none 0 0)] = z := ⟨_, rfl⟩
  rw [hWz] at h5 f5
  have hwz : (((((((((((((w1.setCell ⟨br, 0, none⟩ (.int .i64 0)).setCell ⟨br, 1, none⟩ (.string ⟨#[]⟩)).setCell ⟨br, 2, none⟩ (.int .i64 0)).setCell ⟨br, 3, none⟩ (.int .i64 0)).setCell ⟨br, 4, none⟩ (.int .i64 0)).setCell ⟨br, 5, none⟩ (.int .i64 0)).setCell ⟨br, 6, none⟩ (.string ⟨#[]⟩)).setCell ⟨br, 7, none⟩ (.slice none 0 0)).setCell ⟨br, 8, none⟩ (.int .i64 0)).setCell ⟨br, 9, none⟩ (.int .i64 0)).setCell ⟨br, 10, none⟩ (.int .i64 0)).setCell ⟨br, 11, none⟩ (.slice none 0 0)).setCell ⟨br, 12, none⟩ (.slice none 0 0)) = Wz := hWz
  rw [hwz]
  have hrs2 := f5.heap hrs (by simp)
  obtain ⟨h6, f6⟩ := sets_rowF (br + 1) 29 [(0, .int .u64 0), (1, .int .u64 0), (2, .int .u64 0), (3, .int .u64 0)] Wz _ hrs2
  simp only [List.foldl, List.setIfInBounds_toArray, List.set_cons_zero, List.set_cons_succ] at h6
  obtain ⟨Wy, hWy⟩ : ∃ z, setsF Wz (br + 1) [(0, .int .u64 0), (1, .int .u64 0), (2, .int .u64 0), (3, .int .u64 0)] = z := ⟨_, rfl⟩
  rw [hWy] at h6 f6
  have hwy : ((((Wz.setCell ⟨br + 1, 0, none⟩ (.int .u64 0)).setCell ⟨br + 1, 1, none⟩ (.int .u64 0)).setCell ⟨br + 1, 2, none⟩ (.int .u64 0)).setCell ⟨br + 1, 3, none⟩ (.int .u64 0)) = Wy := hWy
  rw [hwy]
  have h7 := f6.heap h5 (by simp)
  have u0 : Wy.cell? ⟨br, 0, none⟩ = some (.int .i64 0) := by rw [cell_of_row _ _ _ _ _ _ h7]; rfl
  have u1 : Wy.cell? ⟨br, 1, none⟩ = some (.string ⟨#[]⟩) := by rw [cell_of_row _ _ _ _ _ _ h7]; rfl
  have u2 : Wy.cell? ⟨br, 2, none⟩ = some (.int .i64 0) := by rw [cell_of_row _ _ _ _ _ _ h7]; rfl
  have u3 : Wy.cell? ⟨br, 3, none⟩ = some (.int .i64 0) := by rw [cell_of_row _ _ _ _ _ _ h7]; rfl
  have u4 : Wy.cell? ⟨br, 4, none⟩ = some (.int .i64 0) := by rw [cell_of_row _ _ _ _ _ _ h7]; rfl
  have u5 : Wy.cell? ⟨br, 5, none⟩ = some (.int .i64 0) := by rw [cell_of_row _ _ _ _ _ _ h7]; rfl
  have u6 : Wy.cell? ⟨br, 6, none⟩ = some (.string ⟨#[]⟩) := by rw [cell_of_row _ _ _ _ _ _ h7]; rfl
  have u7 : Wy.cell? ⟨br, 7, none⟩ = some (.slice none 0 0) := by rw [cell_of_row _ _ _ _ _ _ h7]; rfl
  have u8 : Wy.cell? ⟨br, 8, none⟩ = some (.int .i64 0) := by rw [cell_of_row _ _ _ _ _ _ h7]; rfl
  have u9 : Wy.cell? ⟨br, 9, none⟩ = some (.int .i64 0) := by rw [cell_of_row _ _ _ _ _ _ h7]; rfl
  have u10 : Wy.cell? ⟨br, 10, none⟩ = some (.int .i64 0) := by rw [cell_of_row _ _ _ _ _ _ h7]; rfl
  have u11 : Wy.cell? ⟨br, 11, none⟩ = some (.slice none 0 0) := by rw [cell_of_row _ _ _ _ _ _ h7]; rfl
  have u12 : Wy.cell? ⟨br, 12, none⟩ = some (.slice none 0 0) := by rw [cell_of_row _ _ _ _ _ _ h7]; rfl
  have k0 : Wy.cell? ⟨br + 1, 0, none⟩ = some (.int .u64 0) := by rw [cell_of_row _ _ _ _ _ _ h6]; rfl
  have k1 : Wy.cell? ⟨br + 1, 1, none⟩ = some (.int .u64 0) := by rw [cell_of_row _ _ _ _ _ _ h6]; rfl
  have k2 : Wy.cell? ⟨br + 1, 2, none⟩ = some (.int .u64 0) := by rw [cell_of_row _ _ _ _ _ _ h6]; rfl
  have k3 : Wy.cell? ⟨br + 1, 3, none⟩ = some (.int .u64 0) := by rw [cell_of_row _ _ _ _ _ _ h6]; rfl
  refine bodyPost_ret (v := .tuple #[.agg #[.int .i64 0, .string ⟨#[]⟩, .int .i64 0, .int .i64 0, .int .i64 0, .int .i64 0, .string ⟨#[]⟩, .slice none 0 0, .int .i64 0, .int .i64 0, .int .i64 0, .slice none 0 0, .slice none 0 0], .int .i64 0, .agg #[.int .u64 0, .int .u64 0, .int .u64 0, .int .u64 0], .int .i64 E]) (by simp [results, Tryz.results22, go_sem, u0, u1, u2, u3, u4, u5, u6, u7, u8, u9, u10, u11, u12, k0, k1, k2, k3]) rfl ?_
  exact HPB.out _ _ ⟨HDE.out, HEN.out⟩ (((HFR.out.trans HF1.out (by simp)).trans f5 (fun i hi hl => by rw [List.mem_singleton] at hi; have := HBL.out; omega)).trans f6 (fun i hi hl => by rw [List.mem_singleton] at hi; have := HBL.out; omega))
end
end Go.Proofs.YtajfjkfnmmfhmaaGreatDoor
