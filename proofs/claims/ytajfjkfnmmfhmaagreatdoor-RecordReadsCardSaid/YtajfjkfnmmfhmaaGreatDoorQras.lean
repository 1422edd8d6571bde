/- Records: Records. -/
import Derived.Test.YtajfjkfnmmfhmaaGreatDoorQrae
import Derived.Test.YtajfjkfnmmfhmaaGreatDoorQrad
import Derived.Test.YtajfjkfnmmfhmaaGreatDoorQrag
import Derived.Test.YtajfjkfnmmfhmaaGreatDoorQrab
import Derived.Test.YtajfjkfnmmfhmaaGreatDoorQrac
import Derived.Test.YtajfjkfnmmfhmaaGreatDoorQraa
import Derived.Test.YtajfjkfnmmfhmaaGreatDoorQram
import Derived.Test.YtajfjkfnmmfhmaaGreatDoorQrah
import Derived.Test.YtajfjkfnmmfhmaaGreatDoorQrak
import Derived.Test.YtajfjkfnmmfhmaaGreatDoorQraj
import Derived.Test.YtajfjkfnmmfhmaaGreatDoorQran
import Derived.Test.YtajfjkfnmmfhmaaGreatDoorQraf
import Derived.MapKept
import Derived.Maps.Own
import Derived.Maps.OwnOps
import Derived.Deep.Cut
import Derived.Deep.DeepCutAuto
import Derived.Lib.Bytealg
import Derived.Deep.RegionHeld3
import Derived.Laws.EntriesVeiled
import Derived.DeepKeys
import Derived.Lib.Bytes
import Derived.Deep.QuietTactic
import Derived.BigQuiet
import Derived.Laws.OwnMore
import Derived.Test.YtajfjkfnmmfhmaaGreatDoorRows
import Derived.StillTailTactics
import Derived.BigRegion
import Derived.Lib.AppendZerosOnto
import Derived.Lib.Overlaps
import Derived.Deep.CutBlock
import Derived.Laws.BitsAllLaws
import Derived.Laws.MakeOwn
import Derived.OrdersHeld
import Derived.StillTail
import Derived.WalkKit
import Derived.WalkSpells
import Derived.WalkLawsBesides
import Derived.Handy
import Derived.Deep.OwnRows
import Derived.Laws.BytesArg
import Derived.Laws.CopyOwn
import Derived.Lib.AppendStr
import Derived.Test.YtajfjkfnmmfhmaaGreatDoorQrar
import Derived.LaidLaws
import Derived.Lib.LaidTab
import Derived.Test.YtajfjkfnmmfhmaaGreatDoorQrai
import Derived.LaidSub
namespace Go.Proofs.YtajfjkfnmmfhmaaGreatDoor
set_option maxRecDepth 100000
set_option maxHeartbeats 25600000
section
open Go.RowKit Go.Lib
theorem RcOwn.foot {w : World} {r : Rc} {P : List Pr} {K D : List Int} {lo : Nat} (h : RcOwn w r P K D lo) : ∃ B, RcA B r P K D ∧ ∀ k ∈ B, lo ≤ k ∧ k < w.heap.size := by
 refine ⟨blk r.pp ++ blk r.kp ++ blk r.dp, ⟨fun _ k hk => by simp [hk], fun _ k hk => by simp [hk], fun _ k hk => by simp [hk]⟩, fun k hk => ?_⟩
 rcases List.mem_append.1 hk with hk | hk
 ·rcases List.mem_append.1 hk with hk | hk
  ·exact ⟨h.pw k hk, ownsRow_low h.po k hk⟩
  ·exact ⟨h.kw k hk, ownsRow_low h.ko k hk⟩
 ·have e : ∀ dp : Option Addr, k ∈ blk dp → (Value.slice dp r.dl r.dc).ownBlock = some k := fun dp h => by cases dp <;> simp_all [blk, Value.ownBlock]
  exact ⟨h.dw k hk, (World.ownsRow.lt h.ow k (e _ hk)).2⟩
theorem dcE_len {a : S4} {bs : List Int} (h : dcE a bs = 0) : 37 + spM bs ≤ (bs.length : Int) ∧ spM bs ≤ 2048 := by
 have hE : spE bs = 0 := by
  unfold dcE at h
  split at h
  ·rename_i h1; exact absurd h h1
  ·rename_i h1; simpa using h1
 unfold spE at hE
 split at hE
 ·omega
 ·split at hE
  ·omega
  ·split at hE
   ·omega
   ·omega
end
section
open Go.RowKit Go.Lib
theorem bytesT_le (ls : List Int) (k : Int) : (bytesT ls k).1.length ≤ ls.length := by
 unfold bytesT
 split
 ·simp
 ·split
  ·simp
  ·simp only [List.length_take]; omega
theorem byS_le (bs : List Int) (s : Rst) (k : Int) : (byS bs s k).1.length ≤ bs.length := by
 have h := bytesT_le (bs.drop s.1) k
 rw [List.length_drop] at h
 unfold byS readS
 split
 ·simp
 ·split
  ·show (bytesT _ _).1.length ≤ _; omega
  ·show (bytesT _ _).1.length ≤ _; omega
theorem tvK_d (k : Int) (b : List Int) : (tvK k b).d.length ≤ b.length := by
 unfold tvK
 split
 ·exact Nat.zero_le _
 ·split
  ·exact Nat.zero_le _
  ·split
   ·exact Nat.zero_le _
   ·split
    ·exact Nat.zero_le _
    ·split
     ·exact byS_le _ _ _
     ·exact Nat.zero_le _
def duV (bs : List Int) : TkV := tvK (spK bs) (dcB bs)
def duC (a : S4) (bs : List Int) : Rc := if dcE a bs = 0 then ((duV bs).rc (spK bs)).core else Rc.z.core
def duP (a : S4) (bs : List Int) : List Pr := if dcE a bs = 0 then (duV bs).p else []
def duK (a : S4) (bs : List Int) : List Int := if dcE a bs = 0 then (duV bs).k else []
def duD (a : S4) (bs : List Int) : List Int := if dcE a bs = 0 then (duV bs).d else []
def duN (a : S4) (bs : List Int) : Int := if dcE a bs = 0 then 37 + spM bs else 0
def duT (a : S4) (bs : List Int) : S4 := if dcE a bs = 0 then sealR a (dcH bs) else S4.z
def DecU (w : World) (a : S4) (bs : List Int) (e : Ending) (w' : World) : Prop := ∃ r : Rc, e = .returned (.tuple #[.agg r.arr, .int .i64 (duN a bs), .agg (duT a bs).arr, .int .i64 (dcE a bs)]) ∧ r.core = duC a bs ∧ RcLn w' r (duP a bs) (duK a bs) (duD a bs) w.heap.size ∧ Frm [] w w'
theorem decU_of {w w' : World} {a : S4} {bs : List Int} {e : Ending} (h : DecP w a bs e w') : DecU w a bs e w' := by
 unfold DecU duC duP duK duD duN duT duV
 by_cases h0 : dcE a bs = 0
 ·obtain ⟨hf, r, rfl, hc, ho⟩ := DecP.good h h0
  simp only [if_pos h0]
  have h1 := (dcE_len h0).2
  have h2 : (dcB bs).length ≤ 2048 := by unfold dcB dcN; rw [List.length_drop, List.length_take]; omega
  have h3 := tvK_d (spK bs) (dcB bs)
  have h4 := ho.dl
  exact ⟨r, by rw [h0], hc, ho.ln (by omega), hf⟩
 ·obtain ⟨hf, rfl⟩ := DecP.bad h rfl h0
  simp only [if_neg h0]
  exact ⟨Rc.z, rfl, rfl, ⟨World.ownsRow_nil _ _ _ _, rfl, by simp [blk, Rc.z], World.ownsRow_nil _ _ _ _, rfl, by simp [blk, Rc.z], Own.nil _ _, rfl, by simp [blk, Rc.z], by simp, by simp [Rc.z]⟩, hf⟩
theorem reads20_any (p : Option Addr) (n c : Nat) (bs : List Int) (a : S4) (ha : a.Bd) (w : World) (hn : bs.length = n) (hnc : n ≤ c) (hpc : bs = [] → p = Option.none → c = 0) (hnb : n ≤ 140737488355328) (hrd : Rd w p bs) (hb : ∀ z ∈ bs, 0 ≤ z ∧ z < 256) (hpr : Primes w) (hvs : Vars w) :
  Calls Tryz.prog 15 #[.slice p n c, .agg a.arr] w fun e w' => e = .returned (.bool true) ∧ Frm [] w w' := by
 obtain ⟨PO, hPO⟩ : ∃ PO : Ending → World → Prop, (fun e w' => e = .returned (.bool true) ∧ Frm [] w w') = PO := ⟨_, rfl⟩
 rw [hPO]
 have HP : Hid (∀ w', Frm [] w w' → PO (.returned (.bool true)) w') := hid (fun w' h => by rw [← hPO]; exact ⟨rfl, h⟩)
 have hrows := heap_alloc_new w (.cells a.arr 29)
 have hfs : Frm [] w (w.alloc (.cells a.arr 29)) := (Frm.refl _ _).alloc _
 obtain ⟨ws, hws⟩ := eX (w.alloc (.cells a.arr 29))
 obtain ⟨ba, hba⟩ := eX (w.heap.size)
 rw [hws, hba] at hrows
 rw [hws] at hfs
 have HFS := hid hfs
 have HRA : Hid (∀ V, Frm [] ws V → V.heap[ba]? = some (.cells a.arr 29 (0, 0))) := hid (fun V hf => hf.heap hrows (by simp))
 have HRD := hid (fun V (hf : Frm [] ws V) => hrd.kept (hfs.trans hf (by simp)) (by simp))
 have HPR := hid (fun V (hf : Frm [] ws V) => hpr.kept (hfs.trans hf (by simp)))
 have HVS := hid (fun V (hf : Frm [] ws V) => hvs.kept (hfs.trans hf (by simp)))
 have HD1 := hid (fun V (hf : Frm [] ws V) q (m d : Nat) (hm : bs.length = m) (hmd : m ≤ d) (hq : Rd V q bs) => (decodeR_any q m d bs a ha V hm hmd (by omega) hq hb (HPR.out V hf)).mono (fun e w' h => decU_of h))
 have HD2 := hid (fun V (hf : Frm [] ws V) => (refDecode_any p n c bs a V hn hnc hnb (HRD.out V hf) hb (HVS.out V hf) ha).mono (fun e w' h => decU_of h))
 unfold DecU at HD1 HD2
 have HN := hid hn
 have HPC := hid hpc
 have HWS := hid hws
 have HBA := hid hba
 obtain ⟨DC, hDC⟩ := eX (duC a bs)
 obtain ⟨DP, hDP⟩ := eX (duP a bs)
 obtain ⟨DK, hDK⟩ := eX (duK a bs)
 obtain ⟨DD, hDD⟩ := eX (duD a bs)
 obtain ⟨DN, hDN⟩ := eX (duN a bs)
 obtain ⟨T, hT⟩ := eX (duT a bs)
 obtain ⟨EV, hEV⟩ := eX (dcE a bs)
 rw [hDC, hDP, hDK, hDD, hDN, hT, hEV] at HD1 HD2
 have hba2 : w.heap.size ≤ ba := by omega
 clear hPO hrows hfs hws hba ha hn hpc hrd hb hpr hvs hDC hDP hDK hDD hDN hT hEV HPR HVS
 obtain ⟨s0, s1, s2, s3⟩ := a
 obtain ⟨t0, t1, t2, t3⟩ := T
 unfold S4.arr at HWS HRA HD1 HD2 ⊢
 simp only at HWS HRA HD1 HD2 ⊢
 have HSC : Hid (∀ V, Frm [] ws V → V.cell? ⟨ba, 0, none⟩ = some (.int .u64 s0) ∧ V.cell? ⟨ba, 1, none⟩ = some (.int .u64 s1) ∧ V.cell? ⟨ba, 2, none⟩ = some (.int .u64 s2) ∧ V.cell? ⟨ba, 3, none⟩ = some (.int .u64 s3)) := hid (fun V hf => by
  have h := HRA.out V hf
  refine ⟨?_, ?_, ?_, ?_⟩ <;> (rw [cell_of_row _ _ _ _ _ _ h]; rfl))
 clear HRA
 go_enter Tryz.func15, Tryz.ntmps15
 go_upto_region 1 with fail
 try rw [HBA.out]
 try rw [HWS.out]
 clear HBA HWS
 go_wp2_with (at_builtin; refine wpList_appB rfl _ _ 24 rfl 5 Tryz.underlying24 infoB none 0 0 [] rfl rfl (Own.nil _ _) p n c bs rfl HN.out.symm HPC.out (HRD.out ws (Frm.refl _ _)) (by rw [HN.out]; simp; omega) ?_)
 intro xs p2 c2 w2 hxs ho2 hf2 hb2
 obtain rfl : xs = bs := by simpa using hxs.out
 have hl2 : xs.length = n := HN.out
 rw [hl2]
 have ho := ho2.out
 rw [hl2] at ho
 have HOW := hid ho
 have HF2 : Hid (Frm [] ws w2) := hid (hf2.out.mono (by simp [blk]))
 have HNB : Hid (∀ k ∈ blk p2, ws.heap.size ≤ k) := hid (fun k hk => (hb2.out k hk).elim (fun h => by simp [blk] at h) (fun h => h))
 have hcap : n ≤ c2 := by
  obtain ⟨p', c', he, h9, _⟩ := ho.shape
  simp only [Value.slice.injEq] at he
  omega
 clear hxs ho2 hf2 hb2 hl2 ho
 obtain ⟨q0, q1, q2, q3⟩ := HSC.out w2 HF2.out
 go_wp2_with fail
 refine (HD1.out w2 HF2.out p2 n c2 HN.out hcap HOW.out.rd).mono ?_
 rintro e w3 ⟨r, rfl, hrc, hro, hf3⟩
 have HRC := hid hrc
 have HRO := hid hro
 have HF3 := hid hf3
 clear hrc hro hf3 q0 q1 q2 q3 HD1
 have HSR : Hid (∀ V, RcLn V r DP DK DD w2.heap.size → Calls Tryz.prog 12 #[.agg r.arr] V fun e w' => e = .returned (.tuple #[]) ∧ Frm r.B V w') := hid (fun V h => spoil20_any r V h.sp)
 have HBL : Hid (∀ i ∈ r.B, w2.heap.size ≤ i) := hid (fun i hi => by
  unfold Rc.B at hi
  simp only [List.mem_append] at hi
  rcases hi with hi | hi | hi
  ·exact HRO.out.pw i hi
  ·exact HRO.out.kw i hi
  ·exact HRO.out.dw i hi)
 have HBU3 : Hid (∀ i ∈ r.B, i < w3.heap.size) := hid HRO.out.sp.low
 obtain ⟨RB, hRB⟩ := eX (r.B)
 rw [hRB] at HSR HBL HBU3
 clear hRB
 obtain ⟨kind, name, typ, frm, guid, origin, snap, pp, pn, pc, obj, at_, many, kp, kn, kc, dp, dl, dc⟩ := r
 unfold Rc.arr at HSR ⊢
 simp only at HSR HRC HRO ⊢
 have hq6 := heap_alloc_new w3 (.cells #[.int .i64 kind, .string name, .int .i64 typ, .int .i64 frm, .int .i64 guid, .int .i64 origin, .string snap, .slice pp pn pc, .int .i64 obj, .int .i64 at_, .int .i64 many, .slice kp kn kc, .slice dp dl dc] 26)
 have hf6 : Frm [] w3 (w3.alloc (.cells #[.int .i64 kind, .string name, .int .i64 typ, .int .i64 frm, .int .i64 guid, .int .i64 origin, .string snap, .slice pp pn pc, .int .i64 obj, .int .i64 at_, .int .i64 many, .slice kp kn kc, .slice dp dl dc] 26)) := (Frm.refl _ _).alloc _
 obtain ⟨w6, hw6⟩ := eX (w3.alloc (.cells #[.int .i64 kind, .string name, .int .i64 typ, .int .i64 frm, .int .i64 guid, .int .i64 origin, .string snap, .slice pp pn pc, .int .i64 obj, .int .i64 at_, .int .i64 many, .slice kp kn kc, .slice dp dl dc] 26))
 obtain ⟨bx, hbx⟩ := eX (w3.heap.size)
 have hb1 : w6.heap.size = bx + 1 := by rw [← hw6, ← hbx]; simp
 rw [hw6, hbx] at hq6
 rw [hw6] at hf6
 have hq7 := heap_alloc_new w6 (.cells #[.int .u64 t0, .int .u64 t1, .int .u64 t2, .int .u64 t3] 29)
 have hf7 : Frm [] w6 (w6.alloc (.cells #[.int .u64 t0, .int .u64 t1, .int .u64 t2, .int .u64 t3] 29)) := (Frm.refl _ _).alloc _
 obtain ⟨w7, hw7⟩ := eX (w6.alloc (.cells #[.int .u64 t0, .int .u64 t1, .int .u64 t2, .int .u64 t3] 29))
 rw [hw7, hb1] at hq7
 rw [hw7] at hf7
 have HF37 : Hid (Frm [] w3 w7) := hid (hf6.trans hf7 (by simp))
 have HF27 : Hid (Frm [] w2 w7) := hid (HF3.out.trans HF37.out (by simp))
 have HQ6 : Hid (w7.heap[bx]? = some (.cells #[.int .i64 kind, .string name, .int .i64 typ, .int .i64 frm, .int .i64 guid, .int .i64 origin, .string snap, .slice pp pn pc, .int .i64 obj, .int .i64 at_, .int .i64 many, .slice kp kn kc, .slice dp dl dc] 26 (0, 0))) := hid (hf7.heap hq6 (by simp))
 have HQ7 : Hid (w7.heap[bx + 1]? = some (.cells #[.int .u64 t0, .int .u64 t1, .int .u64 t2, .int .u64 t3] 29 (0, 0))) := hid hq7
 have HBU : Hid (∀ i ∈ RB, i < bx) := hid (fun i hi => by have := HBU3.out i hi; omega)
 have HXL : Hid (w2.heap.size ≤ bx) := hid (by have := HF3.out.size; omega)
 have HOW7 := hid (HOW.out.kept HF27.out (by simp))
 have HPL : Hid (∀ k ∈ blk p2, k < w2.heap.size) := hid HOW.out.lows
 have hcv1 := cv_any (P := Tryz.prog) (w := w7) 24 5 9 Tryz.underlying24 Tryz.underlying5 Tryz.underlying9 (n := n) HOW7.out.rd c2 HN.out
 have hcv2 := cv_any (P := Tryz.prog) (w := w7) 24 5 9 Tryz.underlying24 Tryz.underlying5 Tryz.underlying9 (n := n) (HRD.out w7 (HF2.out.trans HF27.out (by simp))) c HN.out
 have HW6 := hid hw6
 have HW7 := hid hw7
 have HBX := hid hbx
 have HBX1 := hid hb1
 clear hq6 hf6 hw6 hbx hb1 hq7 hf7 hw7
 go_upto_region 4 with fail
 try rw [HBX.out]
 try rw [HW6.out]
 try rw [HBX1.out]
 try rw [HW7.out]
 clear HBX HW6 HBX1 HW7
 go_wp2_with fail
 clear hcv1 hcv2
 go_loopw [11] (fun i wr => ∃ t : Nat, t ≤ n ∧ i = .int .i64 (t : Int) ∧ Hid (∃ ys, ys.length = n ∧ Own wr 5 (.slice p2 n c2) ys) ∧ Hid (Frm (blk p2) w7 wr)) (fun i _ => n - (intOf i).toNat)
 case atStart => exact ⟨0, Nat.zero_le _, rfl, hid ⟨xs, HN.out, HOW7.out⟩, hid (Frm.refl _ _)⟩
 case round =>
  obtain ⟨t, ht, rfl, ho, hf⟩ := hrel
  have HOT := hid ho.out
  have HFT := hid hf.out
  clear ho hf
  by_cases hlt : t < n
  case pos =>
   have t1 : (t : Int) < (n : Int) := by omega
   obtain ⟨ys, hyl, hyo⟩ := HOT.out
   obtain ⟨g, rfl, hgl, z0, y0, hset⟩ := hyo.setAt hyl hlt
   have HSET := hid (hset 98)
   have HFG : Hid (Frm (blk (some (⟨g, 0, none⟩ : Addr))) wr (wr.setCell ⟨g, t, none⟩ (.int .u8 98))) := hid ((Frm.refl _ _).setCell _ _ (by simp [blk]))
   have HYL := hid hyl
   clear hset hyo hyl
   go_wp2_with fail
   go_roundw
   case rel => exact ⟨t + 1, by omega, by go_num, hid ⟨_, by rw [List.length_set]; exact HYL.out, HSET.out⟩, hid (HFT.out.trans HFG.out (fun i hi _ => hi))⟩
   case measure => simp [intOf] <;> omega
  obtain rfl : t = n := by omega
  clear hlt HOT
  have HFW : Hid (Frm [] ws wr) := hid ((HF2.out.trans HF27.out (by simp)).trans HFT.out (fun i hi hl => by have := HNB.out i hi; omega))
  have HRO8 : Hid (RcLn wr ⟨kind, name, typ, frm, guid, origin, snap, pp, pn, pc, obj, at_, many, kp, kn, kc, dp, dl, dc⟩ DP DK DD w2.heap.size) := hid ((HRO.out.k0 HF37.out).kept HFT.out (fun k hk he => by have h1 := HRO.out.pw k hk; have h2 := HPL.out k he; omega) (fun k hk he => by have h1 := HRO.out.kw k hk; have h2 := HPL.out k he; omega) (fun k hk he => by have h1 := HRO.out.dw k hk; have h2 := HPL.out k he; omega))
  have HX8 : Hid (∀ V, Frm [] wr V → V.heap[bx]? = some (.cells #[.int .i64 kind, .string name, .int .i64 typ, .int .i64 frm, .int .i64 guid, .int .i64 origin, .string snap, .slice pp pn pc, .int .i64 obj, .int .i64 at_, .int .i64 many, .slice kp kn kc, .slice dp dl dc] 26 (0, 0)) ∧ V.heap[bx + 1]? = some (.cells #[.int .u64 t0, .int .u64 t1, .int .u64 t2, .int .u64 t3] 29 (0, 0))) := hid (fun V hf => ⟨hf.heap (HFT.out.heap HQ6.out (fun he => by have h1 := HPL.out bx he; have h2 := HXL.out; omega)) (by simp), hf.heap (HFT.out.heap HQ7.out (fun he => by have h1 := HPL.out (bx + 1) he; have h2 := HXL.out; omega)) (by simp)⟩)
  clear HQ6 HQ7 HRO HOW7 HF37
  obtain ⟨q0, q1, q2, q3⟩ := HSC.out wr HFW.out
  go_wp2_with fail
  refine (HD2.out wr HFW.out).mono ?_
  rintro e w8 ⟨q, rfl, hqc, hqo, hf8⟩
  have HQC := hid hqc
  have HQO := hid hqo
  have HF8 := hid hf8
  clear hqc hqo hf8 q0 q1 q2 q3 HD2
  have HSQ : Hid (∀ V, RcOk V ⟨kind, name, typ, frm, guid, origin, snap, pp, pn, pc, obj, at_, many, kp, kn, kc, dp, dl, dc⟩ DP DK DD → RcOk V q DP DK DD → Calls Tryz.prog 11 #[.agg #[.int .i64 kind, .string name, .int .i64 typ, .int .i64 frm, .int .i64 guid, .int .i64 origin, .string snap, .slice pp pn pc, .int .i64 obj, .int .i64 at_, .int .i64 many, .slice kp kn kc, .slice dp dl dc], .agg q.arr] V fun e w' => e = .returned (.bool true) ∧ Frm [] V w') := hid (fun V h1 h2 => sameTrue_any ⟨kind, name, typ, frm, guid, origin, snap, pp, pn, pc, obj, at_, many, kp, kn, kc, dp, dl, dc⟩ q DP DK DD V h1 h2 (HRC.out.trans HQC.out.symm))
  obtain ⟨qkind, qname, qtyp, qfrm, qguid, qorigin, qsnap, qpp, qpn, qpc, qobj, qat_, qmany, qkp, qkn, qkc, qdp, qdl, qdc⟩ := q
  unfold Rc.arr at HSQ ⊢
  simp only at HSQ HQO ⊢
  have hq6 := heap_alloc_new w8 (.cells #[.int .i64 qkind, .string qname, .int .i64 qtyp, .int .i64 qfrm, .int .i64 qguid, .int .i64 qorigin, .string qsnap, .slice qpp qpn qpc, .int .i64 qobj, .int .i64 qat_, .int .i64 qmany, .slice qkp qkn qkc, .slice qdp qdl qdc] 26)
  have hf6 : Frm [] w8 (w8.alloc (.cells #[.int .i64 qkind, .string qname, .int .i64 qtyp, .int .i64 qfrm, .int .i64 qguid, .int .i64 qorigin, .string qsnap, .slice qpp qpn qpc, .int .i64 qobj, .int .i64 qat_, .int .i64 qmany, .slice qkp qkn qkc, .slice qdp qdl qdc] 26)) := (Frm.refl _ _).alloc _
  obtain ⟨w9, hw9⟩ := eX (w8.alloc (.cells #[.int .i64 qkind, .string qname, .int .i64 qtyp, .int .i64 qfrm, .int .i64 qguid, .int .i64 qorigin, .string qsnap, .slice qpp qpn qpc, .int .i64 qobj, .int .i64 qat_, .int .i64 qmany, .slice qkp qkn qkc, .slice qdp qdl qdc] 26))
  obtain ⟨by_, hby⟩ := eX (w8.heap.size)
  have hb1 : w9.heap.size = by_ + 1 := by rw [← hw9, ← hby]; simp
  rw [hw9, hby] at hq6
  rw [hw9] at hf6
  have hq7 := heap_alloc_new w9 (.cells #[.int .u64 t0, .int .u64 t1, .int .u64 t2, .int .u64 t3] 29)
  have hf7 : Frm [] w9 (w9.alloc (.cells #[.int .u64 t0, .int .u64 t1, .int .u64 t2, .int .u64 t3] 29)) := (Frm.refl _ _).alloc _
  obtain ⟨w10, hw10⟩ := eX (w9.alloc (.cells #[.int .u64 t0, .int .u64 t1, .int .u64 t2, .int .u64 t3] 29))
  rw [hw10, hb1] at hq7
  rw [hw10] at hf7
  have HF810 : Hid (Frm [] w8 w10) := hid (hf6.trans hf7 (by simp))
  have HFR10 : Hid (Frm [] wr w10) := hid (HF8.out.trans HF810.out (by simp))
  have HY : Hid (∀ V, Frm [] w10 V → V.heap[by_]? = some (.cells #[.int .i64 qkind, .string qname, .int .i64 qtyp, .int .i64 qfrm, .int .i64 qguid, .int .i64 qorigin, .string qsnap, .slice qpp qpn qpc, .int .i64 qobj, .int .i64 qat_, .int .i64 qmany, .slice qkp qkn qkc, .slice qdp qdl qdc] 26 (0, 0)) ∧ V.heap[by_ + 1]? = some (.cells #[.int .u64 t0, .int .u64 t1, .int .u64 t2, .int .u64 t3] 29 (0, 0))) := hid (fun V hf => ⟨hf.heap (hf7.heap hq6 (by simp)) (by simp), hf.heap hq7 (by simp)⟩)
  have HYL : Hid (wr.heap.size ≤ by_) := hid (by have := HF8.out.size; omega)
  have HW9 := hid hw9
  have HW10 := hid hw10
  have HBY := hid hby
  have HBY1 := hid hb1
  clear hq6 hf6 hw9 hby hb1 hq7 hf7 hw10
  go_upto_region 10 with fail
  try rw [HBY.out]
  try rw [HW9.out]
  try rw [HBY1.out]
  try rw [HW10.out]
  clear HBY HW9 HBY1 HW10
  obtain ⟨x0, x1, x2, x3, x4, x5, x6, x7, x8, x9, x10, x11, x12⟩ := rc_cells (r := ⟨kind, name, typ, frm, guid, origin, snap, pp, pn, pc, obj, at_, many, kp, kn, kc, dp, dl, dc⟩) (HX8.out w10 HFR10.out).1
  obtain ⟨y0, y1, y2, y3, y4, y5, y6, y7, y8, y9, y10, y11, y12⟩ := rc_cells (r := ⟨qkind, qname, qtyp, qfrm, qguid, qorigin, qsnap, qpp, qpn, qpc, qobj, qat_, qmany, qkp, qkn, qkc, qdp, qdl, qdc⟩) (HY.out w10 (Frm.refl _ _)).1
  simp only at x0 x1 x2 x3 x4 x5 x6 x7 x8 x9 x10 x11 x12 y0 y1 y2 y3 y4 y5 y6 y7 y8 y9 y10 y11 y12
  go_wp2_with fail
  refine (HSQ.out w10 (HRO8.out.k0 HFR10.out).ok (HQO.out.k0 HF810.out).ok).mono ?_
  rintro e w11 ⟨rfl, hf11⟩
  have HF11 := hid hf11
  have HFR11 : Hid (Frm [] wr w11) := hid (HFR10.out.trans hf11 (by simp))
  clear hf11 HSQ x0 x1 x2 x3 x4 x5 x6 x7 x8 x9 x10 x11 x12 y0 y1 y2 y3 y4 y5 y6 y7 y8 y9 y10 y11 y12
  obtain ⟨x0, x1, x2, x3, x4, x5, x6, x7, x8, x9, x10, x11, x12⟩ := rc_cells (r := ⟨kind, name, typ, frm, guid, origin, snap, pp, pn, pc, obj, at_, many, kp, kn, kc, dp, dl, dc⟩) (HX8.out w11 HFR11.out).1
  simp only at x0 x1 x2 x3 x4 x5 x6 x7 x8 x9 x10 x11 x12
  go_wp2_with fail
  refine (HSR.out w11 (HRO8.out.k0 HFR11.out)).mono ?_
  rintro e w12 ⟨rfl, hf12⟩
  have HF12 : Hid (Frm [] ws w12) := hid ((HFW.out.trans HFR11.out (by simp)).trans hf12 (fun i hi hl => by have h1 := HBL.out i hi; have h2 := HF2.out.size; omega))
  have hlow : ∀ i ∈ RB, i < wr.heap.size := fun i hi => by have h1 := HBU.out i hi; have h2 := lt_of_heap (HX8.out wr (Frm.refl _ _)).1; omega
  have hz := hf12.heap (HX8.out w11 HFR11.out).2 (fun he => by have h1 := HBU.out (bx + 1) he; omega)
  have hv := hf12.heap (HY.out w11 HF11.out).2 (fun he => by have h1 := hlow _ he; have h2 := HYL.out; omega)
  clear hf12 x0 x1 x2 x3 x4 x5 x6 x7 x8 x9 x10 x11 x12
  have z0 := cR 0 (.int .u64 t0) hz
  have z1 := cR 1 (.int .u64 t1) hz
  have z2 := cR 2 (.int .u64 t2) hz
  have z3 := cR 3 (.int .u64 t3) hz
  have v0 := cR 0 (.int .u64 t0) hv
  have v1 := cR 1 (.int .u64 t1) hv
  have v2 := cR 2 (.int .u64 t2) hv
  have v3 := cR 3 (.int .u64 t3) hv
  have heq := fun W => eqlS ⟨t0, t1, t2, t3⟩ ⟨t0, t1, t2, t3⟩ W
  simp only [decide_true] at heq
  clear hz hv hlow
  go_wp2_with fail
  try go_returns
  exact HP.out _ (HFS.out.trans HF12.out (by simp))
end
section
open Go.RowKit Go.Lib
theorem recordReads_any (p : Option Addr) (n c : Nat) (bs : List Int) (a : S4) (ha : a.Bd) (kind : Int) (hk0 : -9223372036854775808 ≤ kind) (hk1 : kind ≤ 9223372036854775807) (w : World) (hn : bs.length = n) (hnc : n ≤ c) (hpc : bs = [] → p = Option.none → c = 0) (hnb : n ≤ 140737488351232) (hrd : Rd w p bs) (hb : ∀ z ∈ bs, 0 ≤ z ∧ z < 256) (hpr : Primes w) (hvs : Vars w) :
  Calls Tryz.prog 4 #[.slice p n c, .agg a.arr, .int .i64 kind] w fun e w' => e = .returned (.bool true) ∧ Frm [] w w' := by
 obtain ⟨PO, hPO⟩ : ∃ PO : Ending → World → Prop, (fun e w' => e = .returned (.bool true) ∧ Frm [] w w') = PO := ⟨_, rfl⟩
 rw [hPO]
 have HP : Hid (∀ w', Frm [] w w' → PO (.returned (.bool true)) w') := hid (fun w' h => by rw [← hPO]; exact ⟨rfl, h⟩)
 have hrows := heap_alloc_new w (.cells a.arr 29)
 have hfs : Frm [] w (w.alloc (.cells a.arr 29)) := (Frm.refl _ _).alloc _
 obtain ⟨ws, hws⟩ := eX (w.alloc (.cells a.arr 29))
 obtain ⟨ba, hba⟩ := eX (w.heap.size)
 rw [hws, hba] at hrows
 rw [hws] at hfs
 have HFS := hid hfs
 have HRA : Hid (∀ V, Frm [] ws V → V.heap[ba]? = some (.cells a.arr 29 (0, 0))) := hid (fun V hf => hf.heap hrows (by simp))
 have HRD := hid (fun V (hf : Frm [] ws V) => hrd.kept (hfs.trans hf (by simp)) (by simp))
 have HPR := hid (fun V (hf : Frm [] ws V) => hpr.kept (hfs.trans hf (by simp)))
 have HVS := hid (fun V (hf : Frm [] ws V) => hvs.kept (hfs.trans hf (by simp)))
 have HAW := hid (fun V (hf : Frm [] ws V) => awake20_any V (HPR.out V hf))
 have HRE := hid (fun V (hf : Frm [] ws V) q (m d : Nat) ys (hm : ys.length = m) (hmd : m ≤ d) (hq : ys = [] → q = Option.none → d = 0) (hmb : m ≤ 140737488355328) (hr : Rd V q ys) (hy : ∀ z ∈ ys, 0 ≤ z ∧ z < 256) => reads20_any q m d ys a ha V hm hmd hq hmb hr hy (HPR.out V hf) (HVS.out V hf))
 have HSL := hid (fun V (hf : Frm [] ws V) k (h0 : 0 ≤ k) (h1 : k < 256) => refSealed_any k h0 h1 p n c bs a ha V hn hpc hnb (HRD.out V hf) hb (HVS.out V hf))
 unfold SldP at HSL
 rw [hn] at HSL
 have HRLL : Hid (∀ k, (recL a k bs).length = 37 + n) := hid (fun k => by rw [recL_len, hn])
 have HRBB : Hid (∀ k, ∀ z ∈ recL a k bs, 0 ≤ z ∧ z < 256) := hid (fun k => recL_bd hb)
 have HSBD : Hid (∀ k, (sealR a (hbL k bs)).Bd) := hid (fun k => shaD_Bd _)
 have HN := hid hn
 have HPC := hid hpc
 have HBB := hid hb
 have HWS := hid hws
 have HBA := hid hba
 have hba2 : w.heap.size ≤ ba := by omega
 clear hPO hrows hfs hws hba ha hn hpc hrd hb hpr hvs HPR HVS
 obtain ⟨s0, s1, s2, s3⟩ := a
 unfold S4.arr at HWS HRA HRE HSL ⊢
 simp only at HWS HRA HRE HSL ⊢
 have HSC : Hid (∀ V, Frm [] ws V → V.cell? ⟨ba, 0, none⟩ = some (.int .u64 s0) ∧ V.cell? ⟨ba, 1, none⟩ = some (.int .u64 s1) ∧ V.cell? ⟨ba, 2, none⟩ = some (.int .u64 s2) ∧ V.cell? ⟨ba, 3, none⟩ = some (.int .u64 s3)) := hid (fun V hf => by
  have h := HRA.out V hf
  refine ⟨?_, ?_, ?_, ?_⟩ <;> (rw [cell_of_row _ _ _ _ _ _ h]; rfl))
 clear HRA
 go_enter Tryz.func4, Tryz.ntmps4
 go_upto_region 1 with fail
 try rw [HBA.out]
 try rw [HWS.out]
 clear HBA HWS
 go_wp2_with fail
 refine (HAW.out ws (Frm.refl _ _)).mono ?_
 rintro e w1 ⟨rfl, hf1⟩
 have HF1 := hid hf1
 clear hf1 HAW
 obtain ⟨q0, q1, q2, q3⟩ := HSC.out w1 HF1.out
 go_wp2_with fail
 refine (HRE.out w1 HF1.out p n c bs HN.out hnc HPC.out (by omega) (HRD.out w1 HF1.out) HBB.out).mono ?_
 rintro e w2 ⟨rfl, hf2⟩
 have HF2 : Hid (Frm [] ws w2) := hid (HF1.out.trans hf2 (by simp))
 clear hf2 q0 q1 q2 q3
 go_upto_if 20 with fail
 go_cut [9] from 20 to 23 (fun v wx => ∃ K : Int, v = .int .i64 K ∧ 0 ≤ K ∧ K ≤ 9223372036854775807 ∧ wx = w2)
 case first =>
  by_cases hneg : kind < 0
  case pos =>
   go_wp2_with fail
   go_meet
   case rel => exact ⟨_, rfl, by omega, by omega, rfl⟩
  have dn := decide_eq_false hneg
  go_wp2_with fail
  go_meet
  case rel => exact ⟨_, rfl, by omega, by omega, rfl⟩
 obtain ⟨K, rfl, hK0, hK1, rfl⟩ := hcut
 generalize wc = w2 at *
 have htm : Int.tmod K 9 = K % 9 := Int.tmod_eq_emod_of_nonneg hK0
 obtain ⟨k, hk⟩ := eX (K % 9)
 have hkb : 0 ≤ k ∧ k < 9 := by omega
 rw [hk] at htm
 have hsl := HSL.out w2 HF2.out k (by omega) (by omega)
 have HRL := hid (HRLL.out k)
 have HRLB := hid (HRBB.out k)
 obtain ⟨RL, hRL⟩ := eX (recL ⟨s0, s1, s2, s3⟩ k bs)
 rw [hRL] at hsl HRL HRLB
 obtain ⟨T, hT⟩ := eX (sealR ⟨s0, s1, s2, s3⟩ (hbL k bs))
 rw [hT] at hsl
 obtain ⟨t0, t1, t2, t3⟩ := T
 try unfold S4.arr at hsl
 simp only at hsl
 obtain ⟨m, hm⟩ := eX (37 + n)
 rw [hm] at hsl HRL
 have hmb : m ≤ 140737488351269 := by omega
 have hm37 : 37 ≤ m := by omega
 have HSE := hid hsl
 clear hsl hk hRL hT hm HRLL HRBB HSBD HSL hkb
 obtain ⟨q0, q1, q2, q3⟩ := HSC.out w2 HF2.out
 go_wp2_with fail
 refine HSE.out.mono ?_
 rintro e w3 ⟨q, d, rfl, hbuf⟩
 have HBUF := hid hbuf
 have HF3 : Hid (Frm [] ws w3) := hid (HF2.out.trans hbuf.nil.1 (by simp))
 have HQN : Hid (∀ k ∈ blk q, ws.heap.size ≤ k) := hid (fun k hk => by have h1 := hbuf.nil.2 k hk; have h2 := HF2.out.size; omega)
 have hcap : m ≤ d := by
  obtain ⟨p', c', he, h9, _⟩ := hbuf.own.shape
  simp only [Value.slice.injEq] at he
  have := hbuf.len
  omega
 clear hbuf q0 q1 q2 q3 HSE htm
 have hft : Frm [] w3 (w3.alloc (.cells #[.int .u64 t0, .int .u64 t1, .int .u64 t2, .int .u64 t3] 29)) := (Frm.refl _ _).alloc _
 obtain ⟨w4, hw4⟩ := eX (w3.alloc (.cells #[.int .u64 t0, .int .u64 t1, .int .u64 t2, .int .u64 t3] 29))
 rw [hw4] at hft
 have HF4 : Hid (Frm [] ws w4) := hid (HF3.out.trans hft (by simp))
 have HO4 := hid (HBUF.out.own.kept hft (by simp))
 have HW4 := hid hw4
 clear hft hw4
 go_upto_region 7 with fail
 try rw [HW4.out]
 clear HW4
 obtain ⟨q0, q1, q2, q3⟩ := HSC.out w4 HF4.out
 go_wp2_with fail
 refine (HRE.out w4 HF4.out q m d RL HRL.out hcap (fun h _ => by have := HRL.out; rw [h] at this; simp at this; omega) (by omega) HO4.out.rd HRLB.out).mono ?_
 rintro e w7 ⟨rfl, hf7⟩
 have HF7 : Hid (Frm [] ws w7) := hid (HF4.out.trans hf7 (by simp))
 have HOW := hid (HO4.out.kept hf7 (by simp))
 clear hf7 q0 q1 q2 q3 HO4
 go_upto_region 8 with fail
 refine wp_region_tail (S := fun W => (W.cell? ⟨ba, 0, none⟩ = some (.int .u64 s0) ∧ W.cell? ⟨ba, 1, none⟩ = some (.int .u64 s1) ∧ W.cell? ⟨ba, 2, none⟩ = some (.int .u64 s2) ∧ W.cell? ⟨ba, 3, none⟩ = some (.int .u64 s3))) 5 6 rfl (by kernel_rfl) (by kernel_rfl) ?_
 obtain ⟨wg, hwg⟩ := eX (w7.drew)
 rw [hwg]
 have HF7G : Hid (Frm [] w7 wg) := hid (by rw [← hwg]; exact (Frm.refl [] w7).drew)
 have HFG : Hid (Frm [] ws wg) := hid (HF7.out.trans HF7G.out (by simp))
 clear hwg
 refine hI (i := 0) (v := ?_) rfl ?_ (HSC.out _ HFG.out) ?_
 rotate_left 1
 ·rintro W ⟨e0, e1, e2, e3⟩; (try simp only [lA, lZ]); go_simp; try with_reducible rfl
 try simp only [lA, lZ, Act.put, lI, lW, lX]
 refine hI (i := 3) (v := ?_) rfl ?_ (HSC.out _ HFG.out) ?_
 rotate_left 1
 ·rintro W ⟨e0, e1, e2, e3⟩; (try simp only [lA, lS, lZ]); go_simp; try with_reducible rfl
 try simp only [lA, lS, lZ, Act.put, lI, lW, lX]
 refine wpAnyHT_one (i := 1) rfl (by kernel_rfl) (by kernel_rfl) (fun K hK => ?_)
 try simp only [lA, lS, lZ]
 go_simp
 have hnew := heap_alloc_new wg (.cells #[.int .u8 7] 5)
 have hfn : Frm [] wg (wg.alloc (.cells #[.int .u8 7] 5)) := (Frm.refl _ _).alloc _
 obtain ⟨wz, hwn⟩ := eX (wg.alloc (.cells #[.int .u8 7] 5))
 obtain ⟨bz, hbz⟩ := eX (wg.heap.size)
 rw [hwn, hbz] at hnew
 rw [hwn] at hfn
 have HRB7 : Hid (Rd wz (some ⟨bz, 0, none⟩) [7]) := hid (own_of_block (E := 5) (zs := [7]) hnew (by simp [maxLen])).rd
 have HFN := hid hfn
 try rw [hwn]
 try rw [hbz]
 clear hnew hfn hwn hbz
 have HFZ : Hid (Frm [] ws wz) := hid (HFG.out.trans HFN.out (by simp))
 have HOZ := hid (HOW.out.kept (HF7G.out.trans HFN.out (by simp)) (by simp))
 refine hK _ _ (HSC.out _ HFZ.out) ?_
 clear hK K
 try simp only [lA, lS, lZ, Act.put, lI, lW, lX]
 refine wpAnyHT_one (i := 2) rfl (by kernel_rfl) (by kernel_rfl) (fun K hK => ?_)
 try simp only [lA, lS, lZ]
 rw [if_pos (by rfl)]
 apply wp_appR (sl := .tmp 35) (x := .tmp 36) (t := 24) (E := 5) (p0 := q) (n0 := m) (c0 := d) (zs := RL) (p := some ⟨bz, 0, none⟩) (n := 1) (c := 1) (ns := [7])
 case hgd => exact rfl
 case ho => exact rfl
 case ht => exact Tryz.underlying24
 case hI => exact infoB
 case hs => exact rfl
 case hn0 => exact HRL.out.symm
 case hown => rw [HRL.out]; exact HOZ.out
 case hx => exact rfl
 case hn => exact rfl
 case hp => exact (fun h _ => by cases h)
 case hrd => exact HRB7.out
 case hsz => rw [HRL.out]; simp; omega
 intro xs p8 c8 w8 hxs ho8 hf8 hb8
 have HF8 : Hid (Frm [] ws w8) := hid (HFZ.out.trans hf8.out (fun i hi hl => by have := HQN.out i hi; omega))
 have hl8 : xs.length = m + 1 := by rw [hxs.out, List.length_append, HRL.out]; rfl
 have HX8 := hid hxs.out
 have HL8 := hid hl8
 rw [hl8] at ho8 ⊢
 have HO8 := hid ho8.out
 have hcap8 : m + 1 ≤ c8 := by
  obtain ⟨p', c', he, h9, _⟩ := ho8.out.shape
  simp only [Value.slice.injEq] at he
  omega
 clear hxs ho8 hf8 hb8 hl8
 refine hK _ _ (HSC.out _ HF8.out) ?_
 clear hK K
 try simp only [Act.put, lI, lW, lX]
 refine wpAnyHT_one (i := 4) rfl (by kernel_rfl) (by kernel_rfl) (fun K hK => ?_)
 try simp only [lA, lS, lZ]
 go_simp
 refine (HRE.out w8 HF8.out p8 (m + 1) c8 xs HL8.out hcap8 (fun h _ => by have := HL8.out; rw [h] at this; simp at this) (by omega) HO8.out.rd (fun z hz => by
  rw [HX8.out] at hz
  rcases List.mem_append.1 hz with h | h
  ·exact HRLB.out z h
  ·rw [List.mem_singleton] at h; omega)).mono ?_
 rintro e w9 ⟨rfl, hf9⟩
 have HF9 : Hid (Frm [] ws w9) := hid (HF8.out.trans hf9 (by simp))
 clear hf9
 refine hK _ _ (HSC.out _ HF9.out) ?_
 clear hK K
 try simp only [lA, lS, lZ, Act.put, lI, lW, lX]
 refine wpAnyHT_end (by kernel_rfl) ?_
 simp only [List.drop_succ_cons, List.drop_zero]
 go_wp2_with fail
 try go_returns
 exact HP.out _ (HFS.out.trans HF9.out (by simp))
end
section
open Go.ChangeShapes Go.WideShapes Go.ChangeAt Go.RowKit
theorem g_primes : Tryz.prog.globalNamed "undercroft/sum.primes" = some 2 := by kernel_rfl
theorem g_primesType : (Tryz.prog.globals[2]?).map (·.type) = some 130 := by kernel_rfl
theorem cells_u32 : Tryz.prog.cellsOf 123 = 1 := by kernel_rfl
theorem cells_tab : Tryz.prog.cellsOf 130 = 64 := by kernel_rfl
noncomputable def laidW (os : Os) : World :=
 { World.holding Tryz.prog os ⟨#[], #[], []⟩ with heap := (World.holding Tryz.prog os ⟨#[], #[], []⟩).heap.modify 2 fun
   | .cells _ t frozen => .cells (PR.map fun z => Value.int .u32 z).toArray t frozen
   | o => o }
end
section
open Go.ChangeShapes Go.WideShapes Go.ChangeAt Go.RowKit
def UF : List Int := List.replicate 128 240 ++ List.replicate 66 241 ++ List.replicate 30 2 ++ [19] ++ List.replicate 12 3 ++ [35, 3, 3, 52, 4, 4, 4, 68] ++ List.replicate 11 241
def UA : List Int := [128, 191, 160, 191, 128, 159, 144, 191, 128, 143] ++ List.replicate 22 0
end
section
open Go.ChangeShapes Go.WideShapes Go.ChangeAt Go.RowKit
def FI : List Int := [1779033703, 3144134277, 1013904242, 2773480762, 1359893119, 2600822924, 528734635, 1541459225]
theorem g_first : Tryz.prog.globalNamed "undercroft/undercroftref02.first" = some 0 := by kernel_rfl
theorem g_firstType : (Tryz.prog.globals[0]?).map (·.type) = some 124 := by kernel_rfl
theorem g_rounds : Tryz.prog.globalNamed "undercroft/undercroftref02.rounds" = some 1 := by kernel_rfl
theorem g_roundsType : (Tryz.prog.globals[1]?).map (·.type) = some 130 := by kernel_rfl
theorem cells_tab8 : Tryz.prog.cellsOf 124 = 8 := by kernel_rfl
theorem keep_one {W : World} {l : List (String × DataW Unit)} (name : String) {d : DataW Unit} (h : laidMet Tryz.prog l W) (hl : l.filter (fun x => x.1 == name) = [(name, d)]) : laidMet Tryz.prog [(name, d)] W := by
 have h2 := h.filter (fun x => x.1 == name)
 rwa [hl] at h2
theorem vars_of_laid {W : World} (h : laidMetH Tryz.prog [("undercroft/sum.primes", Rows.laid_undercroft_sum_primes), ("undercroft/undercroftref02.first", Rows.laid_undercroft_undercroftref02_first), ("undercroft/undercroftref02.rounds", Rows.laid_undercroft_undercroftref02_rounds)] W) : Primes W ∧ Vars W := by
 have h2 : laidMet Tryz.prog [("undercroft/sum.primes", Lib.tabData .u32 PR), ("undercroft/undercroftref02.first", Lib.tabData .u32 FI), ("undercroft/undercroftref02.rounds", Lib.tabData .u32 PR)] W := h
 have hT : Lib.TabIs Tryz.prog W "undercroft/sum.primes" .u32 PR := Lib.tabIs_of_head g_primes g_primesType Tryz.underlying130 Tryz.underlying123 cells_u32 cells_tab h2
 have hF : Lib.TabIs Tryz.prog W "undercroft/undercroftref02.first" .u32 FI := Lib.tabIs_of_head (rest := []) g_first g_firstType Tryz.underlying124 Tryz.underlying123 cells_u32 cells_tab8 (keep_one _ h2 rfl)
 have hR : Lib.TabIs Tryz.prog W "undercroft/undercroftref02.rounds" .u32 PR := Lib.tabIs_of_head (rest := []) g_rounds g_roundsType Tryz.underlying130 Tryz.underlying123 cells_u32 cells_tab (keep_one _ h2 rfl)
 refine ⟨fun t ht => hT.cell g_primes t ht, ⟨fun t ht => hR.cell g_rounds t ht, fun t ht => ?_⟩⟩
 rw [hF.cell g_first t ht]
 have h8 : t = 0 ∨ t = 1 ∨ t = 2 ∨ t = 3 ∨ t = 4 ∨ t = 5 ∨ t = 6 ∨ t = 7 := by omega
 rcases h8 with rfl | rfl | rfl | rfl | rfl | rfl | rfl | rfl <;> rfl
noncomputable def laidW3 (os : Os) : World :=
 { laidW os with heap := ((laidW os).heap.modify 0 fun
   | .cells _ t frozen => .cells (FI.map fun z => Value.int .u32 z).toArray t frozen
   | o => o).modify 1 fun
   | .cells _ t frozen => .cells (PR.map fun z => Value.int .u32 z).toArray t frozen
   | o => o }
end
section
open Go.ChangeShapes Go.WideShapes Go.ChangeAt Go.RowKit
theorem vars_of_laid5 {W : World} (h : laidMetH Tryz.prog [("undercroft/sum.primes", Rows.laid_undercroft_sum_primes), ("undercroft/undercroftref02.first", Rows.laid_undercroft_undercroftref02_first), ("undercroft/undercroftref02.rounds", Rows.laid_undercroft_undercroftref02_rounds), ("unicode/utf8.acceptRanges", Rows.laid_unicode_utf8_acceptRanges), ("unicode/utf8.first", Rows.laid_unicode_utf8_first)] W) : Primes W ∧ Vars W := by
 have h2 := h.filter (fun x => x.1 != "unicode/utf8.acceptRanges" && x.1 != "unicode/utf8.first")
 exact vars_of_laid h2
noncomputable def laidW5 (os : Os) : World :=
 { laidW3 os with heap := ((laidW3 os).heap.modify 4 fun
   | .cells _ t frozen => .cells (UF.map fun z => Value.int .u8 z).toArray t frozen
   | o => o).modify 5 fun
   | .cells _ t frozen => .cells (UA.map fun z => Value.int .u8 z).toArray t frozen
   | o => o }
theorem laid_met5 (os : Os) (args : Array Value) : laidMet Tryz.prog [("undercroft/sum.primes", Rows.laid_undercroft_sum_primes), ("undercroft/undercroftref02.first", Rows.laid_undercroft_undercroftref02_first), ("undercroft/undercroftref02.rounds", Rows.laid_undercroft_undercroftref02_rounds), ("unicode/utf8.acceptRanges", Rows.laid_unicode_utf8_acceptRanges), ("unicode/utf8.first", Rows.laid_unicode_utf8_first)] ((laidW5 os).forCall (fun _ _ => 0) ⟨#[], args, []⟩).memory :=
 laidMet_of_run' 8 (by kernel_rfl) (by kernel_rfl)
end
end Go.Proofs.YtajfjkfnmmfhmaaGreatDoor
