/- The document's Records of any bytes. -/
import Derived.Test.YtajfjkfnmmfhmaaGreatDoorQcap
import Derived.Test.YtajfjkfnmmfhmaaGreatDoorQcat
import Derived.Laws.Tables
import Derived.Test.YtajfjkfnmmfhmaaGreatDoorQcaa
import Derived.Laws.MakeOwn
import Derived.Test.YtajfjkfnmmfhmaaGreatDoorRows
import Derived.Laws.OwnMore
import Derived.Deep.QuietTactic
import Derived.BigQuiet
import Derived.Deep.RegionHeld3
import Derived.WalkKit
import Derived.WalkSpells
import Derived.WalkLawsBesides
import Derived.Handy
import Derived.Deep.OwnRows
import Derived.Laws.BytesArg
import Derived.Laws.CopyOwn
import Derived.Lib.AppendStr
namespace Go.Proofs.YtajfjkfnmmfhmaaGreatDoor
set_option maxRecDepth 100000
set_option maxHeartbeats 25600000
section
open Go.RowKit Go.Lib
theorem RcLn.lo {w : World} {r : Rc} {P : List Pr} {K D : List Int} {lo lo2 : Nat} (h : RcLn w r P K D lo) (hl : lo2 ≤ lo) : RcLn w r P K D lo2 := ⟨h.po, h.pl, fun k hk => Nat.le_trans hl (h.pw k hk), h.ko, h.kl, fun k hk => Nat.le_trans hl (h.kw k hk), h.ow, h.dl, fun k hk => Nat.le_trans hl (h.dw k hk), h.db, h.mx⟩
theorem RcLn.low {w : World} {r : Rc} {P : List Pr} {K D : List Int} {lo : Nat} (h : RcLn w r P K D lo) : ∀ k, (k ∈ blk r.pp ∨ k ∈ blk r.kp ∨ k ∈ blk r.dp) → lo ≤ k ∧ k < w.heap.size := fun k hk => by
 rcases hk with hk | hk | hk
 ·exact ⟨h.pw k hk, ownsRow_low h.po k hk⟩
 ·exact ⟨h.kw k hk, ownsRow_low h.ko k hk⟩
 ·exact ⟨h.dw k hk, h.ow.lows k hk⟩
theorem RcLn.foot {w : World} {r : Rc} {P : List Pr} {K D : List Int} {lo : Nat} (h : RcLn w r P K D lo) : ∃ B, RcA B r P K D ∧ ∀ k ∈ B, lo ≤ k ∧ k < w.heap.size := by
 refine ⟨blk r.pp ++ blk r.kp ++ blk r.dp, ⟨fun _ k hk => by simp [hk], fun _ k hk => by simp [hk], fun _ k hk => by simp [hk]⟩, fun k hk => h.low k ?_⟩
 rcases List.mem_append.1 hk with hk | hk
 ·rcases List.mem_append.1 hk with hk | hk
  ·exact Or.inl hk
  ·exact Or.inr (Or.inl hk)
 ·exact Or.inr (Or.inr hk)
theorem share4 {H G : World → Nat → Nat → Rc → Prop} {g : Prop} (main : (∀ c a b r, H c a b r → G c a b r) → g) (fin : ∀ c a b r, H c a b r → G c a b r) : g := main fin
theorem wpl {P : Program} {md : Region.Mode} {ops : Array Oper} {Q : Exit → Act → World → Prop} {S : World → Prop} {n : Nat} {L : Array Bool → Act → World → Prop} {fuel : Nat} {l1 l2 : Array Bool} {a : Act} {w : World} (h : l1 = l2) (hw : wpAnyHT P md ops Q S n L fuel l2 a w) : wpAnyHT P md ops Q S n L fuel l1 a w := h ▸ hw
theorem refRecords_any (p : Option Addr) (n c : Nat) (bs : List Int) (w : World) (hn : bs.length = n) (hnc : n ≤ c) (hnb : n ≤ 140737488355328) (hrd : Rd w p bs) (hb : ∀ z ∈ bs, 0 ≤ z ∧ z < 256) (hvs : Vars w) :
  Calls Tryz.prog 20 #[.slice p n c] w (RcsP w bs) := by
 obtain ⟨PO, hPO⟩ : ∃ PO : Ending → World → Prop, RcsP w bs = PO := ⟨_, rfl⟩
 rw [hPO]
 have HP := hid (show ∀ e w', RcsP w bs e w' → PO e w' from fun e w' h => by rw [← hPO]; exact h)
 have HB := hid hb
 have HVS := hid hvs
 have HRD := hid hrd
 have HLN := hid hn
 have hrow := heap_alloc_new w (.cells #[.int .u64 0, .int .u64 0, .int .u64 0, .int .u64 0] 29)
 have hfs : Frm [] w (w.alloc (.cells #[.int .u64 0, .int .u64 0, .int .u64 0, .int .u64 0] 29)) := (Frm.refl _ _).alloc _
 obtain ⟨ws, hws⟩ := eX (w.alloc (.cells #[.int .u64 0, .int .u64 0, .int .u64 0, .int .u64 0] 29))
 obtain ⟨xs, hbs⟩ := eX (w.heap.size)
 rw [hws, hbs] at hrow
 rw [hws] at hfs
 have q0 := cR 0 (.int .u64 0) hrow
 have m0 := fZ 0 hrow
 have q1 := cR 1 (.int .u64 0) hrow
 have m1 := fZ 1 hrow
 have q2 := cR 2 (.int .u64 0) hrow
 have m2 := fZ 2 hrow
 have q3 := cR 3 (.int .u64 0) hrow
 have m3 := fZ 3 hrow
 have hbr4 : ∀ V, (Instr.build 29 #[]).run Tryz.prog V = .ok (.agg #[.int .u64 0, .int .u64 0, .int .u64 0, .int .u64 0]) V := fun V => run_build V _ _ _ (by kernel_rfl)
 go_enter Tryz.func20, Tryz.ntmps20
 by_cases hlong : 1048576 < n
 case pos =>
  have i1 : (1048576 : Int) < (n : Int) := by omega
  have HX := hid (HP.out _ _ ⟨Frm.refl _ _, Or.inl ⟨by rw [HLN.out]; exact hlong, rfl⟩⟩)
  clear hlong
  go_wp2_with fail
  try go_returns
  exact HX.out
 have i1 : ¬ (1048576 : Int) < (n : Int) := by omega
 have HN2 : Hid (bs.length ≤ 1048576) := hid (by rw [HLN.out]; omega)
 have hn3 : n ≤ 1048576 := by omega
 clear hlong
 go_upto_region 5 with fail
 try rw [hws]
 try rw [hbs]
 go_upto_region 6 with fail
 obtain ⟨h4, f4⟩ := set4 (y0 := .int .u64 0) (y1 := .int .u64 0) (y2 := .int .u64 0) (y3 := .int .u64 0) hrow
 obtain ⟨W4, hW4⟩ := eX (((((ws.setCell ⟨xs, 0, none⟩ (.int .u64 0)).setCell ⟨xs, 1, none⟩ (.int .u64 0)).setCell ⟨xs, 2, none⟩ (.int .u64 0)).setCell ⟨xs, 3, none⟩ (.int .u64 0)))
 rw [hW4] at h4 f4
 try rw [hW4]
 have HROW := hid h4
 have HFS : Hid (Frm [] w W4) := hid (hfs.trans f4 (fun i hi hl => by rw [List.mem_singleton] at hi; omega))
 have HBS := hid hbs
 clear h4 f4 hW4 hrow hfs hbs hws hPO hn hrd hb hvs q0 m0 q1 m1 q2 m2 q3 m3
 go_loopw [4, 6] (fun lv av wr => ∃ (t a lc : Nat) (lp : Option Addr) (L : List Rk) (A : List Nat), a ≤ n ∧ t ≤ 1048576 ∧ lv = .slice lp t lc ∧ av = .int .i64 (a : Int) ∧ Hid (rsOk bs t) ∧ Hid ((rsS bs t).1 = bs.drop a) ∧ Hid (wr.heap[xs]? = some (.cells (rsS bs t).2.arr 29 (0, 0))) ∧ Hid (L.length = t) ∧ Hid (wr.ownsRow 0 26 13 (.slice lp t lc) t (rowsRk L)) ∧ Hid (∀ k ∈ blk lp, xs < k) ∧ Hid (RkOk wr A bs L) ∧ Hid (∀ k ∈ A, k < wr.heap.size ∧ xs < k ∧ k ∉ blk lp) ∧ Hid (Frm [] w wr)) (fun _ av _ => n - (intOf av).toNat)
 case atStart => exact ⟨0, 0, 0, none, [], [], Nat.zero_le _, by omega, rfl, rfl, hid (fun j hj => by omega), hid rfl, hid HROW.out, hid rfl, hid (World.ownsRow_nil _ _ _ _), hid (by simp [blk]), hid (fun j x h => by simp at h), hid (by simp), HFS⟩
 case round =>
  obtain ⟨t, a, lc, lp, L, A, han, htl, rfl, rfl, hok, hdr, hsr, hll, how, hnw, hrk, hab, hf⟩ := hrel
  have HOK := hid hok.out
  have HDR := hid hdr.out
  have HSR := hid hsr.out
  have HLL := hid hll.out
  have HOW := hid how.out
  have HNW := hid hnw.out
  have HRK := hid hrk.out
  have HAB := hid hab.out
  have HF := hid hf.out
  clear hok hdr hsr hll how hnw hrk hab hf
  by_cases hz : a < n
  case neg =>
   obtain rfl : a = n := by omega
   have HX := hid (HP.out (.returned (.tuple #[.slice lp t lc, .int .i64 0])) wr ⟨HF.out, Or.inr ⟨HN2.out, t, HOK.out, Or.inr ⟨by rw [HDR.out]; exact List.drop_of_length_le (by rw [HLN.out]; exact Nat.le_refl _), lp, lc, L, rfl, HLL.out, htl, (by
    rcases rv_of1 HOW.out (by rw [rowsRk_len, HLL.out]) with h | ⟨g, o, he, hc⟩
    ·refine Or.inl ?_
     have h2 := rowsRk_len L
     rw [h] at h2
     exact List.eq_nil_of_length_eq_zero (by simp at h2; omega)
    ·refine Or.inr ⟨g, o, he, fun i x hx => ?_⟩
     obtain ⟨k1, _, k3, _⟩ := HRK.out i x hx
     exact ⟨fun j u hu => by rw [Nat.add_assoc]; exact hc _ _ (rowsRk_at L i x hx j u hu), k1, k3⟩), fun j hj => (HRK.out j _ (rkA_get (by rw [HLL.out]; exact hj))).2.2.2⟩⟩⟩)
   clear hz
   go_wp2_with fail
   try go_returns
   exact HX.out
  have i2 : (a : Int) < (n : Int) := by omega
  have HLEN : Hid ((rsS bs t).1.length = n - a) := hid (by rw [HDR.out, List.length_drop, HLN.out])
  have HNE : Hid ((rsS bs t).1 ≠ []) := hid (fun h => by have := HLEN.out; rw [h] at this; simp at this; omega)
  have hbd := rsS_Bd bs t
  have hzb := rsS_bd HB.out t
  have hnc2 : n - a ≤ c - a := by omega
  have HDC := hid (fun W (hf : Frm [] wr W) => (refDecode_any (partAt p c a 1) (n - a) (c - a) (rsS bs t).1 (rsS bs t).2 W HLEN.out hnc2 (by omega) (by rw [HDR.out]; exact rd_part (HRD.out.kept (HF.out.trans hf (by simp)) (by simp)) HLN.out han hnc) hzb (HVS.out.kept (HF.out.trans hf (by simp))) hbd).mono (fun e w' h => decU_of h))
  unfold DecU at HDC
  have HNO : Hid (∀ W, dcE (rsS bs t).2 (rsS bs t).1 ≠ 0 → Frm [] w W → PO (.returned (.tuple #[.slice none 0 0, .int .i64 (dcE (rsS bs t).2 (rsS bs t).1)])) W) := hid (fun W h1 h2 => HP.out _ _ ⟨h2, Or.inr ⟨HN2.out, t, HOK.out, Or.inl ⟨HNE.out, h1, rfl⟩⟩⟩)
  have HYES : Hid (dcE (rsS bs t).2 (rsS bs t).1 = 0 → rsOk bs (t + 1) ∧ t + 1 ≤ 1048576 ∧ (∀ x : Rk, x.r.core = duC (rsS bs t).2 (rsS bs t).1 → x.P = duP (rsS bs t).2 (rsS bs t).1 → x.K = duK (rsS bs t).2 (rsS bs t).1 → x.D = duD (rsS bs t).2 (rsS bs t).1 → rkOf bs t x ∧ x.r.name.size ≤ 140737488355328) ∧ (rsS bs (t + 1)).2 = duT (rsS bs t).2 (rsS bs t).1 ∧ ∃ dM : Nat, duN (rsS bs t).2 (rsS bs t).1 = (dM : Int) ∧ dM ≤ n - a ∧ 37 ≤ dM ∧ (rsS bs (t + 1)).1 = bs.drop (a + dM)) := hid (fun h0 => by
   have hk : rsOk bs (t + 1) := fun j hj => by
    by_cases hj2 : j < t
    ·exact HOK.out j hj2
    ·obtain rfl : j = t := by omega
     exact ⟨HNE.out, h0⟩
   have hlen2 := dcE_len h0
   have hsp0 := spM_bd hzb
   rw [HLEN.out] at hlen2
   have hnml := tvK_name (spK (rsS bs t).1) (dcB (rsS bs t).1)
   have hbl : (dcB (rsS bs t).1).length ≤ 1048576 := by unfold dcB; rw [List.length_drop, List.length_take]; have := rsS_le bs t; have := HN2.out; omega
   refine ⟨hk, by have h1 := rsS_many HB.out (t + 1) hk; have h2 := HN2.out; omega, fun x h1 h2 h3 h4 => ?_, by unfold duT; rw [if_pos h0]; rfl, (37 + spM (rsS bs t).1).toNat, by unfold duN; rw [if_pos h0]; omega, by omega, by omega, ?_⟩
   ·unfold duC duV at h1
    unfold duP duV at h2
    unfold duK duV at h3
    unfold duD duV at h4
    rw [if_pos h0] at h1 h2 h3 h4
    refine ⟨⟨h1, h2, h3, h4⟩, ?_⟩
    have h5 : x.r.core.name = (tvK (spK (rsS bs t).1) (dcB (rsS bs t).1)).c.name := by rw [h1]; rfl
    have h6 : x.r.name = (tvK (spK (rsS bs t).1) (dcB (rsS bs t).1)).c.name := h5
    rw [h6]; omega
   ·show (rsS bs t).1.drop (37 + spM (rsS bs t).1).toNat = _
    rw [HDR.out, List.drop_drop])
  obtain ⟨RB, hRB⟩ := eX ((rsS bs t).1)
  obtain ⟨SS, hSS⟩ := eX ((rsS bs t).2)
  rw [hRB] at HDC HNO HYES
  rw [hSS] at HSR HDC HNO HYES
  obtain ⟨DC, hDC⟩ := eX (duC SS RB)
  obtain ⟨DP, hDP⟩ := eX (duP SS RB)
  obtain ⟨DK, hDK⟩ := eX (duK SS RB)
  obtain ⟨DD, hDD⟩ := eX (duD SS RB)
  obtain ⟨DN, hDN⟩ := eX (duN SS RB)
  obtain ⟨DT, hDT⟩ := eX (duT SS RB)
  obtain ⟨EV, hEV⟩ := eX (dcE SS RB)
  rw [hDC, hDP, hDK, hDD, hDN, hDT, hEV] at HDC HYES
  rw [hEV] at HNO
  clear hRB hSS hDC hDP hDK hDD hDN hDT hEV HNE hbd hzb HLEN
  obtain ⟨s0, s1, s2, s3⟩ := SS
  obtain ⟨t0, t1, t2, t3⟩ := DT
  unfold S4.arr at HDC HSR
  simp only at HDC HSR
  obtain ⟨q2, hq2⟩ := eX (partAt p c a 1)
  obtain ⟨m2, hm2⟩ := eX (n - a)
  obtain ⟨d2, hd2⟩ := eX (c - a)
  have hsl : ∀ W, (Instr.slice 24 (.slice p n c) (some (.int .i64 (a : Int))) none none).run Tryz.prog W = .ok (.slice q2 m2 d2) W := fun W => by
   rw [← hq2, ← hm2, ← hd2]
   exact sl_l (P := Tryz.prog) (sz := 1) Tryz.underlying24 infoU8R p n c a han W
  rw [hq2, hm2, hd2] at HDC
  rw [hm2] at HYES
  have HM2 := hid hm2
  clear hq2 hd2 hm2 hnc2
  have sA : ∀ W, Frm [] wr W → W.cell? ⟨xs, 0, none⟩ = some (.int .u64 s0) ∧ W.cell? ⟨xs, 1, none⟩ = some (.int .u64 s1) ∧ W.cell? ⟨xs, 2, none⟩ = some (.int .u64 s2) ∧ W.cell? ⟨xs, 3, none⟩ = some (.int .u64 s3) := fun W hf => by
   have hr := hf.heap HSR.out (by simp)
   refine ⟨?_, ?_, ?_, ?_⟩ <;> (rw [cell_of_row _ _ _ _ _ _ hr]; rfl)
  go_upto_region 7 with fail
  go_cut [7, 8, 9, 10] from 15 to 39 (fun x q z e wx => ∃ (r : Rc) (bx bz : Nat), x = .pointer (some ⟨bx, 0, none⟩) ∧ q = .int .i64 DN ∧ z = .pointer (some ⟨bz, 0, none⟩) ∧ e = .int .i64 EV ∧ Hid (wx.heap[bx]? = some (.cells r.arr 26 (0, 0))) ∧ Hid (wx.heap[bz]? = some (.cells #[.int .u64 t0, .int .u64 t1, .int .u64 t2, .int .u64 t3] 29 (0, 0))) ∧ Hid (r.core = DC) ∧ Hid (RcLn wx r DP DK DD wr.heap.size) ∧ wr.heap.size ≤ bx ∧ wr.heap.size ≤ bz ∧ Hid (Frm [] wr wx))
  case first =>
   refine wp_region_tail (S := fun W => (W.cell? ⟨xs, 0, none⟩ = some (.int .u64 s0) ∧ W.cell? ⟨xs, 1, none⟩ = some (.int .u64 s1) ∧ W.cell? ⟨xs, 2, none⟩ = some (.int .u64 s2) ∧ W.cell? ⟨xs, 3, none⟩ = some (.int .u64 s3))) 15 16 rfl (by kernel_rfl) (by kernel_rfl) ?_
   obtain ⟨wd, hwd⟩ := eX (wr.drew)
   have hF0 : Frm [] wr wd := by rw [← hwd]; exact (Frm.refl _ _).drew
   rw [hwd]
   refine hI (i := 0) (v := ?_) rfl ?_ (sA _ hF0) ?_
   rotate_left 1
   ·rintro W ⟨e0, e1, e2, e3⟩; (try simp only [lA, lZ]); go_simp; try with_reducible rfl
   try simp only [lA, lZ, Act.put, lI, lW, lX]
   refine hI (i := 1) (v := ?_) rfl ?_ (sA _ hF0) ?_
   rotate_left 1
   ·rintro W ⟨e0, e1, e2, e3⟩; (try simp only [lA, lS, lZ]); go_simp; try with_reducible rfl
   try simp only [lA, lS, lZ, Act.put, lI, lW, lX]
   refine hI (i := 2) (v := ?_) rfl ?_ (sA _ hF0) ?_
   rotate_left 1
   ·(intro W hSw; obtain ⟨e0, e1, e2, e3⟩ := hSw; have hsl2 := hsl W; (try simp only [lA, lS, lZ]); go_simp; try with_reducible rfl)
   try simp only [lA, lS, lZ, Act.put, lI, lW, lX]
   refine hI (i := 3) (v := ?_) rfl ?_ (sA _ hF0) ?_
   rotate_left 1
   ·rintro W ⟨e0, e1, e2, e3⟩; (try simp only [lA, lS, lZ]); go_simp; try with_reducible rfl
   try simp only [lA, lS, lZ, Act.put, lI, lW, lX]
   apply share4 (H := fun cur bA bB r => cur.heap[bA]? = some (.cells #[.int .i64 0, .string ⟨#[]⟩, .int .i64 0, .int .i64 0, .int .i64 0, .int .i64 0, .string ⟨#[]⟩, .slice none 0 0, .int .i64 0, .int .i64 0, .int .i64 0, .slice none 0 0, .slice none 0 0] 26 (0, 0)) ∧ cur.heap[bB]? = some (.cells #[.int .u64 0, .int .u64 0, .int .u64 0, .int .u64 0] 29 (0, 0)) ∧ r.core = DC ∧ RcLn cur r DP DK DD wr.heap.size ∧ (∀ k, (k ∈ blk r.pp ∨ k ∈ blk r.kp ∨ k ∈ blk r.dp) → ¬ k = bA) ∧ (∀ k, (k ∈ blk r.pp ∨ k ∈ blk r.kp ∨ k ∈ blk r.dp) → ¬ k = bB) ∧ wr.heap.size ≤ bA ∧ wr.heap.size ≤ bB ∧ Frm [] wr cur)
   ·intro fin
    refine wpAnyHT_three (i := 4) (j := 10) (k := 11) rfl rfl rfl (by kernel_rfl) (by kernel_rfl) (by kernel_rfl) (by kernel_rfl) (fun K hK => ?_) (fun K hK => ?_) (fun K hK => ?_)
    ·try simp only [lA, lS, lZ]
     go_simp
     refine (HDC.out wd hF0).mono ?_
     rintro e wC ⟨r, rfl, hrc, hro, hfc⟩
     have hF1 : Frm [] wr wC := hF0.trans hfc (by simp)
     refine hK _ _ (sA _ hF1) ?_
     clear hK K
     have hlw := hro.low
     have hro2 := hro.lo hF0.size
     refine hI (i := 5) (v := ?_) rfl ?_ (sA _ hF1) ?_
     rotate_left 1
     ·rintro W ⟨e0, e1, e2, e3⟩; (try simp only [lA, lS, lZ]); go_simp; try with_reducible rfl
     try simp only [lA, lS, lZ, Act.put, lI, lW, lX]
     refine hI (i := 6) (v := ?_) rfl ?_ (sA _ hF1) ?_
     rotate_left 1
     ·rintro W ⟨e0, e1, e2, e3⟩; (try simp only [lA, lS, lZ]); go_simp; try with_reducible rfl
     try simp only [lA, lS, lZ, Act.put, lI, lW, lX]
     refine hI (i := 7) (v := ?_) rfl ?_ (sA _ hF1) ?_
     rotate_left 1
     ·rintro W ⟨e0, e1, e2, e3⟩; (try simp only [lA, lS, lZ]); go_simp; try with_reducible rfl
     try simp only [lA, lS, lZ, Act.put, lI, lW, lX]
     refine hI (i := 8) (v := ?_) rfl ?_ (sA _ hF1) ?_
     rotate_left 1
     ·rintro W ⟨e0, e1, e2, e3⟩; (try simp only [lA, lS, lZ]); go_simp; try with_reducible rfl
     try simp only [lA, lS, lZ, Act.put, lI, lW, lX]
     refine hI (i := 9) (v := ?_) rfl ?_ (sA _ hF1) ?_
     rotate_left 1
     ·rintro W ⟨e0, e1, e2, e3⟩; (try simp only [lA, lS, lZ]); go_simp; try with_reducible rfl
     try simp only [lA, lS, lZ, Act.put, lI, lW, lX]
     refine wpAnyHT_two (i := 10) (j := 11) rfl rfl (by kernel_rfl) (by kernel_rfl) (by kernel_rfl) (fun K hK => ?_) (fun K hK => ?_)
     ·try simp only [lA, lS, lZ]
      go_simp
      refine hK _ _ (sA _ (hF1.alloc _)) ?_
      clear hK K
      try simp only [lA, lS, lZ, Act.put, lI, lW, lX]
      have hra := heap_alloc_new wC (.cells #[.int .i64 0, .string ⟨#[]⟩, .int .i64 0, .int .i64 0, .int .i64 0, .int .i64 0, .string ⟨#[]⟩, .slice none 0 0, .int .i64 0, .int .i64 0, .int .i64 0, .slice none 0 0, .slice none 0 0] 26)
      have hfaA : Frm [] wC (wC.alloc (.cells #[.int .i64 0, .string ⟨#[]⟩, .int .i64 0, .int .i64 0, .int .i64 0, .int .i64 0, .string ⟨#[]⟩, .slice none 0 0, .int .i64 0, .int .i64 0, .int .i64 0, .slice none 0 0, .slice none 0 0] 26)) := (Frm.refl _ _).alloc _
      have hF2 := hF1.alloc (.cells #[.int .i64 0, .string ⟨#[]⟩, .int .i64 0, .int .i64 0, .int .i64 0, .int .i64 0, .string ⟨#[]⟩, .slice none 0 0, .int .i64 0, .int .i64 0, .int .i64 0, .slice none 0 0, .slice none 0 0] 26)
      have hcsA : wC.heap.size ≤ wC.heap.size := Nat.le_refl _
      obtain ⟨wA, hwA⟩ := eX (wC.alloc (.cells #[.int .i64 0, .string ⟨#[]⟩, .int .i64 0, .int .i64 0, .int .i64 0, .int .i64 0, .string ⟨#[]⟩, .slice none 0 0, .int .i64 0, .int .i64 0, .int .i64 0, .slice none 0 0, .slice none 0 0] 26))
      obtain ⟨bA, hbA⟩ := eX (wC.heap.size)
      have hlbA : wr.heap.size ≤ bA := by rw [← hbA]; exact hF1.size
      rw [hwA, hbA] at hra
      rw [hwA] at hfaA hF2
      have rA2 := hra
      clear hra
      have hnrA : ∀ k, (k ∈ blk r.pp ∨ k ∈ blk r.kp ∨ k ∈ blk r.dp) → ¬ k = bA := fun k hk => by have := hlw k hk; omega
      have hro2x := hro2.k0 hfaA
      try rw [hwA]
      try rw [hbA]
      refine wpAnyHT_one (i := 11) rfl (by kernel_rfl) (by kernel_rfl) (fun K hK => ?_)
      try simp only [lA, lS, lZ]
      go_simp
      refine hK _ _ (sA _ (hF2.alloc _)) ?_
      clear hK K
      try simp only [lA, lS, lZ, Act.put, lI, lW, lX]
      have hra := heap_alloc_new wA (.cells #[.int .u64 0, .int .u64 0, .int .u64 0, .int .u64 0] 29)
      have hfaB : Frm [] wA (wA.alloc (.cells #[.int .u64 0, .int .u64 0, .int .u64 0, .int .u64 0] 29)) := (Frm.refl _ _).alloc _
      have hF3 := hF2.alloc (.cells #[.int .u64 0, .int .u64 0, .int .u64 0, .int .u64 0] 29)
      have hcsB : wC.heap.size ≤ wA.heap.size := (by have := hfaA.size; omega)
      obtain ⟨wB, hwB⟩ := eX (wA.alloc (.cells #[.int .u64 0, .int .u64 0, .int .u64 0, .int .u64 0] 29))
      obtain ⟨bB, hbB⟩ := eX (wA.heap.size)
      have hlbB : wr.heap.size ≤ bB := by rw [← hbB]; exact hF2.size
      rw [hwB, hbB] at hra
      rw [hwB] at hfaB hF3
      have rB3 := hra
      clear hra
      have rA3 := hfaB.heap rA2 (by simp)
      have hnrB : ∀ k, (k ∈ blk r.pp ∨ k ∈ blk r.kp ∨ k ∈ blk r.dp) → ¬ k = bB := fun k hk => by have := hlw k hk; omega
      have hro3x := hro2x.k0 hfaB
      try rw [hwB]
      try rw [hbB]
      refine wpl (l2 := #[true, true, true, true, true, true, true, true, true, true, true, true, false, false, false, false]) (by kernel_rfl) ?_
      exact fin _ bA bB r ⟨rA3, rB3, hrc, hro3x, hnrA, hnrB, hlbA, hlbB, hF3⟩
     ·try simp only [lA, lS, lZ]
      go_simp
      refine hK _ _ (sA _ (hF1.alloc _)) ?_
      clear hK K
      try simp only [lA, lS, lZ, Act.put, lI, lW, lX]
      have hra := heap_alloc_new wC (.cells #[.int .u64 0, .int .u64 0, .int .u64 0, .int .u64 0] 29)
      have hfaB : Frm [] wC (wC.alloc (.cells #[.int .u64 0, .int .u64 0, .int .u64 0, .int .u64 0] 29)) := (Frm.refl _ _).alloc _
      have hF2 := hF1.alloc (.cells #[.int .u64 0, .int .u64 0, .int .u64 0, .int .u64 0] 29)
      have hcsB : wC.heap.size ≤ wC.heap.size := Nat.le_refl _
      obtain ⟨wB, hwB⟩ := eX (wC.alloc (.cells #[.int .u64 0, .int .u64 0, .int .u64 0, .int .u64 0] 29))
      obtain ⟨bB, hbB⟩ := eX (wC.heap.size)
      have hlbB : wr.heap.size ≤ bB := by rw [← hbB]; exact hF1.size
      rw [hwB, hbB] at hra
      rw [hwB] at hfaB hF2
      have rB2 := hra
      clear hra
      have hnrB : ∀ k, (k ∈ blk r.pp ∨ k ∈ blk r.kp ∨ k ∈ blk r.dp) → ¬ k = bB := fun k hk => by have := hlw k hk; omega
      have hro2x := hro2.k0 hfaB
      try rw [hwB]
      try rw [hbB]
      refine wpAnyHT_one (i := 10) rfl (by kernel_rfl) (by kernel_rfl) (fun K hK => ?_)
      try simp only [lA, lS, lZ]
      go_simp
      refine hK _ _ (sA _ (hF2.alloc _)) ?_
      clear hK K
      try simp only [lA, lS, lZ, Act.put, lI, lW, lX]
      have hra := heap_alloc_new wB (.cells #[.int .i64 0, .string ⟨#[]⟩, .int .i64 0, .int .i64 0, .int .i64 0, .int .i64 0, .string ⟨#[]⟩, .slice none 0 0, .int .i64 0, .int .i64 0, .int .i64 0, .slice none 0 0, .slice none 0 0] 26)
      have hfaA : Frm [] wB (wB.alloc (.cells #[.int .i64 0, .string ⟨#[]⟩, .int .i64 0, .int .i64 0, .int .i64 0, .int .i64 0, .string ⟨#[]⟩, .slice none 0 0, .int .i64 0, .int .i64 0, .int .i64 0, .slice none 0 0, .slice none 0 0] 26)) := (Frm.refl _ _).alloc _
      have hF3 := hF2.alloc (.cells #[.int .i64 0, .string ⟨#[]⟩, .int .i64 0, .int .i64 0, .int .i64 0, .int .i64 0, .string ⟨#[]⟩, .slice none 0 0, .int .i64 0, .int .i64 0, .int .i64 0, .slice none 0 0, .slice none 0 0] 26)
      have hcsA : wC.heap.size ≤ wB.heap.size := (by have := hfaB.size; omega)
      obtain ⟨wA, hwA⟩ := eX (wB.alloc (.cells #[.int .i64 0, .string ⟨#[]⟩, .int .i64 0, .int .i64 0, .int .i64 0, .int .i64 0, .string ⟨#[]⟩, .slice none 0 0, .int .i64 0, .int .i64 0, .int .i64 0, .slice none 0 0, .slice none 0 0] 26))
      obtain ⟨bA, hbA⟩ := eX (wB.heap.size)
      have hlbA : wr.heap.size ≤ bA := by rw [← hbA]; exact hF2.size
      rw [hwA, hbA] at hra
      rw [hwA] at hfaA hF3
      have rA3 := hra
      clear hra
      have rB3 := hfaA.heap rB2 (by simp)
      have hnrA : ∀ k, (k ∈ blk r.pp ∨ k ∈ blk r.kp ∨ k ∈ blk r.dp) → ¬ k = bA := fun k hk => by have := hlw k hk; omega
      have hro3x := hro2x.k0 hfaA
      try rw [hwA]
      try rw [hbA]
      refine wpl (l2 := #[true, true, true, true, true, true, true, true, true, true, true, true, false, false, false, false]) (by kernel_rfl) ?_
      exact fin _ bA bB r ⟨rA3, rB3, hrc, hro3x, hnrA, hnrB, hlbA, hlbB, hF3⟩
    ·try simp only [lA, lS, lZ]
     go_simp
     refine hK _ _ (sA _ (hF0.alloc _)) ?_
     clear hK K
     try simp only [lA, lS, lZ, Act.put, lI, lW, lX]
     have hra := heap_alloc_new wd (.cells #[.int .i64 0, .string ⟨#[]⟩, .int .i64 0, .int .i64 0, .int .i64 0, .int .i64 0, .string ⟨#[]⟩, .slice none 0 0, .int .i64 0, .int .i64 0, .int .i64 0, .slice none 0 0, .slice none 0 0] 26)
     have hfaA : Frm [] wd (wd.alloc (.cells #[.int .i64 0, .string ⟨#[]⟩, .int .i64 0, .int .i64 0, .int .i64 0, .int .i64 0, .string ⟨#[]⟩, .slice none 0 0, .int .i64 0, .int .i64 0, .int .i64 0, .slice none 0 0, .slice none 0 0] 26)) := (Frm.refl _ _).alloc _
     have hF1 := hF0.alloc (.cells #[.int .i64 0, .string ⟨#[]⟩, .int .i64 0, .int .i64 0, .int .i64 0, .int .i64 0, .string ⟨#[]⟩, .slice none 0 0, .int .i64 0, .int .i64 0, .int .i64 0, .slice none 0 0, .slice none 0 0] 26)
     obtain ⟨wA, hwA⟩ := eX (wd.alloc (.cells #[.int .i64 0, .string ⟨#[]⟩, .int .i64 0, .int .i64 0, .int .i64 0, .int .i64 0, .string ⟨#[]⟩, .slice none 0 0, .int .i64 0, .int .i64 0, .int .i64 0, .slice none 0 0, .slice none 0 0] 26))
     obtain ⟨bA, hbA⟩ := eX (wd.heap.size)
     have hlbA : wr.heap.size ≤ bA := by rw [← hbA]; exact hF0.size
     rw [hwA, hbA] at hra
     rw [hwA] at hfaA hF1
     have rA1 := hra
     clear hra
     try rw [hwA]
     try rw [hbA]
     refine wpAnyHT_two (i := 4) (j := 11) rfl rfl (by kernel_rfl) (by kernel_rfl) (by kernel_rfl) (fun K hK => ?_) (fun K hK => ?_)
     ·have hltrA := lt_of_heap rA1
      try simp only [lA, lS, lZ]
      go_simp
      refine (HDC.out wA hF1).mono ?_
      rintro e wC ⟨r, rfl, hrc, hro, hfc⟩
      have hF2 : Frm [] wr wC := hF1.trans hfc (by simp)
      refine hK _ _ (sA _ hF2) ?_
      clear hK K
      have rA2 := hfc.heap rA1 (by simp)
      have hlw := hro.low
      have hro2 := hro.lo hF1.size
      have hnrA : ∀ k, (k ∈ blk r.pp ∨ k ∈ blk r.kp ∨ k ∈ blk r.dp) → ¬ k = bA := fun k hk => by have := hlw k hk; omega
      refine hI (i := 5) (v := ?_) rfl ?_ (sA _ hF2) ?_
      rotate_left 1
      ·rintro W ⟨e0, e1, e2, e3⟩; (try simp only [lA, lS, lZ]); go_simp; try with_reducible rfl
      try simp only [lA, lS, lZ, Act.put, lI, lW, lX]
      refine hI (i := 6) (v := ?_) rfl ?_ (sA _ hF2) ?_
      rotate_left 1
      ·rintro W ⟨e0, e1, e2, e3⟩; (try simp only [lA, lS, lZ]); go_simp; try with_reducible rfl
      try simp only [lA, lS, lZ, Act.put, lI, lW, lX]
      refine hI (i := 7) (v := ?_) rfl ?_ (sA _ hF2) ?_
      rotate_left 1
      ·rintro W ⟨e0, e1, e2, e3⟩; (try simp only [lA, lS, lZ]); go_simp; try with_reducible rfl
      try simp only [lA, lS, lZ, Act.put, lI, lW, lX]
      refine hI (i := 8) (v := ?_) rfl ?_ (sA _ hF2) ?_
      rotate_left 1
      ·rintro W ⟨e0, e1, e2, e3⟩; (try simp only [lA, lS, lZ]); go_simp; try with_reducible rfl
      try simp only [lA, lS, lZ, Act.put, lI, lW, lX]
      refine hI (i := 9) (v := ?_) rfl ?_ (sA _ hF2) ?_
      rotate_left 1
      ·rintro W ⟨e0, e1, e2, e3⟩; (try simp only [lA, lS, lZ]); go_simp; try with_reducible rfl
      try simp only [lA, lS, lZ, Act.put, lI, lW, lX]
      refine wpAnyHT_one (i := 11) rfl (by kernel_rfl) (by kernel_rfl) (fun K hK => ?_)
      try simp only [lA, lS, lZ]
      go_simp
      refine hK _ _ (sA _ (hF2.alloc _)) ?_
      clear hK K
      try simp only [lA, lS, lZ, Act.put, lI, lW, lX]
      have hra := heap_alloc_new wC (.cells #[.int .u64 0, .int .u64 0, .int .u64 0, .int .u64 0] 29)
      have hfaB : Frm [] wC (wC.alloc (.cells #[.int .u64 0, .int .u64 0, .int .u64 0, .int .u64 0] 29)) := (Frm.refl _ _).alloc _
      have hF3 := hF2.alloc (.cells #[.int .u64 0, .int .u64 0, .int .u64 0, .int .u64 0] 29)
      have hcsB : wC.heap.size ≤ wC.heap.size := Nat.le_refl _
      obtain ⟨wB, hwB⟩ := eX (wC.alloc (.cells #[.int .u64 0, .int .u64 0, .int .u64 0, .int .u64 0] 29))
      obtain ⟨bB, hbB⟩ := eX (wC.heap.size)
      have hlbB : wr.heap.size ≤ bB := by rw [← hbB]; exact hF2.size
      rw [hwB, hbB] at hra
      rw [hwB] at hfaB hF3
      have rB3 := hra
      clear hra
      have rA3 := hfaB.heap rA2 (by simp)
      have hnrB : ∀ k, (k ∈ blk r.pp ∨ k ∈ blk r.kp ∨ k ∈ blk r.dp) → ¬ k = bB := fun k hk => by have := hlw k hk; omega
      have hro3x := hro2.k0 hfaB
      try rw [hwB]
      try rw [hbB]
      refine wpl (l2 := #[true, true, true, true, true, true, true, true, true, true, true, true, false, false, false, false]) (by kernel_rfl) ?_
      exact fin _ bA bB r ⟨rA3, rB3, hrc, hro3x, hnrA, hnrB, hlbA, hlbB, hF3⟩
     ·try simp only [lA, lS, lZ]
      go_simp
      refine hK _ _ (sA _ (hF1.alloc _)) ?_
      clear hK K
      try simp only [lA, lS, lZ, Act.put, lI, lW, lX]
      have hra := heap_alloc_new wA (.cells #[.int .u64 0, .int .u64 0, .int .u64 0, .int .u64 0] 29)
      have hfaB : Frm [] wA (wA.alloc (.cells #[.int .u64 0, .int .u64 0, .int .u64 0, .int .u64 0] 29)) := (Frm.refl _ _).alloc _
      have hF2 := hF1.alloc (.cells #[.int .u64 0, .int .u64 0, .int .u64 0, .int .u64 0] 29)
      obtain ⟨wB, hwB⟩ := eX (wA.alloc (.cells #[.int .u64 0, .int .u64 0, .int .u64 0, .int .u64 0] 29))
      obtain ⟨bB, hbB⟩ := eX (wA.heap.size)
      have hlbB : wr.heap.size ≤ bB := by rw [← hbB]; exact hF1.size
      rw [hwB, hbB] at hra
      rw [hwB] at hfaB hF2
      have rB2 := hra
      clear hra
      have rA2 := hfaB.heap rA1 (by simp)
      try rw [hwB]
      try rw [hbB]
      refine wpAnyHT_one (i := 4) rfl (by kernel_rfl) (by kernel_rfl) (fun K hK => ?_)
      have hltrA := lt_of_heap rA2
      have hltrB := lt_of_heap rB2
      try simp only [lA, lS, lZ]
      go_simp
      refine (HDC.out wB hF2).mono ?_
      rintro e wC ⟨r, rfl, hrc, hro, hfc⟩
      have hF3 : Frm [] wr wC := hF2.trans hfc (by simp)
      refine hK _ _ (sA _ hF3) ?_
      clear hK K
      have rA3 := hfc.heap rA2 (by simp)
      have rB3 := hfc.heap rB2 (by simp)
      have hlw := hro.low
      have hro2 := hro.lo hF2.size
      have hnrA : ∀ k, (k ∈ blk r.pp ∨ k ∈ blk r.kp ∨ k ∈ blk r.dp) → ¬ k = bA := fun k hk => by have := hlw k hk; omega
      have hnrB : ∀ k, (k ∈ blk r.pp ∨ k ∈ blk r.kp ∨ k ∈ blk r.dp) → ¬ k = bB := fun k hk => by have := hlw k hk; omega
      refine hI (i := 5) (v := ?_) rfl ?_ (sA _ hF3) ?_
      rotate_left 1
      ·rintro W ⟨e0, e1, e2, e3⟩; (try simp only [lA, lS, lZ]); go_simp; try with_reducible rfl
      try simp only [lA, lS, lZ, Act.put, lI, lW, lX]
      refine hI (i := 6) (v := ?_) rfl ?_ (sA _ hF3) ?_
      rotate_left 1
      ·rintro W ⟨e0, e1, e2, e3⟩; (try simp only [lA, lS, lZ]); go_simp; try with_reducible rfl
      try simp only [lA, lS, lZ, Act.put, lI, lW, lX]
      refine hI (i := 7) (v := ?_) rfl ?_ (sA _ hF3) ?_
      rotate_left 1
      ·rintro W ⟨e0, e1, e2, e3⟩; (try simp only [lA, lS, lZ]); go_simp; try with_reducible rfl
      try simp only [lA, lS, lZ, Act.put, lI, lW, lX]
      refine hI (i := 8) (v := ?_) rfl ?_ (sA _ hF3) ?_
      rotate_left 1
      ·rintro W ⟨e0, e1, e2, e3⟩; (try simp only [lA, lS, lZ]); go_simp; try with_reducible rfl
      try simp only [lA, lS, lZ, Act.put, lI, lW, lX]
      refine hI (i := 9) (v := ?_) rfl ?_ (sA _ hF3) ?_
      rotate_left 1
      ·rintro W ⟨e0, e1, e2, e3⟩; (try simp only [lA, lS, lZ]); go_simp; try with_reducible rfl
      try simp only [lA, lS, lZ, Act.put, lI, lW, lX]
      refine wpl (l2 := #[true, true, true, true, true, true, true, true, true, true, true, true, false, false, false, false]) (by kernel_rfl) ?_
      exact fin _ bA bB r ⟨rA3, rB3, hrc, hro2, hnrA, hnrB, hlbA, hlbB, hF3⟩
    ·try simp only [lA, lS, lZ]
     go_simp
     refine hK _ _ (sA _ (hF0.alloc _)) ?_
     clear hK K
     try simp only [lA, lS, lZ, Act.put, lI, lW, lX]
     have hra := heap_alloc_new wd (.cells #[.int .u64 0, .int .u64 0, .int .u64 0, .int .u64 0] 29)
     have hfaB : Frm [] wd (wd.alloc (.cells #[.int .u64 0, .int .u64 0, .int .u64 0, .int .u64 0] 29)) := (Frm.refl _ _).alloc _
     have hF1 := hF0.alloc (.cells #[.int .u64 0, .int .u64 0, .int .u64 0, .int .u64 0] 29)
     obtain ⟨wB, hwB⟩ := eX (wd.alloc (.cells #[.int .u64 0, .int .u64 0, .int .u64 0, .int .u64 0] 29))
     obtain ⟨bB, hbB⟩ := eX (wd.heap.size)
     have hlbB : wr.heap.size ≤ bB := by rw [← hbB]; exact hF0.size
     rw [hwB, hbB] at hra
     rw [hwB] at hfaB hF1
     have rB1 := hra
     clear hra
     try rw [hwB]
     try rw [hbB]
     refine wpAnyHT_two (i := 4) (j := 10) rfl rfl (by kernel_rfl) (by kernel_rfl) (by kernel_rfl) (fun K hK => ?_) (fun K hK => ?_)
     ·have hltrB := lt_of_heap rB1
      try simp only [lA, lS, lZ]
      go_simp
      refine (HDC.out wB hF1).mono ?_
      rintro e wC ⟨r, rfl, hrc, hro, hfc⟩
      have hF2 : Frm [] wr wC := hF1.trans hfc (by simp)
      refine hK _ _ (sA _ hF2) ?_
      clear hK K
      have rB2 := hfc.heap rB1 (by simp)
      have hlw := hro.low
      have hro2 := hro.lo hF1.size
      have hnrB : ∀ k, (k ∈ blk r.pp ∨ k ∈ blk r.kp ∨ k ∈ blk r.dp) → ¬ k = bB := fun k hk => by have := hlw k hk; omega
      refine hI (i := 5) (v := ?_) rfl ?_ (sA _ hF2) ?_
      rotate_left 1
      ·rintro W ⟨e0, e1, e2, e3⟩; (try simp only [lA, lS, lZ]); go_simp; try with_reducible rfl
      try simp only [lA, lS, lZ, Act.put, lI, lW, lX]
      refine hI (i := 6) (v := ?_) rfl ?_ (sA _ hF2) ?_
      rotate_left 1
      ·rintro W ⟨e0, e1, e2, e3⟩; (try simp only [lA, lS, lZ]); go_simp; try with_reducible rfl
      try simp only [lA, lS, lZ, Act.put, lI, lW, lX]
      refine hI (i := 7) (v := ?_) rfl ?_ (sA _ hF2) ?_
      rotate_left 1
      ·rintro W ⟨e0, e1, e2, e3⟩; (try simp only [lA, lS, lZ]); go_simp; try with_reducible rfl
      try simp only [lA, lS, lZ, Act.put, lI, lW, lX]
      refine hI (i := 8) (v := ?_) rfl ?_ (sA _ hF2) ?_
      rotate_left 1
      ·rintro W ⟨e0, e1, e2, e3⟩; (try simp only [lA, lS, lZ]); go_simp; try with_reducible rfl
      try simp only [lA, lS, lZ, Act.put, lI, lW, lX]
      refine hI (i := 9) (v := ?_) rfl ?_ (sA _ hF2) ?_
      rotate_left 1
      ·rintro W ⟨e0, e1, e2, e3⟩; (try simp only [lA, lS, lZ]); go_simp; try with_reducible rfl
      try simp only [lA, lS, lZ, Act.put, lI, lW, lX]
      refine wpAnyHT_one (i := 10) rfl (by kernel_rfl) (by kernel_rfl) (fun K hK => ?_)
      try simp only [lA, lS, lZ]
      go_simp
      refine hK _ _ (sA _ (hF2.alloc _)) ?_
      clear hK K
      try simp only [lA, lS, lZ, Act.put, lI, lW, lX]
      have hra := heap_alloc_new wC (.cells #[.int .i64 0, .string ⟨#[]⟩, .int .i64 0, .int .i64 0, .int .i64 0, .int .i64 0, .string ⟨#[]⟩, .slice none 0 0, .int .i64 0, .int .i64 0, .int .i64 0, .slice none 0 0, .slice none 0 0] 26)
      have hfaA : Frm [] wC (wC.alloc (.cells #[.int .i64 0, .string ⟨#[]⟩, .int .i64 0, .int .i64 0, .int .i64 0, .int .i64 0, .string ⟨#[]⟩, .slice none 0 0, .int .i64 0, .int .i64 0, .int .i64 0, .slice none 0 0, .slice none 0 0] 26)) := (Frm.refl _ _).alloc _
      have hF3 := hF2.alloc (.cells #[.int .i64 0, .string ⟨#[]⟩, .int .i64 0, .int .i64 0, .int .i64 0, .int .i64 0, .string ⟨#[]⟩, .slice none 0 0, .int .i64 0, .int .i64 0, .int .i64 0, .slice none 0 0, .slice none 0 0] 26)
      have hcsA : wC.heap.size ≤ wC.heap.size := Nat.le_refl _
      obtain ⟨wA, hwA⟩ := eX (wC.alloc (.cells #[.int .i64 0, .string ⟨#[]⟩, .int .i64 0, .int .i64 0, .int .i64 0, .int .i64 0, .string ⟨#[]⟩, .slice none 0 0, .int .i64 0, .int .i64 0, .int .i64 0, .slice none 0 0, .slice none 0 0] 26))
      obtain ⟨bA, hbA⟩ := eX (wC.heap.size)
      have hlbA : wr.heap.size ≤ bA := by rw [← hbA]; exact hF2.size
      rw [hwA, hbA] at hra
      rw [hwA] at hfaA hF3
      have rA3 := hra
      clear hra
      have rB3 := hfaA.heap rB2 (by simp)
      have hnrA : ∀ k, (k ∈ blk r.pp ∨ k ∈ blk r.kp ∨ k ∈ blk r.dp) → ¬ k = bA := fun k hk => by have := hlw k hk; omega
      have hro3x := hro2.k0 hfaA
      try rw [hwA]
      try rw [hbA]
      refine wpl (l2 := #[true, true, true, true, true, true, true, true, true, true, true, true, false, false, false, false]) (by kernel_rfl) ?_
      exact fin _ bA bB r ⟨rA3, rB3, hrc, hro3x, hnrA, hnrB, hlbA, hlbB, hF3⟩
     ·try simp only [lA, lS, lZ]
      go_simp
      refine hK _ _ (sA _ (hF1.alloc _)) ?_
      clear hK K
      try simp only [lA, lS, lZ, Act.put, lI, lW, lX]
      have hra := heap_alloc_new wB (.cells #[.int .i64 0, .string ⟨#[]⟩, .int .i64 0, .int .i64 0, .int .i64 0, .int .i64 0, .string ⟨#[]⟩, .slice none 0 0, .int .i64 0, .int .i64 0, .int .i64 0, .slice none 0 0, .slice none 0 0] 26)
      have hfaA : Frm [] wB (wB.alloc (.cells #[.int .i64 0, .string ⟨#[]⟩, .int .i64 0, .int .i64 0, .int .i64 0, .int .i64 0, .string ⟨#[]⟩, .slice none 0 0, .int .i64 0, .int .i64 0, .int .i64 0, .slice none 0 0, .slice none 0 0] 26)) := (Frm.refl _ _).alloc _
      have hF2 := hF1.alloc (.cells #[.int .i64 0, .string ⟨#[]⟩, .int .i64 0, .int .i64 0, .int .i64 0, .int .i64 0, .string ⟨#[]⟩, .slice none 0 0, .int .i64 0, .int .i64 0, .int .i64 0, .slice none 0 0, .slice none 0 0] 26)
      obtain ⟨wA, hwA⟩ := eX (wB.alloc (.cells #[.int .i64 0, .string ⟨#[]⟩, .int .i64 0, .int .i64 0, .int .i64 0, .int .i64 0, .string ⟨#[]⟩, .slice none 0 0, .int .i64 0, .int .i64 0, .int .i64 0, .slice none 0 0, .slice none 0 0] 26))
      obtain ⟨bA, hbA⟩ := eX (wB.heap.size)
      have hlbA : wr.heap.size ≤ bA := by rw [← hbA]; exact hF1.size
      rw [hwA, hbA] at hra
      rw [hwA] at hfaA hF2
      have rA2 := hra
      clear hra
      have rB2 := hfaA.heap rB1 (by simp)
      try rw [hwA]
      try rw [hbA]
      refine wpAnyHT_one (i := 4) rfl (by kernel_rfl) (by kernel_rfl) (fun K hK => ?_)
      have hltrB := lt_of_heap rB2
      have hltrA := lt_of_heap rA2
      try simp only [lA, lS, lZ]
      go_simp
      refine (HDC.out wA hF2).mono ?_
      rintro e wC ⟨r, rfl, hrc, hro, hfc⟩
      have hF3 : Frm [] wr wC := hF2.trans hfc (by simp)
      refine hK _ _ (sA _ hF3) ?_
      clear hK K
      have rB3 := hfc.heap rB2 (by simp)
      have rA3 := hfc.heap rA2 (by simp)
      have hlw := hro.low
      have hro2 := hro.lo hF2.size
      have hnrB : ∀ k, (k ∈ blk r.pp ∨ k ∈ blk r.kp ∨ k ∈ blk r.dp) → ¬ k = bB := fun k hk => by have := hlw k hk; omega
      have hnrA : ∀ k, (k ∈ blk r.pp ∨ k ∈ blk r.kp ∨ k ∈ blk r.dp) → ¬ k = bA := fun k hk => by have := hlw k hk; omega
      refine hI (i := 5) (v := ?_) rfl ?_ (sA _ hF3) ?_
      rotate_left 1
      ·rintro W ⟨e0, e1, e2, e3⟩; (try simp only [lA, lS, lZ]); go_simp; try with_reducible rfl
      try simp only [lA, lS, lZ, Act.put, lI, lW, lX]
      refine hI (i := 6) (v := ?_) rfl ?_ (sA _ hF3) ?_
      rotate_left 1
      ·rintro W ⟨e0, e1, e2, e3⟩; (try simp only [lA, lS, lZ]); go_simp; try with_reducible rfl
      try simp only [lA, lS, lZ, Act.put, lI, lW, lX]
      refine hI (i := 7) (v := ?_) rfl ?_ (sA _ hF3) ?_
      rotate_left 1
      ·rintro W ⟨e0, e1, e2, e3⟩; (try simp only [lA, lS, lZ]); go_simp; try with_reducible rfl
      try simp only [lA, lS, lZ, Act.put, lI, lW, lX]
      refine hI (i := 8) (v := ?_) rfl ?_ (sA _ hF3) ?_
      rotate_left 1
      ·rintro W ⟨e0, e1, e2, e3⟩; (try simp only [lA, lS, lZ]); go_simp; try with_reducible rfl
      try simp only [lA, lS, lZ, Act.put, lI, lW, lX]
      refine hI (i := 9) (v := ?_) rfl ?_ (sA _ hF3) ?_
      rotate_left 1
      ·rintro W ⟨e0, e1, e2, e3⟩; (try simp only [lA, lS, lZ]); go_simp; try with_reducible rfl
      try simp only [lA, lS, lZ, Act.put, lI, lW, lX]
      refine wpl (l2 := #[true, true, true, true, true, true, true, true, true, true, true, true, false, false, false, false]) (by kernel_rfl) ?_
      exact fin _ bA bB r ⟨rA3, rB3, hrc, hro2, hnrA, hnrB, hlbA, hlbB, hF3⟩
   ·skip
    rintro cur bA bB r ⟨hrA, hrB, hrc, hln, hnrA, hnrB, hlbA, hlbB, hFc⟩
    have hAB : ¬ bB = bA := fun h => by rw [h, hrA] at hrB; cases hrB
    obtain ⟨kind, name, typ, frm, guid, origin, snap, pp, pn, pc, obj, at_, many, kp, kn, kc, dp, dl, dc⟩ := r
    unfold Rc.arr
    simp only
    have z0 := cR 0 (.int .i64 0) hrA
    have y0 := fZ 0 hrA
    have z1 := cR 1 (.string ⟨#[]⟩) hrA
    have y1 := fZ 1 hrA
    have z2 := cR 2 (.int .i64 0) hrA
    have y2 := fZ 2 hrA
    have z3 := cR 3 (.int .i64 0) hrA
    have y3 := fZ 3 hrA
    have z4 := cR 4 (.int .i64 0) hrA
    have y4 := fZ 4 hrA
    have z5 := cR 5 (.int .i64 0) hrA
    have y5 := fZ 5 hrA
    have z6 := cR 6 (.string ⟨#[]⟩) hrA
    have y6 := fZ 6 hrA
    have z7 := cR 7 (.slice none 0 0) hrA
    have y7 := fZ 7 hrA
    have z8 := cR 8 (.int .i64 0) hrA
    have y8 := fZ 8 hrA
    have z9 := cR 9 (.int .i64 0) hrA
    have y9 := fZ 9 hrA
    have z10 := cR 10 (.int .i64 0) hrA
    have y10 := fZ 10 hrA
    have z11 := cR 11 (.slice none 0 0) hrA
    have y11 := fZ 11 hrA
    have z12 := cR 12 (.slice none 0 0) hrA
    have y12 := fZ 12 hrA
    obtain ⟨Wz, hwz, h5, f5⟩ := sE bA 26 [(0, .int .i64 kind), (1, .string name), (2, .int .i64 typ), (3, .int .i64 frm), (4, .int .i64 guid), (5, .int .i64 origin), (6, .string snap), (7, .slice pp pn pc), (8, .int .i64 obj), (9, .int .i64 at_), (10, .int .i64 many), (11, .slice kp kn kc), (12, .slice dp dl dc)] cur _ hrA
    simp only [List.foldl, List.setIfInBounds_toArray, List.set_cons_zero, List.set_cons_succ] at h5
    simp only [setsF] at hwz
    have hWz := hwz
    have hFz : Frm [] wr Wz := hFc.trans f5 (fun i hi hl => by rw [List.mem_singleton] at hi; omega)
    have hrB2 := f5.heap hrB (by simpa using hAB)
    have hln5 := hln.kept f5 (fun k hk hm => hnrA k (Or.inl hk) (List.mem_singleton.1 hm)) (fun k hk hm => hnrA k (Or.inr (Or.inl hk)) (List.mem_singleton.1 hm)) (fun k hk hm => hnrA k (Or.inr (Or.inr hk)) (List.mem_singleton.1 hm))
    have n0 := cR 0 (.int .u64 0) hrB2
    have m0 := fZ 0 hrB2
    have n1 := cR 1 (.int .u64 0) hrB2
    have m1 := fZ 1 hrB2
    have n2 := cR 2 (.int .u64 0) hrB2
    have m2 := fZ 2 hrB2
    have n3 := cR 3 (.int .u64 0) hrB2
    have m3 := fZ 3 hrB2
    obtain ⟨Wy, hwy, h6, f6⟩ := sE bB 29 [(0, .int .u64 t0), (1, .int .u64 t1), (2, .int .u64 t2), (3, .int .u64 t3)] Wz _ hrB2
    simp only [List.foldl, List.setIfInBounds_toArray, List.set_cons_zero, List.set_cons_succ] at h6
    simp only [setsF] at hwy
    have hWy := hwy
    have hFy : Frm [] wr Wy := hFz.trans f6 (fun i hi hl => by rw [List.mem_singleton] at hi; omega)
    have h7 := f6.heap h5 (by simpa using fun h => hAB h.symm)
    have hln6 := hln5.kept f6 (fun k hk hm => hnrB k (Or.inl hk) (List.mem_singleton.1 hm)) (fun k hk hm => hnrB k (Or.inr (Or.inl hk)) (List.mem_singleton.1 hm)) (fun k hk hm => hnrB k (Or.inr (Or.inr hk)) (List.mem_singleton.1 hm))
    refine wpAnyHT_one (i := 12) rfl (by kernel_rfl) (by kernel_rfl) (fun K hK => ?_)
    try simp only [lA, lS, lZ]
    go_simp
    try rw [hwz]
    refine hK _ _ (sA _ hFz) ?_
    clear hK K
    try simp only [List.setIfInBounds_toArray, List.set_cons_zero, List.set_cons_succ]
    refine wpAnyHT_one (i := 13) rfl (by kernel_rfl) (by kernel_rfl) (fun K hK => ?_)
    try simp only [lA, lS, lZ]
    go_simp
    refine hK _ _ (sA _ hFz) ?_
    clear hK K
    try simp only [List.setIfInBounds_toArray, List.set_cons_zero, List.set_cons_succ]
    refine wpAnyHT_one (i := 14) rfl (by kernel_rfl) (by kernel_rfl) (fun K hK => ?_)
    try simp only [lA, lS, lZ]
    go_simp
    try rw [hwy]
    refine hK _ _ (sA _ hFy) ?_
    clear hK K
    try simp only [List.setIfInBounds_toArray, List.set_cons_zero, List.set_cons_succ]
    refine wpAnyHT_end (by kernel_rfl) ?_
    simp only [List.drop_succ_cons, List.drop_zero]
    clear z0 y0 h5 f5 hwz hwy hWz hWy
    go_wp2_with fail
    go_meet
    exact ⟨⟨kind, name, typ, frm, guid, origin, snap, pp, pn, pc, obj, at_, many, kp, kn, kc, dp, dl, dc⟩, bA, bB, rfl, rfl, rfl, rfl, hid h7, hid h6, hid hrc, hid hln6, hlbA, hlbB, hid hFy⟩
  obtain ⟨r, bx, bz, rfl, rfl, rfl, rfl, hx, hzz, hrc, hro, hlx, hlz, hf2⟩ := hcut
  have HX7 := hid hx.out
  have HZ7 := hid hzz.out
  have HRC := hid hrc.out
  have HRO := hid hro.out
  have HF2 := hid hf2.out
  clear hx hzz hrc hro hf2 hsl sA HDC
  by_cases hde : EV = 0
  case neg =>
   have hbE : (EV != 0) = true := by rw [bne_iff_ne]; exact hde
   have HX := hid (HNO.out wc hde (HF.out.trans HF2.out (by simp)))
   clear hde
   go_wp2_with fail
   try go_returns
   exact HX.out
  subst hde
  obtain ⟨hok1, htl2, hrkx, hst, dM, rfl, hdm, hdm37, hdr1⟩ := HYES.out rfl
  have HOT2 := hid hok1
  have HST := hid hst
  have HDR1 := hid hdr1
  obtain ⟨hk1, hns⟩ := hrkx ⟨r, DP, DK, DD⟩ HRC.out rfl rfl rfl
  have HNEW := hid hk1
  have HNS : Hid (r.name.size ≤ 140737488355328) := hid hns
  clear hok1 hst hdr1 hk1 hns hrkx HYES HNO
  obtain ⟨R, hR⟩ := eX (r)
  have HRA : Hid (r.arr = R.arr) := hid (by rw [hR])
  rw [hR] at HNEW HRO HNS
  clear hR HRC
  obtain ⟨kind, name, typ, frm, guid, origin, snap, pp, pn, pc, obj, at_, many, kp, kn, kc, dp, dl, dc⟩ := r
  have HRA2 : Hid (R.arr.toList = [.int .i64 kind, .string name, .int .i64 typ, .int .i64 frm, .int .i64 guid, .int .i64 origin, .string snap, .slice pp pn pc, .int .i64 obj, .int .i64 at_, .int .i64 many, .slice kp kn kc, .slice dp dl dc]) := hid (by rw [← HRA.out]; rfl)
  clear HRA
  unfold Rc.arr at HX7
  simp only at HX7
  have hown7 := ownsRow_kept HOW.out HF2.out (by simp)
  have HA := hid ((Frm.refl [] wc).alloc (.cells #[.int .i64 kind, .string name, .int .i64 typ, .int .i64 frm, .int .i64 guid, .int .i64 origin, .string snap, .slice pp pn pc, .int .i64 obj, .int .i64 at_, .int .i64 many, .slice kp kn kc, .slice dp dl dc] 26))
  have HRV := hid (rv_block (heap_alloc_new wc (.cells #[.int .i64 kind, .string name, .int .i64 typ, .int .i64 frm, .int .i64 guid, .int .i64 origin, .string snap, .slice pp pn pc, .int .i64 obj, .int .i64 at_, .int .i64 many, .slice kp kn kc, .slice dp dl dc] 26)))
  have HOW2 := hid (ownsRow_kept hown7 HA.out (by simp))
  have HXS : Hid (xs < wr.heap.size) := hid (lt_of_heap HSR.out)
  have z0 := cR 0 (.int .i64 kind) HX7.out
  have z1 := cR 1 (.string name) HX7.out
  have z2 := cR 2 (.int .i64 typ) HX7.out
  have z3 := cR 3 (.int .i64 frm) HX7.out
  have z4 := cR 4 (.int .i64 guid) HX7.out
  have z5 := cR 5 (.int .i64 origin) HX7.out
  have z6 := cR 6 (.string snap) HX7.out
  have z7 := cR 7 (.slice pp pn pc) HX7.out
  have z8 := cR 8 (.int .i64 obj) HX7.out
  have z9 := cR 9 (.int .i64 at_) HX7.out
  have z10 := cR 10 (.int .i64 many) HX7.out
  have z11 := cR 11 (.slice kp kn kc) HX7.out
  have z12 := cR 12 (.slice dp dl dc) HX7.out
  clear hown7
  go_upto_region 10 with fail
  go_wp2_with (at_builtin; refine wpList_appV rfl _ _ 43 rfl 26 13 168 _ Tryz.underlying43 infoRcR rfl (by decide) lp t lc (rowsRk L) rfl HOW2.out (some ⟨wc.heap.size, 0, none⟩) 1 1 [.int .i64 kind, .string name, .int .i64 typ, .int .i64 frm, .int .i64 guid, .int .i64 origin, .string snap, .slice pp pn pc, .int .i64 obj, .int .i64 at_, .int .i64 many, .slice kp kn kc, .slice dp dl dc] rfl rfl (by simp) HRV.out (by intro u hu; simp at hu; rcases hu with rfl | rfl | rfl | rfl | rfl | rfl | rfl | rfl | rfl | rfl | rfl | rfl | rfl <;> rfl) (by unfold maxLen; omega) (by omega) ?_)
  intro p8 c8 w8 ho8 hf8 hb8
  have hfa8 : Frm (blk lp) wc w8 := (HA.out.mono (by simp)).trans hf8.out (fun i hi _ => hi)
  have HZ8 : Hid (w8.heap[bz]? = some (.cells #[.int .u64 t0, .int .u64 t1, .int .u64 t2, .int .u64 t3] 29 (0, 0))) := hid (hfa8.heap HZ7.out (fun hm => by have h1 := ownsRow_low HOW.out _ hm; omega))
  have HS8 := hid (hfa8.heap (HF2.out.heap HSR.out (by simp)) (fun hm => by have := HNW.out xs hm; omega))
  have HF8 : Hid (Frm [] w w8) := hid ((HF.out.trans HF2.out (by simp)).trans hfa8 (fun i hi hl => by have := HNW.out i hi; have := HBS.out; omega))
  have e1 : (wc.alloc (.cells #[.int .i64 kind, .string name, .int .i64 typ, .int .i64 frm, .int .i64 guid, .int .i64 origin, .string snap, .slice pp pn pc, .int .i64 obj, .int .i64 at_, .int .i64 many, .slice kp kn kc, .slice dp dl dc] 26)).heap.size = wc.heap.size + 1 := by simp
  have HNW8 : Hid (∀ k ∈ blk p8, xs < k) := hid (fun k hk => by
   rcases hb8.out k hk with h | h
   ·exact HNW.out k h
   ·have h2 := HXS.out; have h3 := HF2.out.size; omega)
  obtain ⟨B, hB1, hB2⟩ := HRO.out.foot
  have hlpl := ownsRow_low HOW.out
  have HKA : Hid (Keeps A wr w8) := hid (fun k hk => by
   obtain ⟨k1, k2, k3⟩ := HAB.out k hk
   exact (hfa8.block k (Nat.lt_of_lt_of_le k1 HF2.out.size) k3).trans (HF2.out.block k k1 (by simp)))
  have HKB : Hid (Keeps B wc w8) := hid (fun k hk => by
   obtain ⟨k1, k2⟩ := hB2 k hk
   exact hfa8.block k k2 (fun hm => by have := hlpl k hm; omega))
  have HRK8 : Hid (RkOk w8 (A ++ B) bs (L ++ [⟨R, DP, DK, DD⟩])) := hid ((HRK.out.keeps HKA.out).snoc (HRO.out.ok.keeps hB1 HKB.out) hB1 HNS.out (by rw [HLL.out]; exact HNEW.out))
  have HAB8 : Hid (∀ k ∈ A ++ B, k < w8.heap.size ∧ xs < k ∧ k ∉ blk p8) := hid (fun k hk => by
   have s1 := hfa8.size
   have s2 := HF2.out.size
   have s4 := HXS.out
   rcases List.mem_append.1 hk with hk | hk
   ·obtain ⟨k1, k2, k3⟩ := HAB.out k hk
    exact ⟨by omega, k2, fun hm => by
     rcases hb8.out k hm with h | h
     ·exact k3 h
     ·omega⟩
   ·obtain ⟨k1, k2⟩ := hB2 k hk
    exact ⟨by omega, by omega, fun hm => by
     rcases hb8.out k hm with h | h
     ·have := hlpl k h; omega
     ·omega⟩)
  have HO8 : Hid (w8.ownsRow 0 26 13 (.slice p8 (t + 1) c8) (t + 1) (rowsRk (L ++ [⟨R, DP, DK, DD⟩]))) := hid (by
   rw [rowsRk_app, rowsRk, rowsRk, List.append_nil]
   show w8.ownsRow 0 26 13 (.slice p8 (t + 1) c8) (t + 1) (rowsRk L ++ R.arr.toList)
   rw [HRA2.out]
   exact ho8.out)
  have HLL8 : Hid ((L ++ [(⟨R, DP, DK, DD⟩ : Rk)]).length = t + 1) := hid (by rw [List.length_append, HLL.out]; rfl)
  clear ho8 hf8 hb8 hfa8 e1 hB1 hB2 hlpl HA HRV HOW2 HX7 HRA2 HRO z0 z1 z2 z3 z4 z5 z6 z7 z8 z9 z10 z11 z12
  have n0 := cR 0 (.int .u64 t0) HZ8.out
  have n1 := cR 1 (.int .u64 t1) HZ8.out
  have n2 := cR 2 (.int .u64 t2) HZ8.out
  have n3 := cR 3 (.int .u64 t3) HZ8.out
  have mz0 := fZ 0 HS8.out
  have mz1 := fZ 1 HS8.out
  have mz2 := fZ 2 HS8.out
  have mz3 := fZ 3 HS8.out
  have v0 := cR 0 (.int .u64 s0) HS8.out
  have v1 := cR 1 (.int .u64 s1) HS8.out
  have v2 := cR 2 (.int .u64 s2) HS8.out
  have v3 := cR 3 (.int .u64 s3) HS8.out
  obtain ⟨h4, f4⟩ := set4 (y0 := .int .u64 t0) (y1 := .int .u64 t1) (y2 := .int .u64 t2) (y3 := .int .u64 t3) HS8.out
  obtain ⟨W4, hW4⟩ := eX (((((w8.setCell ⟨xs, 0, none⟩ (.int .u64 t0)).setCell ⟨xs, 1, none⟩ (.int .u64 t1)).setCell ⟨xs, 2, none⟩ (.int .u64 t2)).setCell ⟨xs, 3, none⟩ (.int .u64 t3)))
  rw [hW4] at h4 f4
  have HS4 : Hid (W4.heap[xs]? = some (.cells (rsS bs (t + 1)).2.arr 29 (0, 0))) := hid (by rw [HST.out]; exact h4)
  have HF4 : Hid (Frm [] w W4) := hid (HF8.out.trans f4 (fun i hi hl => by rw [List.mem_singleton] at hi; have := HBS.out; omega))
  have HXB : Hid (∀ k, xs < k → k < w8.heap.size → W4.heap[k]? = w8.heap[k]?) := hid (fun k hk hlt => f4.block k hlt (by simp; omega))
  have HO4 := hid (ownsRow_kept HO8.out f4 (fun k hk hm => by rw [List.mem_singleton] at hm; have := HNW8.out k hk; omega))
  have HRK4 := hid (HRK8.out.keeps (fun k hk => HXB.out k (HAB8.out k hk).2.1 (HAB8.out k hk).1))
  have HAB4 : Hid (∀ k ∈ A ++ B, k < W4.heap.size ∧ xs < k ∧ k ∉ blk p8) := hid (fun k hk => by have h := HAB8.out k hk; have h3 := f4.size; exact ⟨by omega, h.2⟩)
  have HWE := hid hW4
  have hadm : a + dM ≤ n := by have := HM2.out; omega
  clear h4 f4 hW4 HO8 HF8 HF HF2 HS8 HZ8 HRK8 HAB8 HXB
  go_wp2_with fail
  go_roundw
  case rel => exact ⟨t + 1, a + dM, c8, p8, L ++ [⟨R, DP, DK, DD⟩], A ++ B, hadm, htl2, rfl, by go_num, HOT2, HDR1, by rw [HWE.out]; exact HS4, HLL8, by rw [HWE.out]; exact HO4, HNW8, by rw [HWE.out]; exact HRK4, by rw [HWE.out]; exact HAB4, by rw [HWE.out]; exact HF4⟩
  case measure => simp [intOf] <;> omega
end
section
open Go.RowKit Go.Lib
structure Bk where
 p : Option Addr
 c : Nat
 bs : List Int
def Bk.v (x : Bk) : Value := .slice x.p x.bs.length x.c
def rowsK (ls : List Bk) : List Value := ls.map Bk.v
theorem rowsK_app (a b : List Bk) : rowsK (a ++ b) = rowsK a ++ rowsK b := by simp [rowsK]
theorem rowsK_get {ls : List Bk} {i : Nat} {x : Bk} (h : ls[i]? = some x) : (rowsK ls)[i]? = some x.v := by simp [rowsK, h]
theorem infoK : (Tryz.prog.info? 24).map (fun i => (i.zero, i.size, i.bytes)) = some (some (.slice none 0 0), 1, 24) := by kernel_rfl
structure BkOk (w : World) (x : Bk) : Prop where
 it : x.bs = [] ∨ ∃ g cur, x.p = some ⟨g, 0, none⟩ ∧ w.heap[g]? = some (.cells cur 5 (0, 0)) ∧ cur.toList.take x.bs.length = bv x.bs
 lo : ∀ k ∈ blk x.p, k < w.heap.size
 cp : x.bs.length ≤ x.c ∧ x.c ≤ 9223372036854775807
theorem BkOk.kept {w w' : World} {x : Bk} {S : List Nat} (h : BkOk w x) (hf : Frm S w w') (hn : ∀ k ∈ blk x.p, k ∉ S) : BkOk w' x := by
 refine ⟨h.it.imp (fun h => h) (fun ⟨g, cur, h1, h2, h3⟩ => ⟨g, cur, h1, hf.heap h2 (hn g (by rw [h1]; simp [blk])), h3⟩), fun k hk => Nat.lt_of_lt_of_le (h.lo k hk) hf.size, h.cp⟩
theorem BkOk.of_own {w : World} {x : Bk} (h : Own w 5 x.v x.bs) : BkOk w x := by
 refine ⟨?_, ownsRow_low (show w.ownsRow 0 5 1 (.slice x.p x.bs.length x.c) x.bs.length (bv x.bs) from h), ?_⟩
 ·rcases h.2 with ⟨_, h0⟩ | ⟨g, c', cur, he, _, hg, hc, _, hs, ht⟩
  ·exact Or.inl (List.eq_nil_of_length_eq_zero h0)
  ·unfold Bk.v at he
   simp only [Value.slice.injEq] at he
   exact Or.inr ⟨g, cur, he.1, hg, by simpa using ht⟩
 ·rcases h.2 with ⟨he, h0⟩ | ⟨g, c', cur, he, _, hg, hc, hm, hs, ht⟩
  ·unfold Bk.v at he
   simp only [Value.slice.injEq] at he
   omega
  ·unfold Bk.v at he
   simp only [Value.slice.injEq] at he
   unfold maxLen at hm
   omega
theorem BkOk.at {w : World} {x : Bk} (h : BkOk w x) {i : Nat} {z : Int} (hz : x.bs[i]? = some z) : ∃ g cur, x.p = some ⟨g, 0, none⟩ ∧ w.heap[g]? = some (.cells cur 5 (0, 0)) ∧ w.cell? ⟨g, i, none⟩ = some (.int .u8 z) := by
 rcases h.it with h0 | ⟨g, cur, h1, h2, h3⟩
 ·rw [h0] at hz; simp at hz
 ·refine ⟨g, cur, h1, h2, ?_⟩
  rw [cell_of_row _ _ _ _ _ _ h2]
  have hi := (List.getElem?_eq_some_iff.1 hz).1
  have h4 : (bv x.bs)[i]? = some (.int .u8 z) := by unfold bv; rw [List.getElem?_map, hz]; rfl
  rw [← h3, List.getElem?_take, if_pos hi] at h4
  simpa using h4
theorem BkOk.rd {w : World} {x : Bk} (h : BkOk w x) : Rd w x.p x.bs := by
 rcases h.it with h0 | ⟨g, cur, h1, _⟩
 ·exact Or.inl h0
 ·refine Or.inr ⟨g, 0, h1, fun i hi => ?_⟩
  obtain ⟨g', cur', e1, _, e3⟩ := h.at (List.getElem?_eq_getElem hi)
  rw [h1] at e1
  simp only [Option.some.injEq, Addr.mk.injEq, and_true] at e1
  subst e1
  rw [Nat.zero_add, e3, List.getD_eq_getElem?_getD, List.getElem?_eq_getElem hi]; rfl
structure OwnK (w : World) (q : Option Addr) (n c : Nat) (ls : List Bk) : Prop where
 ow : w.ownsRow 0 24 1 (.slice q n c) n (rowsK ls)
 ln : ls.length = n
 it : ∀ x ∈ ls, BkOk w x ∧ ∀ k ∈ blk x.p, k ∉ blk q
 ap : ∀ (i j : Nat) (x y : Bk), i ≠ j → ls[i]? = some x → ls[j]? = some y → ∀ k ∈ blk x.p, k ∉ blk y.p
def NewK (N : Nat) (q : Option Addr) (ls : List Bk) : Prop := (∀ k ∈ blk q, N ≤ k) ∧ ∀ x ∈ ls, ∀ k ∈ blk x.p, N ≤ k
theorem OwnK.nil (w : World) : OwnK w none 0 0 [] := ⟨⟨rfl, Or.inl ⟨rfl, rfl⟩⟩, rfl, by simp, fun i j x y _ h => by simp at h⟩
theorem OwnK.kept {w w' : World} {q : Option Addr} {n c : Nat} {ls : List Bk} {S : List Nat} (h : OwnK w q n c ls) (hf : Frm S w w') (h1 : ∀ k ∈ blk q, k ∉ S) (h2 : ∀ x ∈ ls, ∀ k ∈ blk x.p, k ∉ S) : OwnK w' q n c ls :=
 ⟨ownsRow_kept h.ow hf h1, h.ln, fun x hx => ⟨(h.it x hx).1.kept hf (h2 x hx), (h.it x hx).2⟩, h.ap⟩
theorem OwnK.k0 {w w' : World} {q : Option Addr} {n c : Nat} {ls : List Bk} (h : OwnK w q n c ls) (hf : Frm [] w w') : OwnK w' q n c ls := h.kept hf (by simp) (by simp)
theorem OwnK.app {w wa w' : World} {q q' : Option Addr} {n c c' : Nat} {ls : List Bk} {x : Bk} (h : OwnK w q n c ls) (hx : BkOk w x) (hxq : ∀ k ∈ blk x.p, k ∉ blk q) (hxl : ∀ y ∈ ls, ∀ k ∈ blk x.p, k ∉ blk y.p) (hA : Frm [] w wa) (ho : w'.ownsRow 0 24 1 (.slice q' (n + 1) c') (n + 1) (rowsK ls ++ [x.v])) (hf : Frm (blk q) wa w') (hb : ∀ k ∈ blk q', k ∈ blk q ∨ wa.heap.size ≤ k) :
  OwnK w' q' (n + 1) c' (ls ++ [x]) := by
 have hz := hA.size
 have hF : Frm (blk q) w w' := (hA.mono (by simp)).trans hf (fun k hk _ => hk)
 have hq : ∀ (y : Bk), BkOk w y → (∀ k ∈ blk y.p, k ∉ blk q) → ∀ k ∈ blk y.p, k ∉ blk q' := fun y hy hyq k hk hm => by
  rcases hb k hm with h1 | h1
  ·exact hyq k hk h1
  ·have := hy.lo k hk; omega
 refine ⟨by rw [rowsK_app]; exact ho, by rw [List.length_append, h.ln]; rfl, fun y hy => ?_, fun i j y z hij hy hz k hk hkz => ?_⟩
 ·rcases List.mem_append.1 hy with hy | hy
  ·exact ⟨(h.it y hy).1.kept hF (h.it y hy).2, hq y (h.it y hy).1 (h.it y hy).2⟩
  ·rw [List.mem_singleton] at hy
   subst hy
   exact ⟨hx.kept hF hxq, hq y hx hxq⟩
 ·have hla : ∀ (a : Nat) (u : Bk), (ls ++ [x])[a]? = some u → (a < ls.length ∧ ls[a]? = some u) ∨ (a = ls.length ∧ u = x) := fun a u hu => by
   rcases Nat.lt_or_ge a ls.length with h1 | h1
   ·rw [List.getElem?_append_left h1] at hu; exact Or.inl ⟨h1, hu⟩
   ·rw [List.getElem?_append_right h1] at hu
    have h2 := (List.getElem?_eq_some_iff.1 hu).1
    simp only [List.length_singleton] at h2
    have h3 : a = ls.length := by omega
    subst h3
    simp at hu
    exact Or.inr ⟨rfl, hu.symm⟩
  rcases hla i y hy with ⟨_, hy'⟩ | ⟨hi, rfl⟩
  ·rcases hla j z hz with ⟨_, hz'⟩ | ⟨_, rfl⟩
   ·exact h.ap i j y z hij hy' hz' k hk hkz
   ·exact hxl y (List.mem_of_getElem? hy') k hkz hk
  ·rcases hla j z hz with ⟨_, hz'⟩ | ⟨hj, rfl⟩
   ·exact hxl z (List.mem_of_getElem? hz') k hk hkz
   ·omega
theorem OwnK.at {w : World} {q : Option Addr} {n c : Nat} {ls : List Bk} (h : OwnK w q n c ls) {i : Nat} {x : Bk} (hx : ls[i]? = some x) : ∃ g cur, q = some ⟨g, 0, none⟩ ∧ w.heap[g]? = some (.cells cur 24 (0, 0)) ∧ w.cell? ⟨g, i, none⟩ = some (.slice x.p x.bs.length x.c) := by
 have hlt : i < n := by rw [← h.ln]; exact (List.getElem?_eq_some_iff.1 hx).1
 rcases h.ow.2 with ⟨_, h0⟩ | ⟨g, c', cur, he, _, hg, _⟩
 ·omega
 ·simp only [Value.slice.injEq] at he
  obtain ⟨rfl, _, _⟩ := he
  refine ⟨g, cur, rfl, hg, ?_⟩
  rw [World.ownsRow.cellAt h.ow i (by omega)]
  exact rowsK_get hx
theorem OwnK.read {w wr : World} {q : Option Addr} {n c t : Nat} {ls : List Bk} {x : Bk} (h : OwnK w q n c ls) (hf : Frm [] w wr) (hx : ls[t]? = some x) : ∃ g, q = some ⟨g, 0, none⟩ ∧ wr.cell? ⟨g, t, none⟩ = some (.slice x.p x.bs.length x.c) ∧ Rd wr x.p x.bs ∧ x.bs.length ≤ x.c ∧ x.c ≤ 9223372036854775807 := by
 obtain ⟨g, cur, hg, _, hc⟩ := (h.k0 hf).at hx
 have h2 := ((h.k0 hf).it x (List.mem_of_getElem? hx)).1
 exact ⟨g, hg, hc, h2.rd, h2.cp.1, h2.cp.2⟩
end
end Go.Proofs.YtajfjkfnmmfhmaaGreatDoor
