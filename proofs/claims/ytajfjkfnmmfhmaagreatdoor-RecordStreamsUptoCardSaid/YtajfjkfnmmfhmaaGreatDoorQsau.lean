/- The document's Records of any bytes. -/
import Derived.Test.YtajfjkfnmmfhmaaGreatDoorQsaq
import Derived.Test.YtajfjkfnmmfhmaaGreatDoorQsat
import Derived.Test.YtajfjkfnmmfhmaaGreatDoorQsak
import Derived.Test.YtajfjkfnmmfhmaaGreatDoorRows
import Derived.LaidLaws
import Derived.Lib.LaidTab
import Derived.Test.YtajfjkfnmmfhmaaGreatDoorQsac
import Derived.Test.YtajfjkfnmmfhmaaGreatDoorQsao
import Derived.LaidSub
import Derived.Test.YtajfjkfnmmfhmaaGreatDoorQsad
import Derived.Test.YtajfjkfnmmfhmaaGreatDoorQsam
namespace Go.Proofs.YtajfjkfnmmfhmaaGreatDoor
set_option maxRecDepth 100000
set_option maxHeartbeats 25600000
section
open Go.RowKit Go.Lib
theorem RcLn.lo {w : World} {r : Rc} {P : List Pr} {K D : List Int} {lo lo2 : Nat} (h : RcLn w r P K D lo) (hl : lo2 ≤ lo) : RcLn w r P K D lo2 := ⟨h.po, h.pl, fun k hk => Nat.le_trans hl (h.pw k hk), h.ko, h.kl, fun k hk => Nat.le_trans hl (h.kw k hk), h.ow, h.dl, fun k hk => Nat.le_trans hl (h.dw k hk), h.db, h.mx⟩
theorem RcLn.low {w : World} {r : Rc} {P : List Pr} {K D : List Int} {lo : Nat} (h : RcLn w r P K D lo) : ∀ k, (k ∈ blk r.pp ∨ k ∈ blk r.kp ∨ k ∈ blk r.dp) → lo ≤ k ∧ k < w.heap.size := fun k hk => by
 rcases hk with hk | hk | hk
 ·exact ⟨h.pw k hk, ownsRow_low h.po k hk⟩
 ·exact ⟨h.kw k hk, ownsRow_low h.ko k hk⟩
 ·exact ⟨h.dw k hk, h.ow.lows k hk⟩
theorem RcLn.foot {w : World} {r : Rc} {P : List Pr} {K D : List Int} {lo : Nat} (h : RcLn w r P K D lo) : ∃ B, RcA B r P K D ∧ ∀ k ∈ B, lo ≤ k ∧ k < w.heap.size := by
 refine ⟨blk r.pp ++ blk r.kp ++ blk r.dp, ⟨fun _ k hk => by simp [hk], fun _ k hk => by simp [hk], fun _ k hk => by simp [hk]⟩, fun k hk => h.low k ?_⟩
 rcases List.mem_append.1 hk with hk | hk
 ·rcases List.mem_append.1 hk with hk | hk
  ·exact Or.inl hk
  ·exact Or.inr (Or.inl hk)
 ·exact Or.inr (Or.inr hk)
theorem share4 {H G : World → Nat → Nat → Rc → Prop} {g : Prop} (main : (∀ c a b r, H c a b r → G c a b r) → g) (fin : ∀ c a b r, H c a b r → G c a b r) : g := main fin
theorem wpl {P : Program} {md : Region.Mode} {ops : Array Oper} {Q : Exit → Act → World → Prop} {S : World → Prop} {n : Nat} {L : Array Bool → Act → World → Prop} {fuel : Nat} {l1 l2 : Array Bool} {a : Act} {w : World} (h : l1 = l2) (hw : wpAnyHT P md ops Q S n L fuel l2 a w) : wpAnyHT P md ops Q S n L fuel l1 a w := h ▸ hw
theorem refRecords_any (p : Option Addr) (n c : Nat) (bs : List Int) (w : World) (hn : bs.length = n) (hnc : n ≤ c) (hnb : n ≤ 140737488355328) (hrd : Rd w p bs) (hb : ∀ z ∈ bs, 0 ≤ z ∧ z < 256) (hvs : Vars w) :
  Calls Tryz.prog 20 #[.slice p n c] w (RcsP w bs) := by
 obtain ⟨PO, hPO⟩ : ∃ PO : Ending → World → Prop, RcsP w bs = PO := ⟨_, rfl⟩
 rw [hPO]
 have HP := hid (show ∀ e w', RcsP w bs e w' → PO e w' from fun e w' h => by rw [← hPO]; exact h)
 have HB := hid hb
 have HVS := hid hvs
 have HRD := hid hrd
 have HLN := hid hn
 have hrow := heap_alloc_new w (.cells #[.int .u64 0, .int .u64 0, .int .u64 0, .int .u64 0] 29)
 have hfs : Frm [] w (w.alloc (.cells #[.int .u64 0, .int .u64 0, .int .u64 0, .int .u64 0] 29)) := (Frm.refl _ _).alloc _
 obtain ⟨ws, hws⟩ := eX (w.alloc (.cells #[.int .u64 0, .int .u64 0, .int .u64 0, .int .u64 0] 29))
 obtain ⟨xs, hbs⟩ := eX (w.heap.size)
 rw [hws, hbs] at hrow
 rw [hws] at hfs
 have q0 := cR 0 (.int .u64 0) hrow
 have m0 := fZ 0 hrow
 have q1 := cR 1 (.int .u64 0) hrow
 have m1 := fZ 1 hrow
 have q2 := cR 2 (.int .u64 0) hrow
 have m2 := fZ 2 hrow
 have q3 := cR 3 (.int .u64 0) hrow
 have m3 := fZ 3 hrow
 have hbr4 : ∀ V, (Instr.build 29 #[]).run Tryz.prog V = .ok (.agg #[.int .u64 0, .int .u64 0, .int .u64 0, .int .u64 0]) V := fun V => run_build V _ _ _ (by kernel_rfl)
 go_enter Tryz.func20, Tryz.ntmps20
 by_cases hlong : 1048576 < n
 case pos =>
  have i1 : (1048576 : Int) < (n : Int) := by omega
  have HX := hid (HP.out _ _ ⟨Frm.refl _ _, Or.inl ⟨by rw [HLN.out]; exact hlong, rfl⟩⟩)
  clear hlong
  go_wp2_with fail
  try go_returns
  exact HX.out
 have i1 : ¬ (1048576 : Int) < (n : Int) := by omega
 have HN2 : Hid (bs.length ≤ 1048576) := hid (by rw [HLN.out]; omega)
 have hn3 : n ≤ 1048576 := by omega
 clear hlong
 go_upto_region 5 with fail
 try rw [hws]
 try rw [hbs]
 go_upto_region 6 with fail
 obtain ⟨h4, f4⟩ := set4 (y0 := .int .u64 0) (y1 := .int .u64 0) (y2 := .int .u64 0) (y3 := .int .u64 0) hrow
 obtain ⟨W4, hW4⟩ := eX (((((ws.setCell ⟨xs, 0, none⟩ (.int .u64 0)).setCell ⟨xs, 1, none⟩ (.int .u64 0)).setCell ⟨xs, 2, none⟩ (.int .u64 0)).setCell ⟨xs, 3, none⟩ (.int .u64 0)))
 rw [hW4] at h4 f4
 try rw [hW4]
 have HROW := hid h4
 have HFS : Hid (Frm [] w W4) := hid (hfs.trans f4 (fun i hi hl => by rw [List.mem_singleton] at hi; omega))
 have HBS := hid hbs
 clear h4 f4 hW4 hrow hfs hbs hws hPO hn hrd hb hvs q0 m0 q1 m1 q2 m2 q3 m3
 go_loopw [4, 6] (fun lv av wr => ∃ (t a lc : Nat) (lp : Option Addr) (L : List Rk) (A : List Nat), a ≤ n ∧ t ≤ 1048576 ∧ lv = .slice lp t lc ∧ av = .int .i64 (a : Int) ∧ Hid (rsOk bs t) ∧ Hid ((rsS bs t).1 = bs.drop a) ∧ Hid (wr.heap[xs]? = some (.cells (rsS bs t).2.arr 29 (0, 0))) ∧ Hid (L.length = t) ∧ Hid (wr.ownsRow 0 26 13 (.slice lp t lc) t (rowsRk L)) ∧ Hid (∀ k ∈ blk lp, xs < k) ∧ Hid (RkOk wr A bs L) ∧ Hid (∀ k ∈ A, k < wr.heap.size ∧ xs < k ∧ k ∉ blk lp) ∧ Hid (Frm [] w wr)) (fun _ av _ => n - (intOf av).toNat)
 case atStart => exact ⟨0, 0, 0, none, [], [], Nat.zero_le _, by omega, rfl, rfl, hid (fun j hj => by omega), hid rfl, hid HROW.out, hid rfl, hid (World.ownsRow_nil _ _ _ _), hid (by simp [blk]), hid (fun j x h => by simp at h), hid (by simp), HFS⟩
 case round =>
  obtain ⟨t, a, lc, lp, L, A, han, htl, rfl, rfl, hok, hdr, hsr, hll, how, hnw, hrk, hab, hf⟩ := hrel
  have HOK := hid hok.out
  have HDR := hid hdr.out
  have HSR := hid hsr.out
  have HLL := hid hll.out
  have HOW := hid how.out
  have HNW := hid hnw.out
  have HRK := hid hrk.out
  have HAB := hid hab.out
  have HF := hid hf.out
  clear hok hdr hsr hll how hnw hrk hab hf
  by_cases hz : a < n
  case neg =>
   obtain rfl : a = n := by omega
   have HX := hid (HP.out (.returned (.tuple #[.slice lp t lc, .int .i64 0])) wr ⟨HF.out, Or.inr ⟨HN2.out, t, HOK.out, Or.inr ⟨by rw [HDR.out]; exact List.drop_of_length_le (by rw [HLN.out]; exact Nat.le_refl _), lp, lc, L, rfl, HLL.out, htl, (by
    rcases rv_of1 HOW.out (by rw [rowsRk_len, HLL.out]) with h | ⟨g, o, he, hc⟩
    ·refine Or.inl ?_
     have h2 := rowsRk_len L
     rw [h] at h2
     exact List.eq_nil_of_length_eq_zero (by simp at h2; omega)
    ·refine Or.inr ⟨g, o, he, fun i x hx => ?_⟩
     obtain ⟨k1, _, k3, _⟩ := HRK.out i x hx
     exact ⟨fun j u hu => by rw [Nat.add_assoc]; exact hc _ _ (rowsRk_at L i x hx j u hu), k1, k3⟩), fun j hj => (HRK.out j _ (rkA_get (by rw [HLL.out]; exact hj))).2.2.2⟩⟩⟩)
   clear hz
   go_wp2_with fail
   try go_returns
   exact HX.out
  have i2 : (a : Int) < (n : Int) := by omega
  have HLEN : Hid ((rsS bs t).1.length = n - a) := hid (by rw [HDR.out, List.length_drop, HLN.out])
  have HNE : Hid ((rsS bs t).1 ≠ []) := hid (fun h => by have := HLEN.out; rw [h] at this; simp at this; omega)
  have hbd := rsS_Bd bs t
  have hzb := rsS_bd HB.out t
  have hnc2 : n - a ≤ c - a := by omega
  have HDC := hid (fun W (hf : Frm [] wr W) => (refDecode_any (partAt p c a 1) (n - a) (c - a) (rsS bs t).1 (rsS bs t).2 W HLEN.out hnc2 (by omega) (by rw [HDR.out]; exact rd_part (HRD.out.kept (HF.out.trans hf (by simp)) (by simp)) HLN.out han hnc) hzb (HVS.out.kept (HF.out.trans hf (by simp))) hbd).mono (fun e w' h => decU_of h))
  unfold DecU at HDC
  have HNO : Hid (∀ W, dcE (rsS bs t).2 (rsS bs t).1 ≠ 0 → Frm [] w W → PO (.returned (.tuple #[.slice none 0 0, .int .i64 (dcE (rsS bs t).2 (rsS bs t).1)])) W) := hid (fun W h1 h2 => HP.out _ _ ⟨h2, Or.inr ⟨HN2.out, t, HOK.out, Or.inl ⟨HNE.out, h1, rfl⟩⟩⟩)
  have HYES : Hid (dcE (rsS bs t).2 (rsS bs t).1 = 0 → rsOk bs (t + 1) ∧ t + 1 ≤ 1048576 ∧ (∀ x : Rk, x.r.core = duC (rsS bs t).2 (rsS bs t).1 → x.P = duP (rsS bs t).2 (rsS bs t).1 → x.K = duK (rsS bs t).2 (rsS bs t).1 → x.D = duD (rsS bs t).2 (rsS bs t).1 → rkOf bs t x ∧ x.r.name.size ≤ 140737488355328) ∧ (rsS bs (t + 1)).2 = duT (rsS bs t).2 (rsS bs t).1 ∧ ∃ dM : Nat, duN (rsS bs t).2 (rsS bs t).1 = (dM : Int) ∧ dM ≤ n - a ∧ 37 ≤ dM ∧ (rsS bs (t + 1)).1 = bs.drop (a + dM)) := hid (fun h0 => by
   have hk : rsOk bs (t + 1) := fun j hj => by
    by_cases hj2 : j < t
    ·exact HOK.out j hj2
    ·obtain rfl : j = t := by omega
     exact ⟨HNE.out, h0⟩
   have hlen2 := dcE_len h0
   have hsp0 := spM_bd hzb
   rw [HLEN.out] at hlen2
   have hnml := tvK_name (spK (rsS bs t).1) (dcB (rsS bs t).1)
   have hbl : (dcB (rsS bs t).1).length ≤ 1048576 := by unfold dcB; rw [List.length_drop, List.length_take]; have := rsS_le bs t; have := HN2.out; omega
   refine ⟨hk, by have h1 := rsS_many HB.out (t + 1) hk; have h2 := HN2.out; omega, fun x h1 h2 h3 h4 => ?_, by unfold duT; rw [if_pos h0]; rfl, (37 + spM (rsS bs t).1).toNat, by unfold duN; rw [if_pos h0]; omega, by omega, by omega, ?_⟩
   ·unfold duC duV at h1
    unfold duP duV at h2
    unfold duK duV at h3
    unfold duD duV at h4
    rw [if_pos h0] at h1 h2 h3 h4
    refine ⟨⟨h1, h2, h3, h4⟩, ?_⟩
    have h5 : x.r.core.name = (tvK (spK (rsS bs t).1) (dcB (rsS bs t).1)).c.name := by rw [h1]; rfl
    have h6 : x.r.name = (tvK (spK (rsS bs t).1) (dcB (rsS bs t).1)).c.name := h5
    rw [h6]; omega
   ·show (rsS bs t).1.drop (37 + spM (rsS bs t).1).toNat = _
    rw [HDR.out, List.drop_drop])
  obtain ⟨RB, hRB⟩ := eX ((rsS bs t).1)
  obtain ⟨SS, hSS⟩ := eX ((rsS bs t).2)
  rw [hRB] at HDC HNO HYES
  rw [hSS] at HSR HDC HNO HYES
  obtain ⟨DC, hDC⟩ := eX (duC SS RB)
  obtain ⟨DP, hDP⟩ := eX (duP SS RB)
  obtain ⟨DK, hDK⟩ := eX (duK SS RB)
  obtain ⟨DD, hDD⟩ := eX (duD SS RB)
  obtain ⟨DN, hDN⟩ := eX (duN SS RB)
  obtain ⟨DT, hDT⟩ := eX (duT SS RB)
  obtain ⟨EV, hEV⟩ := eX (dcE SS RB)
  rw [hDC, hDP, hDK, hDD, hDN, hDT, hEV] at HDC HYES
  rw [hEV] at HNO
  clear hRB hSS hDC hDP hDK hDD hDN hDT hEV HNE hbd hzb HLEN
  obtain ⟨s0, s1, s2, s3⟩ := SS
  obtain ⟨t0, t1, t2, t3⟩ := DT
  unfold S4.arr at HDC HSR
  simp only at HDC HSR
  obtain ⟨q2, hq2⟩ := eX (partAt p c a 1)
  obtain ⟨m2, hm2⟩ := eX (n - a)
  obtain ⟨d2, hd2⟩ := eX (c - a)
  have hsl : ∀ W, (Instr.slice 24 (.slice p n c) (some (.int .i64 (a : Int))) none none).run Tryz.prog W = .ok (.slice q2 m2 d2) W := fun W => by
   rw [← hq2, ← hm2, ← hd2]
   exact sl_l (P := Tryz.prog) (sz := 1) Tryz.underlying24 infoU8R p n c a han W
  rw [hq2, hm2, hd2] at HDC
  rw [hm2] at HYES
  have HM2 := hid hm2
  clear hq2 hd2 hm2 hnc2
  have sA : ∀ W, Frm [] wr W → W.cell? ⟨xs, 0, none⟩ = some (.int .u64 s0) ∧ W.cell? ⟨xs, 1, none⟩ = some (.int .u64 s1) ∧ W.cell? ⟨xs, 2, none⟩ = some (.int .u64 s2) ∧ W.cell? ⟨xs, 3, none⟩ = some (.int .u64 s3) := fun W hf => by
   have hr := hf.heap HSR.out (by simp)
   refine ⟨?_, ?_, ?_, ?_⟩ <;> (rw [cell_of_row _ _ _ _ _ _ hr]; rfl)
  go_upto_region 7 with fail
  go_cut [7, 8, 9, 10] from 15 to 39 (fun x q z e wx => ∃ (r : Rc) (bx bz : Nat), x = .pointer (some ⟨bx, 0, none⟩) ∧ q = .int .i64 DN ∧ z = .pointer (some ⟨bz, 0, none⟩) ∧ e = .int .i64 EV ∧ Hid (wx.heap[bx]? = some (.cells r.arr 26 (0, 0))) ∧ Hid (wx.heap[bz]? = some (.cells #[.int .u64 t0, .int .u64 t1, .int .u64 t2, .int .u64 t3] 29 (0, 0))) ∧ Hid (r.core = DC) ∧ Hid (RcLn wx r DP DK DD wr.heap.size) ∧ wr.heap.size ≤ bx ∧ wr.heap.size ≤ bz ∧ Hid (Frm [] wr wx))
  case first =>
   refine wp_region_tail (S := fun W => (W.cell? ⟨xs, 0, none⟩ = some (.int .u64 s0) ∧ W.cell? ⟨xs, 1, none⟩ = some (.int .u64 s1) ∧ W.cell? ⟨xs, 2, none⟩ = some (.int .u64 s2) ∧ W.cell? ⟨xs, 3, none⟩ = some (.int .u64 s3))) 15 16 rfl (by kernel_rfl) (by kernel_rfl) ?_
   obtain ⟨wd, hwd⟩ := eX (wr.drew)
   have hF0 : Frm [] wr wd := by rw [← hwd]; exact (Frm.refl _ _).drew
   rw [hwd]
   refine hI (i := 0) (v := ?_) rfl ?_ (sA _ hF0) ?_
   rotate_left 1
   ·rintro W ⟨e0, e1, e2, e3⟩; (try simp only [lA, lZ]); go_simp; try with_reducible rfl
   try simp only [lA, lZ, Act.put, lI, lW, lX]
   refine hI (i := 1) (v := ?_) rfl ?_ (sA _ hF0) ?_
   rotate_left 1
   ·rintro W ⟨e0, e1, e2, e3⟩; (try simp only [lA, lS, lZ]); go_simp; try with_reducible rfl
   try simp only [lA, lS, lZ, Act.put, lI, lW, lX]
   refine hI (i := 2) (v := ?_) rfl ?_ (sA _ hF0) ?_
   rotate_left 1
   ·(intro W hSw; obtain ⟨e0, e1, e2, e3⟩ := hSw; have hsl2 := hsl W; (try simp only [lA, lS, lZ]); go_simp; try with_reducible rfl)
   try simp only [lA, lS, lZ, Act.put, lI, lW, lX]
   refine hI (i := 3) (v := ?_) rfl ?_ (sA _ hF0) ?_
   rotate_left 1
   ·rintro W ⟨e0, e1, e2, e3⟩; (try simp only [lA, lS, lZ]); go_simp; try with_reducible rfl
   try simp only [lA, lS, lZ, Act.put, lI, lW, lX]
   apply share4 (H := fun cur bA bB r => cur.heap[bA]? = some (.cells #[.int .i64 0, .string ⟨#[]⟩, .int .i64 0, .int .i64 0, .int .i64 0, .int .i64 0, .string ⟨#[]⟩, .slice none 0 0, .int .i64 0, .int .i64 0, .int .i64 0, .slice none 0 0, .slice none 0 0] 26 (0, 0)) ∧ cur.heap[bB]? = some (.cells #[.int .u64 0, .int .u64 0, .int .u64 0, .int .u64 0] 29 (0, 0)) ∧ r.core = DC ∧ RcLn cur r DP DK DD wr.heap.size ∧ (∀ k, (k ∈ blk r.pp ∨ k ∈ blk r.kp ∨ k ∈ blk r.dp) → ¬ k = bA) ∧ (∀ k, (k ∈ blk r.pp ∨ k ∈ blk r.kp ∨ k ∈ blk r.dp) → ¬ k = bB) ∧ wr.heap.size ≤ bA ∧ wr.heap.size ≤ bB ∧ Frm [] wr cur)
   ·intro fin
    refine wpAnyHT_three (i := 4) (j := 10) (k := 11) rfl rfl rfl (by kernel_rfl) (by kernel_rfl) (by kernel_rfl) (by kernel_rfl) (fun K hK => ?_) (fun K hK => ?_) (fun K hK => ?_)
    ·try simp only [lA, lS, lZ]
     go_simp
     refine (HDC.out wd hF0).mono ?_
     rintro e wC ⟨r, rfl, hrc, hro, hfc⟩
     have hF1 : Frm [] wr wC := hF0.trans hfc (by simp)
     refine hK _ _ (sA _ hF1) ?_
     clear hK K
     have hlw := hro.low
     have hro2 := hro.lo hF0.size
     refine hI (i := 5) (v := ?_) rfl ?_ (sA _ hF1) ?_
     rotate_left 1
     ·rintro W ⟨e0, e1, e2, e3⟩; (try simp only [lA, lS, lZ]); go_simp; try with_reducible rfl
     try simp only [lA, lS, lZ, Act.put, lI, lW, lX]
     refine hI (i := 6) (v := ?_) rfl ?_ (sA _ hF1) ?_
     rotate_left 1
     ·rintro W ⟨e0, e1, e2, e3⟩; (try simp only [lA, lS, lZ]); go_simp; try with_reducible rfl
     try simp only [lA, lS, lZ, Act.put, lI, lW, lX]
     refine hI (i := 7) (v := ?_) rfl ?_ (sA _ hF1) ?_
     rotate_left 1
     ·rintro W ⟨e0, e1, e2, e3⟩; (try simp only [lA, lS, lZ]); go_simp; try with_reducible rfl
     try simp only [lA, lS, lZ, Act.put, lI, lW, lX]
     refine hI (i := 8) (v := ?_) rfl ?_ (sA _ hF1) ?_
     rotate_left 1
     ·rintro W ⟨e0, e1, e2, e3⟩; (try simp only [lA, lS, lZ]); go_simp; try with_reducible rfl
     try simp only [lA, lS, lZ, Act.put, lI, lW, lX]
     refine hI (i := 9) (v := ?_) rfl ?_ (sA _ hF1) ?_
     rotate_left 1
     ·rintro W ⟨e0, e1, e2, e3⟩; (try simp only [lA, lS, lZ]); go_simp; try with_reducible rfl
     try simp only [lA, lS, lZ, Act.put, lI, lW, lX]
     refine wpAnyHT_two (i := 10) (j := 11) rfl rfl (by kernel_rfl) (by kernel_rfl) (by kernel_rfl) (fun K hK => ?_) (fun K hK => ?_)
     ·try simp only [lA, lS, lZ]
      go_simp
      refine hK _ _ (sA _ (hF1.alloc _)) ?_
      clear hK K
      try simp only [lA, lS, lZ, Act.put, lI, lW, lX]
      have hra := heap_alloc_new wC (.cells #[.int .i64 0, .string ⟨#[]⟩, .int .i64 0, .int .i64 0, .int .i64 0, .int .i64 0, .string ⟨#[]⟩, .slice none 0 0, .int .i64 0, .int .i64 0, .int .i64 0, .slice none 0 0, .slice none 0 0] 26)
      have hfaA : Frm [] wC (wC.alloc (.cells #[.int .i64 0, .string ⟨#[]⟩, .int .i64 0, .int .i64 0, .int .i64 0, .int .i64 0, .string ⟨#[]⟩, .slice none 0 0, .int .i64 0, .int .i64 0, .int .i64 0, .slice none 0 0, .slice none 0 0] 26)) := (Frm.refl _ _).alloc _
      have hF2 := hF1.alloc (.cells #[.int .i64 0, .string ⟨#[]⟩, .int .i64 0, .int .i64 0, .int .i64 0, .int .i64 0, .string ⟨#[]⟩, .slice none 0 0, .int .i64 0, .int .i64 0, .int .i64 0, .slice none 0 0, .slice none 0 0] 26)
      have hcsA : wC.heap.size ≤ wC.heap.size := Nat.le_refl _
      obtain ⟨wA, hwA⟩ := eX (wC.alloc (.cells #[.int .i64 0, .string ⟨#[]⟩, .int .i64 0, .int .i64 0, .int .i64 0, .int .i64 0, .string ⟨#[]⟩, .slice none 0 0, .int .i64 0, .int .i64 0, .int .i64 0, .slice none 0 0, .slice none 0 0] 26))
      obtain ⟨bA, hbA⟩ := eX (wC.heap.size)
      have hlbA : wr.heap.size ≤ bA := by rw [← hbA]; exact hF1.size
      rw [hwA, hbA] at hra
      rw [hwA] at hfaA hF2
      have rA2 := hra
      clear hra
      have hnrA : ∀ k, (k ∈ blk r.pp ∨ k ∈ blk r.kp ∨ k ∈ blk r.dp) → ¬ k = bA := fun k hk => by have := hlw k hk; omega
      have hro2x := hro2.k0 hfaA
      try rw [hwA]
      try rw [hbA]
      refine wpAnyHT_one (i := 11) rfl (by kernel_rfl) (by kernel_rfl) (fun K hK => ?_)
      try simp only [lA, lS, lZ]
      go_simp
      refine hK _ _ (sA _ (hF2.alloc _)) ?_
      clear hK K
      try simp only [lA, lS, lZ, Act.put, lI, lW, lX]
      have hra := heap_alloc_new wA (.cells #[.int .u64 0, .int .u64 0, .int .u64 0, .int .u64 0] 29)
      have hfaB : Frm [] wA (wA.alloc (.cells #[.int .u64 0, .int .u64 0, .int .u64 0, .int .u64 0] 29)) := (Frm.refl _ _).alloc _
      have hF3 := hF2.alloc (.cells #[.int .u64 0, .int .u64 0, .int .u64 0, .int .u64 0] 29)
      have hcsB : wC.heap.size ≤ wA.heap.size := (by have := hfaA.size; omega)
      obtain ⟨wB, hwB⟩ := eX (wA.alloc (.cells #[.int .u64 0, .int .u64 0, .int .u64 0, .int .u64 0] 29))
      obtain ⟨bB, hbB⟩ := eX (wA.heap.size)
      have hlbB : wr.heap.size ≤ bB := by rw [← hbB]; exact hF2.size
      rw [hwB, hbB] at hra
      rw [hwB] at hfaB hF3
      have rB3 := hra
      clear hra
      have rA3 := hfaB.heap rA2 (by simp)
      have hnrB : ∀ k, (k ∈ blk r.pp ∨ k ∈ blk r.kp ∨ k ∈ blk r.dp) → ¬ k = bB := fun k hk => by have := hlw k hk; omega
      have hro3x := hro2x.k0 hfaB
      try rw [hwB]
      try rw [hbB]
      refine wpl (l2 := #[true, true, true, true, true, true, true, true, true, true, true, true, false, false, false, false]) (by kernel_rfl) ?_
      exact fin _ bA bB r ⟨rA3, rB3, hrc, hro3x, hnrA, hnrB, hlbA, hlbB, hF3⟩
     ·try simp only [lA, lS, lZ]
      go_simp
      refine hK _ _ (sA _ (hF1.alloc _)) ?_
      clear hK K
      try simp only [lA, lS, lZ, Act.put, lI, lW, lX]
      have hra := heap_alloc_new wC (.cells #[.int .u64 0, .int .u64 0, .int .u64 0, .int .u64 0] 29)
      have hfaB : Frm [] wC (wC.alloc (.cells #[.int .u64 0, .int .u64 0, .int .u64 0, .int .u64 0] 29)) := (Frm.refl _ _).alloc _
      have hF2 := hF1.alloc (.cells #[.int .u64 0, .int .u64 0, .int .u64 0, .int .u64 0] 29)
      have hcsB : wC.heap.size ≤ wC.heap.size := Nat.le_refl _
      obtain ⟨wB, hwB⟩ := eX (wC.alloc (.cells #[.int .u64 0, .int .u64 0, .int .u64 0, .int .u64 0] 29))
      obtain ⟨bB, hbB⟩ := eX (wC.heap.size)
      have hlbB : wr.heap.size ≤ bB := by rw [← hbB]; exact hF1.size
      rw [hwB, hbB] at hra
      rw [hwB] at hfaB hF2
      have rB2 := hra
      clear hra
      have hnrB : ∀ k, (k ∈ blk r.pp ∨ k ∈ blk r.kp ∨ k ∈ blk r.dp) → ¬ k = bB := fun k hk => by have := hlw k hk; omega
      have hro2x := hro2.k0 hfaB
      try rw [hwB]
      try rw [hbB]
      refine wpAnyHT_one (i := 10) rfl (by kernel_rfl) (by kernel_rfl) (fun K hK => ?_)
      try simp only [lA, lS, lZ]
      go_simp
      refine hK _ _ (sA _ (hF2.alloc _)) ?_
      clear hK K
      try simp only [lA, lS, lZ, Act.put, lI, lW, lX]
      have hra := heap_alloc_new wB (.cells #[.int .i64 0, .string ⟨#[]⟩, .int .i64 0, .int .i64 0, .int .i64 0, .int .i64 0, .string ⟨#[]⟩, .slice none 0 0, .int .i64 0, .int .i64 0, .int .i64 0, .slice none 0 0, .slice none 0 0] 26)
      have hfaA : Frm [] wB (wB.alloc (.cells #[.int .i64 0, .string ⟨#[]⟩, .int .i64 0, .int .i64 0, .int .i64 0, .int .i64 0, .string ⟨#[]⟩, .slice none 0 0, .int .i64 0, .int .i64 0, .int .i64 0, .slice none 0 0, .slice none 0 0] 26)) := (Frm.refl _ _).alloc _
      have hF3 := hF2.alloc (.cells #[.int .i64 0, .string ⟨#[]⟩, .int .i64 0, .int .i64 0, .int .i64 0, .int .i64 0, .string ⟨#[]⟩, .slice none 0 0, .int .i64 0, .int .i64 0, .int .i64 0, .slice none 0 0, .slice none 0 0] 26)
      have hcsA : wC.heap.size ≤ wB.heap.size := (by have := hfaB.size; omega)
      obtain ⟨wA, hwA⟩ := eX (wB.alloc (.cells #[.int .i64 0, .string ⟨#[]⟩, .int .i64 0, .int .i64 0, .int .i64 0, .int .i64 0, .string ⟨#[]⟩, .slice none 0 0, .int .i64 0, .int .i64 0, .int .i64 0, .slice none 0 0, .slice none 0 0] 26))
      obtain ⟨bA, hbA⟩ := eX (wB.heap.size)
      have hlbA : wr.heap.size ≤ bA := by rw [← hbA]; exact hF2.size
      rw [hwA, hbA] at hra
      rw [hwA] at hfaA hF3
      have rA3 := hra
      clear hra
      have rB3 := hfaA.heap rB2 (by simp)
      have hnrA : ∀ k, (k ∈ blk r.pp ∨ k ∈ blk r.kp ∨ k ∈ blk r.dp) → ¬ k = bA := fun k hk => by have := hlw k hk; omega
      have hro3x := hro2x.k0 hfaA
      try rw [hwA]
      try rw [hbA]
      refine wpl (l2 := #[true, true, true, true, true, true, true, true, true, true, true, true, false, false, false, false]) (by kernel_rfl) ?_
      exact fin _ bA bB r ⟨rA3, rB3, hrc, hro3x, hnrA, hnrB, hlbA, hlbB, hF3⟩
    ·try simp only [lA, lS, lZ]
     go_simp
     refine hK _ _ (sA _ (hF0.alloc _)) ?_
     clear hK K
     try simp only [lA, lS, lZ, Act.put, lI, lW, lX]
     have hra := heap_alloc_new wd (.cells #[.int .i64 0, .string ⟨#[]⟩, .int .i64 0, .int .i64 0, .int .i64 0, .int .i64 0, .string ⟨#[]⟩, .slice none 0 0, .int .i64 0, .int .i64 0, .int .i64 0, .slice none 0 0, .slice none 0 0] 26)
     have hfaA : Frm [] wd (wd.alloc (.cells #[.int .i64 0, .string ⟨#[]⟩, .int .i64 0, .int .i64 0, .int .i64 0, .int .i64 0, .string ⟨#[]⟩, .slice none 0 0, .int .i64 0, .int .i64 0, .int .i64 0, .slice none 0 0, .slice none 0 0] 26)) := (Frm.refl _ _).alloc _
     have hF1 := hF0.alloc (.cells #[.int .i64 0, .string ⟨#[]⟩, .int .i64 0, .int .i64 0, .int .i64 0, .int .i64 0, .string ⟨#[]⟩, .slice none 0 0, .int .i64 0, .int .i64 0, .int .i64 0, .slice none 0 0, .slice none 0 0] 26)
     obtain ⟨wA, hwA⟩ := eX (wd.alloc (.cells #[.int .i64 0, .string ⟨#[]⟩, .int .i64 0, .int .i64 0, .int .i64 0, .int .i64 0, .string ⟨#[]⟩, .slice none 0 0, .int .i64 0, .int .i64 0, .int .i64 0, .slice none 0 0, .slice none 0 0] 26))
     obtain ⟨bA, hbA⟩ := eX (wd.heap.size)
     have hlbA : wr.heap.size ≤ bA := by rw [← hbA]; exact hF0.size
     rw [hwA, hbA] at hra
     rw [hwA] at hfaA hF1
     have rA1 := hra
     clear hra
     try rw [hwA]
     try rw [hbA]
     refine wpAnyHT_two (i := 4) (j := 11) rfl rfl (by kernel_rfl) (by kernel_rfl) (by kernel_rfl) (fun K hK => ?_) (fun K hK => ?_)
     ·have hltrA := lt_of_heap rA1
      try simp only [lA, lS, lZ]
      go_simp
      refine (HDC.out wA hF1).mono ?_
      rintro e wC ⟨r, rfl, hrc, hro, hfc⟩
      have hF2 : Frm [] wr wC := hF1.trans hfc (by simp)
      refine hK _ _ (sA _ hF2) ?_
      clear hK K
      have rA2 := hfc.heap rA1 (by simp)
      have hlw := hro.low
      have hro2 := hro.lo hF1.size
      have hnrA : ∀ k, (k ∈ blk r.pp ∨ k ∈ blk r.kp ∨ k ∈ blk r.dp) → ¬ k = bA := fun k hk => by have := hlw k hk; omega
      refine hI (i := 5) (v := ?_) rfl ?_ (sA _ hF2) ?_
      rotate_left 1
      ·rintro W ⟨e0, e1, e2, e3⟩; (try simp only [lA, lS, lZ]); go_simp; try with_reducible rfl
      try simp only [lA, lS, lZ, Act.put, lI, lW, lX]
      refine hI (i := 6) (v := ?_) rfl ?_ (sA _ hF2) ?_
      rotate_left 1
      ·rintro W ⟨e0, e1, e2, e3⟩; (try simp only [lA, lS, lZ]); go_simp; try with_reducible rfl
      try simp only [lA, lS, lZ, Act.put, lI, lW, lX]
      refine hI (i := 7) (v := ?_) rfl ?_ (sA _ hF2) ?_
      rotate_left 1
      ·rintro W ⟨e0, e1, e2, e3⟩; (try simp only [lA, lS, lZ]); go_simp; try with_reducible rfl
      try simp only [lA, lS, lZ, Act.put, lI, lW, lX]
      refine hI (i := 8) (v := ?_) rfl ?_ (sA _ hF2) ?_
      rotate_left 1
      ·rintro W ⟨e0, e1, e2, e3⟩; (try simp only [lA, lS, lZ]); go_simp; try with_reducible rfl
      try simp only [lA, lS, lZ, Act.put, lI, lW, lX]
      refine hI (i := 9) (v := ?_) rfl ?_ (sA _ hF2) ?_
      rotate_left 1
      ·rintro W ⟨e0, e1, e2, e3⟩; (try simp only [lA, lS, lZ]); go_simp; try with_reducible rfl
      try simp only [lA, lS, lZ, Act.put, lI, lW, lX]
      refine wpAnyHT_one (i := 11) rfl (by kernel_rfl) (by kernel_rfl) (fun K hK => ?_)
      try simp only [lA, lS, lZ]
      go_simp
      refine hK _ _ (sA _ (hF2.alloc _)) ?_
      clear hK K
      try simp only [lA, lS, lZ, Act.put, lI, lW, lX]
      have hra := heap_alloc_new wC (.cells #[.int .u64 0, .int .u64 0, .int .u64 0, .int .u64 0] 29)
      have hfaB : Frm [] wC (wC.alloc (.cells #[.int .u64 0, .int .u64 0, .int .u64 0, .int .u64 0] 29)) := (Frm.refl _ _).alloc _
      have hF3 := hF2.alloc (.cells #[.int .u64 0, .int .u64 0, .int .u64 0, .int .u64 0] 29)
      have hcsB : wC.heap.size ≤ wC.heap.size := Nat.le_refl _
      obtain ⟨wB, hwB⟩ := eX (wC.alloc (.cells #[.int .u64 0, .int .u64 0, .int .u64 0, .int .u64 0] 29))
      obtain ⟨bB, hbB⟩ := eX (wC.heap.size)
      have hlbB : wr.heap.size ≤ bB := by rw [← hbB]; exact hF2.size
      rw [hwB, hbB] at hra
      rw [hwB] at hfaB hF3
      have rB3 := hra
      clear hra
      have rA3 := hfaB.heap rA2 (by simp)
      have hnrB : ∀ k, (k ∈ blk r.pp ∨ k ∈ blk r.kp ∨ k ∈ blk r.dp) → ¬ k = bB := fun k hk => by have := hlw k hk; omega
      have hro3x := hro2.k0 hfaB
      try rw [hwB]
      try rw [hbB]
      refine wpl (l2 := #[true, true, true, true, true, true, true, true, true, true, true, true, false, false, false, false]) (by kernel_rfl) ?_
      exact fin _ bA bB r ⟨rA3, rB3, hrc, hro3x, hnrA, hnrB, hlbA, hlbB, hF3⟩
     ·try simp only [lA, lS, lZ]
      go_simp
      refine hK _ _ (sA _ (hF1.alloc _)) ?_
      clear hK K
      try simp only [lA, lS, lZ, Act.put, lI, lW, lX]
      have hra := heap_alloc_new wA (.cells #[.int .u64 0, .int .u64 0, .int .u64 0, .int .u64 0] 29)
      have hfaB : Frm [] wA (wA.alloc (.cells #[.int .u64 0, .int .u64 0, .int .u64 0, .int .u64 0] 29)) := (Frm.refl _ _).alloc _
      have hF2 := hF1.alloc (.cells #[.int .u64 0, .int .u64 0, .int .u64 0, .int .u64 0] 29)
      obtain ⟨wB, hwB⟩ := eX (wA.alloc (.cells #[.int .u64 0, .int .u64 0, .int .u64 0, .int .u64 0] 29))
      obtain ⟨bB, hbB⟩ := eX (wA.heap.size)
      have hlbB : wr.heap.size ≤ bB := by rw [← hbB]; exact hF1.size
      rw [hwB, hbB] at hra
      rw [hwB] at hfaB hF2
      have rB2 := hra
      clear hra
      have rA2 := hfaB.heap rA1 (by simp)
      try rw [hwB]
      try rw [hbB]
      refine wpAnyHT_one (i := 4) rfl (by kernel_rfl) (by kernel_rfl) (fun K hK => ?_)
      have hltrA := lt_of_heap rA2
      have hltrB := lt_of_heap rB2
      try simp only [lA, lS, lZ]
      go_simp
      refine (HDC.out wB hF2).mono ?_
      rintro e wC ⟨r, rfl, hrc, hro, hfc⟩
      have hF3 : Frm [] wr wC := hF2.trans hfc (by simp)
      refine hK _ _ (sA _ hF3) ?_
      clear hK K
      have rA3 := hfc.heap rA2 (by simp)
      have rB3 := hfc.heap rB2 (by simp)
      have hlw := hro.low
      have hro2 := hro.lo hF2.size
      have hnrA : ∀ k, (k ∈ blk r.pp ∨ k ∈ blk r.kp ∨ k ∈ blk r.dp) → ¬ k = bA := fun k hk => by have := hlw k hk; omega
      have hnrB : ∀ k, (k ∈ blk r.pp ∨ k ∈ blk r.kp ∨ k ∈ blk r.dp) → ¬ k = bB := fun k hk => by have := hlw k hk; omega
      refine hI (i := 5) (v := ?_) rfl ?_ (sA _ hF3) ?_
      rotate_left 1
      ·rintro W ⟨e0, e1, e2, e3⟩; (try simp only [lA, lS, lZ]); go_simp; try with_reducible rfl
      try simp only [lA, lS, lZ, Act.put, lI, lW, lX]
      refine hI (i := 6) (v := ?_) rfl ?_ (sA _ hF3) ?_
      rotate_left 1
      ·rintro W ⟨e0, e1, e2, e3⟩; (try simp only [lA, lS, lZ]); go_simp; try with_reducible rfl
      try simp only [lA, lS, lZ, Act.put, lI, lW, lX]
      refine hI (i := 7) (v := ?_) rfl ?_ (sA _ hF3) ?_
      rotate_left 1
      ·rintro W ⟨e0, e1, e2, e3⟩; (try simp only [lA, lS, lZ]); go_simp; try with_reducible rfl
      try simp only [lA, lS, lZ, Act.put, lI, lW, lX]
      refine hI (i := 8) (v := ?_) rfl ?_ (sA _ hF3) ?_
      rotate_left 1
      ·rintro W ⟨e0, e1, e2, e3⟩; (try simp only [lA, lS, lZ]); go_simp; try with_reducible rfl
      try simp only [lA, lS, lZ, Act.put, lI, lW, lX]
      refine hI (i := 9) (v := ?_) rfl ?_ (sA _ hF3) ?_
      rotate_left 1
      ·rintro W ⟨e0, e1, e2, e3⟩; (try simp only [lA, lS, lZ]); go_simp; try with_reducible rfl
      try simp only [lA, lS, lZ, Act.put, lI, lW, lX]
      refine wpl (l2 := #[true, true, true, true, true, true, true, true, true, true, true, true, false, false, false, false]) (by kernel_rfl) ?_
      exact fin _ bA bB r ⟨rA3, rB3, hrc, hro2, hnrA, hnrB, hlbA, hlbB, hF3⟩
    ·try simp only [lA, lS, lZ]
     go_simp
     refine hK _ _ (sA _ (hF0.alloc _)) ?_
     clear hK K
     try simp only [lA, lS, lZ, Act.put, lI, lW, lX]
     have hra := heap_alloc_new wd (.cells #[.int .u64 0, .int .u64 0, .int .u64 0, .int .u64 0] 29)
     have hfaB : Frm [] wd (wd.alloc (.cells #[.int .u64 0, .int .u64 0, .int .u64 0, .int .u64 0] 29)) := (Frm.refl _ _).alloc _
     have hF1 := hF0.alloc (.cells #[.int .u64 0, .int .u64 0, .int .u64 0, .int .u64 0] 29)
     obtain ⟨wB, hwB⟩ := eX (wd.alloc (.cells #[.int .u64 0, .int .u64 0, .int .u64 0, .int .u64 0] 29))
     obtain ⟨bB, hbB⟩ := eX (wd.heap.size)
     have hlbB : wr.heap.size ≤ bB := by rw [← hbB]; exact hF0.size
     rw [hwB, hbB] at hra
     rw [hwB] at hfaB hF1
     have rB1 := hra
     clear hra
     try rw [hwB]
     try rw [hbB]
     refine wpAnyHT_two (i := 4) (j := 10) rfl rfl (by kernel_rfl) (by kernel_rfl) (by kernel_rfl) (fun K hK => ?_) (fun K hK => ?_)
     ·have hltrB := lt_of_heap rB1
      try simp only [lA, lS, lZ]
      go_simp
      refine (HDC.out wB hF1).mono ?_
      rintro e wC ⟨r, rfl, hrc, hro, hfc⟩
      have hF2 : Frm [] wr wC := hF1.trans hfc (by simp)
      refine hK _ _ (sA _ hF2) ?_
      clear hK K
      have rB2 := hfc.heap rB1 (by simp)
      have hlw := hro.low
      have hro2 := hro.lo hF1.size
      have hnrB : ∀ k, (k ∈ blk r.pp ∨ k ∈ blk r.kp ∨ k ∈ blk r.dp) → ¬ k = bB := fun k hk => by have := hlw k hk; omega
      refine hI (i := 5) (v := ?_) rfl ?_ (sA _ hF2) ?_
      rotate_left 1
      ·rintro W ⟨e0, e1, e2, e3⟩; (try simp only [lA, lS, lZ]); go_simp; try with_reducible rfl
      try simp only [lA, lS, lZ, Act.put, lI, lW, lX]
      refine hI (i := 6) (v := ?_) rfl ?_ (sA _ hF2) ?_
      rotate_left 1
      ·rintro W ⟨e0, e1, e2, e3⟩; (try simp only [lA, lS, lZ]); go_simp; try with_reducible rfl
      try simp only [lA, lS, lZ, Act.put, lI, lW, lX]
      refine hI (i := 7) (v := ?_) rfl ?_ (sA _ hF2) ?_
      rotate_left 1
      ·rintro W ⟨e0, e1, e2, e3⟩; (try simp only [lA, lS, lZ]); go_simp; try with_reducible rfl
      try simp only [lA, lS, lZ, Act.put, lI, lW, lX]
      refine hI (i := 8) (v := ?_) rfl ?_ (sA _ hF2) ?_
      rotate_left 1
      ·rintro W ⟨e0, e1, e2, e3⟩; (try simp only [lA, lS, lZ]); go_simp; try with_reducible rfl
      try simp only [lA, lS, lZ, Act.put, lI, lW, lX]
      refine hI (i := 9) (v := ?_) rfl ?_ (sA _ hF2) ?_
      rotate_left 1
      ·rintro W ⟨e0, e1, e2, e3⟩; (try simp only [lA, lS, lZ]); go_simp; try with_reducible rfl
      try simp only [lA, lS, lZ, Act.put, lI, lW, lX]
      refine wpAnyHT_one (i := 10) rfl (by kernel_rfl) (by kernel_rfl) (fun K hK => ?_)
      try simp only [lA, lS, lZ]
      go_simp
      refine hK _ _ (sA _ (hF2.alloc _)) ?_
      clear hK K
      try simp only [lA, lS, lZ, Act.put, lI, lW, lX]
      have hra := heap_alloc_new wC (.cells #[.int .i64 0, .string ⟨#[]⟩, .int .i64 0, .int .i64 0, .int .i64 0, .int .i64 0, .string ⟨#[]⟩, .slice none 0 0, .int .i64 0, .int .i64 0, .int .i64 0, .slice none 0 0, .slice none 0 0] 26)
      have hfaA : Frm [] wC (wC.alloc (.cells #[.int .i64 0, .string ⟨#[]⟩, .int .i64 0, .int .i64 0, .int .i64 0, .int .i64 0, .string ⟨#[]⟩, .slice none 0 0, .int .i64 0, .int .i64 0, .int .i64 0, .slice none 0 0, .slice none 0 0] 26)) := (Frm.refl _ _).alloc _
      have hF3 := hF2.alloc (.cells #[.int .i64 0, .string ⟨#[]⟩, .int .i64 0, .int .i64 0, .int .i64 0, .int .i64 0, .string ⟨#[]⟩, .slice none 0 0, .int .i64 0, .int .i64 0, .int .i64 0, .slice none 0 0, .slice none 0 0] 26)
      have hcsA : wC.heap.size ≤ wC.heap.size := Nat.le_refl _
      obtain ⟨wA, hwA⟩ := eX (wC.alloc (.cells #[.int .i64 0, .string ⟨#[]⟩, .int .i64 0, .int .i64 0, .int .i64 0, .int .i64 0, .string ⟨#[]⟩, .slice none 0 0, .int .i64 0, .int .i64 0, .int .i64 0, .slice none 0 0, .slice none 0 0] 26))
      obtain ⟨bA, hbA⟩ := eX (wC.heap.size)
      have hlbA : wr.heap.size ≤ bA := by rw [← hbA]; exact hF2.size
      rw [hwA, hbA] at hra
      rw [hwA] at hfaA hF3
      have rA3 := hra
      clear hra
      have rB3 := hfaA.heap rB2 (by simp)
      have hnrA : ∀ k, (k ∈ blk r.pp ∨ k ∈ blk r.kp ∨ k ∈ blk r.dp) → ¬ k = bA := fun k hk => by have := hlw k hk; omega
      have hro3x := hro2.k0 hfaA
      try rw [hwA]
      try rw [hbA]
      refine wpl (l2 := #[true, true, true, true, true, true, true, true, true, true, true, true, false, false, false, false]) (by kernel_rfl) ?_
      exact fin _ bA bB r ⟨rA3, rB3, hrc, hro3x, hnrA, hnrB, hlbA, hlbB, hF3⟩
     ·try simp only [lA, lS, lZ]
      go_simp
      refine hK _ _ (sA _ (hF1.alloc _)) ?_
      clear hK K
      try simp only [lA, lS, lZ, Act.put, lI, lW, lX]
      have hra := heap_alloc_new wB (.cells #[.int .i64 0, .string ⟨#[]⟩, .int .i64 0, .int .i64 0, .int .i64 0, .int .i64 0, .string ⟨#[]⟩, .slice none 0 0, .int .i64 0, .int .i64 0, .int .i64 0, .slice none 0 0, .slice none 0 0] 26)
      have hfaA : Frm [] wB (wB.alloc (.cells #[.int .i64 0, .string ⟨#[]⟩, .int .i64 0, .int .i64 0, .int .i64 0, .int .i64 0, .string ⟨#[]⟩, .slice none 0 0, .int .i64 0, .int .i64 0, .int .i64 0, .slice none 0 0, .slice none 0 0] 26)) := (Frm.refl _ _).alloc _
      have hF2 := hF1.alloc (.cells #[.int .i64 0, .string ⟨#[]⟩, .int .i64 0, .int .i64 0, .int .i64 0, .int .i64 0, .string ⟨#[]⟩, .slice none 0 0, .int .i64 0, .int .i64 0, .int .i64 0, .slice none 0 0, .slice none 0 0] 26)
      obtain ⟨wA, hwA⟩ := eX (wB.alloc (.cells #[.int .i64 0, .string ⟨#[]⟩, .int .i64 0, .int .i64 0, .int .i64 0, .int .i64 0, .string ⟨#[]⟩, .slice none 0 0, .int .i64 0, .int .i64 0, .int .i64 0, .slice none 0 0, .slice none 0 0] 26))
      obtain ⟨bA, hbA⟩ := eX (wB.heap.size)
      have hlbA : wr.heap.size ≤ bA := by rw [← hbA]; exact hF1.size
      rw [hwA, hbA] at hra
      rw [hwA] at hfaA hF2
      have rA2 := hra
      clear hra
      have rB2 := hfaA.heap rB1 (by simp)
      try rw [hwA]
      try rw [hbA]
      refine wpAnyHT_one (i := 4) rfl (by kernel_rfl) (by kernel_rfl) (fun K hK => ?_)
      have hltrB := lt_of_heap rB2
      have hltrA := lt_of_heap rA2
      try simp only [lA, lS, lZ]
      go_simp
      refine (HDC.out wA hF2).mono ?_
      rintro e wC ⟨r, rfl, hrc, hro, hfc⟩
      have hF3 : Frm [] wr wC := hF2.trans hfc (by simp)
      refine hK _ _ (sA _ hF3) ?_
      clear hK K
      have rB3 := hfc.heap rB2 (by simp)
      have rA3 := hfc.heap rA2 (by simp)
      have hlw := hro.low
      have hro2 := hro.lo hF2.size
      have hnrB : ∀ k, (k ∈ blk r.pp ∨ k ∈ blk r.kp ∨ k ∈ blk r.dp) → ¬ k = bB := fun k hk => by have := hlw k hk; omega
      have hnrA : ∀ k, (k ∈ blk r.pp ∨ k ∈ blk r.kp ∨ k ∈ blk r.dp) → ¬ k = bA := fun k hk => by have := hlw k hk; omega
      refine hI (i := 5) (v := ?_) rfl ?_ (sA _ hF3) ?_
      rotate_left 1
      ·rintro W ⟨e0, e1, e2, e3⟩; (try simp only [lA, lS, lZ]); go_simp; try with_reducible rfl
      try simp only [lA, lS, lZ, Act.put, lI, lW, lX]
      refine hI (i := 6) (v := ?_) rfl ?_ (sA _ hF3) ?_
      rotate_left 1
      ·rintro W ⟨e0, e1, e2, e3⟩; (try simp only [lA, lS, lZ]); go_simp; try with_reducible rfl
      try simp only [lA, lS, lZ, Act.put, lI, lW, lX]
      refine hI (i := 7) (v := ?_) rfl ?_ (sA _ hF3) ?_
      rotate_left 1
      ·rintro W ⟨e0, e1, e2, e3⟩; (try simp only [lA, lS, lZ]); go_simp; try with_reducible rfl
      try simp only [lA, lS, lZ, Act.put, lI, lW, lX]
      refine hI (i := 8) (v := ?_) rfl ?_ (sA _ hF3) ?_
      rotate_left 1
      ·rintro W ⟨e0, e1, e2, e3⟩; (try simp only [lA, lS, lZ]); go_simp; try with_reducible rfl
      try simp only [lA, lS, lZ, Act.put, lI, lW, lX]
      refine hI (i := 9) (v := ?_) rfl ?_ (sA _ hF3) ?_
      rotate_left 1
      ·rintro W ⟨e0, e1, e2, e3⟩; (try simp only [lA, lS, lZ]); go_simp; try with_reducible rfl
      try simp only [lA, lS, lZ, Act.put, lI, lW, lX]
      refine wpl (l2 := #[true, true, true, true, true, true, true, true, true, true, true, true, false, false, false, false]) (by kernel_rfl) ?_
      exact fin _ bA bB r ⟨rA3, rB3, hrc, hro2, hnrA, hnrB, hlbA, hlbB, hF3⟩
   ·skip
    rintro cur bA bB r ⟨hrA, hrB, hrc, hln, hnrA, hnrB, hlbA, hlbB, hFc⟩
    have hAB : ¬ bB = bA := fun h => by rw [h, hrA] at hrB; cases hrB
    obtain ⟨kind, name, typ, frm, guid, origin, snap, pp, pn, pc, obj, at_, many, kp, kn, kc, dp, dl, dc⟩ := r
    unfold Rc.arr
    simp only
    have z0 := cR 0 (.int .i64 0) hrA
    have y0 := fZ 0 hrA
    have z1 := cR 1 (.string ⟨#[]⟩) hrA
    have y1 := fZ 1 hrA
    have z2 := cR 2 (.int .i64 0) hrA
    have y2 := fZ 2 hrA
    have z3 := cR 3 (.int .i64 0) hrA
    have y3 := fZ 3 hrA
    have z4 := cR 4 (.int .i64 0) hrA
    have y4 := fZ 4 hrA
    have z5 := cR 5 (.int .i64 0) hrA
    have y5 := fZ 5 hrA
    have z6 := cR 6 (.string ⟨#[]⟩) hrA
    have y6 := fZ 6 hrA
    have z7 := cR 7 (.slice none 0 0) hrA
    have y7 := fZ 7 hrA
    have z8 := cR 8 (.int .i64 0) hrA
    have y8 := fZ 8 hrA
    have z9 := cR 9 (.int .i64 0) hrA
    have y9 := fZ 9 hrA
    have z10 := cR 10 (.int .i64 0) hrA
    have y10 := fZ 10 hrA
    have z11 := cR 11 (.slice none 0 0) hrA
    have y11 := fZ 11 hrA
    have z12 := cR 12 (.slice none 0 0) hrA
    have y12 := fZ 12 hrA
    obtain ⟨Wz, hwz, h5, f5⟩ := sE bA 26 [(0, .int .i64 kind), (1, .string name), (2, .int .i64 typ), (3, .int .i64 frm), (4, .int .i64 guid), (5, .int .i64 origin), (6, .string snap), (7, .slice pp pn pc), (8, .int .i64 obj), (9, .int .i64 at_), (10, .int .i64 many), (11, .slice kp kn kc), (12, .slice dp dl dc)] cur _ hrA
    simp only [List.foldl, List.setIfInBounds_toArray, List.set_cons_zero, List.set_cons_succ] at h5
    simp only [setsF] at hwz
    have hWz := hwz
    have hFz : Frm [] wr Wz := hFc.trans f5 (fun i hi hl => by rw [List.mem_singleton] at hi; omega)
    have hrB2 := f5.heap hrB (by simpa using hAB)
    have hln5 := hln.kept f5 (fun k hk hm => hnrA k (Or.inl hk) (List.mem_singleton.1 hm)) (fun k hk hm => hnrA k (Or.inr (Or.inl hk)) (List.mem_singleton.1 hm)) (fun k hk hm => hnrA k (Or.inr (Or.inr hk)) (List.mem_singleton.1 hm))
    have n0 := cR 0 (.int .u64 0) hrB2
    have m0 := fZ 0 hrB2
    have n1 := cR 1 (.int .u64 0) hrB2
    have m1 := fZ 1 hrB2
    have n2 := cR 2 (.int .u64 0) hrB2
    have m2 := fZ 2 hrB2
    have n3 := cR 3 (.int .u64 0) hrB2
    have m3 := fZ 3 hrB2
    obtain ⟨Wy, hwy, h6, f6⟩ := sE bB 29 [(0, .int .u64 t0), (1, .int .u64 t1), (2, .int .u64 t2), (3, .int .u64 t3)] Wz _ hrB2
    simp only [List.foldl, List.setIfInBounds_toArray, List.set_cons_zero, List.set_cons_succ] at h6
    simp only [setsF] at hwy
    have hWy := hwy
    have hFy : Frm [] wr Wy := hFz.trans f6 (fun i hi hl => by rw [List.mem_singleton] at hi; omega)
    have h7 := f6.heap h5 (by simpa using fun h => hAB h.symm)
    have hln6 := hln5.kept f6 (fun k hk hm => hnrB k (Or.inl hk) (List.mem_singleton.1 hm)) (fun k hk hm => hnrB k (Or.inr (Or.inl hk)) (List.mem_singleton.1 hm)) (fun k hk hm => hnrB k (Or.inr (Or.inr hk)) (List.mem_singleton.1 hm))
    refine wpAnyHT_one (i := 12) rfl (by kernel_rfl) (by kernel_rfl) (fun K hK => ?_)
    try simp only [lA, lS, lZ]
    go_simp
    try rw [hwz]
    refine hK _ _ (sA _ hFz) ?_
    clear hK K
    try simp only [List.setIfInBounds_toArray, List.set_cons_zero, List.set_cons_succ]
    refine wpAnyHT_one (i := 13) rfl (by kernel_rfl) (by kernel_rfl) (fun K hK => ?_)
    try simp only [lA, lS, lZ]
    go_simp
    refine hK _ _ (sA _ hFz) ?_
    clear hK K
    try simp only [List.setIfInBounds_toArray, List.set_cons_zero, List.set_cons_succ]
    refine wpAnyHT_one (i := 14) rfl (by kernel_rfl) (by kernel_rfl) (fun K hK => ?_)
    try simp only [lA, lS, lZ]
    go_simp
    try rw [hwy]
    refine hK _ _ (sA _ hFy) ?_
    clear hK K
    try simp only [List.setIfInBounds_toArray, List.set_cons_zero, List.set_cons_succ]
    refine wpAnyHT_end (by kernel_rfl) ?_
    simp only [List.drop_succ_cons, List.drop_zero]
    clear z0 y0 h5 f5 hwz hwy hWz hWy
    go_wp2_with fail
    go_meet
    exact ⟨⟨kind, name, typ, frm, guid, origin, snap, pp, pn, pc, obj, at_, many, kp, kn, kc, dp, dl, dc⟩, bA, bB, rfl, rfl, rfl, rfl, hid h7, hid h6, hid hrc, hid hln6, hlbA, hlbB, hid hFy⟩
  obtain ⟨r, bx, bz, rfl, rfl, rfl, rfl, hx, hzz, hrc, hro, hlx, hlz, hf2⟩ := hcut
  have HX7 := hid hx.out
  have HZ7 := hid hzz.out
  have HRC := hid hrc.out
  have HRO := hid hro.out
  have HF2 := hid hf2.out
  clear hx hzz hrc hro hf2 hsl sA HDC
  by_cases hde : EV = 0
  case neg =>
   have hbE : (EV != 0) = true := by rw [bne_iff_ne]; exact hde
   have HX := hid (HNO.out wc hde (HF.out.trans HF2.out (by simp)))
   clear hde
   go_wp2_with fail
   try go_returns
   exact HX.out
  subst hde
  obtain ⟨hok1, htl2, hrkx, hst, dM, rfl, hdm, hdm37, hdr1⟩ := HYES.out rfl
  have HOT2 := hid hok1
  have HST := hid hst
  have HDR1 := hid hdr1
  obtain ⟨hk1, hns⟩ := hrkx ⟨r, DP, DK, DD⟩ HRC.out rfl rfl rfl
  have HNEW := hid hk1
  have HNS : Hid (r.name.size ≤ 140737488355328) := hid hns
  clear hok1 hst hdr1 hk1 hns hrkx HYES HNO
  obtain ⟨R, hR⟩ := eX (r)
  have HRA : Hid (r.arr = R.arr) := hid (by rw [hR])
  rw [hR] at HNEW HRO HNS
  clear hR HRC
  obtain ⟨kind, name, typ, frm, guid, origin, snap, pp, pn, pc, obj, at_, many, kp, kn, kc, dp, dl, dc⟩ := r
  have HRA2 : Hid (R.arr.toList = [.int .i64 kind, .string name, .int .i64 typ, .int .i64 frm, .int .i64 guid, .int .i64 origin, .string snap, .slice pp pn pc, .int .i64 obj, .int .i64 at_, .int .i64 many, .slice kp kn kc, .slice dp dl dc]) := hid (by rw [← HRA.out]; rfl)
  clear HRA
  unfold Rc.arr at HX7
  simp only at HX7
  have hown7 := ownsRow_kept HOW.out HF2.out (by simp)
  have HA := hid ((Frm.refl [] wc).alloc (.cells #[.int .i64 kind, .string name, .int .i64 typ, .int .i64 frm, .int .i64 guid, .int .i64 origin, .string snap, .slice pp pn pc, .int .i64 obj, .int .i64 at_, .int .i64 many, .slice kp kn kc, .slice dp dl dc] 26))
  have HRV := hid (rv_block (heap_alloc_new wc (.cells #[.int .i64 kind, .string name, .int .i64 typ, .int .i64 frm, .int .i64 guid, .int .i64 origin, .string snap, .slice pp pn pc, .int .i64 obj, .int .i64 at_, .int .i64 many, .slice kp kn kc, .slice dp dl dc] 26)))
  have HOW2 := hid (ownsRow_kept hown7 HA.out (by simp))
  have HXS : Hid (xs < wr.heap.size) := hid (lt_of_heap HSR.out)
  have z0 := cR 0 (.int .i64 kind) HX7.out
  have z1 := cR 1 (.string name) HX7.out
  have z2 := cR 2 (.int .i64 typ) HX7.out
  have z3 := cR 3 (.int .i64 frm) HX7.out
  have z4 := cR 4 (.int .i64 guid) HX7.out
  have z5 := cR 5 (.int .i64 origin) HX7.out
  have z6 := cR 6 (.string snap) HX7.out
  have z7 := cR 7 (.slice pp pn pc) HX7.out
  have z8 := cR 8 (.int .i64 obj) HX7.out
  have z9 := cR 9 (.int .i64 at_) HX7.out
  have z10 := cR 10 (.int .i64 many) HX7.out
  have z11 := cR 11 (.slice kp kn kc) HX7.out
  have z12 := cR 12 (.slice dp dl dc) HX7.out
  clear hown7
  go_upto_region 10 with fail
  go_wp2_with (at_builtin; refine wpList_appV rfl _ _ 43 rfl 26 13 168 _ Tryz.underlying43 infoRcR rfl (by decide) lp t lc (rowsRk L) rfl HOW2.out (some ⟨wc.heap.size, 0, none⟩) 1 1 [.int .i64 kind, .string name, .int .i64 typ, .int .i64 frm, .int .i64 guid, .int .i64 origin, .string snap, .slice pp pn pc, .int .i64 obj, .int .i64 at_, .int .i64 many, .slice kp kn kc, .slice dp dl dc] rfl rfl (by simp) HRV.out (by intro u hu; simp at hu; rcases hu with rfl | rfl | rfl | rfl | rfl | rfl | rfl | rfl | rfl | rfl | rfl | rfl | rfl <;> rfl) (by unfold maxLen; omega) (by omega) ?_)
  intro p8 c8 w8 ho8 hf8 hb8
  have hfa8 : Frm (blk lp) wc w8 := (HA.out.mono (by simp)).trans hf8.out (fun i hi _ => hi)
  have HZ8 : Hid (w8.heap[bz]? = some (.cells #[.int .u64 t0, .int .u64 t1, .int .u64 t2, .int .u64 t3] 29 (0, 0))) := hid (hfa8.heap HZ7.out (fun hm => by have h1 := ownsRow_low HOW.out _ hm; omega))
  have HS8 := hid (hfa8.heap (HF2.out.heap HSR.out (by simp)) (fun hm => by have := HNW.out xs hm; omega))
  have HF8 : Hid (Frm [] w w8) := hid ((HF.out.trans HF2.out (by simp)).trans hfa8 (fun i hi hl => by have := HNW.out i hi; have := HBS.out; omega))
  have e1 : (wc.alloc (.cells #[.int .i64 kind, .string name, .int .i64 typ, .int .i64 frm, .int .i64 guid, .int .i64 origin, .string snap, .slice pp pn pc, .int .i64 obj, .int .i64 at_, .int .i64 many, .slice kp kn kc, .slice dp dl dc] 26)).heap.size = wc.heap.size + 1 := by simp
  have HNW8 : Hid (∀ k ∈ blk p8, xs < k) := hid (fun k hk => by
   rcases hb8.out k hk with h | h
   ·exact HNW.out k h
   ·have h2 := HXS.out; have h3 := HF2.out.size; omega)
  obtain ⟨B, hB1, hB2⟩ := HRO.out.foot
  have hlpl := ownsRow_low HOW.out
  have HKA : Hid (Keeps A wr w8) := hid (fun k hk => by
   obtain ⟨k1, k2, k3⟩ := HAB.out k hk
   exact (hfa8.block k (Nat.lt_of_lt_of_le k1 HF2.out.size) k3).trans (HF2.out.block k k1 (by simp)))
  have HKB : Hid (Keeps B wc w8) := hid (fun k hk => by
   obtain ⟨k1, k2⟩ := hB2 k hk
   exact hfa8.block k k2 (fun hm => by have := hlpl k hm; omega))
  have HRK8 : Hid (RkOk w8 (A ++ B) bs (L ++ [⟨R, DP, DK, DD⟩])) := hid ((HRK.out.keeps HKA.out).snoc (HRO.out.ok.keeps hB1 HKB.out) hB1 HNS.out (by rw [HLL.out]; exact HNEW.out))
  have HAB8 : Hid (∀ k ∈ A ++ B, k < w8.heap.size ∧ xs < k ∧ k ∉ blk p8) := hid (fun k hk => by
   have s1 := hfa8.size
   have s2 := HF2.out.size
   have s4 := HXS.out
   rcases List.mem_append.1 hk with hk | hk
   ·obtain ⟨k1, k2, k3⟩ := HAB.out k hk
    exact ⟨by omega, k2, fun hm => by
     rcases hb8.out k hm with h | h
     ·exact k3 h
     ·omega⟩
   ·obtain ⟨k1, k2⟩ := hB2 k hk
    exact ⟨by omega, by omega, fun hm => by
     rcases hb8.out k hm with h | h
     ·have := hlpl k h; omega
     ·omega⟩)
  have HO8 : Hid (w8.ownsRow 0 26 13 (.slice p8 (t + 1) c8) (t + 1) (rowsRk (L ++ [⟨R, DP, DK, DD⟩]))) := hid (by
   rw [rowsRk_app, rowsRk, rowsRk, List.append_nil]
   show w8.ownsRow 0 26 13 (.slice p8 (t + 1) c8) (t + 1) (rowsRk L ++ R.arr.toList)
   rw [HRA2.out]
   exact ho8.out)
  have HLL8 : Hid ((L ++ [(⟨R, DP, DK, DD⟩ : Rk)]).length = t + 1) := hid (by rw [List.length_append, HLL.out]; rfl)
  clear ho8 hf8 hb8 hfa8 e1 hB1 hB2 hlpl HA HRV HOW2 HX7 HRA2 HRO z0 z1 z2 z3 z4 z5 z6 z7 z8 z9 z10 z11 z12
  have n0 := cR 0 (.int .u64 t0) HZ8.out
  have n1 := cR 1 (.int .u64 t1) HZ8.out
  have n2 := cR 2 (.int .u64 t2) HZ8.out
  have n3 := cR 3 (.int .u64 t3) HZ8.out
  have mz0 := fZ 0 HS8.out
  have mz1 := fZ 1 HS8.out
  have mz2 := fZ 2 HS8.out
  have mz3 := fZ 3 HS8.out
  have v0 := cR 0 (.int .u64 s0) HS8.out
  have v1 := cR 1 (.int .u64 s1) HS8.out
  have v2 := cR 2 (.int .u64 s2) HS8.out
  have v3 := cR 3 (.int .u64 s3) HS8.out
  obtain ⟨h4, f4⟩ := set4 (y0 := .int .u64 t0) (y1 := .int .u64 t1) (y2 := .int .u64 t2) (y3 := .int .u64 t3) HS8.out
  obtain ⟨W4, hW4⟩ := eX (((((w8.setCell ⟨xs, 0, none⟩ (.int .u64 t0)).setCell ⟨xs, 1, none⟩ (.int .u64 t1)).setCell ⟨xs, 2, none⟩ (.int .u64 t2)).setCell ⟨xs, 3, none⟩ (.int .u64 t3)))
  rw [hW4] at h4 f4
  have HS4 : Hid (W4.heap[xs]? = some (.cells (rsS bs (t + 1)).2.arr 29 (0, 0))) := hid (by rw [HST.out]; exact h4)
  have HF4 : Hid (Frm [] w W4) := hid (HF8.out.trans f4 (fun i hi hl => by rw [List.mem_singleton] at hi; have := HBS.out; omega))
  have HXB : Hid (∀ k, xs < k → k < w8.heap.size → W4.heap[k]? = w8.heap[k]?) := hid (fun k hk hlt => f4.block k hlt (by simp; omega))
  have HO4 := hid (ownsRow_kept HO8.out f4 (fun k hk hm => by rw [List.mem_singleton] at hm; have := HNW8.out k hk; omega))
  have HRK4 := hid (HRK8.out.keeps (fun k hk => HXB.out k (HAB8.out k hk).2.1 (HAB8.out k hk).1))
  have HAB4 : Hid (∀ k ∈ A ++ B, k < W4.heap.size ∧ xs < k ∧ k ∉ blk p8) := hid (fun k hk => by have h := HAB8.out k hk; have h3 := f4.size; exact ⟨by omega, h.2⟩)
  have HWE := hid hW4
  have hadm : a + dM ≤ n := by have := HM2.out; omega
  clear h4 f4 hW4 HO8 HF8 HF HF2 HS8 HZ8 HRK8 HAB8 HXB
  go_wp2_with fail
  go_roundw
  case rel => exact ⟨t + 1, a + dM, c8, p8, L ++ [⟨R, DP, DK, DD⟩], A ++ B, hadm, htl2, rfl, by go_num, HOT2, HDR1, by rw [HWE.out]; exact HS4, HLL8, by rw [HWE.out]; exact HO4, HNW8, by rw [HWE.out]; exact HRK4, by rw [HWE.out]; exact HAB4, by rw [HWE.out]; exact HF4⟩
  case measure => simp [intOf] <;> omega
end
section
open Go.RowKit Go.Lib
theorem recordStreams_any (p : Option Addr) (n c : Nat) (L : List Rk) (q : Option Addr) (m d : Nat) (BS : List Int) (w : World) (hn : L.length = n) (hnb : n ≤ 1048576) (hrd : RdRk w p L) (hpv : ∀ i, i < n → PvOk (rkA L i).P) (hm : BS.length = m) (hmd : m ≤ d) (hm9 : m ≤ 140737488351232) (hrb : Rd w q BS) (hb : ∀ z ∈ BS, 0 ≤ z ∧ z < 256) (hpr : Primes w) (hvs : Vars w) :
  Calls Tryz.prog 5 #[.slice p n c, .slice q m d] w fun e w' => e = .returned (.bool true) ∧ Frm [] w w' := by
 obtain ⟨PO, hPO⟩ : ∃ PO : Ending → World → Prop, (fun e w' => e = .returned (.bool true) ∧ Frm [] w w') = PO := ⟨_, rfl⟩
 rw [hPO]
 have HP : Hid (∀ w', Frm [] w w' → PO (.returned (.bool true)) w') := hid (fun w' h => by rw [← hPO]; exact ⟨rfl, h⟩)
 have HAW := hid (fun V (hf : Frm [] w V) => awake20_any V (hpr.kept hf))
 have HST := hid (fun V (hf : Frm [] w V) => (stream_any p n c L V hn (by omega) (hrd.k0 hf) (hpr.kept hf)).mono (fun e w' h => strU_of h))
 have HSF := hid (fun V (hf : Frm [] w V) => (refStream_any p n c L V hn (by omega) (hrd.k0 hf) hpv (hvs.kept hf)).mono (fun e w' h => strU_ofF h))
 have HRC := hid (fun V (hf : Frm [] w V) q (m d : Nat) bs (hm : bs.length = m) (hmd : m ≤ d) (hm9 : m ≤ 140737488351232) (hr : Rd V q bs) (hb : ∀ z ∈ bs, 0 ≤ z ∧ z < 256) => (records_any q m d bs V hm hmd (by omega) hr hb (hpr.kept hf)).mono (fun e w' h => rcs_val h))
 have HRF := hid (fun V (hf : Frm [] w V) q (m d : Nat) bs (hm : bs.length = m) (hmd : m ≤ d) (hm9 : m ≤ 140737488351232) (hr : Rd V q bs) (hb : ∀ z ∈ bs, 0 ≤ z ∧ z < 256) => (refRecords_any q m d bs V hm hmd (by omega) hr hb (hvs.kept hf)).mono (fun e w' h => rcs_val h))
 unfold RcsV at HRC HRF
 have HRB := hid (fun V (hf : Frm [] w V) => hrb.kept hf (by simp))
 have HSB := hid (stB_bd hrd)
 have HSL := hid (stB_len L)
 have HBM := hid hm
 have HBB := hid hb
 unfold StrU at HST HSF
 obtain ⟨SB, hSB⟩ := eX (stB L)
 obtain ⟨SN, hSN⟩ := eX (SB.length)
 obtain ⟨SE, hSE⟩ := eX (stE L)
 rw [hSB] at HSB HSL
 rw [hSN] at HSL
 rw [hSB, hSN, hSE] at HST HSF
 have HSN := hid hSN
 clear hPO hn hnb hrd hpv hm hrb hb hpr hvs hSB hSE hSN
 go_enter Tryz.func5, Tryz.ntmps5
 go_wp2_with fail
 refine (HAW.out w (Frm.refl _ _)).mono ?_
 rintro e w1 ⟨rfl, hf1⟩
 have HF1 := hid hf1
 clear hf1 HAW
 go_wp2_with fail
 refine (HST.out w1 HF1.out).mono ?_
 rintro e w2 ⟨p2, c2, rfl, hc2, hr2, hf2⟩
 have HF2 : Hid (Frm [] w w2) := hid (HF1.out.trans hf2 (by simp))
 have HR2 := hid hr2
 clear hf2 hr2 HST HF1 hc2
 go_wp2_with fail
 refine (HSF.out w2 HF2.out).mono ?_
 rintro e w3 ⟨p3, c3, rfl, hc3, hr3, hf3⟩
 have HF3 : Hid (Frm [] w w3) := hid (HF2.out.trans hf3 (by simp))
 have HR2 := hid (HR2.out.kept hf3 (by simp))
 have HR3 := hid hr3
 clear hf3 hr3 HSF HF2
 go_wp2_with fail
 refine (HRC.out w3 HF3.out q m d BS HBM.out hmd hm9 (HRB.out w3 HF3.out) HBB.out).mono ?_
 rintro e w4 ⟨N, E, hv, hN, pM, cM, M, rfl, hM1, hM2, hM3, hf4⟩
 have HF4 : Hid (Frm [] w w4) := hid (HF3.out.trans hf4 (by simp))
 have HR2 := hid (HR2.out.kept hf4 (by simp))
 have HR3 := hid (HR3.out.kept hf4 (by simp))
 have HV := hid hv
 have HM1 := hid hM1
 have HM2 := hid hM2
 have HM3 := hid hM3
 clear hf4 hv hM1 hM2 hM3 HF3
 go_wp2_with fail
 refine (HRF.out w4 HF4.out q m d BS HBM.out hmd hm9 (HRB.out w4 HF4.out) HBB.out).mono ?_
 rintro e w5 ⟨N', E', hv', hN', pK, cK, K, rfl, hK1, hK2, hK3, hf5⟩
 obtain ⟨rfl, rfl⟩ := rcVal_uniq HV.out hv'
 have HF5 : Hid (Frm [] w w5) := hid (HF4.out.trans hf5 (by simp))
 have HR2 := hid (HR2.out.kept hf5 (by simp))
 have HR3 := hid (HR3.out.kept hf5 (by simp))
 have HSA := hid (sameAll_any pM pK N' cM cK M K w5 HM1.out hK1 (by omega) (HM2.out.k0 hf5) hK2 (fun j hj => rkOf_same (HM3.out j hj) (hK3 j hj)))
 clear hf5 hv' hN' hK1 hK2 hK3 HF4 HV HM1 HM2 HM3 hN
 go_wp2_with fail
 refine HSA.out.mono ?_
 rintro e w6 ⟨rfl, hf6⟩
 have HF6 : Hid (Frm [] w w6) := hid (HF5.out.trans hf6 (by simp))
 have HR2 := hid (HR2.out.kept hf6 (by simp))
 have HR3 := hid (HR3.out.kept hf6 (by simp))
 clear hf6 HSA HF5
 go_wp2_with fail
 refine (HRC.out w6 HF6.out p3 SN c3 SB HSN.out hc3 (by have := HSL.out; omega) HR3.out HSB.out).mono ?_
 rintro e w7 ⟨N2, E2, hv, hN, pO, cO, O, rfl, hM1, hM2, hM3, hf7⟩
 have HF7 : Hid (Frm [] w w7) := hid (HF6.out.trans hf7 (by simp))
 have HR2 := hid (HR2.out.kept hf7 (by simp))
 have HR3 := hid (HR3.out.kept hf7 (by simp))
 have HV := hid hv
 have HM1 := hid hM1
 have HM2 := hid hM2
 have HM3 := hid hM3
 clear hf7 hv hM1 hM2 hM3 HF6
 go_wp2_with fail
 refine (HRF.out w7 HF7.out p3 SN c3 SB HSN.out hc3 (by have := HSL.out; omega) HR3.out HSB.out).mono ?_
 rintro e w8 ⟨N2', E2', hv', hN', pS, cS, S, rfl, hK1, hK2, hK3, hf8⟩
 obtain ⟨rfl, rfl⟩ := rcVal_uniq HV.out hv'
 have HF8 : Hid (Frm [] w w8) := hid (HF7.out.trans hf8 (by simp))
 have HR2 := hid (HR2.out.kept hf8 (by simp))
 have HR3 := hid (HR3.out.kept hf8 (by simp))
 have HSA := hid (sameAll_any pO pS N2' cO cS O S w8 HM1.out hK1 (by omega) (HM2.out.k0 hf8) hK2 (fun j hj => rkOf_same (HM3.out j hj) (hK3 j hj)))
 clear hf8 hv' hN' hK1 hK2 hK3 HF7 HV HM1 HM2 HM3 hN HRC HRF
 go_wp2_with fail
 refine HSA.out.mono ?_
 rintro e w9 ⟨rfl, hf9⟩
 have HF9 : Hid (Frm [] w w9) := hid (HF8.out.trans hf9 (by simp))
 have HR2 := hid (HR2.out.kept hf9 (by simp))
 have HR3 := hid (HR3.out.kept hf9 (by simp))
 clear hf9 HSA HF8
 have hcv1 := fun k0 => cv_any (P := Tryz.prog) (w := w9.drewN k0) (n := SN) 24 5 9 Tryz.underlying24 Tryz.underlying5 Tryz.underlying9 (HR2.out.drewN k0) c2 HSN.out
 have hcv2 := fun k0 => cv_any (P := Tryz.prog) (w := w9.drewN k0) (n := SN) 24 5 9 Tryz.underlying24 Tryz.underlying5 Tryz.underlying9 (HR3.out.drewN k0) c3 HSN.out
 generalize strOfNums SB = SS at hcv1 hcv2
 have hcv3 := hcv1 0
 have hcv4 := hcv2 0
 rw [World.drewN_zero] at hcv3 hcv4
 go_wp2_with fail
 try go_returns
 exact HP.out _ HF9.out
end
section
open Go.ChangeShapes Go.WideShapes Go.ChangeAt Go.RowKit
theorem bulk_lits {H : Type} (k : IntKind) (zs : List Int) : Rows.uptoBulkAll (H := H) (lits k zs) = zs.length := by
 induction zs with
 | nil => rfl
 | cons z zs ih =>
  have e : (lits k (z :: zs) : List (DataW H)) = .lit (.int k z) :: lits k zs := rfl
  rw [e, Rows.uptoBulkAll, ih, List.length_cons]
  simp only [Rows.uptoBulk]
  omega
theorem g_primes : Tryz.prog.globalNamed "undercroft/sum.primes" = some 2 := by kernel_rfl
theorem g_primesType : (Tryz.prog.globals[2]?).map (·.type) = some 130 := by kernel_rfl
theorem cells_u32 : Tryz.prog.cellsOf 123 = 1 := by kernel_rfl
theorem cells_tab : Tryz.prog.cellsOf 130 = 64 := by kernel_rfl
noncomputable def laidW (os : Os) : World :=
 { World.holding Tryz.prog os ⟨#[], #[], []⟩ with heap := (World.holding Tryz.prog os ⟨#[], #[], []⟩).heap.modify 2 fun
   | .cells _ t frozen => .cells (PR.map fun z => Value.int .u32 z).toArray t frozen
   | o => o }
end
section
open Go.ChangeShapes Go.WideShapes Go.ChangeAt Go.RowKit
def UF : List Int := List.replicate 128 240 ++ List.replicate 66 241 ++ List.replicate 30 2 ++ [19] ++ List.replicate 12 3 ++ [35, 3, 3, 52, 4, 4, 4, 68] ++ List.replicate 11 241
def UA : List Int := [128, 191, 160, 191, 128, 159, 144, 191, 128, 143] ++ List.replicate 22 0
end
section
open Go.ChangeShapes Go.WideShapes Go.ChangeAt Go.RowKit
def FI : List Int := [1779033703, 3144134277, 1013904242, 2773480762, 1359893119, 2600822924, 528734635, 1541459225]
theorem g_first : Tryz.prog.globalNamed "undercroft/undercroftref02.first" = some 0 := by kernel_rfl
theorem g_firstType : (Tryz.prog.globals[0]?).map (·.type) = some 124 := by kernel_rfl
theorem g_rounds : Tryz.prog.globalNamed "undercroft/undercroftref02.rounds" = some 1 := by kernel_rfl
theorem g_roundsType : (Tryz.prog.globals[1]?).map (·.type) = some 130 := by kernel_rfl
theorem cells_tab8 : Tryz.prog.cellsOf 124 = 8 := by kernel_rfl
theorem keep_one {W : World} {l : List (String × DataW Unit)} (name : String) {d : DataW Unit} (h : laidMet Tryz.prog l W) (hl : l.filter (fun x => x.1 == name) = [(name, d)]) : laidMet Tryz.prog [(name, d)] W := by
 have h2 := h.filter (fun x => x.1 == name)
 rwa [hl] at h2
theorem vars_of_laid {W : World} (h : laidMetH Tryz.prog [("undercroft/sum.primes", Rows.laid_undercroft_sum_primes), ("undercroft/undercroftref02.first", Rows.laid_undercroft_undercroftref02_first), ("undercroft/undercroftref02.rounds", Rows.laid_undercroft_undercroftref02_rounds)] W) : Primes W ∧ Vars W := by
 have h2 : laidMet Tryz.prog [("undercroft/sum.primes", Lib.tabData .u32 PR), ("undercroft/undercroftref02.first", Lib.tabData .u32 FI), ("undercroft/undercroftref02.rounds", Lib.tabData .u32 PR)] W := h
 have hT : Lib.TabIs Tryz.prog W "undercroft/sum.primes" .u32 PR := Lib.tabIs_of_head g_primes g_primesType Tryz.underlying130 Tryz.underlying123 cells_u32 cells_tab h2
 have hF : Lib.TabIs Tryz.prog W "undercroft/undercroftref02.first" .u32 FI := Lib.tabIs_of_head (rest := []) g_first g_firstType Tryz.underlying124 Tryz.underlying123 cells_u32 cells_tab8 (keep_one _ h2 rfl)
 have hR : Lib.TabIs Tryz.prog W "undercroft/undercroftref02.rounds" .u32 PR := Lib.tabIs_of_head (rest := []) g_rounds g_roundsType Tryz.underlying130 Tryz.underlying123 cells_u32 cells_tab (keep_one _ h2 rfl)
 refine ⟨fun t ht => hT.cell g_primes t ht, ⟨fun t ht => hR.cell g_rounds t ht, fun t ht => ?_⟩⟩
 rw [hF.cell g_first t ht]
 have h8 : t = 0 ∨ t = 1 ∨ t = 2 ∨ t = 3 ∨ t = 4 ∨ t = 5 ∨ t = 6 ∨ t = 7 := by omega
 rcases h8 with rfl | rfl | rfl | rfl | rfl | rfl | rfl | rfl <;> rfl
noncomputable def laidW3 (os : Os) : World :=
 { laidW os with heap := ((laidW os).heap.modify 0 fun
   | .cells _ t frozen => .cells (FI.map fun z => Value.int .u32 z).toArray t frozen
   | o => o).modify 1 fun
   | .cells _ t frozen => .cells (PR.map fun z => Value.int .u32 z).toArray t frozen
   | o => o }
end
section
open Go.ChangeShapes Go.WideShapes Go.ChangeAt Go.RowKit
theorem vars_of_laid5 {W : World} (h : laidMetH Tryz.prog [("undercroft/sum.primes", Rows.laid_undercroft_sum_primes), ("undercroft/undercroftref02.first", Rows.laid_undercroft_undercroftref02_first), ("undercroft/undercroftref02.rounds", Rows.laid_undercroft_undercroftref02_rounds), ("unicode/utf8.acceptRanges", Rows.laid_unicode_utf8_acceptRanges), ("unicode/utf8.first", Rows.laid_unicode_utf8_first)] W) : Primes W ∧ Vars W := by
 have h2 := h.filter (fun x => x.1 != "unicode/utf8.acceptRanges" && x.1 != "unicode/utf8.first")
 exact vars_of_laid h2
noncomputable def laidW5 (os : Os) : World :=
 { laidW3 os with heap := ((laidW3 os).heap.modify 4 fun
   | .cells _ t frozen => .cells (UF.map fun z => Value.int .u8 z).toArray t frozen
   | o => o).modify 5 fun
   | .cells _ t frozen => .cells (UA.map fun z => Value.int .u8 z).toArray t frozen
   | o => o }
theorem laid_met5 (os : Os) (args : Array Value) : laidMet Tryz.prog [("undercroft/sum.primes", Rows.laid_undercroft_sum_primes), ("undercroft/undercroftref02.first", Rows.laid_undercroft_undercroftref02_first), ("undercroft/undercroftref02.rounds", Rows.laid_undercroft_undercroftref02_rounds), ("unicode/utf8.acceptRanges", Rows.laid_unicode_utf8_acceptRanges), ("unicode/utf8.first", Rows.laid_unicode_utf8_first)] ((laidW5 os).forCall (fun _ _ => 0) ⟨#[], args, []⟩).memory :=
 laidMet_of_run' 8 (by kernel_rfl) (by kernel_rfl)
end
section
open Go.RowKit Go.ChangeShapes Go.WideShapes Go.Deep
theorem list_eachR {α : Type} (z : α) (P : Nat → α → Prop) : ∀ n, (∀ i, i < n → ∃ a, P i a) → ∃ l : List α, l.length = n ∧ ∀ i, i < n → P i (l.getD i z)
 | 0, _ => ⟨[], rfl, fun i hi => by omega⟩
 | n + 1, h => by
  obtain ⟨l, hl, hp⟩ := list_eachR z P n (fun i hi => h i (by omega))
  obtain ⟨a, ha⟩ := h n (by omega)
  refine ⟨l ++ [a], by simp [hl], fun i hi => ?_⟩
  by_cases hin : i < n
  ·have := hp i hin
   rw [List.getD_eq_getElem?_getD, List.getElem?_append_left (by omega), ← List.getD_eq_getElem?_getD]
   exact this
  ·obtain rfl : i = n := by omega
   rw [List.getD_eq_getElem?_getD, List.getElem?_append_right (by omega), hl, Nat.sub_self]
   exact ha
end
section
open Go.RowKit Go.ChangeShapes Go.WideShapes Go.Deep
section
variable {H : Type} {enc : TypeId × Value → H} {W : World}
theorem keeps_cameX {fuel : Nat} {cs : List Value} {x : DataW H × List MemPlace} (h : DataW.trod enc Tryz.prog W 0 (fun _ => true) true fuel 23 cs = some x) (hw : ∀ n ∈ x.1.weights Tryz.prog 23, n ≤ reachBytes) :
  ∃ p len cap K, cs = [.slice p len cap] ∧ K.length = len ∧ RdI W p K ∧ len ≤ 9223372036854775807 ∧ len * 8 ≤ 140737488351232 ∧ (p = none → cap = 0) := by
 have ht1 : Tryz.prog.cellsOf 3 = 1 := by kernel_rfl
 rcases open_slice Tryz.underlying23 h with ⟨hcs, _⟩ | ⟨a, len, cap, m, n, D, Pl, rfl, hb, hl, hm, hmm, rfl, hx⟩
 ·exact ⟨none, 0, 0, [], hcs, rfl, Or.inl rfl, by omega, by omega, fun _ => rfl⟩
 ·simp only [if_true] at hmm
  subst hmm
  have hwl := hw _ (by simp only [DataW.weights, Tryz.underlying23, List.mem_cons]; exact Or.inl rfl)
  have hby : Tryz.prog.bytesOf 3 = 8 := by kernel_rfl
  rw [hby] at hwl
  simp only [List.length_map, List.length_range] at hwl
  have hwl2 : len * 8 ≤ 140737488351232 := by
   have h1 : len * 8 ≤ reachBytes := Nat.le_trans (Nat.mul_le_mul_right 8 (by omega)) hwl
   exact Nat.le_trans h1 (by unfold reachBytes; omega)
  have each : ∀ i, i < len → ∃ s, W.cell? (a.add i) = some (.int .i64 s) := by
   intro i hi
   obtain ⟨cs', h1, h2⟩ := hx i (by omega)
   rw [ht1, Nat.mul_one] at h1
   obtain ⟨_, hlen, hcell⟩ := World.cells?_some h1
   obtain ⟨s, e, _, _⟩ := DataW.trod_int Tryz.underlying3 h2
   subst e
   exact ⟨s, by have := hcell 0 (by omega); simpa [Addr.add] using this⟩
  obtain ⟨L, hLl, hLs⟩ := list_eachR (0 : Int) _ len each
  refine ⟨some a, len, _, L, rfl, hLl, ?_, by unfold maxLen at hm; omega, hwl2, (fun h => nomatch h)⟩
  by_cases h0 : len = 0
  ·subst h0
   rw [List.eq_nil_of_length_eq_zero hLl]
   exact Or.inl rfl
  ·have hs : a.spot = none := by
    have h1 := hLs 0 (by omega)
    exact spot_of_cell (by simpa [Addr.add] using h1)
   refine Or.inr ⟨a.block, a.off, by obtain ⟨g, o, sp⟩ := a; simp only at hs; subst hs; rfl, fun i u hu => ?_⟩
   have hi := (List.getElem?_eq_some_iff.1 hu).1
   rw [List.length_map, hLl] at hi
   have h1 := hLs i hi
   rw [add_of hs] at h1
   rw [h1]
   rw [List.getElem?_map, List.getElem?_eq_getElem (by omega)] at hu
   rw [List.getD_eq_getElem?_getD, List.getElem?_eq_getElem (by omega)]
   exact hu
theorem props_cameX {fuel : Nat} {cs : List Value} {x : DataW H × List MemPlace} (h : DataW.trod enc Tryz.prog W 0 (fun _ => true) true fuel 22 cs = some x) (hw : ∀ n ∈ x.1.weights Tryz.prog 22, n ≤ reachBytes) :
  ∃ p len cap P, cs = [.slice p len cap] ∧ P.length = len ∧ RdP W p P ∧ len ≤ 9223372036854775807 ∧ len * 32 ≤ 140737488351232 ∧ (p = none → cap = 0) ∧ PvOk P := by
 have ht2 : Tryz.prog.cellsOf 70 = 2 := by kernel_rfl
 have hs1 : Tryz.prog.cellsOf 9 = 1 := by kernel_rfl
 rcases open_slice Tryz.underlying22 h with ⟨hcs, _⟩ | ⟨a, len, cap, m, n, D, Pl, rfl, hb, hl, hm, hmm, rfl, hx⟩
 ·exact ⟨none, 0, 0, [], hcs, rfl, Or.inl rfl, by omega, by omega, fun _ => rfl, fun i hi => by simp at hi⟩
 ·simp only [if_true] at hmm
  subst hmm
  have hwl := hw _ (by simp only [DataW.weights, Tryz.underlying22, List.mem_cons]; exact Or.inl rfl)
  have hby : Tryz.prog.bytesOf 70 = 32 := by kernel_rfl
  rw [hby] at hwl
  simp only [List.length_map, List.length_range] at hwl
  have hwl2 : len * 32 ≤ 140737488351232 := by
   have h1 : len * 32 ≤ reachBytes := Nat.le_trans (Nat.mul_le_mul_right 32 (by omega)) hwl
   exact Nat.le_trans h1 (by unfold reachBytes; omega)
  have each : ∀ i, i < len → ∃ s : Pr, W.cell? (a.add (i * 2)) = some (.string s.1) ∧ W.cell? (a.add (i * 2 + 1)) = some (.string s.2) ∧ s.2.size ≤ 9223372036854775807 := by
   intro i hi
   obtain ⟨cs', h1, h2⟩ := hx i (by omega)
   rw [ht2] at h1
   obtain ⟨_, hlen, hcell⟩ := World.cells?_some h1
   have hwi : ∀ n ∈ (D i).weights Tryz.prog 70, n ≤ reachBytes := by
    intro n hn
    refine hw n ?_
    simp only [DataW.weights, Tryz.underlying22, List.mem_cons, List.mem_append]
    exact Or.inr (Or.inl (mem_all (List.mem_map.2 ⟨i, List.mem_range.2 hi, rfl⟩) hn))
   obtain ⟨xs, n2, _, hxe, _, hxl, hF⟩ := DataW.trod_struct Tryz.underlying70 h2
   match cs', hlen with
   | [c0, c1], _ =>
    have g0 := hF 0 _ rfl
    have g1 := hF 1 _ rfl
    match xs, hxl with
    | [x0, x1], _ =>
     simp [hs1] at g0 g1
     obtain ⟨s0, e0, _⟩ := DataW.trod_string Tryz.underlying9 g0
     obtain ⟨s1, e1, d1, _⟩ := DataW.trod_string Tryz.underlying9 g1
     have hs9 : s1.size ≤ reachBytes := hwi s1.size (by
      rw [(Prod.mk.inj hxe).1]
      simp only [DataW.weights, Tryz.underlying70]
      refine DataW.weights_mem_each (j := 1) (d := .lit (.string s1.data.toList)) rfl (by simp [d1]) _ ?_
      simp only [DataW.weights, List.mem_singleton]
      rfl)
     simp only [List.cons.injEq, and_true] at e0 e1
     subst e0 e1
     refine ⟨(s0, s1), ?_, ?_, by unfold reachBytes at hs9; show s1.size ≤ _; omega⟩
     ·have := hcell 0 (by simp); simpa [Addr.add] using this
     ·have := hcell 1 (by simp)
      rw [Addr.add_add] at this
      simpa using this
  obtain ⟨L, hLl, hLs⟩ := list_eachR ((⟨#[]⟩, ⟨#[]⟩) : Pr) _ len each
  refine ⟨some a, len, _, L, rfl, hLl, ?_, by unfold maxLen at hm; omega, hwl2, (fun h => nomatch h), fun i hi => by
   have h := (hLs i (by omega)).2.2
   unfold prA
   exact h⟩
  by_cases h0 : len = 0
  ·subst h0
   rw [List.eq_nil_of_length_eq_zero hLl]
   exact Or.inl rfl
  ·have hs : a.spot = none := by
    have h1 := (hLs 0 (by omega)).1
    exact spot_of_cell (by simpa [Addr.add] using h1)
   refine Or.inr ⟨a.block, a.off, by obtain ⟨g, o, sp⟩ := a; simp only at hs; subst hs; rfl, fun i u hu => ?_⟩
   have hi := (List.getElem?_eq_some_iff.1 hu).1
   rw [hLl] at hi
   obtain ⟨h1, h2, _⟩ := hLs i hi
   rw [add_of hs] at h1 h2
   rw [List.getD_eq_getElem?_getD, hu] at h1 h2
   exact ⟨h1, by rw [Nat.add_assoc]; exact h2⟩
theorem rec_cellsX {fuel : Nat} {cs : List Value} {x : DataW H × List MemPlace} (hf : DataW.trod enc Tryz.prog W 0 (fun _ => true) true fuel 26 cs = some x) (hsz : cs.length = 13) (hw : ∀ n ∈ x.1.weights Tryz.prog 26, n ≤ reachBytes) :
  ∃ y : Rk, cs = y.r.arr.toList ∧ RcOk W y.r y.P y.K y.D ∧ y.r.name.size ≤ 140737488355328 ∧ PvOk y.P ∧ y.r.pn * 32 ≤ 140737488351232 ∧ y.r.kn * 8 ≤ 140737488351232 ∧ y.r.dl ≤ 140737488351232 ∧ (y.r.pp = none → y.r.pc = 0) ∧ (y.r.kp = none → y.r.kc = 0) ∧ (y.r.dp = none → y.r.dc = 0) ∧ y.r.dl ≤ y.r.dc := by
 have hs1 : Tryz.prog.cellsOf 24 = 1 := by kernel_rfl
 have hs2 : Tryz.prog.cellsOf 22 = 1 := by kernel_rfl
 have hs3 : Tryz.prog.cellsOf 23 = 1 := by kernel_rfl
 have hi1 : Tryz.prog.cellsOf 3 = 1 := by kernel_rfl
 have ht1 : Tryz.prog.cellsOf 9 = 1 := by kernel_rfl
 obtain ⟨xs, n, _, hxe, _, hxl, hF⟩ := DataW.trod_struct Tryz.underlying26 hf
 match cs, hsz with
 | [c0, c1, c2, c3, c4, c5, c6, c7, c8, c9, c10, c11, c12], _ =>
  have g0 := hF 0 _ rfl
  have g1 := hF 1 _ rfl
  have g2 := hF 2 _ rfl
  have g3 := hF 3 _ rfl
  have g4 := hF 4 _ rfl
  have g5 := hF 5 _ rfl
  have g6 := hF 6 _ rfl
  have g7 := hF 7 _ rfl
  have g8 := hF 8 _ rfl
  have g9 := hF 9 _ rfl
  have g10 := hF 10 _ rfl
  have g11 := hF 11 _ rfl
  have g12 := hF 12 _ rfl
  match xs, hxl with
  | [x0, x1, x2, x3, x4, x5, x6, x7, x8, x9, x10, x11, x12], _ =>
   simp [hs1, hs2, hs3, hi1, ht1] at g0 g1 g2 g3 g4 g5 g6 g7 g8 g9 g10 g11 g12
   obtain ⟨z0, e0, _, _⟩ := DataW.trod_int Tryz.underlying3 g0
   obtain ⟨z2, e2, _, _⟩ := DataW.trod_int Tryz.underlying3 g2
   obtain ⟨z3, e3, _, _⟩ := DataW.trod_int Tryz.underlying3 g3
   obtain ⟨z4, e4, _, _⟩ := DataW.trod_int Tryz.underlying3 g4
   obtain ⟨z5, e5, _, _⟩ := DataW.trod_int Tryz.underlying3 g5
   obtain ⟨z8, e8, _, _⟩ := DataW.trod_int Tryz.underlying3 g8
   obtain ⟨z9, e9, _, _⟩ := DataW.trod_int Tryz.underlying3 g9
   obtain ⟨z10, e10, _, _⟩ := DataW.trod_int Tryz.underlying3 g10
   obtain ⟨z1, e1, d1, _⟩ := DataW.trod_string Tryz.underlying9 g1
   obtain ⟨z6, e6, _, _⟩ := DataW.trod_string Tryz.underlying9 g6
   obtain ⟨pp, pn, pc, P, e7, hP, hrp, hpn, hp32, hpz, hpv⟩ := props_cameX g7 (fun n hn => hw n (by rw [(Prod.mk.inj hxe).1]; simp only [DataW.weights, Tryz.underlying26]; exact DataW.weights_mem_each (j := 7) rfl (by rfl) n hn))
   obtain ⟨kp, kn, kc, K, e11, hK, hrk, hkn, hk8, hkz⟩ := keeps_cameX g11 (fun n hn => hw n (by rw [(Prod.mk.inj hxe).1]; simp only [DataW.weights, Tryz.underlying26]; exact DataW.weights_mem_each (j := 11) rfl (by rfl) n hn))
   obtain ⟨p, len, cap, e12, ns, hnl, hrd, hnb, hdz, hlc, hld⟩ := came_cells g12
   have hdl2 : len ≤ 140737488351232 := came_len g12 (fun n hn => hw n (by rw [(Prod.mk.inj hxe).1]; simp only [DataW.weights, Tryz.underlying26]; exact DataW.weights_mem_each (j := 12) rfl (by rfl) n hn)) p len cap e12
   have hnm : z1.size ≤ reachBytes := hw z1.size (by
    rw [(Prod.mk.inj hxe).1]
    simp only [DataW.weights, Tryz.underlying26]
    refine DataW.weights_mem_each (j := 1) (d := .lit (.string z1.data.toList)) rfl (by simp [d1]) _ ?_
    simp only [DataW.weights, List.mem_singleton]
    rfl)
   simp only [List.cons.injEq, and_true] at e0 e1 e2 e3 e4 e5 e6 e7 e8 e9 e10 e11 e12
   subst e0 e1 e2 e3 e4 e5 e6 e7 e8 e9 e10 e11 e12
   exact ⟨⟨⟨z0, z1, z2, z3, z4, z5, z6, pp, pn, pc, z8, z9, z10, kp, kn, kc, p, len, cap⟩, P, K, ns⟩, rfl, ⟨hrp, hP, hrk, hK, hrd, hnl, hnb, ⟨hpn, hkn⟩⟩, by unfold reachBytes at hnm; show z1.size ≤ _; omega, hpv, hp32, hk8, hdl2, hpz, hkz, (fun h => hdz (hrd.elim (fun h2 => h2) (fun ⟨_, _, he, _⟩ => by have h3 : p = none := h; rw [h3] at he; cases he)) h), hlc⟩
theorem recs_cameX {fuel : Nat} {cs : List Value} {x : DataW H × List MemPlace} (h : DataW.trod enc Tryz.prog W 0 (fun _ => true) true fuel 43 cs = some x) (hw : ∀ n ∈ x.1.weights Tryz.prog 43, n ≤ reachBytes) :
  ∃ p len cap L, cs = [.slice p len cap] ∧ L.length = len ∧ RdRk W p L ∧ len ≤ 9223372036854775807 ∧ (∀ (i : Nat) (x : Rk), L[i]? = some x → PvOk x.P) := by
 have h13 : Tryz.prog.cellsOf 26 = 13 := by kernel_rfl
 rcases open_slice Tryz.underlying43 h with ⟨hcs, _⟩ | ⟨a, len, cap, m, n, D, Pl, rfl, hb, hl, hm, hmm, rfl, hx⟩
 ·exact ⟨none, 0, 0, [], hcs, rfl, Or.inl rfl, by omega, fun i x hx => by simp at hx⟩
 ·simp only [if_true] at hmm
  subst hmm
  have each : ∀ i, i < len → ∃ y : Rk, (∀ j u, y.r.arr[j]? = some u → W.cell? ((a.add (i * 13)).add j) = some u) ∧ RcOk W y.r y.P y.K y.D ∧ y.r.name.size ≤ 140737488355328 ∧ PvOk y.P := by
   intro i hi
   obtain ⟨cs', h1, h2⟩ := hx i (by omega)
   rw [h13] at h1
   obtain ⟨_, hlen, hcell⟩ := World.cells?_some h1
   have hwi : ∀ n ∈ (D i).weights Tryz.prog 26, n ≤ reachBytes := by
    intro n hn
    refine hw n ?_
    simp only [DataW.weights, Tryz.underlying43, List.mem_cons, List.mem_append]
    exact Or.inr (Or.inl (mem_all (List.mem_map.2 ⟨i, List.mem_range.2 hi, rfl⟩) hn))
   obtain ⟨y, hy, hok, hn, hpv, _⟩ := rec_cellsX h2 hlen hwi
   refine ⟨y, fun j u hu => ?_, hok, hn, hpv⟩
   have hj : j < 13 := (Array.getElem?_eq_some_iff.1 hu).1
   rw [hcell j hj, hy]
   simpa using hu
  obtain ⟨L, hLl, hLs⟩ := list_eachR rk0 _ len each
  refine ⟨some a, len, _, L, rfl, hLl, ?_, by unfold maxLen at hm; omega, fun i x hx => by
   have hi := (List.getElem?_eq_some_iff.1 hx).1
   rw [hLl] at hi
   have h4 := (hLs i hi).2.2.2
   rw [List.getD_eq_getElem?_getD, hx] at h4
   exact h4⟩
  by_cases h0 : len = 0
  ·subst h0
   rw [List.eq_nil_of_length_eq_zero hLl]
   exact Or.inl rfl
  ·have hs : a.spot = none := by
    have h1 := (hLs 0 (by omega)).1 0 _ rfl
    exact spot_of_cell (by simpa [Addr.add] using h1)
   refine Or.inr ⟨a.block, a.off, by obtain ⟨g, o, sp⟩ := a; simp only at hs; subst hs; rfl, fun i u hu => ?_⟩
   have hi := (List.getElem?_eq_some_iff.1 hu).1
   rw [hLl] at hi
   obtain ⟨h1, h2, h3, _⟩ := hLs i hi
   rw [List.getD_eq_getElem?_getD, hu] at h1 h2 h3
   refine ⟨fun j v hv => ?_, h2, h3⟩
   have h4 := h1 j v hv
   rw [add_of hs, add_of rfl] at h4
   exact h4
end
end
section
open Go.ChangeShapes Go.WideShapes Go.ChangeAt Go.RowKit Go.Deep
section
variable {H : Type} {enc : TypeId × Value → H} {W : World}
theorem bulkR_pos : ∀ (d : DataW H), 1 ≤ Rows.uptoBulk d := by
 intro d
 cases d with
 | lit l => cases l <;> simp [Rows.uptoBulk]
 | nil => simp [Rows.uptoBulk]
 | ptr d => simp [Rows.uptoBulk]
 | slice a b => simp [Rows.uptoBulk]
 | agg a => simp [Rows.uptoBulk]
 | iface t d => simp [Rows.uptoBulk]
 | map e => simp [Rows.uptoBulk]
 | held h => simp [Rows.uptoBulk]
theorem bulkR_len : ∀ (l : List (DataW H)), l.length ≤ Rows.uptoBulkAll l := by
 intro l
 induction l with
 | nil => simp [Rows.uptoBulkAll]
 | cons d l ih => have := bulkR_pos d; simp only [Rows.uptoBulkAll, List.length_cons]; omega
theorem recs_cameU {fuel : Nat} {cs : List Value} {x : DataW H × List MemPlace} (h : DataW.trod enc Tryz.prog W 0 (fun _ => true) true fuel 43 cs = some x) (hw : ∀ n ∈ x.1.weights Tryz.prog 43, n ≤ reachBytes) (hk : Rows.uptoBulk x.1 ≤ 1048576) :
  ∃ p len cap L, cs = [.slice p len cap] ∧ L.length = len ∧ RdRk W p L ∧ len ≤ 1048576 ∧ (∀ (i : Nat) (x : Rk), L[i]? = some x → PvOk x.P) := by
 obtain ⟨p, len, cap, L, hcs, h1, h2, _, h4⟩ := recs_cameX h hw
 refine ⟨p, len, cap, L, hcs, h1, h2, ?_, h4⟩
 rcases open_slice Tryz.underlying43 h with ⟨hc, _⟩ | ⟨a, len', cap', m, n, D, Pl, hc, hb, hl, hm, hmm, rfl, hx⟩
 ·rw [hcs] at hc
  simp at hc
  omega
 ·rw [hcs] at hc
  simp only [if_true] at hmm
  subst hmm
  simp only [List.cons.injEq, Value.slice.injEq, and_true] at hc
  obtain ⟨_, rfl, _⟩ := hc
  have hl2 := bulkR_len ((List.range len).map D)
  rw [List.length_map, List.length_range] at hl2
  simp only [Rows.uptoBulk] at hk
  omega
end
end
end Go.Proofs.YtajfjkfnmmfhmaaGreatDoor
