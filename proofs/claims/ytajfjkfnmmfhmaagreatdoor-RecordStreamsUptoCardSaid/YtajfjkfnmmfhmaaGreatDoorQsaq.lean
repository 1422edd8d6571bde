/- Records: Records. -/
import Derived.Test.YtajfjkfnmmfhmaaGreatDoorQsak
import Derived.Test.YtajfjkfnmmfhmaaGreatDoorQsap
import Derived.Test.YtajfjkfnmmfhmaaGreatDoorQsao
namespace Go.Proofs.YtajfjkfnmmfhmaaGreatDoor
set_option maxRecDepth 100000
set_option maxHeartbeats 25600000
section
open Go.RowKit Go.Lib
def rsS (bs : List Int) : Nat → List Int × S4
 | 0 => (bs, S4.z)
 | t + 1 => ((rsS bs t).1.drop (37 + spM (rsS bs t).1).toNat, sealR (rsS bs t).2 (dcH (rsS bs t).1))
theorem rsS_Bd (bs : List Int) : ∀ t, (rsS bs t).2.Bd
 | 0 => S4.z_Bd
 | _ + 1 => shaD_Bd _
theorem rsS_bd {bs : List Int} (hb : ∀ z ∈ bs, 0 ≤ z ∧ z < 256) : ∀ t, ∀ z ∈ (rsS bs t).1, 0 ≤ z ∧ z < 256
 | 0 => hb
 | t + 1 => fun z hz => rsS_bd hb t z (List.mem_of_mem_drop hz)
theorem rsS_le (bs : List Int) : ∀ t, (rsS bs t).1.length ≤ bs.length
 | 0 => Nat.le_refl _
 | t + 1 => by have h := rsS_le bs t; show ((rsS bs t).1.drop _).length ≤ _; rw [List.length_drop]; omega
def rsOk (bs : List Int) (t : Nat) : Prop := ∀ j, j < t → (rsS bs j).1 ≠ [] ∧ dcE (rsS bs j).2 (rsS bs j).1 = 0
def rkOf (bs : List Int) (j : Nat) (x : Rk) : Prop := x.r.core = ((tvK (spK (rsS bs j).1) (dcB (rsS bs j).1)).rc (spK (rsS bs j).1)).core ∧ x.P = (tvK (spK (rsS bs j).1) (dcB (rsS bs j).1)).p ∧ x.K = (tvK (spK (rsS bs j).1) (dcB (rsS bs j).1)).k ∧ x.D = (tvK (spK (rsS bs j).1) (dcB (rsS bs j).1)).d
def rowsRk : List Rk → List Value
 | [] => []
 | x :: l => x.r.arr.toList ++ rowsRk l
theorem rowsRk_len : ∀ L : List Rk, (rowsRk L).length = L.length * 13
 | [] => rfl
 | x :: l => by rw [rowsRk, List.length_append, rowsRk_len l, List.length_cons]; simp only [Rc.arr, List.length_cons, List.length_nil]; omega
theorem rowsRk_app : ∀ (A B : List Rk), rowsRk (A ++ B) = rowsRk A ++ rowsRk B
 | [], _ => rfl
 | x :: l, B => by simp only [List.cons_append, rowsRk, rowsRk_app l B, List.append_assoc]
theorem rowsRk_at : ∀ (L : List Rk) (i : Nat) (x : Rk), L[i]? = some x → ∀ j u, x.r.arr[j]? = some u → (rowsRk L)[i * 13 + j]? = some u
 | [], i, x, h => by simp at h
 | y :: l, 0, x, h => fun j u hu => by
  simp at h; subst h
  have hj := (Array.getElem?_eq_some_iff.1 hu).1
  rw [rowsRk, Nat.zero_mul, Nat.zero_add, List.getElem?_append_left (by simpa using hj)]
  simpa using hu
 | y :: l, i + 1, x, h => fun j u hu => by
  have ih := rowsRk_at l i x (by simpa using h) j u hu
  rw [rowsRk, List.getElem?_append_right (by simp only [Rc.arr, List.length_cons, List.length_nil]; omega)]
  rw [show (i + 1) * 13 + j - y.r.arr.toList.length = i * 13 + j by simp only [Rc.arr, List.length_cons, List.length_nil]; omega]
  exact ih
def RkOk (w : World) (A : List Nat) (bs : List Int) (L : List Rk) : Prop := ∀ j x, L[j]? = some x → RcOk w x.r x.P x.K x.D ∧ RcA A x.r x.P x.K x.D ∧ x.r.name.size ≤ 140737488355328 ∧ rkOf bs j x
theorem RkOk.keeps {w w' : World} {A : List Nat} {bs : List Int} {L : List Rk} (h : RkOk w A bs L) (hk : Keeps A w w') : RkOk w' A bs L := fun j x hx => by
 obtain ⟨h1, h2, h3, h4⟩ := h j x hx
 exact ⟨h1.keeps h2 hk, h2, h3, h4⟩
theorem RkOk.snoc {w : World} {A B : List Nat} {bs : List Int} {L : List Rk} {y : Rk} (h : RkOk w A bs L) (h1 : RcOk w y.r y.P y.K y.D) (h2 : RcA B y.r y.P y.K y.D) (h3 : y.r.name.size ≤ 140737488355328) (h4 : rkOf bs L.length y) : RkOk w (A ++ B) bs (L ++ [y]) := fun j x hx => by
 by_cases hj : j < L.length
 ·rw [List.getElem?_append_left hj] at hx
  obtain ⟨k1, k2, k3, k4⟩ := h j x hx
  exact ⟨k1, k2.more (fun k hk => List.mem_append_left _ hk), k3, k4⟩
 ·rw [List.getElem?_append_right (by omega)] at hx
  have hj2 : j - L.length = 0 := by
   rcases Nat.eq_zero_or_pos (j - L.length) with h0 | h0
   ·exact h0
   ·rw [List.getElem?_eq_none (by simp; omega)] at hx; cases hx
  rw [hj2] at hx
  simp at hx
  subst hx
  obtain rfl : j = L.length := by omega
  exact ⟨h1, h2.more (fun k hk => List.mem_append_right _ hk), h3, h4⟩
def RcsP (w : World) (bs : List Int) (e : Ending) (w' : World) : Prop := Frm [] w w' ∧ ((1048576 < bs.length ∧ e = .returned (.tuple #[.slice none 0 0, .int .i64 2])) ∨ (bs.length ≤ 1048576 ∧ ∃ t, rsOk bs t ∧ (((rsS bs t).1 ≠ [] ∧ dcE (rsS bs t).2 (rsS bs t).1 ≠ 0 ∧ e = .returned (.tuple #[.slice none 0 0, .int .i64 (dcE (rsS bs t).2 (rsS bs t).1)])) ∨
 ((rsS bs t).1 = [] ∧ ∃ p c L, e = .returned (.tuple #[.slice p t c, .int .i64 0]) ∧ L.length = t ∧ t ≤ 1048576 ∧ RdRk w' p L ∧ ∀ j, j < t → rkOf bs j (rkA L j)))))
theorem rd_part {w : World} {q : Option Addr} {zs : List Int} {m d lo : Nat} (h : Rd w q zs) (hm : zs.length = m) (hl : lo ≤ m) (hd : m ≤ d) : Rd w (partAt q d lo 1) (zs.drop lo) := by
 by_cases h0 : zs.drop lo = []
 ·exact Or.inl h0
 have hlt : lo < m := by
  rcases Nat.lt_or_ge lo m with h1 | h1
  ·exact h1
  ·exact absurd (List.drop_of_length_le (by omega)) h0
 rcases h with h1 | ⟨g, o, rfl, hc⟩
 ·rw [h1] at h0; simp at h0
 ·rw [part1R g o d lo (by omega)]
  exact Rd.drop (Or.inr ⟨g, o, rfl, hc⟩) lo
theorem blk_part {q : Option Addr} {d lo k : Nat} (h : k ∈ blk (partAt q d lo 1)) : k ∈ blk q := by
 unfold partAt at h
 split at h
 ·exact h
 ·cases q with
  | none => exact h
  | some a =>
   obtain ⟨g, o, sp⟩ := a
   simp only [Option.map_some, blk, List.mem_singleton] at h ⊢
   rw [h]
   unfold Addr.add
   split <;> rfl
theorem RcOwn.foot {w : World} {r : Rc} {P : List Pr} {K D : List Int} {lo : Nat} (h : RcOwn w r P K D lo) : ∃ B, RcA B r P K D ∧ ∀ k ∈ B, lo ≤ k ∧ k < w.heap.size := by
 refine ⟨blk r.pp ++ blk r.kp ++ blk r.dp, ⟨fun _ k hk => by simp [hk], fun _ k hk => by simp [hk], fun _ k hk => by simp [hk]⟩, fun k hk => ?_⟩
 rcases List.mem_append.1 hk with hk | hk
 ·rcases List.mem_append.1 hk with hk | hk
  ·exact ⟨h.pw k hk, ownsRow_low h.po k hk⟩
  ·exact ⟨h.kw k hk, ownsRow_low h.ko k hk⟩
 ·have e : ∀ dp : Option Addr, k ∈ blk dp → (Value.slice dp r.dl r.dc).ownBlock = some k := fun dp h => by cases dp <;> simp_all [blk, Value.ownBlock]
  exact ⟨h.dw k hk, (World.ownsRow.lt h.ow k (e _ hk)).2⟩
theorem infoRcR : (Tryz.prog.info? 26).map (fun i => (i.zero, i.size, i.bytes)) = some (some (.agg #[.int .i64 0, .string ⟨#[]⟩, .int .i64 0, .int .i64 0, .int .i64 0, .int .i64 0, .string ⟨#[]⟩, .slice none 0 0, .int .i64 0, .int .i64 0, .int .i64 0, .slice none 0 0, .slice none 0 0]), 13, 168) := by kernel_rfl
theorem rsS_many {bs : List Int} (hb : ∀ z ∈ bs, 0 ≤ z ∧ z < 256) : ∀ t, rsOk bs t → (rsS bs t).1.length + t ≤ bs.length
 | 0, _ => by show bs.length + 0 ≤ _; omega
 | t + 1, h => by
  have ih := rsS_many hb t (fun j hj => h j (by omega))
  have h1 := (h t (by omega)).1
  have h2 := spM_bd (rsS_bd hb t)
  have h3 : 0 < (rsS bs t).1.length := List.length_pos_iff.2 h1
  show ((rsS bs t).1.drop _).length + (t + 1) ≤ _
  rw [List.length_drop]
  omega
theorem dcE_len {a : S4} {bs : List Int} (h : dcE a bs = 0) : 37 + spM bs ≤ (bs.length : Int) ∧ spM bs ≤ 2048 := by
 have hE : spE bs = 0 := by
  unfold dcE at h
  split at h
  ·rename_i h1; exact absurd h h1
  ·rename_i h1; simpa using h1
 unfold spE at hE
 split at hE
 ·omega
 ·split at hE
  ·omega
  ·split at hE
   ·omega
   ·omega
theorem records_any (p : Option Addr) (n c : Nat) (bs : List Int) (w : World) (hn : bs.length = n) (hnc : n ≤ c) (hnb : n ≤ 140737488355328) (hrd : Rd w p bs) (hb : ∀ z ∈ bs, 0 ≤ z ∧ z < 256) (hpr : Primes w) :
  Calls Tryz.prog 19 #[.slice p n c] w (RcsP w bs) := by
 obtain ⟨PO, hPO⟩ : ∃ PO : Ending → World → Prop, RcsP w bs = PO := ⟨_, rfl⟩
 rw [hPO]
 have HP := hid (show ∀ e w', RcsP w bs e w' → PO e w' from fun e w' h => by rw [← hPO]; exact h)
 have HB := hid hb
 have HPR := hid hpr
 have HRD := hid hrd
 have HLN := hid hn
 have hrow := heap_alloc_new w (.cells #[.int .u64 0, .int .u64 0, .int .u64 0, .int .u64 0] 29)
 have hfs : Frm [] w (w.alloc (.cells #[.int .u64 0, .int .u64 0, .int .u64 0, .int .u64 0] 29)) := (Frm.refl _ _).alloc _
 obtain ⟨ws, hws⟩ := eX (w.alloc (.cells #[.int .u64 0, .int .u64 0, .int .u64 0, .int .u64 0] 29))
 obtain ⟨xs, hbs⟩ := eX (w.heap.size)
 rw [hws, hbs] at hrow
 rw [hws] at hfs
 have HFS := hid hfs
 have HROW := hid hrow
 have HWS := hid hws
 have HBS := hid hbs
 clear hPO hn hrd hb hpr hrow hfs hws hbs
 go_enter Tryz.func19, Tryz.ntmps19
 by_cases hlong : 1048576 < n
 case pos =>
  have i1 : (1048576 : Int) < (n : Int) := by omega
  have HX := hid (HP.out _ _ ⟨Frm.refl _ _, Or.inl ⟨by rw [HLN.out]; exact hlong, rfl⟩⟩)
  clear hlong
  go_wp2_with fail
  try go_returns
  exact HX.out
 have i1 : ¬ (1048576 : Int) < (n : Int) := by omega
 have HN2 : Hid (bs.length ≤ 1048576) := hid (by rw [HLN.out]; omega)
 have hn3 : n ≤ 1048576 := by omega
 clear hlong
 go_upto_region 5 with fail
 try rw [HWS.out]
 try rw [HBS.out]
 go_loopw [0, 4] (fun bv0 lv wr => ∃ (t m d lc : Nat) (q lp : Option Addr) (L : List Rk) (A : List Nat), m ≤ n ∧ m ≤ d ∧ t ≤ 1048576 ∧ bv0 = .slice q m d ∧ lv = .slice lp t lc ∧ Hid (rsOk bs t) ∧ Hid ((rsS bs t).1.length = m) ∧ Hid (Rd wr q (rsS bs t).1) ∧ Hid (∀ k ∈ blk q, k < w.heap.size ∨ (rsS bs t).1 = []) ∧ Hid (wr.heap[xs]? = some (.cells (rsS bs t).2.arr 29 (0, 0))) ∧ Hid (L.length = t) ∧ Hid (wr.ownsRow 0 26 13 (.slice lp t lc) t (rowsRk L)) ∧ Hid (∀ k ∈ blk lp, xs < k) ∧ Hid (RkOk wr A bs L) ∧ Hid (∀ k ∈ A, k < wr.heap.size ∧ xs < k ∧ k ∉ blk lp) ∧ Hid (Frm [] w wr)) (fun bv0 _ _ => match bv0 with | .slice _ m _ => m | _ => 0)
 case atStart => exact ⟨0, n, c, 0, p, none, [], [], Nat.le_refl _, hnc, by omega, rfl, rfl, hid (fun j hj => by omega), HLN, hid (HRD.out.kept HFS.out (by simp)), hid (fun k hk => by
  rcases HRD.out with h | ⟨g, o, he, hc⟩
  ·exact Or.inr h
  ·by_cases h0 : bs = []
   ·exact Or.inr h0
   ·rw [he] at hk; simp [blk] at hk; subst hk
    exact Or.inl (World.block_lt_of_cell? w _ (hc 0 (List.length_pos_iff.2 h0)))), hid HROW.out, hid rfl, hid (World.ownsRow_nil _ _ _ _), hid (by simp [blk]), hid (fun j x h => by simp at h), hid (by simp), HFS⟩
 case round =>
  obtain ⟨t, m, d, lc, q, lp, L, A, hmn, hmd, htl, rfl, rfl, hok, hlen, hrd, hqb, hsr, hll, how, hnw, hrk, hab, hf⟩ := hrel
  have HOK := hid hok.out
  have HLEN := hid hlen.out
  have HRQ := hid hrd.out
  have HQB := hid hqb.out
  have HSR := hid hsr.out
  have HLL := hid hll.out
  have HOW := hid how.out
  have HNW := hid hnw.out
  have HRK := hid hrk.out
  have HAB := hid hab.out
  have HF := hid hf.out
  clear hok hlen hrd hqb hsr hll how hnw hrk hab hf
  by_cases hz : 0 < m
  case neg =>
   obtain rfl : m = 0 := by omega
   have HX := hid (HP.out (.returned (.tuple #[.slice lp t lc, .int .i64 0])) wr ⟨HF.out, Or.inr ⟨HN2.out, t, HOK.out, Or.inr ⟨List.eq_nil_of_length_eq_zero HLEN.out, lp, lc, L, rfl, HLL.out, htl, (by
    rcases rv_of1 HOW.out (by rw [rowsRk_len, HLL.out]) with h | ⟨g, o, he, hc⟩
    ·refine Or.inl ?_
     have h2 := rowsRk_len L
     rw [h] at h2
     exact List.eq_nil_of_length_eq_zero (by simp at h2; omega)
    ·refine Or.inr ⟨g, o, he, fun i x hx => ?_⟩
     obtain ⟨k1, _, k3, _⟩ := HRK.out i x hx
     exact ⟨fun j u hu => by rw [Nat.add_assoc]; exact hc _ _ (rowsRk_at L i x hx j u hu), k1, k3⟩), fun j hj => (HRK.out j _ (rkA_get (by rw [HLL.out]; exact hj))).2.2.2⟩⟩⟩)
   clear hz
   go_wp2_with fail
   try go_returns
   exact HX.out
  have i2 : (0 : Int) < (m : Int) := by omega
  have HNE : Hid ((rsS bs t).1 ≠ []) := hid (fun h => by have := HLEN.out; rw [h] at this; simp at this; omega)
  have hbd := rsS_Bd bs t
  have hzb := rsS_bd HB.out t
  have HDC := hid (fun W (hf : Frm [] wr W) => decodeR_any q m d (rsS bs t).1 (rsS bs t).2 hbd W HLEN.out hmd (by omega) (HRQ.out.kept hf (by simp)) hzb ((HPR.out.kept HF.out).kept hf))
  have HNX : Hid (rsS bs (t + 1) = ((rsS bs t).1.drop (37 + spM (rsS bs t).1).toNat, sealR (rsS bs t).2 (dcH (rsS bs t).1))) := hid rfl
  have HKO : Hid (∀ x : Rk, x.r.core = ((tvK (spK (rsS bs t).1) (dcB (rsS bs t).1)).rc (spK (rsS bs t).1)).core → x.P = (tvK (spK (rsS bs t).1) (dcB (rsS bs t).1)).p → x.K = (tvK (spK (rsS bs t).1) (dcB (rsS bs t).1)).k → x.D = (tvK (spK (rsS bs t).1) (dcB (rsS bs t).1)).d → rkOf bs t x) := hid (fun x h1 h2 h3 h4 => ⟨h1, h2, h3, h4⟩)
  have HOT : Hid (dcE (rsS bs t).2 (rsS bs t).1 = 0 → rsOk bs (t + 1)) := hid (fun h j hj => by
   by_cases hj2 : j < t
   ·exact HOK.out j hj2
   ·obtain rfl : j = t := by omega
    exact ⟨HNE.out, h⟩)
  have HMN : Hid (rsOk bs (t + 1) → t + 1 ≤ 1048576) := hid (fun h => by have h1 := rsS_many HB.out (t + 1) h; have h2 := HN2.out; omega)
  have HEX : Hid (∀ W, dcE (rsS bs t).2 (rsS bs t).1 ≠ 0 → Frm [] w W → PO (.returned (.tuple #[.slice none 0 0, .int .i64 (dcE (rsS bs t).2 (rsS bs t).1)])) W) := hid (fun W h1 h2 => HP.out _ _ ⟨h2, Or.inr ⟨HN2.out, t, HOK.out, Or.inl ⟨HNE.out, h1, rfl⟩⟩⟩)
  have hnml := tvK_name (spK (rsS bs t).1) (dcB (rsS bs t).1)
  have hbl : (dcB (rsS bs t).1).length ≤ 1048576 := by unfold dcB; rw [List.length_drop, List.length_take]; have := rsS_le bs t; have := HN2.out; omega
  obtain ⟨RB, hRB⟩ := eX ((rsS bs t).1)
  obtain ⟨SS, hSS⟩ := eX ((rsS bs t).2)
  rw [hRB] at HLEN HRQ HQB HNE HDC HNX HKO HOT HEX hzb hnml hbl
  rw [hSS] at HSR HDC HNX HOT HEX hbd
  obtain ⟨SX, hSX⟩ := eX (SS)
  have HDX : Hid (∀ W (hf : Frm [] wr W), Calls Tryz.prog 22 #[.slice q m d, .agg SS.arr] W (DecP W SX RB)) := hid (fun W hf => by rw [← hSX]; exact HDC.out W hf)
  rw [hSX] at HNX HOT HEX
  clear hRB hSS hSX HDC
  obtain ⟨s0, s1, s2, s3⟩ := SS
  unfold S4.arr at HDX HSR
  simp only at HDX HSR
  have p0 := cR 0 (.int .u64 s0) HSR.out
  have p1 := cR 1 (.int .u64 s1) HSR.out
  have p2 := cR 2 (.int .u64 s2) HSR.out
  have p3 := cR 3 (.int .u64 s3) HSR.out
  go_wp2_with fail
  refine (HDX.out wr (Frm.refl _ _)).mono ?_
  rintro e w2 hd
  by_cases hde : dcE SX RB = 0
  case neg =>
   obtain ⟨hf2, rfl⟩ := DecP.bad hd rfl hde
   have hbE : (dcE SX RB != 0) = true := by rw [bne_iff_ne]; exact hde
   have HX := hid (fun W (hf : Frm [] w W) => HEX.out W hde hf)
   have HF2 : Hid (Frm [] w w2) := hid (HF.out.trans hf2 (by simp))
   obtain ⟨E, hE⟩ := eX (dcE SX RB)
   rw [hE] at hbE HX ⊢
   unfold Rc.z Rc.arr S4.z S4.arr
   simp only
   clear hd hf2 hde hE HDX p0 p1 p2 p3
   go_wp2_with fail
   try go_returns
   exact HX.out _ ((HF2.out.alloc _).alloc _)
  obtain ⟨hf2, r, rfl, hcr, hown⟩ := DecP.good hd hde
  have hlen2 := dcE_len hde
  have hsp0 := spM_bd hzb
  have HOT2 := hid (HOT.out hde)
  have htl2 := HMN.out HOT2.out
  obtain ⟨dM, hdM⟩ := eX ((37 + spM RB).toNat)
  have h37 : 37 + spM RB = (dM : Int) := by omega
  rw [hdM] at HNX
  rw [h37] at hlen2 ⊢
  have hdm : dM ≤ m ∧ 37 ≤ dM := by have := HLEN.out; omega
  obtain ⟨S, hS⟩ := eX (sealR SX (dcH RB))
  rw [hS] at HNX ⊢
  have hns : r.name.size ≤ 140737488355328 := by
   have h0 : r.core.name = (tvK (spK RB) (dcB RB)).c.name := by rw [hcr]; rfl
   have h1 : r.name = (tvK (spK RB) (dcB RB)).c.name := h0
   rw [h1]; omega
  have HNEW : Hid (rkOf bs t ⟨r, (tvK (spK RB) (dcB RB)).p, (tvK (spK RB) (dcB RB)).k, (tvK (spK RB) (dcB RB)).d⟩) := hid (HKO.out _ hcr rfl rfl rfl)
  obtain ⟨VP, hVP⟩ := eX ((tvK (spK RB) (dcB RB)).p)
  obtain ⟨VK, hVK⟩ := eX ((tvK (spK RB) (dcB RB)).k)
  obtain ⟨VD, hVD⟩ := eX ((tvK (spK RB) (dcB RB)).d)
  rw [hVP, hVK, hVD] at hown HNEW
  have HOWN := hid hown
  have HF2 := hid hf2
  have HNS := hid hns
  clear hd hf2 hcr hown hns hlen2 hsp0 hde hdM hS hVP hVK hVD HDX HOT HEX HKO hnml hbl hzb hbd p0 p1 p2 p3 HMN
  obtain ⟨R, hR⟩ := eX (r)
  have HRA : Hid (r.arr = R.arr) := hid (by rw [hR])
  rw [hR] at HNEW HOWN HNS
  clear hR
  obtain ⟨kind, name, typ, frm, guid, origin, snap, pp, pn, pc, obj, at_, many, kp, kn, kc, dp, dl, dc⟩ := r
  obtain ⟨t0, t1, t2, t3⟩ := S
  have HRA2 : Hid (R.arr.toList = [.int .i64 kind, .string name, .int .i64 typ, .int .i64 frm, .int .i64 guid, .int .i64 origin, .string snap, .slice pp pn pc, .int .i64 obj, .int .i64 at_, .int .i64 many, .slice kp kn kc, .slice dp dl dc]) := hid (by rw [← HRA.out]; rfl)
  clear HRA
  unfold Rc.arr
  unfold S4.arr
  simp only
  have hq6 := heap_alloc_new w2 (.cells #[.int .i64 kind, .string name, .int .i64 typ, .int .i64 frm, .int .i64 guid, .int .i64 origin, .string snap, .slice pp pn pc, .int .i64 obj, .int .i64 at_, .int .i64 many, .slice kp kn kc, .slice dp dl dc] 26)
  have hf6 : Frm [] w2 (w2.alloc (.cells #[.int .i64 kind, .string name, .int .i64 typ, .int .i64 frm, .int .i64 guid, .int .i64 origin, .string snap, .slice pp pn pc, .int .i64 obj, .int .i64 at_, .int .i64 many, .slice kp kn kc, .slice dp dl dc] 26)) := (Frm.refl _ _).alloc _
  obtain ⟨w6, hw6⟩ := eX (w2.alloc (.cells #[.int .i64 kind, .string name, .int .i64 typ, .int .i64 frm, .int .i64 guid, .int .i64 origin, .string snap, .slice pp pn pc, .int .i64 obj, .int .i64 at_, .int .i64 many, .slice kp kn kc, .slice dp dl dc] 26))
  obtain ⟨bx, hbx⟩ := eX (w2.heap.size)
  have hb1 : w6.heap.size = bx + 1 := by rw [← hw6, ← hbx]; simp
  rw [hw6, hbx] at hq6
  rw [hw6] at hf6
  have hq7 := heap_alloc_new w6 (.cells #[.int .u64 t0, .int .u64 t1, .int .u64 t2, .int .u64 t3] 29)
  have hf7 : Frm [] w6 (w6.alloc (.cells #[.int .u64 t0, .int .u64 t1, .int .u64 t2, .int .u64 t3] 29)) := (Frm.refl _ _).alloc _
  obtain ⟨w7, hw7⟩ := eX (w6.alloc (.cells #[.int .u64 t0, .int .u64 t1, .int .u64 t2, .int .u64 t3] 29))
  rw [hw7, hb1] at hq7
  rw [hw7] at hf7
  have HF7 : Hid (Frm [] w2 w7) := hid (hf6.trans hf7 (by simp))
  have HQ6 : Hid (w7.heap[bx]? = some (.cells #[.int .i64 kind, .string name, .int .i64 typ, .int .i64 frm, .int .i64 guid, .int .i64 origin, .string snap, .slice pp pn pc, .int .i64 obj, .int .i64 at_, .int .i64 many, .slice kp kn kc, .slice dp dl dc] 26 (0, 0))) := hid (hf7.heap hq6 (by simp))
  have HQ7 : Hid (w7.heap[bx + 1]? = some (.cells #[.int .u64 t0, .int .u64 t1, .int .u64 t2, .int .u64 t3] 29 (0, 0))) := hid hq7
  have HW6 := hid hw6
  have HW7 := hid hw7
  have HBX := hid hbx
  have HFA : Hid (Frm [] wr w7) := hid (HF2.out.trans HF7.out (by simp))
  have hown7 := ownsRow_kept HOW.out HFA.out (by simp)
  have HA := hid ((Frm.refl [] w7).alloc (.cells #[.int .i64 kind, .string name, .int .i64 typ, .int .i64 frm, .int .i64 guid, .int .i64 origin, .string snap, .slice pp pn pc, .int .i64 obj, .int .i64 at_, .int .i64 many, .slice kp kn kc, .slice dp dl dc] 26))
  have HRV := hid (rv_block (heap_alloc_new w7 (.cells #[.int .i64 kind, .string name, .int .i64 typ, .int .i64 frm, .int .i64 guid, .int .i64 origin, .string snap, .slice pp pn pc, .int .i64 obj, .int .i64 at_, .int .i64 many, .slice kp kn kc, .slice dp dl dc] 26)))
  have HOW2 := hid (ownsRow_kept hown7 HA.out (by simp))
  have HXS : Hid (xs < wr.heap.size) := hid (lt_of_heap HSR.out)
  have z0 := cR 0 (.int .i64 kind) HQ6.out
  have z1 := cR 1 (.string name) HQ6.out
  have z2 := cR 2 (.int .i64 typ) HQ6.out
  have z3 := cR 3 (.int .i64 frm) HQ6.out
  have z4 := cR 4 (.int .i64 guid) HQ6.out
  have z5 := cR 5 (.int .i64 origin) HQ6.out
  have z6 := cR 6 (.string snap) HQ6.out
  have z7 := cR 7 (.slice pp pn pc) HQ6.out
  have z8 := cR 8 (.int .i64 obj) HQ6.out
  have z9 := cR 9 (.int .i64 at_) HQ6.out
  have z10 := cR 10 (.int .i64 many) HQ6.out
  have z11 := cR 11 (.slice kp kn kc) HQ6.out
  have z12 := cR 12 (.slice dp dl dc) HQ6.out
  clear hq6 hf6 hq7 hf7 hw6 hw7 hbx hb1 hown7
  go_upto_region 9 with fail
  try rw [HBX.out]
  try rw [HW6.out]
  try rw [HW7.out]
  go_wp2_with (at_builtin; refine wpList_appV rfl _ _ 43 rfl 26 13 168 _ Tryz.underlying43 infoRcR rfl (by decide) lp t lc (rowsRk L) rfl HOW2.out (some ⟨w7.heap.size, 0, none⟩) 1 1 [.int .i64 kind, .string name, .int .i64 typ, .int .i64 frm, .int .i64 guid, .int .i64 origin, .string snap, .slice pp pn pc, .int .i64 obj, .int .i64 at_, .int .i64 many, .slice kp kn kc, .slice dp dl dc] rfl rfl (by simp) HRV.out (by intro u hu; simp at hu; rcases hu with rfl | rfl | rfl | rfl | rfl | rfl | rfl | rfl | rfl | rfl | rfl | rfl | rfl <;> rfl) (by unfold maxLen; omega) (by omega) ?_)
  intro p8 c8 w8 ho8 hf8 hb8
  have hfa8 : Frm (blk lp) w7 w8 := (HA.out.mono (by simp)).trans hf8.out (fun i hi _ => hi)
  have HQ8 : Hid (w8.heap[bx + 1]? = some (.cells #[.int .u64 t0, .int .u64 t1, .int .u64 t2, .int .u64 t3] 29 (0, 0))) := hid (hfa8.heap HQ7.out (fun hm => by have h1 := ownsRow_low HOW.out _ hm; have h2 := HBX.out; have h3 := HF2.out.size; omega))
  have HS8 := hid (hfa8.heap (HFA.out.heap HSR.out (by simp)) (fun hm => by have := HNW.out xs hm; omega))
  have HF8 : Hid (Frm [] w w8) := hid ((HF.out.trans HFA.out (by simp)).trans hfa8 (fun i hi hl => by have := HNW.out i hi; have := HBS.out; omega))
  have e1 : (w7.alloc (.cells #[.int .i64 kind, .string name, .int .i64 typ, .int .i64 frm, .int .i64 guid, .int .i64 origin, .string snap, .slice pp pn pc, .int .i64 obj, .int .i64 at_, .int .i64 many, .slice kp kn kc, .slice dp dl dc] 26)).heap.size = w7.heap.size + 1 := by simp
  have HNW8 : Hid (∀ k ∈ blk p8, xs < k) := hid (fun k hk => by
   rcases hb8.out k hk with h | h
   ·exact HNW.out k h
   ·have h2 := HXS.out; have h3 := HFA.out.size; omega)
  obtain ⟨B, hB1, hB2⟩ := HOWN.out.foot
  have hlpl := ownsRow_low HOW.out
  have HKA : Hid (Keeps A wr w8) := hid (fun k hk => by
   obtain ⟨k1, k2, k3⟩ := HAB.out k hk
   exact (hfa8.block k (Nat.lt_of_lt_of_le k1 HFA.out.size) k3).trans (HFA.out.block k k1 (by simp)))
  have HKB : Hid (Keeps B w2 w8) := hid (fun k hk => by
   obtain ⟨k1, k2⟩ := hB2 k hk
   exact (hfa8.block k (Nat.lt_of_lt_of_le k2 HF7.out.size) (fun hm => by have := hlpl k hm; omega)).trans (HF7.out.block k k2 (by simp)))
  have HRK8 : Hid (RkOk w8 (A ++ B) bs (L ++ [⟨R, VP, VK, VD⟩])) := hid ((HRK.out.keeps HKA.out).snoc (HOWN.out.ok.keeps hB1 HKB.out) hB1 HNS.out (by rw [HLL.out]; exact HNEW.out))
  have HAB8 : Hid (∀ k ∈ A ++ B, k < w8.heap.size ∧ xs < k ∧ k ∉ blk p8) := hid (fun k hk => by
   have s1 := hfa8.size
   have s2 := HF7.out.size
   have s3 := HF2.out.size
   have s4 := HXS.out
   rcases List.mem_append.1 hk with hk | hk
   ·obtain ⟨k1, k2, k3⟩ := HAB.out k hk
    exact ⟨by omega, k2, fun hm => by
     rcases hb8.out k hm with h | h
     ·exact k3 h
     ·omega⟩
   ·obtain ⟨k1, k2⟩ := hB2 k hk
    exact ⟨by omega, by omega, fun hm => by
     rcases hb8.out k hm with h | h
     ·have := hlpl k h; omega
     ·omega⟩)
  have HO8 : Hid (w8.ownsRow 0 26 13 (.slice p8 (t + 1) c8) (t + 1) (rowsRk (L ++ [⟨R, VP, VK, VD⟩]))) := hid (by
   rw [rowsRk_app, rowsRk, rowsRk, List.append_nil]
   show w8.ownsRow 0 26 13 (.slice p8 (t + 1) c8) (t + 1) (rowsRk L ++ R.arr.toList)
   rw [HRA2.out]
   exact ho8.out)
  have HLL8 : Hid ((L ++ [(⟨R, VP, VK, VD⟩ : Rk)]).length = t + 1) := hid (by rw [List.length_append, HLL.out]; rfl)
  have hsl : ∀ W, (Instr.slice 24 (.slice q m d) (some (.int .i64 (dM : Int))) none none).run Tryz.prog W = .ok (.slice (partAt q d dM 1) (m - dM) (d - dM)) W := fun W => sl_l (P := Tryz.prog) (sz := 1) Tryz.underlying24 infoU8R q m d dM hdm.1 W
  have HQ2 : Hid (∀ k ∈ blk q, k < w.heap.size) := hid (fun k hk => by
   rcases HQB.out k hk with h | h
   ·exact h
   ·exact absurd h HNE.out)
  have hrq8 := (HRQ.out.kept HFA.out (by simp)).kept hfa8 (fun k hk hm => by have h1 := HQ2.out k hk; have h2 := HNW.out k hm; have h3 := HBS.out; omega)
  have HRQ8 := hid hrq8
  have HZ8 : Hid (xs < w8.heap.size ∧ bx + 1 ≠ xs) := hid ⟨lt_of_heap HS8.out, by have h1 := HBX.out; have h2 := HF2.out.size; have h3 := HXS.out; omega⟩
  clear ho8 hf8 hb8 hfa8 e1 hB1 hB2 hlpl hrq8 HA HRV HOW2 HQ6 HQ7 HRA2 HOWN z0 z1 z2 z3 z4 z5 z6 z7 z8 z9 z10 z11 z12
  go_upto_region 10 with fail
  obtain ⟨wd, hwd⟩ := eX (w8.drew)
  have hFD : Frm [] w8 wd := by rw [← hwd]; exact (Frm.refl _ _).drew
  have hqd := hFD.heap HQ8.out (by simp)
  have hsd := hFD.heap HS8.out (by simp)
  unfold S4.arr at hsd
  have sS : wd.cell? ⟨bx + 1, 0, none⟩ = some (.int .u64 t0) ∧ wd.cell? ⟨bx + 1, 1, none⟩ = some (.int .u64 t1) ∧ wd.cell? ⟨bx + 1, 2, none⟩ = some (.int .u64 t2) ∧ wd.cell? ⟨bx + 1, 3, none⟩ = some (.int .u64 t3) := by
   refine ⟨?_, ?_, ?_, ?_⟩ <;> (rw [cell_of_row _ _ _ _ _ _ hqd]; rfl)
  refine wp_region_tail (S := fun W => (W.cell? ⟨bx + 1, 0, none⟩ = some (.int .u64 t0) ∧ W.cell? ⟨bx + 1, 1, none⟩ = some (.int .u64 t1) ∧ W.cell? ⟨bx + 1, 2, none⟩ = some (.int .u64 t2) ∧ W.cell? ⟨bx + 1, 3, none⟩ = some (.int .u64 t3))) 5 6 rfl (by kernel_rfl) (by kernel_rfl) ?_
  rw [hwd]
  refine hI (i := 0) (v := ?_) rfl ?_ sS ?_
  rotate_left 1
  ·rintro W ⟨e0, e1, e2, e3⟩; (try simp only [lA, lZ]); go_simp; try with_reducible rfl
  try simp only [lA, lZ, Act.put, lI, lW, lX]
  refine hI (i := 1) (v := ?_) rfl ?_ sS ?_
  rotate_left 1
  ·rintro W ⟨e0, e1, e2, e3⟩; (try simp only [lA, lS, lZ]); go_simp; try with_reducible rfl
  try simp only [lA, lS, lZ, Act.put, lI, lW, lX]
  refine hI (i := 2) (v := ?_) rfl ?_ sS ?_
  rotate_left 1
  ·(intro W hSw; obtain ⟨e0, e1, e2, e3⟩ := hSw; have hsl2 := hsl W; (try simp only [lA, lS, lZ]); go_simp; try with_reducible rfl)
  try simp only [lA, lS, lZ, Act.put, lI, lW, lX]
  refine hI (i := 3) (v := ?_) rfl ?_ sS ?_
  rotate_left 1
  ·rintro W ⟨e0, e1, e2, e3⟩; (try simp only [lA, lS, lZ]); go_simp; try with_reducible rfl
  try simp only [lA, lS, lZ, Act.put, lI, lW, lX]
  refine wpAnyHT_one (i := 4) rfl (by kernel_rfl) (by kernel_rfl) (fun K hK => ?_)
  try simp only [lA, lS, lZ]
  go_simp
  refine hK _ _ sS ?_
  clear hK K
  try simp only [lA, lS, lZ, Act.put, lI, lW, lX]
  refine wpAnyHT_end (by kernel_rfl) ?_
  simp only [List.drop_succ_cons, List.drop_zero]
  have y0 := fZ 0 hsd
  have v0 := cR 0 (.int .u64 s0) hsd
  have y1 := fZ 1 hsd
  have v1 := cR 1 (.int .u64 s1) hsd
  have y2 := fZ 2 hsd
  have v2 := cR 2 (.int .u64 s2) hsd
  have y3 := fZ 3 hsd
  have v3 := cR 3 (.int .u64 s3) hsd
  obtain ⟨h4, f4⟩ := set4 (y0 := .int .u64 t0) (y1 := .int .u64 t1) (y2 := .int .u64 t2) (y3 := .int .u64 t3) hsd
  obtain ⟨W4, hW4⟩ := eX (((((wd.setCell ⟨xs, 0, none⟩ (.int .u64 t0)).setCell ⟨xs, 1, none⟩ (.int .u64 t1)).setCell ⟨xs, 2, none⟩ (.int .u64 t2)).setCell ⟨xs, 3, none⟩ (.int .u64 t3)))
  rw [hW4] at h4 f4
  have HS4 : Hid (W4.heap[xs]? = some (.cells (rsS bs (t + 1)).2.arr 29 (0, 0))) := hid (by rw [HNX.out]; exact h4)
  have HF4 : Hid (Frm [] w W4) := hid ((HF8.out.trans hFD (by simp)).trans f4 (fun i hi hl => by rw [List.mem_singleton] at hi; have := HBS.out; omega))
  have HXB : Hid (∀ k, xs < k → k < w8.heap.size → W4.heap[k]? = w8.heap[k]?) := hid (fun k hk hlt => (f4.block k (Nat.lt_of_lt_of_le hlt hFD.size) (by simp; omega)).trans (hFD.block k hlt (by simp)))
  have HO4 := hid (ownsRow_kept (ownsRow_kept HO8.out hFD (by simp)) f4 (fun k hk hm => by rw [List.mem_singleton] at hm; have := HNW8.out k hk; omega))
  have HRK4 := hid (HRK8.out.keeps (fun k hk => HXB.out k (HAB8.out k hk).2.1 (HAB8.out k hk).1))
  have HAB4 : Hid (∀ k ∈ A ++ B, k < W4.heap.size ∧ xs < k ∧ k ∉ blk p8) := hid (fun k hk => by have h := HAB8.out k hk; have h2 := hFD.size; have h3 := f4.size; exact ⟨by omega, h.2⟩)
  have HRQ4 : Hid (Rd W4 (partAt q d dM 1) (rsS bs (t + 1)).1) := hid (by
   rw [HNX.out]
   exact rd_part ((HRQ8.out.kept hFD (by simp)).kept f4 (fun k hk hm => by rw [List.mem_singleton] at hm; have h1 := HQ2.out k hk; have h2 := HBS.out; omega)) HLEN.out hdm.1 hmd)
  have HLN4 : Hid ((rsS bs (t + 1)).1.length = m - dM) := hid (by rw [HNX.out]; show (RB.drop dM).length = _; rw [List.length_drop, HLEN.out])
  have HQB4 : Hid (∀ k ∈ blk (partAt q d dM 1), k < w.heap.size ∨ (rsS bs (t + 1)).1 = []) := hid (fun k hk => Or.inl (HQ2.out k (blk_part hk)))
  have HWE := hid hW4
  clear h4 f4 hW4 hFD hqd sS hwd hsl
  go_wp2_with fail
  go_roundw
  case rel => exact ⟨t + 1, m - dM, d - dM, c8, partAt q d dM 1, p8, L ++ [⟨R, VP, VK, VD⟩], A ++ B, by omega, by omega, htl2, rfl, rfl, HOT2, HLN4, by rw [HWE.out]; exact HRQ4, HQB4, by rw [HWE.out]; exact HS4, HLL8, by rw [HWE.out]; exact HO4, HNW8, by rw [HWE.out]; exact HRK4, by rw [HWE.out]; exact HAB4, by rw [HWE.out]; exact HF4⟩
  case measure => show m - dM < m; omega
end
section
open Go.RowKit Go.Lib
theorem le_leVr (zs : List Int) (h : ∀ z ∈ zs, 0 ≤ z ∧ z < 256) : le (leV zs) zs.length = zs := by
 induction zs with
 | nil => rfl
 | cons z zs ih =>
  have hz := h z (by simp)
  have ih := ih (fun y hy => h y (by simp [hy]))
  have hb := leV_bd zs (fun y hy => h y (by simp [hy]))
  rw [leV, List.length_cons, le, List.range_succ_eq_map, List.map_cons, List.map_map]
  congr 1
  ·simp; omega
  ·conv => rhs; rw [← ih]
   unfold le
   apply List.map_congr_left
   intro i _
   have e : (2 : Int) ^ (8 * (i + 1)) = 256 * 2 ^ (8 * i) := by rw [Nat.mul_add, Int.pow_add, Int.mul_comm]; rfl
   simp only [Function.comp, Nat.succ_eq_add_one]
   rw [e, ← Int.ediv_ediv_of_nonneg (by decide)]
   congr 2
   omega
theorem tx_strR (zs : List Int) (h : ∀ z ∈ zs, 0 ≤ z ∧ z < 256) : tx (strOfNums zs) = zs := by
 unfold tx
 rw [strOfNums_data, List.map_map]
 conv => rhs; rw [← List.map_id zs]
 apply List.map_congr_left
 intro z hz
 have := h z hz
 simp [Function.comp]
 omega
theorem nuS_inv {bs : List Int} (hb : ∀ z ∈ bs, 0 ≤ z ∧ z < 256) {s : Rst} {k : Nat} (h : (nuS bs s (k : Int)).2.2 = 0) : s.2 = 0 ∧ bs.drop s.1 = le (nuS bs s (k : Int)).1 k ++ bs.drop (nuS bs s (k : Int)).2.1 ∧ 0 ≤ (nuS bs s (k : Int)).1 ∧ (nuS bs s (k : Int)).1 < 2 ^ (8 * k) := by
 by_cases he : s.2 = 0
 case neg =>
  unfold nuS at h
  rw [readS_err _ _ _ _ he] at h
  exact absurd h he
 refine ⟨he, ?_⟩
 unfold nuS at h ⊢
 rw [he, readS_ok] at h ⊢
 by_cases hk : (k : Int) < 1 ∨ 8 < (k : Int)
 ·have e : numT (bs.drop s.1) k = (0, 0, 1) := by unfold numT; rw [if_pos hk]
  rw [e] at h; simp at h
 by_cases h2 : ((bs.drop s.1).length : Int) < k
 ·have e : numT (bs.drop s.1) k = (0, 0, 10) := by unfold numT; rw [if_neg hk, if_pos h2]
  rw [e] at h; simp at h
 have e : numT (bs.drop s.1) k = (leV ((bs.drop s.1).take k), k, 0) := by unfold numT; rw [if_neg hk, if_neg h2, Int.toNat_natCast]
 rw [e]
 simp only [if_true]
 have hz : ∀ z ∈ (bs.drop s.1).take k, 0 ≤ z ∧ z < 256 := fun z hz => hb z (List.mem_of_mem_drop (List.mem_of_mem_take hz))
 have hl : ((bs.drop s.1).take k).length = k := by rw [List.length_take]; omega
 have h3 := le_leVr _ hz
 have h4 := leV_bd _ hz
 rw [hl] at h3 h4
 refine ⟨?_, h4⟩
 rw [h3, ← List.drop_drop, List.take_append_drop]
theorem txS_inv {bs : List Int} (hb : ∀ z ∈ bs, 0 ≤ z ∧ z < 256) {s : Rst} {m : Int} (h : (txS bs s m).2.2 = 0) : s.2 = 0 ∧ bs.drop s.1 = txF (strOfNums (txS bs s m).1) ++ bs.drop (txS bs s m).2.1 := by
 by_cases he : s.2 = 0
 case neg =>
  unfold txS at h
  rw [readS_err _ _ _ _ he] at h
  exact absurd h he
 refine ⟨he, ?_⟩
 unfold txS at h ⊢
 rw [he, readS_ok] at h ⊢
 obtain ⟨ls, hls⟩ := eX (bs.drop s.1)
 have hlb : ∀ z ∈ ls, 0 ≤ z ∧ z < 256 := fun z hz => hb z (List.mem_of_mem_drop (by rw [hls]; exact hz))
 by_cases h1 : ls.length < 2
 ·have e : textT (bs.drop s.1) m = ([], 0, 10) := by rw [hls]; unfold textT; rw [if_pos h1]
  rw [e] at h; simp at h
 by_cases h2 : m < leV (ls.take 2)
 ·have e : textT (bs.drop s.1) m = ([], 0, 11) := by rw [hls]; unfold textT; rw [if_neg h1, if_pos h2]
  rw [e] at h; simp at h
 by_cases h3 : ls.length < 2 + (leV (ls.take 2)).toNat
 ·have e : textT (bs.drop s.1) m = ([], 0, 10) := by rw [hls]; unfold textT; rw [if_neg h1, if_neg h2, if_pos h3]
  rw [e] at h; simp at h
 have e : textT (bs.drop s.1) m = ((ls.drop 2).take (leV (ls.take 2)).toNat, 2 + (leV (ls.take 2)).toNat, 0) := by rw [hls]; unfold textT; rw [if_neg h1, if_neg h2, if_neg h3]
 rw [e]
 simp only [if_true]
 have hlen2 : (ls.take 2).length = 2 := by simp; omega
 have hbd := leV_bd (ls.take 2) (fun z hz => hlb z (List.mem_of_mem_take hz))
 have hle := le_leVr (ls.take 2) (fun z hz => hlb z (List.mem_of_mem_take hz))
 rw [hlen2] at hbd hle
 obtain ⟨n, hn⟩ := Int.eq_ofNat_of_zero_le hbd.1
 rw [hn] at hle h3 ⊢
 rw [Int.toNat_natCast] at h3 ⊢
 have hlt2 : ((ls.drop 2).take n).length = n := by simp; omega
 have hsz : (strOfNums ((ls.drop 2).take n)).size = n := by rw [strOfNums_size, hlt2]
 unfold txF
 rw [hsz, hle, tx_strR _ (fun z hz => hlb z (List.mem_of_mem_drop (List.mem_of_mem_take hz))), ← List.take_add, ← List.drop_drop, hls, List.take_append_drop]
theorem kpS_inv {bs : List Int} (hb : ∀ z ∈ bs, 0 ≤ z ∧ z < 256) {more : Int} {k : Nat} {s : Rst} : ∀ t, (kpS bs more (k : Int) s t).2.2 = 0 → s.2 = 0 ∧ ∀ K : List Int, (∀ j, j < t → zA K j = zA (kpS bs more (k : Int) s t).1 j) → bs.drop s.1 = kpT K more k t ++ bs.drop (kpS bs more (k : Int) s t).2.1
 | 0, h => ⟨h, fun K _ => by simp [kpT, kpS]⟩
 | t + 1, h => by
  have hl := kpS_len bs more (k : Int) s t
  have h1 : (nuS bs (kpS bs more (k : Int) s t).2 (k : Int)).2.2 = 0 := h
  obtain ⟨h2, h3, _, _⟩ := nuS_inv hb h1
  obtain ⟨h5, h6⟩ := kpS_inv hb t h2
  refine ⟨h5, fun K hK => ?_⟩
  have e : (kpS bs more (k : Int) s (t + 1)).1 = (kpS bs more (k : Int) s t).1 ++ [(nuS bs (kpS bs more (k : Int) s t).2 k).1 - more] := rfl
  have h7 := h6 K (fun j hj => by
   rw [hK j (by omega), e]
   unfold zA
   rw [List.getD_eq_getElem?_getD, List.getD_eq_getElem?_getD, List.getElem?_append_left (by omega)])
  have h8 : zA K t + more = (nuS bs (kpS bs more (k : Int) s t).2 k).1 := by
   rw [hK t (by omega), e]
   unfold zA
   rw [List.getD_eq_getElem?_getD, List.getElem?_append_right (by omega), hl, Nat.sub_self]
   simp
  rw [h7, h3, kpT, h8, List.append_assoc]
  rfl
theorem kpS_pos {bs : List Int} (hb : ∀ z ∈ bs, 0 ≤ z ∧ z < 256) {more : Int} {k : Nat} {s : Rst} : ∀ t, (kpS bs more (k : Int) s t).2.2 = 0 → k * t ≤ bs.length - s.1
 | 0, _ => by simp
 | t + 1, h => by
  have h0 := (kpS_inv hb (t + 1) h).2 (kpS bs more (k : Int) s (t + 1)).1 (fun _ _ => rfl)
  have h1 := congrArg List.length h0
  rw [List.length_drop, List.length_append, kpT_len] at h1
  omega
theorem prS_inv {bs : List Int} (hb : ∀ z ∈ bs, 0 ≤ z ∧ z < 256) {s : Rst} : ∀ t, (prS bs s t).2.2 = 0 → s.2 = 0 ∧ ∀ P : List Pr, (∀ j, j < t → prA P j = prA (prS bs s t).1 j) → bs.drop s.1 = prT P t ++ bs.drop (prS bs s t).2.1
 | 0, h => ⟨h, fun P _ => by simp [prT, prS]⟩
 | t + 1, h => by
  have hl := prS_len bs s t
  have h1 : (txS bs (txS bs (prS bs s t).2 240).2 240).2.2 = 0 := h
  obtain ⟨h2, h3⟩ := txS_inv hb h1
  obtain ⟨h4, h5⟩ := txS_inv hb h2
  obtain ⟨h6, h7⟩ := prS_inv hb t h4
  refine ⟨h6, fun P hP => ?_⟩
  have e : (prS bs s (t + 1)).1 = (prS bs s t).1 ++ [(strOfNums (txS bs (prS bs s t).2 240).1, strOfNums (txS bs (txS bs (prS bs s t).2 240).2 240).1)] := rfl
  have h8 := h7 P (fun j hj => by
   rw [hP j (by omega), e]
   unfold prA
   rw [List.getD_eq_getElem?_getD, List.getD_eq_getElem?_getD, List.getElem?_append_left (by omega)])
  have h9 : prA P t = (strOfNums (txS bs (prS bs s t).2 240).1, strOfNums (txS bs (txS bs (prS bs s t).2 240).2 240).1) := by
   rw [hP t (by omega), e]
   unfold prA
   rw [List.getD_eq_getElem?_getD, List.getElem?_append_right (by omega), hl, Nat.sub_self]
   rfl
  rw [h8, h5, h3, prT, h9, List.append_assoc, List.append_assoc]
  rfl
theorem done_inv {n p : Nat} {e : Int} (h : doneS n p e = 0) : e = 0 ∧ n ≤ p := by
 unfold doneS at h
 split at h
 ·omega
 ·rename_i h1
  refine ⟨h, ?_⟩
  by_cases h2 : p < n
  ·exact absurd ⟨h, h2⟩ h1
  ·omega
theorem sp_inv {bs : List Int} (hb : ∀ z ∈ bs, 0 ≤ z ∧ z < 256) (h5 : 5 ≤ bs.length) : bs.take 5 = le (spK bs) 1 ++ le (spM bs) 4 := by
 have hl : (bs.take 5).length = 5 := by rw [List.length_take]; omega
 have hb5 : ∀ z ∈ bs.take 5, 0 ≤ z ∧ z < 256 := fun z hz => hb z (List.mem_of_mem_take hz)
 have n1 : nuS (bs.take 5) (0, 0) 1 = (leV ((bs.take 5).take 1), 1, 0) := by
  unfold nuS
  rw [readS_ok]
  unfold numT
  rw [if_neg (by omega), if_neg (by rw [List.drop_zero, hl]; omega)]
  rfl
 have n2 : nuS (bs.take 5) (1, 0) 4 = (leV (((bs.take 5).drop 1).take 4), 5, 0) := by
  unfold nuS
  rw [readS_ok]
  unfold numT
  rw [if_neg (by omega), if_neg (by rw [List.length_drop, hl]; omega)]
  rfl
 have e1 : spK bs = leV ((bs.take 5).take 1) := by unfold spK; rw [n1]
 have e2 : spM bs = leV (((bs.take 5).drop 1).take 4) := by unfold spM; rw [n1]; simp only; rw [n2]
 have l1 : ((bs.take 5).take 1).length = 1 := by rw [List.length_take, hl]; rfl
 have l2 : (((bs.take 5).drop 1).take 4).length = 4 := by rw [List.length_take, List.length_drop, hl]; rfl
 have q1 := le_leVr ((bs.take 5).take 1) (fun z hz => hb5 z (List.mem_of_mem_take hz))
 have q2 := le_leVr (((bs.take 5).drop 1).take 4) (fun z hz => hb5 z (List.mem_of_mem_drop (List.mem_of_mem_take hz)))
 rw [l1] at q1
 rw [l2] at q2
 rw [e1, e2, q1, q2, List.take_of_length_le (l := (bs.take 5).drop 1) (by rw [List.length_drop, hl]; omega), List.take_append_drop]
theorem sel_inv {b : List Int} (hb : ∀ z ∈ b, 0 ≤ z ∧ z < 256) (hl : b.length = 32) : selL (⟨(u1 b).1, (u2 b).1, (u3 b).1, (u4 b).1⟩ : S4) = b := by
 have n : ∀ p, p + 8 ≤ 32 → nuS b (p, 0) 8 = (leV ((b.drop p).take 8), p + 8, 0) := fun p hp => by
  unfold nuS
  rw [readS_ok]
  unfold numT
  rw [if_neg (by omega), if_neg (by rw [List.length_drop, hl]; omega)]
  rfl
 have q : ∀ p, p + 8 ≤ 32 → le (leV ((b.drop p).take 8)) 8 = (b.drop p).take 8 := fun p hp => by
  have h := le_leVr ((b.drop p).take 8) (fun z hz => hb z (List.mem_of_mem_drop (List.mem_of_mem_take hz)))
  have l : ((b.drop p).take 8).length = 8 := by rw [List.length_take, List.length_drop, hl]; omega
  rwa [l] at h
 have e1 : u1 b = (leV ((b.drop 0).take 8), 8, 0) := n 0 (by omega)
 have e2 : u2 b = (leV ((b.drop 8).take 8), 16, 0) := by unfold u2; rw [e1]; exact n 8 (by omega)
 have e3 : u3 b = (leV ((b.drop 16).take 8), 24, 0) := by unfold u3; rw [e2]; exact n 16 (by omega)
 have e4 : u4 b = (leV ((b.drop 24).take 8), 32, 0) := by unfold u4; rw [e3]; exact n 24 (by omega)
 rw [e1, e2, e3, e4]
 unfold selL sumL
 simp only
 rw [q 0 (by omega), q 8 (by omega), q 16 (by omega), q 24 (by omega), List.drop_zero]
 have t : ∀ p, (b.drop p).take 8 ++ b.drop (p + 8) = b.drop p := fun p => by rw [← List.drop_drop, List.take_append_drop]
 rw [List.take_of_length_le (l := b.drop 24) (by rw [List.length_drop, hl]; omega), List.append_assoc, List.append_assoc, t 16, t 8]
 exact t 0
end
section
open Go.RowKit Go.Lib
def rkSame (x y : Rk) : Prop := x.r.core = y.r.core ∧ x.P = y.P ∧ x.K = y.K ∧ x.D = y.D
theorem RdRk.at {w : World} {p : Option Addr} {L : List Rk} (h : RdRk w p L) {t : Nat} (ht : t < L.length) : ∃ g o, p = some ⟨g, o, none⟩ ∧ ((∀ j u, (rkA L t).r.arr[j]? = some u → w.cell? ⟨g, o + t * 13 + j, none⟩ = some u) ∧ RcOk w (rkA L t).r (rkA L t).P (rkA L t).K (rkA L t).D ∧ (rkA L t).r.name.size ≤ 140737488355328) := by
 have hget := rkA_get ht
 rcases h with h | ⟨g, o, he, hc⟩
 ·rw [h] at hget; simp at hget
 ·exact ⟨g, o, he, hc t _ hget⟩
theorem sameAll_any (p q : Option Addr) (n c d : Nat) (L M : List Rk) (w : World) (hl : L.length = n) (hm : M.length = n) (hn9 : n ≤ 9223372036854775807) (hp : RdRk w p L) (hq : RdRk w q M) (hs : ∀ j, j < n → rkSame (rkA L j) (rkA M j)) :
  Calls Tryz.prog 21 #[.slice p n c, .slice q n d] w fun e w' => e = .returned (.bool true) ∧ Frm [] w w' := by
 have HP := hid hp
 have HQ := hid hq
 have HL := hid hl
 have HM := hid hm
 have HS := hid hs
 clear hp hq hl hm hs
 have hb : ((n : Int) != (n : Int)) = false := by simp
 go_enter Tryz.func21, Tryz.ntmps21
 go_wp2_with fail
 clear hb
 go_loopw [5] (fun i wr => ∃ t : Nat, t ≤ n ∧ i = .int .i64 (t : Int) ∧ Hid (Frm [] w wr)) (fun i _ => n - (intOf i).toNat)
 case atStart => exact ⟨0, Nat.zero_le _, rfl, hid (Frm.refl _ _)⟩
 case round =>
  obtain ⟨t, ht, rfl, hf⟩ := hrel
  have HF := hid hf.out
  clear hf
  by_cases hlt : t < n
  case neg =>
   obtain rfl : t = n := by omega
   clear hlt
   go_wp2_with fail
   try go_returns
   exact ⟨rfl, HF.out⟩
  have t1 : (t : Int) < (n : Int) := by omega
  obtain ⟨g1, o1, rfl, hc1, hk1, _⟩ := (HP.out.k0 HF.out).at (t := t) (by rw [HL.out]; exact hlt)
  obtain ⟨g2, o2, rfl, hc2, hk2, _⟩ := (HQ.out.k0 HF.out).at (t := t) (by rw [HM.out]; exact hlt)
  obtain ⟨e1, e2, e3, e4⟩ := HS.out t hlt
  rw [← e2, ← e3, ← e4] at hk2
  have HSM := hid (fun W (hf : Frm [] wr W) => sameTrue_any (rkA L t).r (rkA M t).r (rkA L t).P (rkA L t).K (rkA L t).D W (hk1.k0 hf) (hk2.k0 hf) e1)
  obtain ⟨R1, hR1⟩ := eX ((rkA L t).r)
  obtain ⟨R2, hR2⟩ := eX ((rkA M t).r)
  rw [hR1] at hc1 HSM
  rw [hR2] at hc2 HSM
  have z0 : wr.cell? ⟨g1, o1 + t * 13, none⟩ = some (.int .i64 R1.kind) := hc1 0 _ rfl
  have z1 : wr.cell? ⟨g1, o1 + t * 13 + 1, none⟩ = some (.string R1.name) := hc1 1 _ rfl
  have z2 : wr.cell? ⟨g1, o1 + t * 13 + 2, none⟩ = some (.int .i64 R1.typ) := hc1 2 _ rfl
  have z3 : wr.cell? ⟨g1, o1 + t * 13 + 3, none⟩ = some (.int .i64 R1.frm) := hc1 3 _ rfl
  have z4 : wr.cell? ⟨g1, o1 + t * 13 + 4, none⟩ = some (.int .i64 R1.guid) := hc1 4 _ rfl
  have z5 : wr.cell? ⟨g1, o1 + t * 13 + 5, none⟩ = some (.int .i64 R1.origin) := hc1 5 _ rfl
  have z6 : wr.cell? ⟨g1, o1 + t * 13 + 6, none⟩ = some (.string R1.snap) := hc1 6 _ rfl
  have z7 : wr.cell? ⟨g1, o1 + t * 13 + 7, none⟩ = some (.slice R1.pp R1.pn R1.pc) := hc1 7 _ rfl
  have z8 : wr.cell? ⟨g1, o1 + t * 13 + 8, none⟩ = some (.int .i64 R1.obj) := hc1 8 _ rfl
  have z9 : wr.cell? ⟨g1, o1 + t * 13 + 9, none⟩ = some (.int .i64 R1.at_) := hc1 9 _ rfl
  have z10 : wr.cell? ⟨g1, o1 + t * 13 + 10, none⟩ = some (.int .i64 R1.many) := hc1 10 _ rfl
  have z11 : wr.cell? ⟨g1, o1 + t * 13 + 11, none⟩ = some (.slice R1.kp R1.kn R1.kc) := hc1 11 _ rfl
  have z12 : wr.cell? ⟨g1, o1 + t * 13 + 12, none⟩ = some (.slice R1.dp R1.dl R1.dc) := hc1 12 _ rfl
  have y0 : wr.cell? ⟨g2, o2 + t * 13, none⟩ = some (.int .i64 R2.kind) := hc2 0 _ rfl
  have y1 : wr.cell? ⟨g2, o2 + t * 13 + 1, none⟩ = some (.string R2.name) := hc2 1 _ rfl
  have y2 : wr.cell? ⟨g2, o2 + t * 13 + 2, none⟩ = some (.int .i64 R2.typ) := hc2 2 _ rfl
  have y3 : wr.cell? ⟨g2, o2 + t * 13 + 3, none⟩ = some (.int .i64 R2.frm) := hc2 3 _ rfl
  have y4 : wr.cell? ⟨g2, o2 + t * 13 + 4, none⟩ = some (.int .i64 R2.guid) := hc2 4 _ rfl
  have y5 : wr.cell? ⟨g2, o2 + t * 13 + 5, none⟩ = some (.int .i64 R2.origin) := hc2 5 _ rfl
  have y6 : wr.cell? ⟨g2, o2 + t * 13 + 6, none⟩ = some (.string R2.snap) := hc2 6 _ rfl
  have y7 : wr.cell? ⟨g2, o2 + t * 13 + 7, none⟩ = some (.slice R2.pp R2.pn R2.pc) := hc2 7 _ rfl
  have y8 : wr.cell? ⟨g2, o2 + t * 13 + 8, none⟩ = some (.int .i64 R2.obj) := hc2 8 _ rfl
  have y9 : wr.cell? ⟨g2, o2 + t * 13 + 9, none⟩ = some (.int .i64 R2.at_) := hc2 9 _ rfl
  have y10 : wr.cell? ⟨g2, o2 + t * 13 + 10, none⟩ = some (.int .i64 R2.many) := hc2 10 _ rfl
  have y11 : wr.cell? ⟨g2, o2 + t * 13 + 11, none⟩ = some (.slice R2.kp R2.kn R2.kc) := hc2 11 _ rfl
  have y12 : wr.cell? ⟨g2, o2 + t * 13 + 12, none⟩ = some (.slice R2.dp R2.dl R2.dc) := hc2 12 _ rfl
  clear hc1 hc2 hk1 hk2 e1 e2 e3 e4 hR1 hR2
  obtain ⟨a0, a1, a2, a3, a4, a5, a6, a7, a8, a9, a10, a11, a12, a13, a14, a15, a16, a17, a18⟩ := R1
  obtain ⟨b0, b1, b2, b3, b4, b5, b6, b7, b8, b9, b10, b11, b12, b13, b14, b15, b16, b17, b18⟩ := R2
  unfold Rc.arr at HSM
  simp only at HSM z0 z1 z2 z3 z4 z5 z6 z7 z8 z9 z10 z11 z12 y0 y1 y2 y3 y4 y5 y6 y7 y8 y9 y10 y11 y12
  go_upto_region 6 with fail
  have HFD : Hid (Frm [] wr wr.drew) := hid ((Frm.refl [] wr).drew)
  have hs0 : wr.drew.cell? ⟨g1, o1 + t * 13, none⟩ = some (.int .i64 a0) ∧ wr.drew.cell? ⟨g1, o1 + t * 13 + 1, none⟩ = some (.string a1) ∧ wr.drew.cell? ⟨g1, o1 + t * 13 + 2, none⟩ = some (.int .i64 a2) ∧ wr.drew.cell? ⟨g1, o1 + t * 13 + 3, none⟩ = some (.int .i64 a3) ∧ wr.drew.cell? ⟨g1, o1 + t * 13 + 4, none⟩ = some (.int .i64 a4) ∧ wr.drew.cell? ⟨g1, o1 + t * 13 + 5, none⟩ = some (.int .i64 a5) ∧ wr.drew.cell? ⟨g1, o1 + t * 13 + 6, none⟩ = some (.string a6) ∧ wr.drew.cell? ⟨g1, o1 + t * 13 + 7, none⟩ = some (.slice a7 a8 a9) ∧ wr.drew.cell? ⟨g1, o1 + t * 13 + 8, none⟩ = some (.int .i64 a10) ∧ wr.drew.cell? ⟨g1, o1 + t * 13 + 9, none⟩ = some (.int .i64 a11) ∧ wr.drew.cell? ⟨g1, o1 + t * 13 + 10, none⟩ = some (.int .i64 a12) ∧ wr.drew.cell? ⟨g1, o1 + t * 13 + 11, none⟩ = some (.slice a13 a14 a15) ∧ wr.drew.cell? ⟨g1, o1 + t * 13 + 12, none⟩ = some (.slice a16 a17 a18) ∧ wr.drew.cell? ⟨g2, o2 + t * 13, none⟩ = some (.int .i64 b0) ∧ wr.drew.cell? ⟨g2, o2 + t * 13 + 1, none⟩ = some (.string b1) ∧ wr.drew.cell? ⟨g2, o2 + t * 13 + 2, none⟩ = some (.int .i64 b2) ∧ wr.drew.cell? ⟨g2, o2 + t * 13 + 3, none⟩ = some (.int .i64 b3) ∧ wr.drew.cell? ⟨g2, o2 + t * 13 + 4, none⟩ = some (.int .i64 b4) ∧ wr.drew.cell? ⟨g2, o2 + t * 13 + 5, none⟩ = some (.int .i64 b5) ∧ wr.drew.cell? ⟨g2, o2 + t * 13 + 6, none⟩ = some (.string b6) ∧ wr.drew.cell? ⟨g2, o2 + t * 13 + 7, none⟩ = some (.slice b7 b8 b9) ∧ wr.drew.cell? ⟨g2, o2 + t * 13 + 8, none⟩ = some (.int .i64 b10) ∧ wr.drew.cell? ⟨g2, o2 + t * 13 + 9, none⟩ = some (.int .i64 b11) ∧ wr.drew.cell? ⟨g2, o2 + t * 13 + 10, none⟩ = some (.int .i64 b12) ∧ wr.drew.cell? ⟨g2, o2 + t * 13 + 11, none⟩ = some (.slice b13 b14 b15) ∧ wr.drew.cell? ⟨g2, o2 + t * 13 + 12, none⟩ = some (.slice b16 b17 b18) := ⟨z0, z1, z2, z3, z4, z5, z6, z7, z8, z9, z10, z11, z12, y0, y1, y2, y3, y4, y5, y6, y7, y8, y9, y10, y11, y12⟩
  refine wp_region_tail (S := fun W => (W.cell? ⟨g1, o1 + t * 13, none⟩ = some (.int .i64 a0) ∧ W.cell? ⟨g1, o1 + t * 13 + 1, none⟩ = some (.string a1) ∧ W.cell? ⟨g1, o1 + t * 13 + 2, none⟩ = some (.int .i64 a2) ∧ W.cell? ⟨g1, o1 + t * 13 + 3, none⟩ = some (.int .i64 a3) ∧ W.cell? ⟨g1, o1 + t * 13 + 4, none⟩ = some (.int .i64 a4) ∧ W.cell? ⟨g1, o1 + t * 13 + 5, none⟩ = some (.int .i64 a5) ∧ W.cell? ⟨g1, o1 + t * 13 + 6, none⟩ = some (.string a6) ∧ W.cell? ⟨g1, o1 + t * 13 + 7, none⟩ = some (.slice a7 a8 a9) ∧ W.cell? ⟨g1, o1 + t * 13 + 8, none⟩ = some (.int .i64 a10) ∧ W.cell? ⟨g1, o1 + t * 13 + 9, none⟩ = some (.int .i64 a11) ∧ W.cell? ⟨g1, o1 + t * 13 + 10, none⟩ = some (.int .i64 a12) ∧ W.cell? ⟨g1, o1 + t * 13 + 11, none⟩ = some (.slice a13 a14 a15) ∧ W.cell? ⟨g1, o1 + t * 13 + 12, none⟩ = some (.slice a16 a17 a18) ∧ W.cell? ⟨g2, o2 + t * 13, none⟩ = some (.int .i64 b0) ∧ W.cell? ⟨g2, o2 + t * 13 + 1, none⟩ = some (.string b1) ∧ W.cell? ⟨g2, o2 + t * 13 + 2, none⟩ = some (.int .i64 b2) ∧ W.cell? ⟨g2, o2 + t * 13 + 3, none⟩ = some (.int .i64 b3) ∧ W.cell? ⟨g2, o2 + t * 13 + 4, none⟩ = some (.int .i64 b4) ∧ W.cell? ⟨g2, o2 + t * 13 + 5, none⟩ = some (.int .i64 b5) ∧ W.cell? ⟨g2, o2 + t * 13 + 6, none⟩ = some (.string b6) ∧ W.cell? ⟨g2, o2 + t * 13 + 7, none⟩ = some (.slice b7 b8 b9) ∧ W.cell? ⟨g2, o2 + t * 13 + 8, none⟩ = some (.int .i64 b10) ∧ W.cell? ⟨g2, o2 + t * 13 + 9, none⟩ = some (.int .i64 b11) ∧ W.cell? ⟨g2, o2 + t * 13 + 10, none⟩ = some (.int .i64 b12) ∧ W.cell? ⟨g2, o2 + t * 13 + 11, none⟩ = some (.slice b13 b14 b15) ∧ W.cell? ⟨g2, o2 + t * 13 + 12, none⟩ = some (.slice b16 b17 b18))) 9 10 rfl (by kernel_rfl) (by kernel_rfl) ?_
  refine hI (i := 0) (v := ?_) rfl ?_ hs0 ?_
  rotate_left 1
  ·rintro W ⟨s0, s1, s2, s3, s4, s5, s6, s7, s8, s9, s10, s11, s12, r0, r1, r2, r3, r4, r5, r6, r7, r8, r9, r10, r11, r12⟩; (try simp only [lA, lZ]); go_simp; try with_reducible rfl
  try simp only [lA, lZ, Act.put, lI, lW, lX]
  refine hI (i := 1) (v := ?_) rfl ?_ hs0 ?_
  rotate_left 1
  ·rintro W ⟨s0, s1, s2, s3, s4, s5, s6, s7, s8, s9, s10, s11, s12, r0, r1, r2, r3, r4, r5, r6, r7, r8, r9, r10, r11, r12⟩; (try simp only [lA, lS, lZ]); go_simp; try with_reducible rfl
  try simp only [lA, lS, lZ, Act.put, lI, lW, lX]
  refine hI (i := 2) (v := ?_) rfl ?_ hs0 ?_
  rotate_left 1
  ·rintro W ⟨s0, s1, s2, s3, s4, s5, s6, s7, s8, s9, s10, s11, s12, r0, r1, r2, r3, r4, r5, r6, r7, r8, r9, r10, r11, r12⟩; (try simp only [lA, lS, lZ]); go_simp; try with_reducible rfl
  try simp only [lA, lS, lZ, Act.put, lI, lW, lX]
  refine hI (i := 3) (v := ?_) rfl ?_ hs0 ?_
  rotate_left 1
  ·rintro W ⟨s0, s1, s2, s3, s4, s5, s6, s7, s8, s9, s10, s11, s12, r0, r1, r2, r3, r4, r5, r6, r7, r8, r9, r10, r11, r12⟩; (try simp only [lA, lS, lZ]); go_simp; try with_reducible rfl
  try simp only [lA, lS, lZ, Act.put, lI, lW, lX]
  refine hI (i := 4) (v := ?_) rfl ?_ hs0 ?_
  rotate_left 1
  ·rintro W ⟨s0, s1, s2, s3, s4, s5, s6, s7, s8, s9, s10, s11, s12, r0, r1, r2, r3, r4, r5, r6, r7, r8, r9, r10, r11, r12⟩; (try simp only [lA, lS, lZ]); go_simp; try with_reducible rfl
  try simp only [lA, lS, lZ, Act.put, lI, lW, lX]
  refine hI (i := 5) (v := ?_) rfl ?_ hs0 ?_
  rotate_left 1
  ·rintro W ⟨s0, s1, s2, s3, s4, s5, s6, s7, s8, s9, s10, s11, s12, r0, r1, r2, r3, r4, r5, r6, r7, r8, r9, r10, r11, r12⟩; (try simp only [lA, lS, lZ]); go_simp; try with_reducible rfl
  try simp only [lA, lS, lZ, Act.put, lI, lW, lX]
  refine hI (i := 6) (v := ?_) rfl ?_ hs0 ?_
  rotate_left 1
  ·rintro W ⟨s0, s1, s2, s3, s4, s5, s6, s7, s8, s9, s10, s11, s12, r0, r1, r2, r3, r4, r5, r6, r7, r8, r9, r10, r11, r12⟩; (try simp only [lA, lS, lZ]); go_simp; try with_reducible rfl
  try simp only [lA, lS, lZ, Act.put, lI, lW, lX]
  refine hI (i := 7) (v := ?_) rfl ?_ hs0 ?_
  rotate_left 1
  ·rintro W ⟨s0, s1, s2, s3, s4, s5, s6, s7, s8, s9, s10, s11, s12, r0, r1, r2, r3, r4, r5, r6, r7, r8, r9, r10, r11, r12⟩; (try simp only [lA, lS, lZ]); go_simp; try with_reducible rfl
  try simp only [lA, lS, lZ, Act.put, lI, lW, lX]
  refine wpAnyHT_one (i := 8) rfl (by kernel_rfl) (by kernel_rfl) (fun K hK => ?_)
  try simp only [lA, lS, lZ]
  go_simp
  refine (HSM.out _ HFD.out).mono ?_
  rintro e w5 ⟨rfl, hf5⟩
  have hs5 : w5.cell? ⟨g1, o1 + t * 13, none⟩ = some (.int .i64 a0) ∧ w5.cell? ⟨g1, o1 + t * 13 + 1, none⟩ = some (.string a1) ∧ w5.cell? ⟨g1, o1 + t * 13 + 2, none⟩ = some (.int .i64 a2) ∧ w5.cell? ⟨g1, o1 + t * 13 + 3, none⟩ = some (.int .i64 a3) ∧ w5.cell? ⟨g1, o1 + t * 13 + 4, none⟩ = some (.int .i64 a4) ∧ w5.cell? ⟨g1, o1 + t * 13 + 5, none⟩ = some (.int .i64 a5) ∧ w5.cell? ⟨g1, o1 + t * 13 + 6, none⟩ = some (.string a6) ∧ w5.cell? ⟨g1, o1 + t * 13 + 7, none⟩ = some (.slice a7 a8 a9) ∧ w5.cell? ⟨g1, o1 + t * 13 + 8, none⟩ = some (.int .i64 a10) ∧ w5.cell? ⟨g1, o1 + t * 13 + 9, none⟩ = some (.int .i64 a11) ∧ w5.cell? ⟨g1, o1 + t * 13 + 10, none⟩ = some (.int .i64 a12) ∧ w5.cell? ⟨g1, o1 + t * 13 + 11, none⟩ = some (.slice a13 a14 a15) ∧ w5.cell? ⟨g1, o1 + t * 13 + 12, none⟩ = some (.slice a16 a17 a18) ∧ w5.cell? ⟨g2, o2 + t * 13, none⟩ = some (.int .i64 b0) ∧ w5.cell? ⟨g2, o2 + t * 13 + 1, none⟩ = some (.string b1) ∧ w5.cell? ⟨g2, o2 + t * 13 + 2, none⟩ = some (.int .i64 b2) ∧ w5.cell? ⟨g2, o2 + t * 13 + 3, none⟩ = some (.int .i64 b3) ∧ w5.cell? ⟨g2, o2 + t * 13 + 4, none⟩ = some (.int .i64 b4) ∧ w5.cell? ⟨g2, o2 + t * 13 + 5, none⟩ = some (.int .i64 b5) ∧ w5.cell? ⟨g2, o2 + t * 13 + 6, none⟩ = some (.string b6) ∧ w5.cell? ⟨g2, o2 + t * 13 + 7, none⟩ = some (.slice b7 b8 b9) ∧ w5.cell? ⟨g2, o2 + t * 13 + 8, none⟩ = some (.int .i64 b10) ∧ w5.cell? ⟨g2, o2 + t * 13 + 9, none⟩ = some (.int .i64 b11) ∧ w5.cell? ⟨g2, o2 + t * 13 + 10, none⟩ = some (.int .i64 b12) ∧ w5.cell? ⟨g2, o2 + t * 13 + 11, none⟩ = some (.slice b13 b14 b15) ∧ w5.cell? ⟨g2, o2 + t * 13 + 12, none⟩ = some (.slice b16 b17 b18) := by
   have k : ∀ a v, wr.drew.cell? a = some v → w5.cell? a = some v := fun a v h => (hf5.cell (World.block_lt_of_cell? _ _ h) (by simp)).trans h
   exact ⟨k _ _ z0, k _ _ z1, k _ _ z2, k _ _ z3, k _ _ z4, k _ _ z5, k _ _ z6, k _ _ z7, k _ _ z8, k _ _ z9, k _ _ z10, k _ _ z11, k _ _ z12, k _ _ y0, k _ _ y1, k _ _ y2, k _ _ y3, k _ _ y4, k _ _ y5, k _ _ y6, k _ _ y7, k _ _ y8, k _ _ y9, k _ _ y10, k _ _ y11, k _ _ y12⟩
  refine hK _ _ hs5 ?_
  clear hK K hs5 hs0
  refine wpAnyHT_end (by kernel_rfl) ?_
  simp only [List.drop_succ_cons, List.drop_zero]
  have HFX : Hid (Frm [] w w5) := hid ((HF.out.trans HFD.out (by simp)).trans hf5 (by simp))
  clear hf5 HSM z0 z1 z2 z3 z4 z5 z6 z7 z8 z9 z10 z11 z12 y0 y1 y2 y3 y4 y5 y6 y7 y8 y9 y10 y11 y12
  go_wp2_with fail
  go_roundw
  case rel => exact ⟨t + 1, by omega, by go_num, HFX⟩
  case measure => simp [intOf] <;> omega
end
section
open Go.RowKit Go.Lib
def stB (L : List Rk) : List Int := if allMay L ∧ (strF L L.length).length ≤ 1048576 then strF L L.length else []
def stE (L : List Rk) : Int := if allMay L then (if (strF L L.length).length ≤ 1048576 then 0 else 2) else 200
def StrU (w : World) (L : List Rk) (e : Ending) (w' : World) : Prop := ∃ p c, e = .returned (.tuple #[.slice p (stB L).length c, .int .i64 (stE L)]) ∧ (stB L).length ≤ c ∧ Rd w' p (stB L) ∧ Frm [] w w'
theorem own_caps {w : World} {E : TypeId} {p : Option Addr} {n c : Nat} {zs : List Int} (h : Own w E (.slice p n c) zs) : n ≤ c := by
 obtain ⟨p', c', he, h9, _⟩ := h.shape
 simp only [Value.slice.injEq] at he
 omega
theorem strU_ofF {w w' : World} {L : List Rk} {e : Ending} (h : StrFP w L e w') : StrU w L e w' := by
 obtain ⟨hf, ⟨h1, rfl⟩ | ⟨h1, h2, rfl⟩ | ⟨h1, h2, p, n, c, rfl, rfl, how, _⟩⟩ := h
 ·have e1 : stB L = [] := by unfold stB; rw [if_neg (fun h => h1 h.1)]
  have e2 : stE L = 200 := by unfold stE; rw [if_neg h1]
  exact ⟨none, 0, by rw [e1, e2]; rfl, by rw [e1]; exact Nat.le_refl _, by rw [e1]; exact Rd.nil _ _, hf⟩
 ·have e1 : stB L = [] := by unfold stB; rw [if_neg (fun h => by omega)]
  have e2 : stE L = 2 := by unfold stE; rw [if_pos h1, if_neg (by omega)]
  exact ⟨none, 0, by rw [e1, e2]; rfl, by rw [e1]; exact Nat.le_refl _, by rw [e1]; exact Rd.nil _ _, hf⟩
 ·have e1 : stB L = strF L L.length := by unfold stB; rw [if_pos ⟨h1, h2⟩]
  have e2 : stE L = 0 := by unfold stE; rw [if_pos h1, if_pos h2]
  exact ⟨p, c, by rw [e1, e2], by rw [e1]; exact own_caps how, by rw [e1]; exact how.rd, hf⟩
theorem strU_of {w w' : World} {L : List Rk} {e : Ending} (h : StrP w L e w') : StrU w L e w' := by
 refine strU_ofF ⟨h.1, ?_⟩
 rcases h.2 with ⟨h1, h2⟩ | ⟨h1, h2, h3⟩ | ⟨h1, h2, p, n, c, h3, h4, h5, h6⟩
 ·exact Or.inl ⟨h1, h2⟩
 ·exact Or.inr (Or.inl ⟨h1, (strB_long L _).1 h2, h3⟩)
 ·have hs : (strF L L.length).length ≤ 1048576 := by
   rcases Nat.lt_or_ge 1048576 (strF L L.length).length with h7 | h7
   ·have := (strB_long L _).2 h7; omega
   ·exact h7
  have e1 := strB_short L _ hs
  rw [e1] at h4 h5
  exact Or.inr (Or.inr ⟨h1, hs, p, n, c, h3, h4, h5, h6⟩)
theorem strF_bd {w : World} {p : Option Addr} {L : List Rk} (h : RdRk w p L) : ∀ t, t ≤ L.length → ∀ z ∈ strF L t, 0 ≤ z ∧ z < 256
 | 0, _ => by simp [strF]
 | t + 1, ht => fun z hz => by
  obtain ⟨g, o, _, _, hk, _⟩ := h.at (t := t) (by omega)
  rw [strF] at hz
  rcases List.mem_append.1 hz with h1 | h1
  ·exact strF_bd h t (by omega) z h1
  ·exact recB_bd hk.db z h1
theorem stB_bd {w : World} {p : Option Addr} {L : List Rk} (h : RdRk w p L) : ∀ z ∈ stB L, 0 ≤ z ∧ z < 256 := by
 unfold stB
 split
 ·exact strF_bd h _ (Nat.le_refl _)
 ·simp
theorem stB_len (L : List Rk) : (stB L).length ≤ 1048576 := by
 unfold stB
 split
 ·rename_i h; exact h.2
 ·exact Nat.zero_le _
def rcVal (bs : List Int) (N : Nat) (E : Int) : Prop := (1048576 < bs.length ∧ N = 0 ∧ E = 2) ∨ (bs.length ≤ 1048576 ∧ ∃ t, rsOk bs t ∧ (((rsS bs t).1 ≠ [] ∧ dcE (rsS bs t).2 (rsS bs t).1 ≠ 0 ∧ N = 0 ∧ E = dcE (rsS bs t).2 (rsS bs t).1) ∨ ((rsS bs t).1 = [] ∧ N = t ∧ E = 0)))
def RcsV (w : World) (bs : List Int) (N : Nat) (E : Int) (e : Ending) (w' : World) : Prop := ∃ p c M, e = .returned (.tuple #[.slice p N c, .int .i64 E]) ∧ M.length = N ∧ RdRk w' p M ∧ (∀ j, j < N → rkOf bs j (rkA M j)) ∧ Frm [] w w'
theorem rcs_val {w w' : World} {bs : List Int} {e : Ending} (h : RcsP w bs e w') : ∃ N E, rcVal bs N E ∧ N ≤ 1048576 ∧ RcsV w bs N E e w' := by
 obtain ⟨hf, ⟨h1, rfl⟩ | ⟨h1, t, hok, ⟨h2, h3, rfl⟩ | ⟨h2, p, c, M, rfl, h4, h5, h6, h7⟩⟩⟩ := h
 ·exact ⟨0, 2, Or.inl ⟨h1, rfl, rfl⟩, by omega, none, 0, [], rfl, rfl, Or.inl rfl, fun j hj => by omega, hf⟩
 ·exact ⟨0, _, Or.inr ⟨h1, t, hok, Or.inl ⟨h2, h3, rfl, rfl⟩⟩, by omega, none, 0, [], rfl, rfl, Or.inl rfl, fun j hj => by omega, hf⟩
 ·exact ⟨t, 0, Or.inr ⟨h1, t, hok, Or.inr ⟨h2, rfl, rfl⟩⟩, h5, p, c, M, rfl, h4, h6, h7, hf⟩
theorem rcVal_uniq {bs : List Int} {N N' : Nat} {E E' : Int} (h : rcVal bs N E) (k : rcVal bs N' E') : N' = N ∧ E' = E := by
 rcases h with ⟨h1, rfl, rfl⟩ | ⟨h1, t, hok, ht⟩
 ·rcases k with ⟨_, rfl, rfl⟩ | ⟨k1, _⟩
  ·exact ⟨rfl, rfl⟩
  ·omega
 ·rcases k with ⟨k1, _⟩ | ⟨_, s, kok, ks⟩
  ·omega
  ·have hts : s = t := by
    rcases Nat.lt_trichotomy s t with hl | hl | hl
    ·have h2 := hok s hl
     rcases ks with ⟨_, k2, _⟩ | ⟨k2, _⟩
     ·exact absurd h2.2 k2
     ·exact absurd k2 h2.1
    ·exact hl
    ·have h2 := kok t hl
     rcases ht with ⟨_, k2, _⟩ | ⟨k2, _⟩
     ·exact absurd h2.2 k2
     ·exact absurd k2 h2.1
   subst hts
   rcases ht with ⟨h2, h3, rfl, rfl⟩ | ⟨h2, rfl, rfl⟩
   ·rcases ks with ⟨_, _, rfl, rfl⟩ | ⟨k2, _⟩
    ·exact ⟨rfl, rfl⟩
    ·exact absurd k2 h2
   ·rcases ks with ⟨k2, _⟩ | ⟨_, rfl, rfl⟩
    ·exact absurd h2 k2
    ·exact ⟨rfl, rfl⟩
theorem rkOf_same {bs : List Int} {j : Nat} {x y : Rk} (h : rkOf bs j x) (k : rkOf bs j y) : rkSame x y := ⟨h.1.trans k.1.symm, h.2.1.trans k.2.1.symm, h.2.2.1.trans k.2.2.1.symm, h.2.2.2.trans k.2.2.2.symm⟩
end
section
open Go.RowKit
theorem qvalue_any (p : Option Addr) (c : Nat) (zs : List Int) (hz : ∀ z ∈ zs, 0 ≤ z ∧ z < 256) (hl : zs.length ≤ 8) (w : World) (hrd : Rd w p zs) :
  Calls Tryz.prog 124 #[.slice p zs.length c] w fun e w' => e = .returned (.int .u64 (leV zs)) ∧ Frm [] w w' := by
 have HR : Hid (∀ i, i < zs.length → ∃ g o, p = some ⟨g, o, none⟩ ∧ w.cell? ⟨g, o + i, none⟩ = some (.int .u8 (zs.getD i 0))) := by
  intro i hi
  rcases hrd with h | ⟨g, o, h1, h2⟩
  ·subst h; simp at hi
  ·exact ⟨g, o, h1, h2 i hi⟩
 have HZ := hid hz
 clear hrd hz
 go_enter Tryz.func124, Tryz.ntmps124
 go_wp2_with fail
 go_loopw [3, 4] (fun v i wr => ∃ j : Nat, j ≤ zs.length ∧ i = .int .i64 ((j : Int) - 1) ∧ v = .int .u64 (leV (zs.drop j)) ∧ Hid (Frm [] w wr)) (fun _ i _ => (intOf i + 1).toNat)
 case atStart => exact ⟨zs.length, Nat.le_refl _, rfl, by rw [List.drop_length]; rfl, Frm.refl _ _⟩
 case round =>
  obtain ⟨j, hj, rfl, rfl, hfr⟩ := hrel
  cases j with
  | zero =>
   go_wp2_with fail
   go_returns
   exact ⟨by rw [List.drop_zero]; rfl, hfr.out⟩
  | succ i =>
   have hlt : i < zs.length := by omega
   obtain ⟨g, o, rfl, hc⟩ := HR.out i hlt
   have hx := HZ.out (zs.getD i 0) (by simp [List.getD, hlt])
   have hdr : leV (zs.drop i) = zs.getD i 0 + 256 * leV (zs.drop (i + 1)) := by
    rw [List.drop_eq_getElem_cons hlt, leV]; simp [List.getD, hlt]
   have HDR := hid hdr
   have hB := leV_bd (zs.drop (i + 1)) (fun z hz => HZ.out z (List.mem_of_mem_drop hz))
   have hpw : (2 : Int) ^ (8 * (zs.drop (i + 1)).length) ≤ 2 ^ 56 := by
    have := Nat.pow_le_pow_right (n := 2) (by decide) (show 8 * (zs.drop (i + 1)).length ≤ 56 by simp only [List.length_drop]; omega)
    exact_mod_cast this
   have hbd : leV (zs.drop (i + 1)) < 72057594037927936 := by have := hB.2; omega
   have hb0 := hB.1
   clear hdr hB hpw
   obtain ⟨x, hxx⟩ := eX (zs.getD i 0)
   rw [hxx] at hc hx HDR
   obtain ⟨v, hv⟩ := eX (leV (zs.drop (i + 1)))
   rw [hv] at hbd hb0 HDR ⊢
   clear hxx hv
   have hc' := (hfr.out.cell (p := ⟨g, o + i, none⟩) (World.block_lt_of_cell? w _ hc) (by simp)).trans hc
   have hi1 : ((i + 1 : Nat) : Int) - 1 = (i : Int) := by omega
   rw [hi1]
   clear hi1
   go_wp2_with fail
   go_roundw
   case rel => exact ⟨i, by omega, rfl, by rw [HDR.out, Int.add_comm], hfr⟩
   case measure => simp [intOf]
theorem numT_bytesT (ls : List Int) (k : Int) (h1 : ¬ k < 1) (h2 : ¬ 8 < k) : numT ls k = (leV (bytesT ls k).1, (bytesT ls k).2.1, (bytesT ls k).2.2) := by
 unfold numT bytesT
 rw [if_neg (show ¬ (k < 1 ∨ 8 < k) by omega), if_neg (show ¬ k < 0 by omega)]
 split <;> rfl
theorem bytesT_of (ls : List Int) (k : Int) : ∃ n, (bytesT ls k).1 = ls.take n ∧ ((bytesT ls k).1.length : Int) ≤ max k 0 := by
 unfold bytesT
 split
 ·exact ⟨0, by simp; omega⟩
 ·split
  ·exact ⟨0, by simp; omega⟩
  ·exact ⟨k.toNat, rfl, by simp only [List.length_take]; omega⟩
theorem qnum_any (b c pos : Nat) (p : Option Addr) (bs : List Int) (hb : ∀ z ∈ bs, 0 ≤ z ∧ z < 256) (err k : Int) (w : World) (hw : IsQ w b p c bs pos err) (hk : -9223372036854775808 ≤ k) (hk2 : k ≤ 9223372036854775807) :
  Calls Tryz.prog 105 #[.pointer (some ⟨b, 0, none⟩), .int .i64 k] w fun e w' => e = .returned (.int .u64 (readS 0 pos err (numT (bs.drop pos) k)).1) ∧
   IsQ w' b p c bs (readS 0 pos err (numT (bs.drop pos) k)).2.1 (readS 0 pos err (numT (bs.drop pos) k)).2.2 ∧ Frm [b] w w' := by
 obtain ⟨hlt, hnb, hpos, hlen, c0, c1, c2, f1, f2, _⟩ := hw.cells
 have HW := hid hw
 have HB := hid hb
 clear hw hb
 by_cases he : err = 0
 ·subst he
  have hb0 : ((0 : Int) != 0) = false := rfl
  rw [readS_ok]
  by_cases h1 : k < 1 ∨ 8 < k
  ·have e : numT (bs.drop pos) k = (0, 0, 1) := by unfold numT; rw [if_pos h1]
   rw [e]
   by_cases h2 : k < 1
   ·clear h1
    go_enter Tryz.func105, Tryz.ntmps105
    go_wp2_with fail
    go_returns
    exact ⟨rfl, HW.out.setErr 1, (Frm.refl _ _).setCell _ _ (by simp)⟩
   ·have h3 : 8 < k := by omega
    clear h1
    go_enter Tryz.func105, Tryz.ntmps105
    go_wp2_with fail
    go_returns
    exact ⟨rfl, HW.out.setErr 1, (Frm.refl _ _).setCell _ _ (by simp)⟩
  ·have h2 : ¬ k < 1 := by omega
   have h3 : ¬ 8 < k := by omega
   have HS := hid (qbytes_any b c pos p bs 0 k w HW.out hk hk2)
   rw [readS_ok] at HS
   rw [numT_bytesT _ _ h2 h3]
   obtain ⟨m, hm1, hm2⟩ := bytesT_of (bs.drop pos) k
   have hzz : ∀ z ∈ (bytesT (bs.drop pos) k).1, 0 ≤ z ∧ z < 256 := fun z hz => HB.out z (List.mem_of_mem_drop (List.mem_of_mem_take (by rwa [hm1] at hz)))
   obtain ⟨r, hr⟩ := eX (bytesT (bs.drop pos) k)
   rw [hr] at HS hm2 hzz ⊢
   have HZZ := hid hzz
   clear hr hm1 hzz
   obtain ⟨zs, n, ev⟩ := r
   simp only at HS hm2 HZZ ⊢
   obtain ⟨ps, hps⟩ : ∃ ps, (if ev = 0 then pos + n else pos) = ps := ⟨_, rfl⟩
   rw [hps] at HS ⊢
   clear hps h1
   have hl8 : zs.length ≤ 8 := by omega
   clear hm2
   go_enter Tryz.func105, Tryz.ntmps105
   go_wp2_with fail
   refine HS.out.mono ?_
   rintro e w1 ⟨p1, n1, c1', rfl, hn1, ho, _, hq, hf⟩
   subst hn1
   have HQ := hid hq
   have HO := hid ho
   have HF := hid hf
   clear hq ho hf
   go_wp2_with fail
   refine (qvalue_any p1 c1' zs HZZ.out hl8 w1 HO.out.rd).mono ?_
   rintro e w2 ⟨rfl, hf2⟩
   have HF2 := hid hf2
   clear hf2
   go_wp2_with fail
   go_returns
   exact ⟨rfl, HQ.out.kept HF2.out (by simp) (by simp), HF.out.trans HF2.out (by simp)⟩
 ·rw [readS_err _ _ _ _ he]
  have hb : (err != 0) = true := by simpa using he
  go_enter Tryz.func105, Tryz.ntmps105
  go_wp2_with fail
  go_returns
  exact ⟨rfl, HW.out.kept (Frm.refl [] _) (by simp) (by simp), Frm.refl _ _⟩
end
section
open Go.RowKit
theorem qtext_any (b c pos : Nat) (p : Option Addr) (bs : List Int) (hb : ∀ z ∈ bs, 0 ≤ z ∧ z < 256) (err k : Int) (w : World) (hw : IsQ w b p c bs pos err) (_hk : -9223372036854775808 ≤ k) (_hk2 : k ≤ 9223372036854775807) :
  Calls Tryz.prog 104 #[.pointer (some ⟨b, 0, none⟩), .int .i64 k] w fun e w' => e = .returned (.string (strOfNums (readS [] pos err (textT (bs.drop pos) k)).1)) ∧
   IsQ w' b p c bs (readS [] pos err (textT (bs.drop pos) k)).2.1 (readS [] pos err (textT (bs.drop pos) k)).2.2 ∧ Frm [b] w w' := by
 obtain ⟨hlt, hnb, hpos, hlen, c0, c1, c2, f1, f2, hrd, hcl, hpn, hoff⟩ := hw.cells
 have HW := hid hw
 have HR := hid hrd
 have HPN := hid hpn
 have HOFF := hid hoff
 have HB := hid hb
 clear hw hrd hpn hoff hb
 have hs0 : strOfNums [] = ByteArray.empty := rfl
 by_cases he : err = 0
 ·subst he
  have hb0 : ((0 : Int) != 0) = false := rfl
  rw [readS_ok]
  by_cases h1 : (bs.drop pos).length < 2
  ·rw [show textT (bs.drop pos) k = ([], 0, 10) by unfold textT; rw [if_pos h1]]
   have h1' : (bs.length : Int) - (pos : Int) < 2 := by simp only [List.length_drop] at h1; omega
   have HS := hid hs0
   clear h1 hs0
   go_enter Tryz.func104, Tryz.ntmps104
   go_wp2_with fail
   go_quiet (fail)
   go_wp2_with fail
   go_returns
   exact ⟨congrArg (fun s => Ending.returned (Value.string s)) HS.out.symm, (HW.out.kept ((Frm.refl [] w).drewN nq) (by simp) (by simp)).setErr 10, ((Frm.refl [] w).drewN nq |>.mono (by simp)).setCell _ _ (by simp)⟩
  ·have h1' : ¬ (bs.length : Int) - (pos : Int) < 2 := by simp only [List.length_drop] at h1; omega
   have hp2 : pos + 2 ≤ bs.length := by simp only [List.length_drop] at h1; omega
   obtain ⟨g, rfl⟩ : ∃ g, p = some ⟨g, 0, none⟩ := by
    cases p with
    | none => have := (HPN.out rfl).1; subst this; simp at hp2
    | some a =>
     obtain ⟨g, o, sp⟩ := a
     obtain ⟨ho, hs⟩ := HOFF.out _ rfl
     simp only at ho hs
     subst ho hs
     exact ⟨g, rfl⟩
   have hcp : (c = pos) = False := by simp; omega
   have hw1 : IntKind.i64.wrap ((pos : Int) + 2) = (pos : Int) + 2 := IntWalk.i64_in _ (by omega)
   have b1 : (0 : Int) ≤ (pos : Int) := by omega
   have b2 : (pos : Int) ≤ (pos : Int) + 2 := by omega
   have b3 : (pos : Int) + 2 ≤ (c : Int) := by omega
   have b4 : ((pos : Int) + 2).toNat - pos = 2 := by omega
   have hl2 : ((bs.drop pos).take 2).length = 2 := by simp only [List.length_take, List.length_drop]; omega
   obtain ⟨n, hn, hn2⟩ : ∃ n : Nat, leV ((bs.drop pos).take 2) = n ∧ n < 65536 := by
    have := leV_bd ((bs.drop pos).take 2) (fun z hz => HB.out z (List.mem_of_mem_drop (List.mem_of_mem_take hz)))
    rw [hl2] at this
    have h2 := this.2
    simp at h2
    exact ⟨(leV ((bs.drop pos).take 2)).toNat, by omega, by omega⟩
   have hT : textT (bs.drop pos) k = if k < n then ([], 0, 11) else if (bs.length : Int) - pos - 2 < n then ([], 0, 10) else (((bs.drop pos).drop 2).take n, 2 + n, 0) := by
    unfold textT
    rw [if_neg h1, hn]
    by_cases a1 : k < n
    ·rw [if_pos a1, if_pos a1]
    ·rw [if_neg a1, if_neg a1]
     simp only [List.length_drop, Int.toNat_natCast]
     by_cases a2 : (bs.length : Int) - pos - 2 < n
     ·rw [if_pos a2, if_pos (by omega)]
     ·rw [if_neg a2, if_neg (by omega)]
   rw [hT]
   clear hT
   have hv := fun w' (hrd : Rd w' (some ⟨g, pos, none⟩) ((bs.drop pos).take 2)) => qvalue_any (some ⟨g, pos, none⟩) (c - pos) ((bs.drop pos).take 2) (fun z hz => HB.out z (List.mem_of_mem_drop (List.mem_of_mem_take hz))) (by omega) w' hrd
   rw [hl2, hn] at hv
   have HV := hid hv
   have hr2 := (HR.out.drop pos).take 2
   rw [Nat.zero_add] at hr2
   have HR2 := hid hr2
   clear hv hr2 hn h1 hl2
   have HS := hid hs0
   clear hs0
   by_cases a1 : k < n
   ·rw [if_pos a1]
    go_enter Tryz.func104, Tryz.ntmps104
    go_wp2_with fail
    go_quiet (fail)
    go_wp2_with fail
    have HV1 := hid (HV.out (w.drewN nq).drew ((HR2.out.drewN nq).drew))
    have HV2 := hid (HV.out (w.drewN (nq + 1)) (HR2.out.drewN (nq + 1)))
    go_region_held3 (fun w' => w'.cell? ⟨b, 0, none⟩ = some (.slice (some ⟨g, 0, none⟩) bs.length c) ∧ w'.cell? ⟨b, 1, none⟩ = some (.int .i64 pos)) (first | go_keep | (exact ⟨c0, c1⟩) | (exact ⟨(hf2.cell (p := ⟨b, 0, none⟩) hlt List.not_mem_nil).trans c0, (hf2.cell (p := ⟨b, 1, none⟩) hlt List.not_mem_nil).trans c1⟩)) ((go_at_call 124; (first | (with_reducible refine HV1.out.mono ?_) | (with_reducible refine HV2.out.mono ?_)); rintro e w2 ⟨rfl, hf2⟩))
    have F2 := hid ((Frm.refl [] w).drewN (nq + 1) |>.trans (T := []) hf2 (by simp))
    have q1 := (F2.out.cell (p := ⟨b, 1, none⟩) hlt List.not_mem_nil).trans c1
    have q0 := (F2.out.cell (p := ⟨b, 0, none⟩) hlt List.not_mem_nil).trans c0
    have q2 := (F2.out.cell (p := ⟨b, 2, none⟩) hlt List.not_mem_nil).trans c2
    have qf1 := (F2.out.frozen (p := ⟨b, 1, none⟩) hlt List.not_mem_nil).trans f1
    have qf2 := (F2.out.frozen (p := ⟨b, 2, none⟩) hlt List.not_mem_nil).trans f2
    clear hf2
    go_wp2_with fail
    go_returns
    exact ⟨congrArg (fun s => Ending.returned (Value.string s)) HS.out.symm, (HW.out.kept F2.out (by simp) (by simp)).setErr 11, (F2.out.mono (by simp)).setCell _ _ (by simp)⟩
   ·rw [if_neg a1]
    by_cases a2 : (bs.length : Int) - pos - 2 < n
    ·rw [if_pos a2]
     go_enter Tryz.func104, Tryz.ntmps104
     go_wp2_with fail
     go_quiet (fail)
     go_wp2_with fail
     have HV1 := hid (HV.out (w.drewN nq).drew ((HR2.out.drewN nq).drew))
     have HV2 := hid (HV.out (w.drewN (nq + 1)) (HR2.out.drewN (nq + 1)))
     go_region_held3 (fun w' => w'.cell? ⟨b, 0, none⟩ = some (.slice (some ⟨g, 0, none⟩) bs.length c) ∧ w'.cell? ⟨b, 1, none⟩ = some (.int .i64 pos)) (first | go_keep | (exact ⟨c0, c1⟩) | (exact ⟨(hf2.cell (p := ⟨b, 0, none⟩) hlt List.not_mem_nil).trans c0, (hf2.cell (p := ⟨b, 1, none⟩) hlt List.not_mem_nil).trans c1⟩)) ((go_at_call 124; (first | (with_reducible refine HV1.out.mono ?_) | (with_reducible refine HV2.out.mono ?_)); rintro e w2 ⟨rfl, hf2⟩))
     have F2 := hid ((Frm.refl [] w).drewN (nq + 1) |>.trans (T := []) hf2 (by simp))
     have q1 := (F2.out.cell (p := ⟨b, 1, none⟩) hlt List.not_mem_nil).trans c1
     have q0 := (F2.out.cell (p := ⟨b, 0, none⟩) hlt List.not_mem_nil).trans c0
     have q2 := (F2.out.cell (p := ⟨b, 2, none⟩) hlt List.not_mem_nil).trans c2
     have qf1 := (F2.out.frozen (p := ⟨b, 1, none⟩) hlt List.not_mem_nil).trans f1
     have qf2 := (F2.out.frozen (p := ⟨b, 2, none⟩) hlt List.not_mem_nil).trans f2
     clear hf2
     go_wp2_with fail
     go_quiet (fail)
     go_wp2_with fail
     go_returns
     exact ⟨congrArg (fun s => Ending.returned (Value.string s)) HS.out.symm, (HW.out.kept (F2.out.drewN nq) (by simp) (by simp)).setErr 10, ((F2.out.drewN nq).mono (by simp)).setCell _ _ (by simp)⟩
    ·rw [if_neg a2]
     go_enter Tryz.func104, Tryz.ntmps104
     go_wp2_with fail
     go_quiet (fail)
     go_wp2_with fail
     have HV1 := hid (HV.out (w.drewN nq).drew ((HR2.out.drewN nq).drew))
     have HV2 := hid (HV.out (w.drewN (nq + 1)) (HR2.out.drewN (nq + 1)))
     go_region_held3 (fun w' => w'.cell? ⟨b, 0, none⟩ = some (.slice (some ⟨g, 0, none⟩) bs.length c) ∧ w'.cell? ⟨b, 1, none⟩ = some (.int .i64 pos)) (first | go_keep | (exact ⟨c0, c1⟩) | (exact ⟨(hf2.cell (p := ⟨b, 0, none⟩) hlt List.not_mem_nil).trans c0, (hf2.cell (p := ⟨b, 1, none⟩) hlt List.not_mem_nil).trans c1⟩)) ((go_at_call 124; (first | (with_reducible refine HV1.out.mono ?_) | (with_reducible refine HV2.out.mono ?_)); rintro e w2 ⟨rfl, hf2⟩))
     have F2 := hid ((Frm.refl [] w).drewN (nq + 1) |>.trans (T := []) hf2 (by simp))
     have q1 := (F2.out.cell (p := ⟨b, 1, none⟩) hlt List.not_mem_nil).trans c1
     have q0 := (F2.out.cell (p := ⟨b, 0, none⟩) hlt List.not_mem_nil).trans c0
     have q2 := (F2.out.cell (p := ⟨b, 2, none⟩) hlt List.not_mem_nil).trans c2
     have qf1 := (F2.out.frozen (p := ⟨b, 1, none⟩) hlt List.not_mem_nil).trans f1
     have qf2 := (F2.out.frozen (p := ⟨b, 2, none⟩) hlt List.not_mem_nil).trans f2
     clear hf2
     go_wp2_with fail
     go_quiet (fail)
     go_wp2_with fail
     have hwn : IntKind.i64.wrap (n : Int) = (n : Int) := IntWalk.i64_in _ (by omega)
     have hw3 : IntKind.i64.wrap ((pos : Int) + 2 + (n : Int)) = (pos : Int) + 2 + (n : Int) := IntWalk.i64_in _ (by omega)
     have b5 : (0 : Int) ≤ (pos : Int) + 2 := by omega
     have b6 : (pos : Int) + 2 ≤ (pos : Int) + 2 + (n : Int) := by omega
     have b7 : (pos : Int) + 2 + (n : Int) ≤ (c : Int) := by omega
     have hpn : pos + 2 + n ≤ bs.length := by omega
     have hrd3 : Rd w2 (if c = pos + 2 then (some ⟨g, 0, none⟩ : Option Addr) else some ⟨g, pos + 2, none⟩) (((bs.drop pos).drop 2).take n) := by
      by_cases hc2 : c = pos + 2
      ·exact Or.inl (by rw [List.take_eq_nil_iff]; left; omega)
      ·rw [if_neg hc2]
       have := ((((HR.out.kept F2.out (by simp)).drop pos).drop 2).take n)
       rwa [Nat.zero_add] at this
     have hln : (((bs.drop pos).drop 2).take n).length = n := by simp only [List.length_take, List.length_drop]; omega
     have hcv := fun m => conv_any (P := Tryz.prog) (w := w2.drewN m) 24 5 9 Tryz.underlying24 Tryz.underlying5 Tryz.underlying9 (hrd3.drewN m) (c - (pos + 2)) hln
     have hcd := fun m => conv_any (P := Tryz.prog) (w := (w2.drewN m).drew) 24 5 9 Tryz.underlying24 Tryz.underlying5 Tryz.underlying9 (hrd3.drewN m).drew (c - (pos + 2)) hln
     obtain ⟨S, hS⟩ := eX (strOfNums (((bs.drop pos).drop 2).take n))
     rw [hS] at hcv hcd
     have HSS := hid hS
     clear hS hrd3 hln b4
     have b8 : ((pos : Int) + 2).toNat = pos + 2 := by omega
     have b9 : ((pos : Int) + 2 + (n : Int)).toNat = pos + 2 + n := by omega
     rw [hwn]
     go_quiet (fail)
     clear hcv hcd
     generalize (if c = pos + 2 then (some ⟨g, 0, none⟩ : Option Addr) else some ⟨g, pos + 2, none⟩) = pp
     go_wp2_with fail
     go_returns
     have e3 : ((pos + (2 + n) : Nat) : Int) = (pos : Int) + 2 + (n : Int) := by omega
     have hq := fun m => (HW.out.kept (F2.out.drewN m) (by simp) (by simp)).setPos (n := pos + (2 + n)) (by omega)
     rw [e3] at hq
     have e4 : S = strOfNums (List.take n (List.drop (pos + 2) bs)) := by rw [← HSS.out, List.drop_drop]
     exact ⟨congrArg (fun s => Ending.returned (Value.string s)) e4, hq _, ((F2.out.drewN _).mono (by simp)).setCell _ _ (by simp)⟩
 ·rw [readS_err _ _ _ _ he]
  have HS := hid hs0
  clear hs0
  have hb : (err != 0) = true := by simpa using he
  go_enter Tryz.func104, Tryz.ntmps104
  go_wp2_with fail
  go_returns
  exact ⟨congrArg (fun s => Ending.returned (Value.string s)) HS.out.symm, HW.out.kept (Frm.refl [] _) (by simp) (by simp), Frm.refl _ _⟩
end
end Go.Proofs.YtajfjkfnmmfhmaaGreatDoor
