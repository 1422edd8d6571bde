/- Records: Records. -/
import Derived.Test.YtajfjkfnmmfhmaaDoorQaz
namespace Go.Proofs.YtajfjkfnmmfhmaaDoor
section
open Go.RowKit Go.Lib
set_option maxRecDepth 100000

/-- What is left behind so many records, and the seal there. -/
def rsS (bs : List Int) : Nat → List Int × S4
  | 0 => (bs, S4.z)
  | t + 1 => ((rsS bs t).1.drop (37 + spM (rsS bs t).1).toNat, sealR (rsS bs t).2 (dcH (rsS bs t).1))
theorem rsS_Bd (bs : List Int) : ∀ t, (rsS bs t).2.Bd
  | 0 => S4.z_Bd
  | _ + 1 => shaD_Bd _
theorem rsS_bd {bs : List Int} (hb : ∀ z ∈ bs, 0 ≤ z ∧ z < 256) : ∀ t, ∀ z ∈ (rsS bs t).1, 0 ≤ z ∧ z < 256
  | 0 => hb
  | t + 1 => fun z hz => rsS_bd hb t z (List.mem_of_mem_drop hz)
theorem rsS_le (bs : List Int) : ∀ t, (rsS bs t).1.length ≤ bs.length
  | 0 => Nat.le_refl _
  | t + 1 => by have h := rsS_le bs t; show ((rsS bs t).1.drop _).length ≤ _; rw [List.length_drop]; omega
/-- Up to there every record was taken up. -/
def rsOk (bs : List Int) (t : Nat) : Prop := ∀ j, j < t → (rsS bs j).1 ≠ [] ∧ dcE (rsS bs j).2 (rsS bs j).1 = 0
/-- The record at a place says what was taken up there. -/
def rkOf (bs : List Int) (j : Nat) (x : Rk) : Prop := x.r.core = ((tvK (spK (rsS bs j).1) (dcB (rsS bs j).1)).rc (spK (rsS bs j).1)).core ∧ x.P = (tvK (spK (rsS bs j).1) (dcB (rsS bs j).1)).p ∧ x.K = (tvK (spK (rsS bs j).1) (dcB (rsS bs j).1)).k ∧ x.D = (tvK (spK (rsS bs j).1) (dcB (rsS bs j).1)).d
def rowsRk : List Rk → List Value
  | [] => []
  | x :: l => x.r.arr.toList ++ rowsRk l
theorem rowsRk_len : ∀ L : List Rk, (rowsRk L).length = L.length * 13
  | [] => rfl
  | x :: l => by rw [rowsRk, List.length_append, rowsRk_len l, List.length_cons]; simp only [Rc.arr, List.length_cons, List.length_nil]; omega
theorem rowsRk_app : ∀ (A B : List Rk), rowsRk (A ++ B) = rowsRk A ++ rowsRk B
  | [], _ => rfl
  | x :: l, B => by simp only [List.cons_append, rowsRk, rowsRk_app l B, List.append_assoc]
theorem rowsRk_at : ∀ (L : List Rk) (i : Nat) (x : Rk), L[i]? = some x → ∀ j u, x.r.arr[j]? = some u → (rowsRk L)[i * 13 + j]? = some u
  | [], i, x, h => by simp at h
  | y :: l, 0, x, h => fun j u hu => by
    simp at h; subst h
    have hj := (Array.getElem?_eq_some_iff.1 hu).1
    rw [rowsRk, Nat.zero_mul, Nat.zero_add, List.getElem?_append_left (by simpa using hj)]
    simpa using hu
  | y :: l, i + 1, x, h => fun j u hu => by
    have ih := rowsRk_at l i x (by simpa using h) j u hu
    rw [rowsRk, List.getElem?_append_right (by simp only [Rc.arr, List.length_cons, List.length_nil]; omega)]
    rw [show (i + 1) * 13 + j - y.r.arr.toList.length = i * 13 + j by simp only [Rc.arr, List.length_cons, List.length_nil]; omega]
    exact ih
/-- What is known of the records of a list, their blocks being among these. -/
def RkOk (w : World) (A : List Nat) (bs : List Int) (L : List Rk) : Prop := ∀ j x, L[j]? = some x → RcOk w x.r x.P x.K x.D ∧ RcA A x.r x.P x.K x.D ∧ x.r.name.size ≤ 140737488355328 ∧ rkOf bs j x
theorem RkOk.keeps {w w' : World} {A : List Nat} {bs : List Int} {L : List Rk} (h : RkOk w A bs L) (hk : Keeps A w w') : RkOk w' A bs L := fun j x hx => by
  obtain ⟨h1, h2, h3, h4⟩ := h j x hx
  exact ⟨h1.keeps h2 hk, h2, h3, h4⟩
theorem RkOk.snoc {w : World} {A B : List Nat} {bs : List Int} {L : List Rk} {y : Rk} (h : RkOk w A bs L) (h1 : RcOk w y.r y.P y.K y.D) (h2 : RcA B y.r y.P y.K y.D) (h3 : y.r.name.size ≤ 140737488355328) (h4 : rkOf bs L.length y) : RkOk w (A ++ B) bs (L ++ [y]) := fun j x hx => by
  by_cases hj : j < L.length
  · rw [List.getElem?_append_left hj] at hx
    obtain ⟨k1, k2, k3, k4⟩ := h j x hx
    exact ⟨k1, k2.more (fun k hk => List.mem_append_left _ hk), k3, k4⟩
  · rw [List.getElem?_append_right (by omega)] at hx
    have hj2 : j - L.length = 0 := by
      rcases Nat.eq_zero_or_pos (j - L.length) with h0 | h0
      · exact h0
      · rw [List.getElem?_eq_none (by simp; omega)] at hx; cases hx
    rw [hj2] at hx
    simp at hx
    subst hx
    obtain rfl : j = L.length := by omega
    exact ⟨h1, h2.more (fun k hk => List.mem_append_right _ hk), h3, h4⟩
/-- What Records answers and leaves. -/
def RcsP (w : World) (bs : List Int) (e : Ending) (w' : World) : Prop := Frm [] w w' ∧ ((1048576 < bs.length ∧ e = .returned (.tuple #[.slice none 0 0, .int .i64 2])) ∨ (bs.length ≤ 1048576 ∧ ∃ t, rsOk bs t ∧ (((rsS bs t).1 ≠ [] ∧ dcE (rsS bs t).2 (rsS bs t).1 ≠ 0 ∧ e = .returned (.tuple #[.slice none 0 0, .int .i64 (dcE (rsS bs t).2 (rsS bs t).1)])) ∨
  ((rsS bs t).1 = [] ∧ ∃ p c L, e = .returned (.tuple #[.slice p t c, .int .i64 0]) ∧ L.length = t ∧ t ≤ 1048576 ∧ RdRk w' p L ∧ ∀ j, j < t → rkOf bs j (rkA L j)))))
theorem rd_part {w : World} {q : Option Addr} {zs : List Int} {m d lo : Nat} (h : Rd w q zs) (hm : zs.length = m) (hl : lo ≤ m) (hd : m ≤ d) : Rd w (partAt q d lo 1) (zs.drop lo) := by
  by_cases h0 : zs.drop lo = []
  · exact Or.inl h0
  have hlt : lo < m := by
    rcases Nat.lt_or_ge lo m with h1 | h1
    · exact h1
    · exact absurd (List.drop_of_length_le (by omega)) h0
  rcases h with h1 | ⟨g, o, rfl, hc⟩
  · rw [h1] at h0; simp at h0
  · rw [part1R g o d lo (by omega)]
    exact Rd.drop (Or.inr ⟨g, o, rfl, hc⟩) lo
theorem blk_part {q : Option Addr} {d lo k : Nat} (h : k ∈ blk (partAt q d lo 1)) : k ∈ blk q := by
  unfold partAt at h
  split at h
  · exact h
  · cases q with
    | none => exact h
    | some a =>
      obtain ⟨g, o, sp⟩ := a
      simp only [Option.map_some, blk, List.mem_singleton] at h ⊢
      rw [h]
      unfold Addr.add
      split <;> rfl
theorem RcOwn.foot {w : World} {r : Rc} {P : List Pr} {K D : List Int} {lo : Nat} (h : RcOwn w r P K D lo) : ∃ B, RcA B r P K D ∧ ∀ k ∈ B, lo ≤ k ∧ k < w.heap.size := by
  refine ⟨blk r.pp ++ blk r.kp ++ blk r.dp, ⟨fun _ k hk => by simp [hk], fun _ k hk => by simp [hk], fun _ k hk => by simp [hk]⟩, fun k hk => ?_⟩
  rcases List.mem_append.1 hk with hk | hk
  · rcases List.mem_append.1 hk with hk | hk
    · exact ⟨h.pw k hk, ownsRow_low h.po k hk⟩
    · exact ⟨h.kw k hk, ownsRow_low h.ko k hk⟩
  · have e : ∀ dp : Option Addr, k ∈ blk dp → (Value.slice dp r.dl r.dc).ownBlock = some k := fun dp h => by cases dp <;> simp_all [blk, Value.ownBlock]
    exact ⟨h.dw k hk, (World.ownsRow.lt h.ow k (e _ hk)).2⟩
theorem infoRcR : (Tryd.prog.info? 30).map (fun i => (i.zero, i.size, i.bytes)) = some (some (.agg #[.int .i64 0, .string ⟨#[]⟩, .int .i64 0, .int .i64 0, .int .i64 0, .int .i64 0, .string ⟨#[]⟩, .slice none 0 0, .int .i64 0, .int .i64 0, .int .i64 0, .slice none 0 0, .slice none 0 0]), 13, 168) := by kernel_rfl
/-- Each record takes 37 bytes at least. -/
theorem rsS_many {bs : List Int} (hb : ∀ z ∈ bs, 0 ≤ z ∧ z < 256) : ∀ t, rsOk bs t → (rsS bs t).1.length + t ≤ bs.length
  | 0, _ => by show bs.length + 0 ≤ _; omega
  | t + 1, h => by
    have ih := rsS_many hb t (fun j hj => h j (by omega))
    have h1 := (h t (by omega)).1
    have h2 := spM_bd (rsS_bd hb t)
    have h3 : 0 < (rsS bs t).1.length := List.length_pos_iff.2 h1
    show ((rsS bs t).1.drop _).length + (t + 1) ≤ _
    rw [List.length_drop]
    omega
theorem dcE_len {a : S4} {bs : List Int} (h : dcE a bs = 0) : 37 + spM bs ≤ (bs.length : Int) ∧ spM bs ≤ 2048 := by
  have hE : spE bs = 0 := by
    unfold dcE at h
    split at h
    · rename_i h1; exact absurd h h1
    · rename_i h1; simpa using h1
  unfold spE at hE
  split at hE
  · omega
  · split at hE
    · omega
    · split at hE
      · omega
      · omega
set_option maxHeartbeats 25600000 in
theorem records_any (p : Option Addr) (n c : Nat) (bs : List Int) (w : World) (hn : bs.length = n) (hnc : n ≤ c) (hnb : n ≤ 140737488355328) (hrd : Rd w p bs) (hb : ∀ z ∈ bs, 0 ≤ z ∧ z < 256) (hpr : Primes w) :
    Calls Tryd.prog 8 #[.slice p n c] w (RcsP w bs) := by
  obtain ⟨PO, hPO⟩ : ∃ PO : Ending → World → Prop, RcsP w bs = PO := ⟨_, rfl⟩
  rw [hPO]
  have HP := hid (show ∀ e w', RcsP w bs e w' → PO e w' from fun e w' h => by rw [← hPO]; exact h)
  have HB := hid hb
  have HPR := hid hpr
  have HRD := hid hrd
  have HLN := hid hn
  have hrow := heap_alloc_new w (.cells #[.int .u64 0, .int .u64 0, .int .u64 0, .int .u64 0] 39)
  have hfs : Frm [] w (w.alloc (.cells #[.int .u64 0, .int .u64 0, .int .u64 0, .int .u64 0] 39)) := (Frm.refl _ _).alloc _
  obtain ⟨ws, hws⟩ : ∃ z, w.alloc (.cells #[.int .u64 0, .int .u64 0, .int .u64 0, .int .u64 0] 39) = z := ⟨_, rfl⟩
  obtain ⟨xs, hbs⟩ : ∃ z, w.heap.size = z := ⟨_, rfl⟩
  rw [hws, hbs] at hrow
  rw [hws] at hfs
  have HFS := hid hfs
  have HROW := hid hrow
  have HWS := hid hws
  have HBS := hid hbs
  clear hPO hn hrd hb hpr hrow hfs hws hbs
  go_enter Tryd.func8, Tryd.ntmps8
  by_cases hlong : 1048576 < n
  case pos =>
    have i1 : (1048576 : Int) < (n : Int) := by omega
    have HX := hid (HP.out _ _ ⟨Frm.refl _ _, Or.inl ⟨by rw [HLN.out]; exact hlong, rfl⟩⟩)
    clear hlong
    go_wp2_with fail
    first | go_returns | skip
    exact HX.out
  have i1 : ¬ (1048576 : Int) < (n : Int) := by omega
  have HN2 : Hid (bs.length ≤ 1048576) := hid (by rw [HLN.out]; omega)
  have hn3 : n ≤ 1048576 := by omega
  clear hlong
  go_upto_region 5 with fail
  first | rw [HWS.out] | skip
  first | rw [HBS.out] | skip
  go_loopw [0, 4] (fun bv0 lv wr => ∃ (t m d lc : Nat) (q lp : Option Addr) (L : List Rk) (A : List Nat), m ≤ n ∧ m ≤ d ∧ t ≤ 1048576 ∧ bv0 = .slice q m d ∧ lv = .slice lp t lc ∧ Hid (rsOk bs t) ∧ Hid ((rsS bs t).1.length = m) ∧ Hid (Rd wr q (rsS bs t).1) ∧ Hid (∀ k ∈ blk q, k < w.heap.size ∨ (rsS bs t).1 = []) ∧ Hid (wr.heap[xs]? = some (.cells (rsS bs t).2.arr 39 (0, 0))) ∧ Hid (L.length = t) ∧ Hid (wr.ownsRow 0 30 13 (.slice lp t lc) t (rowsRk L)) ∧ Hid (∀ k ∈ blk lp, xs < k) ∧ Hid (RkOk wr A bs L) ∧ Hid (∀ k ∈ A, k < wr.heap.size ∧ xs < k ∧ k ∉ blk lp) ∧ Hid (Frm [] w wr)) (fun bv0 _ _ => match bv0 with | .slice _ m _ => m | _ => 0)
  case atStart => exact ⟨0, n, c, 0, p, none, [], [], Nat.le_refl _, hnc, by omega, rfl, rfl, hid (fun j hj => by omega), HLN, hid (HRD.out.kept HFS.out (by simp)), hid (fun k hk => by
    rcases HRD.out with h | ⟨g, o, he, hc⟩
    · exact Or.inr h
    · by_cases h0 : bs = []
      · exact Or.inr h0
      · rw [he] at hk; simp [blk] at hk; subst hk
        exact Or.inl (World.block_lt_of_cell? w _ (hc 0 (List.length_pos_iff.2 h0)))), hid HROW.out, hid rfl, hid (World.ownsRow_nil _ _ _ _), hid (by simp [blk]), hid (fun j x h => by simp at h), hid (by simp), HFS⟩
  case round =>
    obtain ⟨t, m, d, lc, q, lp, L, A, hmn, hmd, htl, rfl, rfl, hok, hlen, hrd, hqb, hsr, hll, how, hnw, hrk, hab, hf⟩ := hrel
    have HOK := hid hok.out
    have HLEN := hid hlen.out
    have HRQ := hid hrd.out
    have HQB := hid hqb.out
    have HSR := hid hsr.out
    have HLL := hid hll.out
    have HOW := hid how.out
    have HNW := hid hnw.out
    have HRK := hid hrk.out
    have HAB := hid hab.out
    have HF := hid hf.out
    clear hok hlen hrd hqb hsr hll how hnw hrk hab hf
    by_cases hz : 0 < m
    case neg =>
      obtain rfl : m = 0 := by omega
      have HX := hid (HP.out (.returned (.tuple #[.slice lp t lc, .int .i64 0])) wr ⟨HF.out, Or.inr ⟨HN2.out, t, HOK.out, Or.inr ⟨List.eq_nil_of_length_eq_zero HLEN.out, lp, lc, L, rfl, HLL.out, htl, (by
        rcases rv_of1 HOW.out (by rw [rowsRk_len, HLL.out]) with h | ⟨g, o, he, hc⟩
        · refine Or.inl ?_
          have h2 := rowsRk_len L
          rw [h] at h2
          exact List.eq_nil_of_length_eq_zero (by simp at h2; omega)
        · refine Or.inr ⟨g, o, he, fun i x hx => ?_⟩
          obtain ⟨k1, _, k3, _⟩ := HRK.out i x hx
          exact ⟨fun j u hu => by rw [Nat.add_assoc]; exact hc _ _ (rowsRk_at L i x hx j u hu), k1, k3⟩), fun j hj => (HRK.out j _ (rkA_get (by rw [HLL.out]; exact hj))).2.2.2⟩⟩⟩)
      clear hz
      go_wp2_with fail
      first | go_returns | skip
      exact HX.out
    have i2 : (0 : Int) < (m : Int) := by omega
    have HNE : Hid ((rsS bs t).1 ≠ []) := hid (fun h => by have := HLEN.out; rw [h] at this; simp at this; omega)
    have hbd := rsS_Bd bs t
    have hzb := rsS_bd HB.out t
    have HDC := hid (fun W (hf : Frm [] wr W) => decodeR_any q m d (rsS bs t).1 (rsS bs t).2 hbd W HLEN.out hmd (by omega) (HRQ.out.kept hf (by simp)) hzb ((HPR.out.kept HF.out).kept hf))
    have HNX : Hid (rsS bs (t + 1) = ((rsS bs t).1.drop (37 + spM (rsS bs t).1).toNat, sealR (rsS bs t).2 (dcH (rsS bs t).1))) := hid rfl
    have HKO : Hid (∀ x : Rk, x.r.core = ((tvK (spK (rsS bs t).1) (dcB (rsS bs t).1)).rc (spK (rsS bs t).1)).core → x.P = (tvK (spK (rsS bs t).1) (dcB (rsS bs t).1)).p → x.K = (tvK (spK (rsS bs t).1) (dcB (rsS bs t).1)).k → x.D = (tvK (spK (rsS bs t).1) (dcB (rsS bs t).1)).d → rkOf bs t x) := hid (fun x h1 h2 h3 h4 => ⟨h1, h2, h3, h4⟩)
    have HOT : Hid (dcE (rsS bs t).2 (rsS bs t).1 = 0 → rsOk bs (t + 1)) := hid (fun h j hj => by
      by_cases hj2 : j < t
      · exact HOK.out j hj2
      · obtain rfl : j = t := by omega
        exact ⟨HNE.out, h⟩)
    have HMN : Hid (rsOk bs (t + 1) → t + 1 ≤ 1048576) := hid (fun h => by have h1 := rsS_many HB.out (t + 1) h; have h2 := HN2.out; omega)
    have HEX : Hid (∀ W, dcE (rsS bs t).2 (rsS bs t).1 ≠ 0 → Frm [] w W → PO (.returned (.tuple #[.slice none 0 0, .int .i64 (dcE (rsS bs t).2 (rsS bs t).1)])) W) := hid (fun W h1 h2 => HP.out _ _ ⟨h2, Or.inr ⟨HN2.out, t, HOK.out, Or.inl ⟨HNE.out, h1, rfl⟩⟩⟩)
    have hnml := tvK_name (spK (rsS bs t).1) (dcB (rsS bs t).1)
    have hbl : (dcB (rsS bs t).1).length ≤ 1048576 := by unfold dcB; rw [List.length_drop, List.length_take]; have := rsS_le bs t; have := HN2.out; omega
    obtain ⟨RB, hRB⟩ : ∃ z, (rsS bs t).1 = z := ⟨_, rfl⟩
    obtain ⟨SS, hSS⟩ : ∃ z, (rsS bs t).2 = z := ⟨_, rfl⟩
    rw [hRB] at HLEN HRQ HQB HNE HDC HNX HKO HOT HEX hzb hnml hbl
    rw [hSS] at HSR HDC HNX HOT HEX hbd
    obtain ⟨SX, hSX⟩ : ∃ z, SS = z := ⟨_, rfl⟩
    have HDX : Hid (∀ W (hf : Frm [] wr W), Calls Tryd.prog 11 #[.slice q m d, .agg SS.arr] W (DecP W SX RB)) := hid (fun W hf => by rw [← hSX]; exact HDC.out W hf)
    rw [hSX] at HNX HOT HEX
    clear hRB hSS hSX HDC
    obtain ⟨s0, s1, s2, s3⟩ := SS
    unfold S4.arr at HDX HSR
    simp only at HDX HSR
    have p0 : wr.cell? ⟨xs, 0, none⟩ = some (.int .u64 s0) := by rw [cell_of_row _ _ _ _ _ _ HSR.out]; rfl
    have p1 : wr.cell? ⟨xs, 1, none⟩ = some (.int .u64 s1) := by rw [cell_of_row _ _ _ _ _ _ HSR.out]; rfl
    have p2 : wr.cell? ⟨xs, 2, none⟩ = some (.int .u64 s2) := by rw [cell_of_row _ _ _ _ _ _ HSR.out]; rfl
    have p3 : wr.cell? ⟨xs, 3, none⟩ = some (.int .u64 s3) := by rw [cell_of_row _ _ _ _ _ _ HSR.out]; rfl
    go_wp2_with fail
    refine (HDX.out wr (Frm.refl _ _)).mono ?_
    rintro e w2 hd
    by_cases hde : dcE SX RB = 0
    case neg =>
      obtain ⟨hf2, rfl⟩ := DecP.bad hd rfl hde
      have hbE : (dcE SX RB != 0) = true := by rw [bne_iff_ne]; exact hde
      have HX := hid (fun W (hf : Frm [] w W) => HEX.out W hde hf)
      have HF2 : Hid (Frm [] w w2) := hid (HF.out.trans hf2 (by simp))
      obtain ⟨E, hE⟩ : ∃ z, dcE SX RB = z := ⟨_, rfl⟩
      rw [hE] at hbE HX ⊢
      unfold Rc.z Rc.arr S4.z S4.arr
      simp only
      clear hd hf2 hde hE HDX p0 p1 p2 p3
      go_wp2_with fail
      first | go_returns | skip
      exact HX.out _ ((HF2.out.alloc _).alloc _)
    obtain ⟨hf2, r, rfl, hcr, hown⟩ := DecP.good hd hde
    have hlen2 := dcE_len hde
    have hsp0 := spM_bd hzb
    have HOT2 := hid (HOT.out hde)
    have htl2 := HMN.out HOT2.out
    obtain ⟨dM, hdM⟩ : ∃ z, (37 + spM RB).toNat = z := ⟨_, rfl⟩
    have h37 : 37 + spM RB = (dM : Int) := by omega
    rw [hdM] at HNX
    rw [h37] at hlen2 ⊢
    have hdm : dM ≤ m ∧ 37 ≤ dM := by have := HLEN.out; omega
    obtain ⟨S, hS⟩ : ∃ z, sealR SX (dcH RB) = z := ⟨_, rfl⟩
    rw [hS] at HNX ⊢
    have hns : r.name.size ≤ 140737488355328 := by
      have h0 : r.core.name = (tvK (spK RB) (dcB RB)).c.name := by rw [hcr]; rfl
      have h1 : r.name = (tvK (spK RB) (dcB RB)).c.name := h0
      rw [h1]; omega
    have HNEW : Hid (rkOf bs t ⟨r, (tvK (spK RB) (dcB RB)).p, (tvK (spK RB) (dcB RB)).k, (tvK (spK RB) (dcB RB)).d⟩) := hid (HKO.out _ hcr rfl rfl rfl)
    obtain ⟨VP, hVP⟩ : ∃ z, (tvK (spK RB) (dcB RB)).p = z := ⟨_, rfl⟩
    obtain ⟨VK, hVK⟩ : ∃ z, (tvK (spK RB) (dcB RB)).k = z := ⟨_, rfl⟩
    obtain ⟨VD, hVD⟩ : ∃ z, (tvK (spK RB) (dcB RB)).d = z := ⟨_, rfl⟩
    rw [hVP, hVK, hVD] at hown HNEW
    have HOWN := hid hown
    have HF2 := hid hf2
    have HNS := hid hns
    clear hd hf2 hcr hown hns hlen2 hsp0 hde hdM hS hVP hVK hVD HDX HOT HEX HKO hnml hbl hzb hbd p0 p1 p2 p3 HMN
    obtain ⟨R, hR⟩ : ∃ z, r = z := ⟨_, rfl⟩
    have HRA : Hid (r.arr = R.arr) := hid (by rw [hR])
    rw [hR] at HNEW HOWN HNS
    clear hR
    obtain ⟨kind, name, typ, frm, guid, origin, snap, pp, pn, pc, obj, at_, many, kp, kn, kc, dp, dl, dc⟩ := r
    obtain ⟨t0, t1, t2, t3⟩ := S
    have HRA2 : Hid (R.arr.toList = [.int .i64 kind, .string name, .int .i64 typ, .int .i64 frm, .int .i64 guid, .int .i64 origin, .string snap, .slice pp pn pc, .int .i64 obj, .int .i64 at_, .int .i64 many, .slice kp kn kc, .slice dp dl dc]) := hid (by rw [← HRA.out]; rfl)
    clear HRA
    unfold Rc.arr
    unfold S4.arr
    simp only
    have hq6 := heap_alloc_new w2 (.cells #[.int .i64 kind, .string name, .int .i64 typ, .int .i64 frm, .int .i64 guid, .int .i64 origin, .string snap, .slice pp pn pc, .int .i64 obj, .int .i64 at_, .int .i64 many, .slice kp kn kc, .slice dp dl dc] 30)
    have hf6 : Frm [] w2 (w2.alloc (.cells #[.int .i64 kind, .string name, .int .i64 typ, .int .i64 frm, .int .i64 guid, .int .i64 origin, .string snap, .slice pp pn pc, .int .i64 obj, .int .i64 at_, .int .i64 many, .slice kp kn kc, .slice dp dl dc] 30)) := (Frm.refl _ _).alloc _
    obtain ⟨w6, hw6⟩ : ∃ z, w2.alloc (.cells #[.int .i64 kind, .string name, .int .i64 typ, .int .i64 frm, .int .i64 guid, .int .i64 origin, .string snap, .slice pp pn pc, .int .i64 obj, .int .i64 at_, .int .i64 many, .slice kp kn kc, .slice dp dl dc] 30) = z := ⟨_, rfl⟩
    obtain ⟨bx, hbx⟩ : ∃ z, w2.heap.size = z := ⟨_, rfl⟩
    have hb1 : w6.heap.size = bx + 1 := by rw [← hw6, ← hbx]; simp
    rw [hw6, hbx] at hq6
    rw [hw6] at hf6
    have hq7 := heap_alloc_new w6 (.cells #[.int .u64 t0, .int .u64 t1, .int .u64 t2, .int .u64 t3] 39)
    have hf7 : Frm [] w6 (w6.alloc (.cells #[.int .u64 t0, .int .u64 t1, .int .u64 t2, .int .u64 t3] 39)) := (Frm.refl _ _).alloc _
    obtain ⟨w7, hw7⟩ : ∃ z, w6.alloc (.cells #[.int .u64 t0, .int .u64 t1, .int .u64 t2, .int .u64 t3] 39) = z := ⟨_, rfl⟩
    rw [hw7, hb1] at hq7
    rw [hw7] at hf7
    have HF7 : Hid (Frm [] w2 w7) := hid (hf6.trans hf7 (by simp))
    have HQ6 : Hid (w7.heap[bx]? = some (.cells #[.int .i64 kind, .string name, .int .i64 typ, .int .i64 frm, .int .i64 guid, .int .i64 origin, .string snap, .slice pp pn pc, .int .i64 obj, .int .i64 at_, .int .i64 many, .slice kp kn kc, .slice dp dl dc] 30 (0, 0))) := hid (hf7.heap hq6 (by simp))
    have HQ7 : Hid (w7.heap[bx + 1]? = some (.cells #[.int .u64 t0, .int .u64 t1, .int .u64 t2, .int .u64 t3] 39 (0, 0))) := hid hq7
    have HW6 := hid hw6
    have HW7 := hid hw7
    have HBX := hid hbx
    have HFA : Hid (Frm [] wr w7) := hid (HF2.out.trans HF7.out (by simp))
    have hown7 := ownsRow_kept HOW.out HFA.out (by simp)
    have HA := hid ((Frm.refl [] w7).alloc (.cells #[.int .i64 kind, .string name, .int .i64 typ, .int .i64 frm, .int .i64 guid, .int .i64 origin, .string snap, .slice pp pn pc, .int .i64 obj, .int .i64 at_, .int .i64 many, .slice kp kn kc, .slice dp dl dc] 30))
    have HRV := hid (rv_block (heap_alloc_new w7 (.cells #[.int .i64 kind, .string name, .int .i64 typ, .int .i64 frm, .int .i64 guid, .int .i64 origin, .string snap, .slice pp pn pc, .int .i64 obj, .int .i64 at_, .int .i64 many, .slice kp kn kc, .slice dp dl dc] 30)))
    have HOW2 := hid (ownsRow_kept hown7 HA.out (by simp))
    have HXS : Hid (xs < wr.heap.size) := hid (lt_of_heap HSR.out)
    have z0 : w7.cell? ⟨bx, 0, none⟩ = some (.int .i64 kind) := by rw [cell_of_row _ _ _ _ _ _ HQ6.out]; rfl
    have z1 : w7.cell? ⟨bx, 1, none⟩ = some (.string name) := by rw [cell_of_row _ _ _ _ _ _ HQ6.out]; rfl
    have z2 : w7.cell? ⟨bx, 2, none⟩ = some (.int .i64 typ) := by rw [cell_of_row _ _ _ _ _ _ HQ6.out]; rfl
    have z3 : w7.cell? ⟨bx, 3, none⟩ = some (.int .i64 frm) := by rw [cell_of_row _ _ _ _ _ _ HQ6.out]; rfl
    have z4 : w7.cell? ⟨bx, 4, none⟩ = some (.int .i64 guid) := by rw [cell_of_row _ _ _ _ _ _ HQ6.out]; rfl
    have z5 : w7.cell? ⟨bx, 5, none⟩ = some (.int .i64 origin) := by rw [cell_of_row _ _ _ _ _ _ HQ6.out]; rfl
    have z6 : w7.cell? ⟨bx, 6, none⟩ = some (.string snap) := by rw [cell_of_row _ _ _ _ _ _ HQ6.out]; rfl
    have z7 : w7.cell? ⟨bx, 7, none⟩ = some (.slice pp pn pc) := by rw [cell_of_row _ _ _ _ _ _ HQ6.out]; rfl
    have z8 : w7.cell? ⟨bx, 8, none⟩ = some (.int .i64 obj) := by rw [cell_of_row _ _ _ _ _ _ HQ6.out]; rfl
    have z9 : w7.cell? ⟨bx, 9, none⟩ = some (.int .i64 at_) := by rw [cell_of_row _ _ _ _ _ _ HQ6.out]; rfl
    have z10 : w7.cell? ⟨bx, 10, none⟩ = some (.int .i64 many) := by rw [cell_of_row _ _ _ _ _ _ HQ6.out]; rfl
    have z11 : w7.cell? ⟨bx, 11, none⟩ = some (.slice kp kn kc) := by rw [cell_of_row _ _ _ _ _ _ HQ6.out]; rfl
    have z12 : w7.cell? ⟨bx, 12, none⟩ = some (.slice dp dl dc) := by rw [cell_of_row _ _ _ _ _ _ HQ6.out]; rfl
    clear hq6 hf6 hq7 hf7 hw6 hw7 hbx hb1 hown7
    go_upto_region 9 with fail
    first | rw [HBX.out] | skip
    first | rw [HW6.out] | skip
    first | rw [HW7.out] | skip
    go_wp2_with (at_builtin; refine wpList_appV rfl _ _ 22 rfl 30 13 168 _ Tryd.underlying22 infoRcR rfl (by decide) lp t lc (rowsRk L) rfl HOW2.out (some ⟨w7.heap.size, 0, none⟩) 1 1 [.int .i64 kind, .string name, .int .i64 typ, .int .i64 frm, .int .i64 guid, .int .i64 origin, .string snap, .slice pp pn pc, .int .i64 obj, .int .i64 at_, .int .i64 many, .slice kp kn kc, .slice dp dl dc] rfl rfl (by simp) HRV.out (by intro u hu; simp at hu; rcases hu with rfl | rfl | rfl | rfl | rfl | rfl | rfl | rfl | rfl | rfl | rfl | rfl | rfl <;> rfl) (by unfold maxLen; omega) (by omega) ?_)
    intro p8 c8 w8 ho8 hf8 hb8
    have hfa8 : Frm (blk lp) w7 w8 := (HA.out.mono (by simp)).trans hf8.out (fun i hi _ => hi)
    have HQ8 : Hid (w8.heap[bx + 1]? = some (.cells #[.int .u64 t0, .int .u64 t1, .int .u64 t2, .int .u64 t3] 39 (0, 0))) := hid (hfa8.heap HQ7.out (fun hm => by have h1 := ownsRow_low HOW.out _ hm; have h2 := HBX.out; have h3 := HF2.out.size; omega))
    have HS8 := hid (hfa8.heap (HFA.out.heap HSR.out (by simp)) (fun hm => by have := HNW.out xs hm; omega))
    have HF8 : Hid (Frm [] w w8) := hid ((HF.out.trans HFA.out (by simp)).trans hfa8 (fun i hi hl => by have := HNW.out i hi; have := HBS.out; omega))
    have e1 : (w7.alloc (.cells #[.int .i64 kind, .string name, .int .i64 typ, .int .i64 frm, .int .i64 guid, .int .i64 origin, .string snap, .slice pp pn pc, .int .i64 obj, .int .i64 at_, .int .i64 many, .slice kp kn kc, .slice dp dl dc] 30)).heap.size = w7.heap.size + 1 := by simp
    have HNW8 : Hid (∀ k ∈ blk p8, xs < k) := hid (fun k hk => by
      rcases hb8.out k hk with h | h
      · exact HNW.out k h
      · have h2 := HXS.out; have h3 := HFA.out.size; omega)
    obtain ⟨B, hB1, hB2⟩ := HOWN.out.foot
    have hlpl := ownsRow_low HOW.out
    have HKA : Hid (Keeps A wr w8) := hid (fun k hk => by
      obtain ⟨k1, k2, k3⟩ := HAB.out k hk
      exact (hfa8.block k (Nat.lt_of_lt_of_le k1 HFA.out.size) k3).trans (HFA.out.block k k1 (by simp)))
    have HKB : Hid (Keeps B w2 w8) := hid (fun k hk => by
      obtain ⟨k1, k2⟩ := hB2 k hk
      exact (hfa8.block k (Nat.lt_of_lt_of_le k2 HF7.out.size) (fun hm => by have := hlpl k hm; omega)).trans (HF7.out.block k k2 (by simp)))
    have HRK8 : Hid (RkOk w8 (A ++ B) bs (L ++ [⟨R, VP, VK, VD⟩])) := hid ((HRK.out.keeps HKA.out).snoc (HOWN.out.ok.keeps hB1 HKB.out) hB1 HNS.out (by rw [HLL.out]; exact HNEW.out))
    have HAB8 : Hid (∀ k ∈ A ++ B, k < w8.heap.size ∧ xs < k ∧ k ∉ blk p8) := hid (fun k hk => by
      have s1 := hfa8.size
      have s2 := HF7.out.size
      have s3 := HF2.out.size
      have s4 := HXS.out
      rcases List.mem_append.1 hk with hk | hk
      · obtain ⟨k1, k2, k3⟩ := HAB.out k hk
        exact ⟨by omega, k2, fun hm => by
          rcases hb8.out k hm with h | h
          · exact k3 h
          · omega⟩
      · obtain ⟨k1, k2⟩ := hB2 k hk
        exact ⟨by omega, by omega, fun hm => by
          rcases hb8.out k hm with h | h
          · have := hlpl k h; omega
          · omega⟩)
    have HO8 : Hid (w8.ownsRow 0 30 13 (.slice p8 (t + 1) c8) (t + 1) (rowsRk (L ++ [⟨R, VP, VK, VD⟩]))) := hid (by
      rw [rowsRk_app, rowsRk, rowsRk, List.append_nil]
      show w8.ownsRow 0 30 13 (.slice p8 (t + 1) c8) (t + 1) (rowsRk L ++ R.arr.toList)
      rw [HRA2.out]
      exact ho8.out)
    have HLL8 : Hid ((L ++ [(⟨R, VP, VK, VD⟩ : Rk)]).length = t + 1) := hid (by rw [List.length_append, HLL.out]; rfl)
    have hsl : ∀ W, (Instr.slice 23 (.slice q m d) (some (.int .i64 (dM : Int))) none none).run Tryd.prog W = .ok (.slice (partAt q d dM 1) (m - dM) (d - dM)) W := fun W => sl_l (P := Tryd.prog) (sz := 1) Tryd.underlying23 infoU8R q m d dM hdm.1 W
    have HQ2 : Hid (∀ k ∈ blk q, k < w.heap.size) := hid (fun k hk => by
      rcases HQB.out k hk with h | h
      · exact h
      · exact absurd h HNE.out)
    have hrq8 := (HRQ.out.kept HFA.out (by simp)).kept hfa8 (fun k hk hm => by have h1 := HQ2.out k hk; have h2 := HNW.out k hm; have h3 := HBS.out; omega)
    have HRQ8 := hid hrq8
    have HZ8 : Hid (xs < w8.heap.size ∧ bx + 1 ≠ xs) := hid ⟨lt_of_heap HS8.out, by have h1 := HBX.out; have h2 := HF2.out.size; have h3 := HXS.out; omega⟩
    clear ho8 hf8 hb8 hfa8 e1 hB1 hB2 hlpl hrq8 HA HRV HOW2 HQ6 HQ7 HRA2 HOWN z0 z1 z2 z3 z4 z5 z6 z7 z8 z9 z10 z11 z12
    go_upto_region 10 with fail
    obtain ⟨wd, hwd⟩ : ∃ z, w8.drew = z := ⟨_, rfl⟩
    have hFD : Frm [] w8 wd := by rw [← hwd]; exact (Frm.refl _ _).drew
    have hqd := hFD.heap HQ8.out (by simp)
    have hsd := hFD.heap HS8.out (by simp)
    unfold S4.arr at hsd
    have sS : wd.cell? ⟨bx + 1, 0, none⟩ = some (.int .u64 t0) ∧ wd.cell? ⟨bx + 1, 1, none⟩ = some (.int .u64 t1) ∧ wd.cell? ⟨bx + 1, 2, none⟩ = some (.int .u64 t2) ∧ wd.cell? ⟨bx + 1, 3, none⟩ = some (.int .u64 t3) := by
      refine ⟨?_, ?_, ?_, ?_⟩ <;> (rw [cell_of_row _ _ _ _ _ _ hqd]; rfl)
    refine wp_region_tail (S := fun W => (W.cell? ⟨bx + 1, 0, none⟩ = some (.int .u64 t0) ∧ W.cell? ⟨bx + 1, 1, none⟩ = some (.int .u64 t1) ∧ W.cell? ⟨bx + 1, 2, none⟩ = some (.int .u64 t2) ∧ W.cell? ⟨bx + 1, 3, none⟩ = some (.int .u64 t3))) 5 6 rfl (by kernel_rfl) (by kernel_rfl) ?_
    rw [hwd]
    refine wpAnyHT_take (i := 0) (oi := _) (v := ?_) (by kernel_rfl) rfl (by kernel_rfl) (by kernel_rfl) (by kernel_rfl) (by kernel_rfl) (fun _ _ _ h => h) (Or.inl ⟨by rfl, ?_⟩) sS ?_
    rotate_left 1
    · (intro W hSw; obtain ⟨e0, e1, e2, e3⟩ := hSw; (try simp only [List.getElem_toArray, List.getElem_cons_zero]); go_simp; try with_reducible rfl)
    try simp only [List.getElem_toArray, List.getElem_cons_zero, Act.put, List.setIfInBounds_toArray, List.set_cons_zero, List.set_cons_succ]
    refine wpAnyHT_take (i := 1) (oi := _) (v := ?_) (by kernel_rfl) rfl (by kernel_rfl) (by kernel_rfl) (by kernel_rfl) (by kernel_rfl) (fun _ _ _ h => h) (Or.inl ⟨by rfl, ?_⟩) sS ?_
    rotate_left 1
    · (intro W hSw; obtain ⟨e0, e1, e2, e3⟩ := hSw; (try simp only [List.getElem_toArray, List.getElem_cons_succ, List.getElem_cons_zero]); go_simp; try with_reducible rfl)
    try simp only [List.getElem_toArray, List.getElem_cons_succ, List.getElem_cons_zero, Act.put, List.setIfInBounds_toArray, List.set_cons_zero, List.set_cons_succ]
    refine wpAnyHT_take (i := 2) (oi := _) (v := ?_) (by kernel_rfl) rfl (by kernel_rfl) (by kernel_rfl) (by kernel_rfl) (by kernel_rfl) (fun _ _ _ h => h) (Or.inl ⟨by rfl, ?_⟩) sS ?_
    rotate_left 1
    · (intro W hSw; obtain ⟨e0, e1, e2, e3⟩ := hSw; have hsl2 := hsl W; (try simp only [List.getElem_toArray, List.getElem_cons_succ, List.getElem_cons_zero]); go_simp; try with_reducible rfl)
    try simp only [List.getElem_toArray, List.getElem_cons_succ, List.getElem_cons_zero, Act.put, List.setIfInBounds_toArray, List.set_cons_zero, List.set_cons_succ]
    refine wpAnyHT_take (i := 3) (oi := _) (v := ?_) (by kernel_rfl) rfl (by kernel_rfl) (by kernel_rfl) (by kernel_rfl) (by kernel_rfl) (fun _ _ _ h => h) (Or.inl ⟨by rfl, ?_⟩) sS ?_
    rotate_left 1
    · (intro W hSw; obtain ⟨e0, e1, e2, e3⟩ := hSw; (try simp only [List.getElem_toArray, List.getElem_cons_succ, List.getElem_cons_zero]); go_simp; try with_reducible rfl)
    try simp only [List.getElem_toArray, List.getElem_cons_succ, List.getElem_cons_zero, Act.put, List.setIfInBounds_toArray, List.set_cons_zero, List.set_cons_succ]
    refine wpAnyHT_one (i := 4) rfl (by kernel_rfl) (by kernel_rfl) (fun K hK => ?_)
    try simp only [List.getElem_toArray, List.getElem_cons_succ, List.getElem_cons_zero]
    go_simp
    refine hK _ _ sS ?_
    clear hK K
    try simp only [List.getElem_toArray, List.getElem_cons_succ, List.getElem_cons_zero, Act.put, List.setIfInBounds_toArray, List.set_cons_zero, List.set_cons_succ]
    refine wpAnyHT_end (by kernel_rfl) ?_
    simp only [List.drop_succ_cons, List.drop_zero]
    have y0 := frozen_of_row wd xs 0 _ _ hsd
    have v0 : wd.cell? ⟨xs, 0, none⟩ = some (.int .u64 s0) := by rw [cell_of_row _ _ _ _ _ _ hsd]; rfl
    have y1 := frozen_of_row wd xs 1 _ _ hsd
    have v1 : wd.cell? ⟨xs, 1, none⟩ = some (.int .u64 s1) := by rw [cell_of_row _ _ _ _ _ _ hsd]; rfl
    have y2 := frozen_of_row wd xs 2 _ _ hsd
    have v2 : wd.cell? ⟨xs, 2, none⟩ = some (.int .u64 s2) := by rw [cell_of_row _ _ _ _ _ _ hsd]; rfl
    have y3 := frozen_of_row wd xs 3 _ _ hsd
    have v3 : wd.cell? ⟨xs, 3, none⟩ = some (.int .u64 s3) := by rw [cell_of_row _ _ _ _ _ _ hsd]; rfl
    obtain ⟨h4, f4⟩ := set4 (y0 := .int .u64 t0) (y1 := .int .u64 t1) (y2 := .int .u64 t2) (y3 := .int .u64 t3) hsd
    obtain ⟨W4, hW4⟩ : ∃ z, ((((wd.setCell ⟨xs, 0, none⟩ (.int .u64 t0)).setCell ⟨xs, 1, none⟩ (.int .u64 t1)).setCell ⟨xs, 2, none⟩ (.int .u64 t2)).setCell ⟨xs, 3, none⟩ (.int .u64 t3)) = z := ⟨_, rfl⟩
    rw [hW4] at h4 f4
    have HS4 : Hid (W4.heap[xs]? = some (.cells (rsS bs (t + 1)).2.arr 39 (0, 0))) := hid (by rw [HNX.out]; exact h4)
    have HF4 : Hid (Frm [] w W4) := hid ((HF8.out.trans hFD (by simp)).trans f4 (fun i hi hl => by rw [List.mem_singleton] at hi; have := HBS.out; omega))
    have HXB : Hid (∀ k, xs < k → k < w8.heap.size → W4.heap[k]? = w8.heap[k]?) := hid (fun k hk hlt => (f4.block k (Nat.lt_of_lt_of_le hlt hFD.size) (by simp; omega)).trans (hFD.block k hlt (by simp)))
    have HO4 := hid (ownsRow_kept (ownsRow_kept HO8.out hFD (by simp)) f4 (fun k hk hm => by rw [List.mem_singleton] at hm; have := HNW8.out k hk; omega))
    have HRK4 := hid (HRK8.out.keeps (fun k hk => HXB.out k (HAB8.out k hk).2.1 (HAB8.out k hk).1))
    have HAB4 : Hid (∀ k ∈ A ++ B, k < W4.heap.size ∧ xs < k ∧ k ∉ blk p8) := hid (fun k hk => by have h := HAB8.out k hk; have h2 := hFD.size; have h3 := f4.size; exact ⟨by omega, h.2⟩)
    have HRQ4 : Hid (Rd W4 (partAt q d dM 1) (rsS bs (t + 1)).1) := hid (by
      rw [HNX.out]
      exact rd_part ((HRQ8.out.kept hFD (by simp)).kept f4 (fun k hk hm => by rw [List.mem_singleton] at hm; have h1 := HQ2.out k hk; have h2 := HBS.out; omega)) HLEN.out hdm.1 hmd)
    have HLN4 : Hid ((rsS bs (t + 1)).1.length = m - dM) := hid (by rw [HNX.out]; show (RB.drop dM).length = _; rw [List.length_drop, HLEN.out])
    have HQB4 : Hid (∀ k ∈ blk (partAt q d dM 1), k < w.heap.size ∨ (rsS bs (t + 1)).1 = []) := hid (fun k hk => Or.inl (HQ2.out k (blk_part hk)))
    have HWE := hid hW4
    clear h4 f4 hW4 hFD hqd sS hwd hsl
    go_wp2_with fail
    go_roundw
    case rel => exact ⟨t + 1, m - dM, d - dM, c8, partAt q d dM 1, p8, L ++ [⟨R, VP, VK, VD⟩], A ++ B, by omega, by omega, htl2, rfl, rfl, HOT2, HLN4, by rw [HWE.out]; exact HRQ4, HQB4, by rw [HWE.out]; exact HS4, HLL8, by rw [HWE.out]; exact HO4, HNW8, by rw [HWE.out]; exact HRK4, by rw [HWE.out]; exact HAB4, by rw [HWE.out]; exact HF4⟩
    case measure => show m - dM < m; omega
end
end Go.Proofs.YtajfjkfnmmfhmaaDoor
