/- Records: Stream. -/
import Derived.Test.YtajfjkfnmmfhmaaDoorQav
namespace Go.Proofs.YtajfjkfnmmfhmaaDoor
section
open Go.RowKit Go.Lib
set_option maxRecDepth 100000

/-- A record as it lies in memory, and what its lists hold. -/
structure Rk where
  r : Rc
  P : List Pr
  K : List Int
  D : List Int
def Rk.may (x : Rk) : Prop := RcMay x.r x.P x.K x.D
instance (x : Rk) : Decidable x.may := by unfold Rk.may; infer_instance
/-- A list of records that is read. -/
def RdRk (w : World) (p : Option Addr) (L : List Rk) : Prop := L = [] ∨ ∃ g o, p = some ⟨g, o, none⟩ ∧ ∀ i x, L[i]? = some x → (∀ j u, x.r.arr[j]? = some u → w.cell? ⟨g, o + i * 13 + j, none⟩ = some u) ∧ RcOk w x.r x.P x.K x.D ∧ x.r.name.size ≤ 140737488355328
theorem RdRk.k0 {w w' : World} {p : Option Addr} {L : List Rk} (h : RdRk w p L) (hf : Frm [] w w') : RdRk w' p L := by
  rcases h with h | ⟨g, o, he, hc⟩
  · exact Or.inl h
  · refine Or.inr ⟨g, o, he, fun i x hx => ?_⟩
    obtain ⟨h1, h2, h3⟩ := hc i x hx
    exact ⟨fun j u hu => (hf.cell (World.block_lt_of_cell? w _ (h1 j u hu)) (by simp)).trans (h1 j u hu), h2.k0 hf, h3⟩
def rk0 : Rk := ⟨Rc.z, [], [], []⟩
def rkA (L : List Rk) (t : Nat) : Rk := L.getD t rk0
theorem rkA_get {L : List Rk} {t : Nat} (h : t < L.length) : L[t]? = some (rkA L t) := by
  unfold rkA
  rw [List.getD_eq_getElem?_getD, List.getElem?_eq_getElem h]
  rfl
/-- The seal behind the first so many; their bytes, as far as they are kept. -/
def strS (L : List Rk) : Nat → S4
  | 0 => S4.z
  | t + 1 => selR (strS L t) (rkA L t).r (rkA L t).P (rkA L t).K (rkA L t).D
def strB (L : List Rk) : Nat → List Int
  | 0 => []
  | t + 1 => if (strB L t).length ≤ 1048576 then strB L t ++ recB (strS L t) (rkA L t).r (rkA L t).P (rkA L t).K (rkA L t).D else strB L t
theorem strS_Bd (L : List Rk) : ∀ t, (strS L t).Bd
  | 0 => S4.z_Bd
  | _ + 1 => shaD_Bd _
def allMay (L : List Rk) : Prop := ∀ i, i < L.length → (rkA L i).may
instance (L : List Rk) : Decidable (allMay L) := by unfold allMay; infer_instance
/-- What Stream answers and leaves. -/
def StrP (w : World) (L : List Rk) (e : Ending) (w' : World) : Prop := Frm [] w w' ∧ ((¬ allMay L ∧ e = .returned (.tuple #[.slice none 0 0, .int .i64 200])) ∨ (allMay L ∧ 1048576 < (strB L L.length).length ∧ e = .returned (.tuple #[.slice none 0 0, .int .i64 2])) ∨
  (allMay L ∧ (strB L L.length).length ≤ 1048576 ∧ ∃ p n c, e = .returned (.tuple #[.slice p n c, .int .i64 0]) ∧ n = (strB L L.length).length ∧ Own w' 5 (.slice p n c) (strB L L.length) ∧ (∀ k ∈ blk p, w.heap.size ≤ k)))
theorem infoU8S : (Tryd.prog.info? 5).map (fun i => (i.zero, i.size, i.bytes)) = some (some (.int .u8 0), 1, 1) := by kernel_rfl
set_option maxHeartbeats 12800000 in
theorem stream_any (p : Option Addr) (n c : Nat) (L : List Rk) (w : World) (hn : L.length = n) (hn9 : n ≤ 9223372036854775807) (hrd : RdRk w p L) (hpr : Primes w) :
    Calls Tryd.prog 7 #[.slice p n c] w (StrP w L) := by
  obtain ⟨PO, hPO⟩ : ∃ PO : Ending → World → Prop, StrP w L = PO := ⟨_, rfl⟩
  rw [hPO]
  have HP1 : Hid (∀ w', ¬ allMay L → Frm [] w w' → PO (.returned (.tuple #[.slice none 0 0, .int .i64 200])) w') := hid (fun w' h1 h2 => by rw [← hPO]; exact ⟨h2, Or.inl ⟨h1, rfl⟩⟩)
  have HP2 : Hid (∀ w', allMay L → 1048576 < (strB L L.length).length → Frm [] w w' → PO (.returned (.tuple #[.slice none 0 0, .int .i64 2])) w') := hid (fun w' h1 h2 h3 => by rw [← hPO]; exact ⟨h3, Or.inr (Or.inl ⟨h1, h2, rfl⟩)⟩)
  have HP3 : Hid (∀ p m c w', allMay L → (strB L L.length).length ≤ 1048576 → m = (strB L L.length).length → Own w' 5 (.slice p m c) (strB L L.length) → (∀ k ∈ blk p, w.heap.size ≤ k) → Frm [] w w' → PO (.returned (.tuple #[.slice p m c, .int .i64 0])) w') := hid (fun p m c w' h1 h2 h3 h4 h5 h6 => by rw [← hPO]; exact ⟨h6, Or.inr (Or.inr ⟨h1, h2, p, m, c, rfl, h3, h4, h5⟩)⟩)
  have HRD := hid hrd
  have HLN := hid hn
  have HPR := hid hpr
  have hrow := heap_alloc_new w (.cells #[.int .u64 0, .int .u64 0, .int .u64 0, .int .u64 0] 39)
  have hfs : Frm [] w (w.alloc (.cells #[.int .u64 0, .int .u64 0, .int .u64 0, .int .u64 0] 39)) := (Frm.refl _ _).alloc _
  obtain ⟨ws, hws⟩ : ∃ z, w.alloc (.cells #[.int .u64 0, .int .u64 0, .int .u64 0, .int .u64 0] 39) = z := ⟨_, rfl⟩
  obtain ⟨bs, hbs⟩ : ∃ z, w.heap.size = z := ⟨_, rfl⟩
  rw [hws, hbs] at hrow
  rw [hws] at hfs
  have HFS := hid hfs
  have HROW := hid hrow
  have HWS := hid hws
  have HBS := hid hbs
  clear hPO hn hrd hpr hrow hfs hws hbs
  go_enter Tryd.func7, Tryd.ntmps7
  go_upto_region 3 with fail
  first | rw [HWS.out] | skip
  first | rw [HBS.out] | skip
  go_wp2_with fail
  go_loopw [4, 13] (fun al i wr => ∃ (t A : Nat) (q : Option Addr) (d : Nat), t ≤ n ∧ A ≤ 1060000 ∧ al = .slice q A d ∧ i = .int .i64 (t : Int) ∧ Hid (A = (strB L t).length) ∧ Hid (Own wr 5 (.slice q A d) (strB L t)) ∧ Hid (∀ k ∈ blk q, bs < k) ∧ Hid (wr.heap[bs]? = some (.cells (strS L t).arr 39 (0, 0))) ∧ Hid (Frm [] w wr) ∧ Hid (∀ j, j < t → (rkA L j).may) ∧ Hid (bs < wr.heap.size)) (fun _ i _ => n - (intOf i).toNat)
  case atStart => exact ⟨0, 0, none, 0, Nat.zero_le _, by omega, rfl, rfl, hid rfl, hid (Own.nil _ _), hid (by simp [blk]), hid HROW.out, hid HFS.out, hid (fun j hj => by omega), hid (lt_of_heap HROW.out)⟩
  case round =>
    obtain ⟨t, A, q, d, ht, hA, rfl, rfl, hal, how, hnw, hsr, hf, hmy, hbl⟩ := hrel
    have HAL := hid hal.out
    have HOW := hid how.out
    have HNW := hid hnw.out
    have HSR := hid hsr.out
    have HF := hid hf.out
    have HMY := hid hmy.out
    have HBL := hid hbl.out
    clear hal how hnw hsr hf hmy hbl
    by_cases hlt : t < n
    case neg =>
      obtain rfl : t = n := by omega
      have HAM : Hid (allMay L) := hid (fun i hi => HMY.out i (by rw [← HLN.out]; exact hi))
      have HEQ : Hid (strB L L.length = strB L t) := hid (by rw [HLN.out])
      clear hlt
      by_cases hlong : 1048576 < A
      case pos =>
        have i1 : (1048576 : Int) < (A : Int) := by omega
        have HX := hid (HP2.out wr HAM.out (by rw [HEQ.out, ← HAL.out]; exact hlong) HF.out)
        clear hlong
        go_wp2_with fail
        first | go_returns | skip
        exact HX.out
      have i1 : ¬ (1048576 : Int) < (A : Int) := by omega
      have HX := hid (HP3.out q A d wr HAM.out (by rw [HEQ.out, ← HAL.out]; omega) (by rw [HEQ.out]; exact HAL.out) (by rw [HEQ.out]; exact HOW.out) (fun k hk => by have := HNW.out k hk; have := HBS.out; omega) HF.out)
      clear hlong
      go_wp2_with fail
      first | go_returns | skip
      exact HX.out
    have t1 : (t : Int) < (n : Int) := by omega
    have hget := rkA_get (L := L) (t := t) (by rw [HLN.out]; exact hlt)
    obtain ⟨g0, o0, rfl, hc0⟩ : ∃ g o, p = some ⟨g, o, none⟩ ∧ ((∀ j u, (rkA L t).r.arr[j]? = some u → wr.cell? ⟨g, o + t * 13 + j, none⟩ = some u) ∧ RcOk wr (rkA L t).r (rkA L t).P (rkA L t).K (rkA L t).D ∧ (rkA L t).r.name.size ≤ 140737488355328) := by
      rcases HRD.out.k0 HF.out with h | ⟨g, o, he, hc⟩
      · rw [h] at hget; simp at hget
      · exact ⟨g, o, he, hc t _ hget⟩
    obtain ⟨hcell, hok, hns⟩ := hc0
    have HS1 : Hid (strS L (t + 1) = selR (strS L t) (rkA L t).r (rkA L t).P (rkA L t).K (rkA L t).D) := hid rfl
    have HB1 : Hid (strB L (t + 1) = if (strB L t).length ≤ 1048576 then strB L t ++ recB (strS L t) (rkA L t).r (rkA L t).P (rkA L t).K (rkA L t).D else strB L t) := hid rfl
    have HMX : Hid ((rkA L t).may ↔ RcMay (rkA L t).r (rkA L t).P (rkA L t).K (rkA L t).D) := hid Iff.rfl
    have HAM : Hid (allMay L → (rkA L t).may) := hid (fun h => h t (by rw [HLN.out]; exact hlt))
    obtain ⟨⟨R, P, K, D⟩, hx⟩ : ∃ x, rkA L t = x := ⟨_, rfl⟩
    rw [hx] at hcell hok hns HS1 HB1 HMX HAM
    have HXE := hid hx
    simp only at hcell hok hns HS1 HB1 HMX
    have hbd := strS_Bd L t
    obtain ⟨SS, hSS⟩ : ∃ z, strS L t = z := ⟨_, rfl⟩
    rw [hSS] at HSR HS1 HB1 hbd
    obtain ⟨BB, hBB⟩ : ∃ z, strB L t = z := ⟨_, rfl⟩
    rw [hBB] at HAL HOW HB1
    have HOK := hid hok
    have hrx := heap_alloc_new wr (.cells R.arr 30)
    have hfx : Frm [] wr (wr.alloc (.cells R.arr 30)) := (Frm.refl _ _).alloc _
    obtain ⟨wx, hwx⟩ : ∃ z, wr.alloc (.cells R.arr 30) = z := ⟨_, rfl⟩
    obtain ⟨bx, hbx⟩ : ∃ z, wr.heap.size = z := ⟨_, rfl⟩
    rw [hwx, hbx] at hrx
    rw [hwx] at hfx
    have HXC := hid (rc_cells hrx)
    have HFX := hid hfx
    have HWX := hid hwx
    have HBX := hid hbx
    have HEN := hid (encodeR_any R P K D SS hbd wx (hok.k0 hfx) (by omega) ((HPR.out.kept HF.out).kept hfx))
    have HSX := hid (hfx.heap HSR.out (by simp))
    have HOX := hid (HOW.out.kept hfx (by simp))
    have HPL : Hid (P.length = R.pn ∧ K.length = R.kn ∧ D.length = R.dl) := hid ⟨hok.pl, hok.kl, hok.dn⟩
    have z0 : wr.cell? ⟨g0, o0 + t * 13, none⟩ = some (.int .i64 R.kind) := hcell 0 _ rfl
    have z1 : wr.cell? ⟨g0, o0 + t * 13 + 1, none⟩ = some (.string R.name) := hcell 1 _ rfl
    have z2 : wr.cell? ⟨g0, o0 + t * 13 + 2, none⟩ = some (.int .i64 R.typ) := hcell 2 _ rfl
    have z3 : wr.cell? ⟨g0, o0 + t * 13 + 3, none⟩ = some (.int .i64 R.frm) := hcell 3 _ rfl
    have z4 : wr.cell? ⟨g0, o0 + t * 13 + 4, none⟩ = some (.int .i64 R.guid) := hcell 4 _ rfl
    have z5 : wr.cell? ⟨g0, o0 + t * 13 + 5, none⟩ = some (.int .i64 R.origin) := hcell 5 _ rfl
    have z6 : wr.cell? ⟨g0, o0 + t * 13 + 6, none⟩ = some (.string R.snap) := hcell 6 _ rfl
    have z7 : wr.cell? ⟨g0, o0 + t * 13 + 7, none⟩ = some (.slice R.pp R.pn R.pc) := hcell 7 _ rfl
    have z8 : wr.cell? ⟨g0, o0 + t * 13 + 8, none⟩ = some (.int .i64 R.obj) := hcell 8 _ rfl
    have z9 : wr.cell? ⟨g0, o0 + t * 13 + 9, none⟩ = some (.int .i64 R.at_) := hcell 9 _ rfl
    have z10 : wr.cell? ⟨g0, o0 + t * 13 + 10, none⟩ = some (.int .i64 R.many) := hcell 10 _ rfl
    have z11 : wr.cell? ⟨g0, o0 + t * 13 + 11, none⟩ = some (.slice R.kp R.kn R.kc) := hcell 11 _ rfl
    have z12 : wr.cell? ⟨g0, o0 + t * 13 + 12, none⟩ = some (.slice R.dp R.dl R.dc) := hcell 12 _ rfl
    clear hget hok hns hx hSS hBB hrx hfx hwx hbx hbd hcell
    obtain ⟨RR, hRR⟩ : ∃ z, R = z := ⟨_, rfl⟩
    have HENC : Hid (∀ e w', EncR wx SS R P K D e w' → EncR wx SS RR P K D e w') := hid (fun e w' h => by rw [← hRR]; exact h)
    have HEN2 := hid (HEN.out.mono HENC.out)
    obtain ⟨SX, hSXe⟩ : ∃ z, SS = z := ⟨_, rfl⟩
    have HENC2 : Hid (∀ e w', EncR wx SS RR P K D e w' → EncR wx SX RR P K D e w') := hid (fun e w' h => by rw [← hSXe]; exact h)
    have HEN3 := hid (HEN2.out.mono HENC2.out)
    rw [hRR] at HS1 HB1 HMX HXE HPL HAM
    rw [hSXe] at HS1 HB1
    clear hRR hSXe HEN HENC HEN2 HENC2
    obtain ⟨kind, name, typ, frm, guid, origin, snap, pp, pn, pc, obj, at_, many, kp, kn, kc, dp, dl, dc⟩ := R
    obtain ⟨s0, s1, s2, s3⟩ := SS
    unfold Rc.arr S4.arr at HEN3
    unfold Rc.arr at HWX
    unfold S4.arr at HSX HSR
    simp only at HEN3 HWX HSX HSR HXC z0 z1 z2 z3 z4 z5 z6 z7 z8 z9 z10 z11 z12
    obtain ⟨q0, q1, q2, q3, q4, q5, q6, q7, q8, q9, q10, q11, q12⟩ := HXC.out
    have p0 : wx.cell? ⟨bs, 0, none⟩ = some (.int .u64 s0) := by rw [cell_of_row _ _ _ _ _ _ HSX.out]; rfl
    have p1 : wx.cell? ⟨bs, 1, none⟩ = some (.int .u64 s1) := by rw [cell_of_row _ _ _ _ _ _ HSX.out]; rfl
    have p2 : wx.cell? ⟨bs, 2, none⟩ = some (.int .u64 s2) := by rw [cell_of_row _ _ _ _ _ _ HSX.out]; rfl
    have p3 : wx.cell? ⟨bs, 3, none⟩ = some (.int .u64 s3) := by rw [cell_of_row _ _ _ _ _ _ HSX.out]; rfl
    go_upto_region 6 with fail
    first | rw [HBX.out] | skip
    first | rw [HWX.out] | skip
    go_wp2_with fail
    refine HEN3.out.mono ?_
    rintro e w2 he
    by_cases hm : RcMay RR P K D
    case neg =>
      have hbad : Frm [] wx w2 ∧ e = .returned (.tuple #[.slice none 0 0, .agg #[.int .u64 0, .int .u64 0, .int .u64 0, .int .u64 0], .int .i64 200]) := by
        rcases he.2 with h2 | h2
        · exact ⟨he.1, h2.2⟩
        · exact absurd h2.1 hm
      obtain ⟨hf2, rfl⟩ := hbad
      have HX := hid (fun W (hf : Frm [] w W) => HP1.out W (fun h => hm (HMX.out.1 (HAM.out h))) hf)
      have HF2 : Hid (Frm [] w w2) := hid ((HF.out.trans HFX.out (by simp)).trans hf2 (by simp))
      clear he hm hf2 HEN3 q0 q1 q2 q3 q4 q5 q6 q7 q8 q9 q10 q11 q12 p0 p1 p2 p3 z0 z1 z2 z3 z4 z5 z6 z7 z8 z9 z10 z11 z12
      go_wp2_with fail
      first | go_returns | skip
      exact HX.out _ (HF2.out.alloc _)
    obtain ⟨hf2, g, m, rfl, hm1, hg, hglo⟩ := EncR.good he hm
    have hrl : m ≤ 2100 := by rw [hm1]; unfold recB; rw [recL_len]; have := bodyR_len hm HPL.out.1 HPL.out.2.1 HPL.out.2.2; omega
    have HMT : Hid ((rkA L t).may) := hid (by rw [HXE.out]; exact hm)
    obtain ⟨S, hS⟩ : ∃ S, selR SX RR P K D = S := ⟨_, rfl⟩
    rw [hS] at HS1 ⊢
    obtain ⟨RB, hRB⟩ : ∃ z, recB SX RR P K D = z := ⟨_, rfl⟩
    rw [hRB] at HB1 hm1 hg
    have hrd : Rd w2 (some ⟨g, 0, none⟩) RB := (own_of_block (E := 5) hg (by unfold maxLen; omega)).rd
    obtain ⟨t0, t1', t2, t3⟩ := S
    unfold S4.arr
    simp only
    have hrz := heap_alloc_new w2 (.cells #[.int .u64 t0, .int .u64 t1', .int .u64 t2, .int .u64 t3] 39)
    have hfz : Frm [] w2 (w2.alloc (.cells #[.int .u64 t0, .int .u64 t1', .int .u64 t2, .int .u64 t3] 39)) := (Frm.refl _ _).alloc _
    obtain ⟨w3, hw3⟩ : ∃ z, w2.alloc (.cells #[.int .u64 t0, .int .u64 t1', .int .u64 t2, .int .u64 t3] 39) = z := ⟨_, rfl⟩
    obtain ⟨bz, hbz⟩ : ∃ z, w2.heap.size = z := ⟨_, rfl⟩
    rw [hw3, hbz] at hrz
    rw [hw3] at hfz
    have HF3 : Hid (Frm [] wx w3) := hid (hf2.trans hfz (by simp))
    have HW3 := hid hw3
    have HBZ := hid hbz
    have HRB3 := hid (hrd.kept hfz (by simp))
    have HM1 := hid hm1
    have hsx3 := HF3.out.heap HSX.out (by simp)
    have n0 : w3.cell? ⟨bz, 0, none⟩ = some (.int .u64 t0) := by rw [cell_of_row _ _ _ _ _ _ hrz]; rfl
    have n1 : w3.cell? ⟨bz, 1, none⟩ = some (.int .u64 t1') := by rw [cell_of_row _ _ _ _ _ _ hrz]; rfl
    have n2 : w3.cell? ⟨bz, 2, none⟩ = some (.int .u64 t2) := by rw [cell_of_row _ _ _ _ _ _ hrz]; rfl
    have n3 : w3.cell? ⟨bz, 3, none⟩ = some (.int .u64 t3) := by rw [cell_of_row _ _ _ _ _ _ hrz]; rfl
    have m0 := frozen_of_row w3 bs 0 _ _ hsx3
    have m1 := frozen_of_row w3 bs 1 _ _ hsx3
    have m2 := frozen_of_row w3 bs 2 _ _ hsx3
    have m3 := frozen_of_row w3 bs 3 _ _ hsx3
    have v0 : w3.cell? ⟨bs, 0, none⟩ = some (.int .u64 s0) := by rw [cell_of_row _ _ _ _ _ _ hsx3]; rfl
    have v1 : w3.cell? ⟨bs, 1, none⟩ = some (.int .u64 s1) := by rw [cell_of_row _ _ _ _ _ _ hsx3]; rfl
    have v2 : w3.cell? ⟨bs, 2, none⟩ = some (.int .u64 s2) := by rw [cell_of_row _ _ _ _ _ _ hsx3]; rfl
    have v3 : w3.cell? ⟨bs, 3, none⟩ = some (.int .u64 s3) := by rw [cell_of_row _ _ _ _ _ _ hsx3]; rfl
    have HGL : Hid (bs < g) := hid (by have h1 := lt_of_heap HSX.out; omega)
    have HNE : Hid (bs < wx.heap.size) := hid (lt_of_heap HSX.out)
    clear he hm hf2 hg hglo hm1 hrd hS hRB hrz hfz hw3 hbz HEN3 q0 q1 q2 q3 q4 q5 q6 q7 q8 q9 q10 q11 q12 p0 p1 p2 p3 z0 z1 z2 z3 z4 z5 z6 z7 z8 z9 z10 z11 z12
    go_upto_region 9 with fail
    first | rw [HBZ.out] | skip
    first | rw [HW3.out] | skip
    go_upto_region 10 with fail
    obtain ⟨h4, f4⟩ := set4 (y0 := .int .u64 t0) (y1 := .int .u64 t1') (y2 := .int .u64 t2) (y3 := .int .u64 t3) hsx3
    obtain ⟨W4, hW4⟩ : ∃ z, ((((w3.setCell ⟨bs, 0, none⟩ (.int .u64 t0)).setCell ⟨bs, 1, none⟩ (.int .u64 t1')).setCell ⟨bs, 2, none⟩ (.int .u64 t2)).setCell ⟨bs, 3, none⟩ (.int .u64 t3)) = z := ⟨_, rfl⟩
    rw [hW4] at h4 f4
    rw [hW4]
    have HS4 := hid h4
    have HF4 : Hid (Frm [] w W4) := hid (((HF.out.trans HFX.out (by simp)).trans HF3.out (by simp)).trans f4 (fun i hi hl => by rw [List.mem_singleton] at hi; have := HBS.out; omega))
    have HB4 : Hid (bs < W4.heap.size) := hid (lt_of_heap h4)
    have HO4 := hid ((HOX.out.kept HF3.out (by simp)).kept f4 (by rw [own_blk]; exact fun k hk hm => by rw [List.mem_singleton] at hm; have := HNW.out k hk; omega))
    have HR4 := hid (HRB3.out.kept f4 (fun k hk hm => by rw [List.mem_singleton] at hm; simp [blk] at hk; have := HGL.out; omega))
    have HMN : Hid (∀ j, j < t + 1 → (rkA L j).may) := hid (fun j hj => by
      by_cases hj2 : j < t
      · exact HMY.out j hj2
      · obtain rfl : j = t := by omega
        exact HMT.out)
    clear h4 f4 hW4 hsx3 n0 m0 v0 n1 m1 v1 n2 m2 v2 n3 m3 v3
    by_cases hshort : A ≤ 1048576
    case neg =>
      have i1 : ¬ (A : Int) ≤ 1048576 := by omega
      have HBQ : Hid (strB L (t + 1) = BB) := hid (by rw [HB1.out, if_neg (by rw [← HAL.out]; exact hshort)])
      clear hshort
      go_wp2_with fail
      go_roundw
      case rel => exact ⟨t + 1, A, q, d, by omega, hA, rfl, by go_num, hid (by rw [HBQ.out]; exact HAL.out), hid (by rw [HBQ.out]; exact HO4.out), HNW, hid (by rw [HS1.out]; exact HS4.out), HF4, HMN, HB4⟩
      case measure => first | (simp [intOf]; done) | (simp [intOf]; omega)
    have i1 : (A : Int) ≤ 1048576 := by omega
    have HBQ : Hid (strB L (t + 1) = BB ++ RB) := hid (by rw [HB1.out, if_pos (by rw [← HAL.out]; exact hshort)])
    go_wp2_with (at_builtin; refine wpList_appB rfl _ _ 23 rfl 5 Tryd.underlying23 infoU8S q A d BB rfl HAL.out (by rw [← HAL.out]; exact HO4.out) (some ⟨g, 0, none⟩) m m RB rfl HM1.out (fun _ h => by cases h) HR4.out (by rw [← HAL.out, ← HM1.out]; omega) ?_)
    intro xs p8 c8 w8 hxs ho8 hf8 hb8
    have hxl : xs.length = A + m := by rw [hxs.out, List.length_append, ← HAL.out, ← HM1.out]
    have HS8 := hid (hf8.out.heap HS4.out (fun hm => by have := HNW.out bs hm; omega))
    have HF8 : Hid (Frm [] w w8) := hid (HF4.out.trans hf8.out (fun i hi hl => by have := HNW.out i hi; have := HBS.out; omega))
    have HNW8 : Hid (∀ k ∈ blk p8, bs < k) := hid (fun k hk => by
      rcases hb8.out k hk with h | h
      · exact HNW.out k h
      · have := HB4.out; omega)
    have HO8 : Hid (Own w8 5 (.slice p8 (A + m) c8) (strB L (t + 1))) := hid (by rw [HBQ.out, ← hxs.out, ← hxl]; exact ho8.out)
    have HL8 : Hid (A + m = (strB L (t + 1)).length) := hid (by rw [HBQ.out, ← hxs.out]; exact hxl.symm)
    have HB8 : Hid (bs < w8.heap.size) := hid (lt_of_heap HS8.out)
    rw [hxl]
    clear hxs ho8 hf8 hb8 hxl hshort
    go_wp2_with fail
    go_roundw
    case rel => exact ⟨t + 1, A + m, p8, c8, by omega, by omega, rfl, by go_num, HL8, HO8, HNW8, hid (by rw [HS1.out]; exact HS8.out), HF8, HMN, HB8⟩
    case measure => first | (simp [intOf]; done) | (simp [intOf]; omega)
end
end Go.Proofs.YtajfjkfnmmfhmaaDoor
