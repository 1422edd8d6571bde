/- Frames: ReadReply. Frames: plain facts on replies: there and back. The document's SameReply. -/
import Derived.Test.YtignoocdeghiaaaDoorQbg
import Derived.Test.YtignoocdeghiaaaDoorQbc
import Derived.Test.YtignoocdeghiaaaDoorQay
namespace Go.Proofs.YtignoocdeghiaaaDoor
section
open Go.RowKit Go.Lib
set_option maxRecDepth 100000

set_option maxHeartbeats 12800000 in
theorem readReply_any (p : Option Addr) (n c : Nat) (bs : List Int) (w : World) (hn : bs.length = n) (hnc : n ≤ c) (hrd : Rd w p bs) (hb : ∀ z ∈ bs, 0 ≤ z ∧ z < 256) (hpr : Primes w) :
    Calls Tryd.prog 19 #[.slice p n c] w (ReadAA w bs) := by
  obtain ⟨PO, hPO⟩ : ∃ PO : Ending → World → Prop, ReadAA w bs = PO := ⟨_, rfl⟩
  rw [hPO]
  have HP := hid (show ∀ e w', ReadAA w bs e w' → PO e w' from fun e w' h => by rw [← hPO]; exact h)
  obtain ⟨wa, hwa⟩ : ∃ z, w.alloc (.cells #[.int .i64 0, .int .i64 0, .int .i64 0, .int .i64 0, .string ⟨#[]⟩, .slice none 0 0, .slice none 0 0] 32) = z := ⟨_, rfl⟩
  have hrowa := heap_alloc_new w (.cells #[.int .i64 0, .int .i64 0, .int .i64 0, .int .i64 0, .string ⟨#[]⟩, .slice none 0 0, .slice none 0 0] 32)
  have hfa : Frm [] w wa := by rw [← hwa]; exact (Frm.refl _ _).alloc _
  obtain ⟨br, hbr⟩ : ∃ z, w.heap.size = z := ⟨_, rfl⟩
  rw [hwa, hbr] at hrowa
  have HBR := hid hbr
  have HWA := hid hwa
  have HROW := hid hrowa
  have HFA := hid hfa
  have HRQ := hid (readA_any p n c bs wa hn hnc (hrd.kept hfa (by simp)) hb (hpr.kept hfa))
  clear hn hnc hrd hb hpr hPO hbr hwa hrowa hfa
  go_enter Tryd.func19, Tryd.ntmps19
  go_upto_region 1 with fail
  first | rw [HWA.out] | skip
  first | rw [HBR.out] | skip
  go_wp2_with fail
  refine HRQ.out.mono ?_
  rintro e w1 ⟨lp, ln, lc, q, m, d, rfl, hm, ho, hnw, hll, hrl, hnl, hf⟩
  obtain ⟨R, hR⟩ : ∃ R, raG bs lp ln lc q m d = R := ⟨_, rfl⟩
  obtain ⟨E, hE⟩ : ∃ E, raE bs = E := ⟨_, rfl⟩
  rw [hR, hE]
  have HR := hid hR
  have HE := hid hE
  have HM := hid hm
  have HO := hid ho
  have HNW := hid hnw
  have HF := hid hf
  have HLL := hid hll
  have HRL := hid hrl
  have HNL := hid hnl
  obtain ⟨t0, t1, t2, t3, t4, xp, xn, xc, dp, dl, dc⟩ := R
  unfold Ra.arr
  simp only
  have hrow := hf.heap HROW.out (by simp)
  have z0 : w1.cell? ⟨br, 0, none⟩ = some (.int .i64 0) := by rw [cell_of_row _ _ _ _ _ _ hrow]; rfl
  have y0 := frozen_of_row w1 br 0 _ _ hrow
  have z1 : w1.cell? ⟨br, 1, none⟩ = some (.int .i64 0) := by rw [cell_of_row _ _ _ _ _ _ hrow]; rfl
  have y1 := frozen_of_row w1 br 1 _ _ hrow
  have z2 : w1.cell? ⟨br, 2, none⟩ = some (.int .i64 0) := by rw [cell_of_row _ _ _ _ _ _ hrow]; rfl
  have y2 := frozen_of_row w1 br 2 _ _ hrow
  have z3 : w1.cell? ⟨br, 3, none⟩ = some (.int .i64 0) := by rw [cell_of_row _ _ _ _ _ _ hrow]; rfl
  have y3 := frozen_of_row w1 br 3 _ _ hrow
  have z4 : w1.cell? ⟨br, 4, none⟩ = some (.string ⟨#[]⟩) := by rw [cell_of_row _ _ _ _ _ _ hrow]; rfl
  have y4 := frozen_of_row w1 br 4 _ _ hrow
  have z5 : w1.cell? ⟨br, 5, none⟩ = some (.slice none 0 0) := by rw [cell_of_row _ _ _ _ _ _ hrow]; rfl
  have y5 := frozen_of_row w1 br 5 _ _ hrow
  have z6 : w1.cell? ⟨br, 6, none⟩ = some (.slice none 0 0) := by rw [cell_of_row _ _ _ _ _ _ hrow]; rfl
  have y6 := frozen_of_row w1 br 6 _ _ hrow
  clear hR hE hm ho hnw hf hll hrl hnl HRQ
  go_wp2_with fail
  obtain ⟨h5, f5⟩ := sets_rowF br 32 [(0, .int .i64 t0), (1, .int .i64 t1), (2, .int .i64 t2), (3, .int .i64 t3), (4, .string t4), (5, .slice xp xn xc), (6, .slice dp dl dc)] w1 _ hrow
  simp only [List.foldl, List.setIfInBounds_toArray, List.set_cons_zero, List.set_cons_succ] at h5
  obtain ⟨Wz, hWz⟩ : ∃ z, setsF w1 br [(0, .int .i64 t0), (1, .int .i64 t1), (2, .int .i64 t2), (3, .int .i64 t3), (4, .string t4), (5, .slice xp xn xc), (6, .slice dp dl dc)] = z := ⟨_, rfl⟩
  rw [hWz] at h5 f5
  have hwz : (((((((w1.setCell ⟨br, 0, none⟩ (.int .i64 t0)).setCell ⟨br, 1, none⟩ (.int .i64 t1)).setCell ⟨br, 2, none⟩ (.int .i64 t2)).setCell ⟨br, 3, none⟩ (.int .i64 t3)).setCell ⟨br, 4, none⟩ (.string t4)).setCell ⟨br, 5, none⟩ (.slice xp xn xc)).setCell ⟨br, 6, none⟩ (.slice dp dl dc)) = Wz := hWz
  rw [hwz]
  have u0 : Wz.cell? ⟨br, 0, none⟩ = some (.int .i64 t0) := by rw [cell_of_row _ _ _ _ _ _ h5]; rfl
  have u1 : Wz.cell? ⟨br, 1, none⟩ = some (.int .i64 t1) := by rw [cell_of_row _ _ _ _ _ _ h5]; rfl
  have u2 : Wz.cell? ⟨br, 2, none⟩ = some (.int .i64 t2) := by rw [cell_of_row _ _ _ _ _ _ h5]; rfl
  have u3 : Wz.cell? ⟨br, 3, none⟩ = some (.int .i64 t3) := by rw [cell_of_row _ _ _ _ _ _ h5]; rfl
  have u4 : Wz.cell? ⟨br, 4, none⟩ = some (.string t4) := by rw [cell_of_row _ _ _ _ _ _ h5]; rfl
  have u5 : Wz.cell? ⟨br, 5, none⟩ = some (.slice xp xn xc) := by rw [cell_of_row _ _ _ _ _ _ h5]; rfl
  have u6 : Wz.cell? ⟨br, 6, none⟩ = some (.slice dp dl dc) := by rw [cell_of_row _ _ _ _ _ _ h5]; rfl
  refine bodyPost_ret (v := .tuple #[.agg #[.int .i64 t0, .int .i64 t1, .int .i64 t2, .int .i64 t3, .string t4, .slice xp xn xc, .slice dp dl dc], .int .i64 E]) (by simp [results, Tryd.results19, go_sem, u0, u1, u2, u3, u4, u5, u6]) rfl ?_
  have hlow := lt_of_heap HROW.out
  exact HP.out _ _ ⟨lp, ln, lc, q, m, d, by rw [HR.out, HE.out]; rfl, HM.out, HO.out.kept f5 (by rw [own_blk]; exact fun k hk hm => by rw [List.mem_singleton] at hm; have := HNW.out k hk; omega), fun k hk => by have h1 := HNW.out k hk; have h2 := HFA.out.size; omega, HLL.out, HRL.out.kept f5 (fun k hk hm => by rw [List.mem_singleton] at hm; have := HNL.out k hk; omega), fun k hk => by have h1 := HNL.out k hk; have h2 := HFA.out.size; omega, (HFA.out.trans HF.out (by simp)).trans f5 (fun i hi hl => by rw [List.mem_singleton] at hi; have := HBR.out; omega)⟩
end
section
open Go.RowKit Go.Lib
set_option maxRecDepth 100000

theorem txT_ge (L : List ByteArray) : ∀ k, 2 * k ≤ (txT L k).length
  | 0 => by simp
  | k + 1 => by
    have h := txT_ge L k
    rw [txT, List.length_append, txF_len]
    omega
theorem txT_more (L M : List ByteArray) : ∀ k, k ≤ L.length → txT (L ++ M) k = txT L k
  | 0, _ => rfl
  | k + 1, h => by
    have ih := txT_more L M k (by omega)
    rw [txT, txT, ih]
    congr 2
    rw [List.getD_eq_getElem?_getD, List.getD_eq_getElem?_getD, List.getElem?_append_left (by omega)]
theorem lsS_fit {bs : List Int} {pos : Nat} (L : List ByteArray) (hL : ∀ s ∈ L, s.size ≤ 65535) : ∀ (k : Nat) (r : List Int), k ≤ L.length → bs.drop pos = txT L k ++ r → lsS bs (pos, 0) k = (L.take k, pos + (txT L k).length, 0) ∧ bs.drop (pos + (txT L k).length) = r
  | 0, r, _, h => ⟨by simp [lsS, txT], by simpa [txT] using h⟩
  | k + 1, r, hk, h => by
    have hg : L[k]? = some (L.getD k ByteArray.empty) := by rw [List.getD_eq_getElem?_getD, List.getElem?_eq_getElem (by omega)]; rfl
    have hm := hL _ (List.mem_of_getElem? hg)
    obtain ⟨e1, e2⟩ := lsS_fit L hL k (txF (L.getD k ByteArray.empty) ++ r) (by omega) (by rw [h, txT, List.append_assoc])
    obtain ⟨f1, f2⟩ := txS_fit e2 hm
    have hl : (txT L (k + 1)).length = (txT L k).length + (2 + (L.getD k ByteArray.empty).size) := by rw [txT, List.length_append, txF_len]
    refine ⟨?_, by rw [hl, ← Nat.add_assoc]; exact f2⟩
    rw [lsS, e1]
    simp only
    rw [f1]
    simp only [str_txF]
    rw [hl, List.take_add_one, hg, Nat.add_assoc]
    rfl
theorem lsS_inv {bs : List Int} (hb : ∀ z ∈ bs, 0 ≤ z ∧ z < 256) (s : Rst) : ∀ k, (lsS bs s k).2.2 = 0 → s.2 = 0 ∧ bs.drop s.1 = txT (lsS bs s k).1 k ++ bs.drop (lsS bs s k).2.1
  | 0, h => ⟨h, by simp [lsS, txT]⟩
  | k + 1, h => by
    obtain ⟨e1, d1⟩ := txS_inv hb (s := (lsS bs s k).2) h
    obtain ⟨e2, d2⟩ := lsS_inv hb s k e1
    refine ⟨e2, ?_⟩
    have hl := lsS_len bs s k
    have e3 : txT (lsS bs s (k + 1)).1 (k + 1) = txT (lsS bs s k).1 k ++ txF (strOfNums (txS bs (lsS bs s k).2).1) := by
      rw [lsS]
      simp only
      rw [txT, txT_more _ _ _ (by omega)]
      congr 2
      rw [List.getD_eq_getElem?_getD, List.getElem?_append_right (by omega), hl, Nat.sub_self]
      rfl
    rw [e3, d2, d1, List.append_assoc]
    rfl
theorem nu1_of {m : List Int} (h : 1 ≤ m.length) : nuS m (0, 0) 1 = (m.getD 0 0, 1, 0) := by
  match m, h with
  | z :: r, _ =>
    unfold nuS
    rw [readS_ok]
    unfold numT
    rw [if_neg (by omega), if_neg (by simp; omega)]
    simp [leV]
/-- A reply that may be is read as it was laid down. -/
theorem back_a {r : Ra} {L : List ByteArray} {ds : List Int} (hm : MayA r L) (hL : L.length = r.ln) (hl : ds.length = r.dl) : raE (frm (inA r L ds)) = 0 ∧ raL (frm (inA r L ds)) = L ∧ raD (frm (inA r L ds)) = ds ∧ ∀ lp ln lc p n c, raG (frm (inA r L ds)) lp ln lc p n c = ⟨r.ses, r.id, r.err, r.num, r.text, lp, ln, lc, p, n, c⟩ := by
  obtain ⟨_, hmid, _⟩ := frm_parts (inA r L ds)
  have hsum := frm_sum (inA r L ds)
  have hlen := inA_len hm hl
  have hnum := frm_num (b := inA r L ds) (by omega)
  have hfl := frm_len (inA r L ds)
  have hd : (inA r L ds).drop 0 = le 2 1 ++ (le r.ses 1 ++ (le r.id 4 ++ (le r.err 2 ++ (le r.num 6 ++ (txF r.text ++ (le r.ln 2 ++ (txT L r.ln ++ (le r.dl 2 ++ (ds ++ []))))))))) := by
    unfold inA bodyA
    simp [show le 2 1 = [2] from rfl]
  obtain ⟨m0, m1, m2, m3, m4, m5, m6, m7⟩ := hm
  have hnl := notLong m6
  obtain ⟨g0, d0⟩ := nuS_fit (k := 1) hd (by omega) (by omega) (by omega) (by omega)
  obtain ⟨g1, d1⟩ := nuS_fit (k := 1) d0 (by omega) (by omega) (by omega) (by omega)
  obtain ⟨g2, d2⟩ := nuS_fit (k := 4) d1 (by omega) (by omega) (by omega) (by omega)
  obtain ⟨g3, d3⟩ := nuS_fit (k := 2) d2 (by omega) (by omega) (by omega) (by omega)
  obtain ⟨g4, d4⟩ := nuS_fit (k := 6) d3 (by omega) (by omega) (by omega) (by omega)
  obtain ⟨g5, d5⟩ := txS_fit d4 (by omega)
  obtain ⟨g6, d6⟩ := nuS_fit (k := 2) d5 (by omega) (by omega) (by omega) (by omega)
  obtain ⟨g7, d7⟩ := lsS_fit L (fun s hs => by have := hnl s hs; omega) r.ln _ (by omega) d6
  obtain ⟨g8, d8⟩ := nuS_fit (k := 2) d7 (by omega) (by omega) (by omega) (by omega)
  obtain ⟨g9, d9⟩ := byS_fit d8 hl
  have b0 : nuS (midF (frm (inA r L ds))) (0, 0) 1 = (2, 0 + 1, 0) := by rw [hmid]; exact g0
  have bs0 : s0F (frm (inA r L ds)) = (0 + 1, 0) := by unfold s0F; rw [b0]
  have hge := txT_ge L r.ln
  have hd6 := congrArg List.length d6
  rw [List.length_drop] at hd6
  simp only [List.length_append, le_length, List.length_nil] at hd6
  obtain ⟨M, hM⟩ : ∃ M, inA r L ds = M := ⟨_, rfl⟩
  obtain ⟨S0, hS0⟩ : ∃ S0 : Rst, (0 + 1, 0) = S0 := ⟨_, rfl⟩
  rw [hM] at hlen g0 g1 g2 g3 g4 g5 g6 g7 g8 g9 d9 hd6
  rw [hS0] at g1 bs0
  have c1 : a1 M S0 = nuS M S0 1 := rfl
  have c1 := c1.trans g1
  have c2 : a2 M S0 = nuS M (a1 M S0).2 4 := rfl
  rw [c1] at c2
  have c2 := c2.trans g2
  have c3 : a3 M S0 = nuS M (a2 M S0).2 2 := rfl
  rw [c2] at c3
  have c3 := c3.trans g3
  have c4 : a4 M S0 = nuS M (a3 M S0).2 6 := rfl
  rw [c3] at c4
  have c4 := c4.trans g4
  have c5 : a5 M S0 = txS M (a4 M S0).2 := rfl
  rw [c4] at c5
  have c5 := c5.trans g5
  have c6 : a6 M S0 = nuS M (a5 M S0).2 2 := rfl
  rw [c5] at c6
  have c6 := c6.trans g6
  have cK : aK M S0 = r.ln := by
    unfold aK
    rw [c6]
    dsimp only
    omega
  have c7 : a7 M S0 = lsS M (a6 M S0).2 (aK M S0) := rfl
  rw [c6, cK] at c7
  have c7 := c7.trans g7
  rw [List.take_of_length_le (by omega)] at c7
  have c8 : a8 M S0 = nuS M (a7 M S0).2 2 := rfl
  rw [c7] at c8
  have c8 := c8.trans g8
  have c9 : a9 M S0 = byS M (a8 M S0).2 (a8 M S0).1 := rfl
  rw [c8] at c9
  have c9 := c9.trans g9
  have hrep : ∀ lp ln lc p n c, repT M S0 lp ln lc p n c = ⟨r.ses, r.id, r.err, r.num, r.text, lp, ln, lc, p, n, c⟩ := fun lp ln lc p n c => by
    unfold repT
    rw [c1, c2, c3, c4, c5]
    simp only [str_txF]
  have hend : M.length ≤ (a9 M S0).2.1 := by
    have h := congrArg List.length d9
    rw [List.length_drop, List.length_nil] at h
    rw [c9]
    dsimp only
    omega
  have herr : (a9 M S0).2.2 = 0 := by rw [c9]
  have hval : (a9 M S0).1 = ds := by rw [c9]
  have hlis : (a7 M S0).1 = L := by rw [c7]
  have hE : raE (frm (inA r L ds)) = 0 := by
    unfold raE
    rw [b0, bs0, hmid, hsum, hnum, hfl, hM]
    rw [if_neg (by omega), if_neg (by simp), if_neg (by simp), if_neg (by simp), if_neg, if_neg]
    · rw [hrep, hval, hlis, cK]
      intro hx
      exact hx ⟨m0, m1, m2, m3, m4, m5, m6, by show ds.length ≤ 4096; omega⟩
    · unfold doneS
      rw [if_neg (by omega), herr]
      simp
  refine ⟨hE, ?_, ?_, fun lp ln lc p n c => ?_⟩
  · unfold raL
    rw [if_pos hE, hmid, bs0, hM, hlis]
  · unfold raD
    rw [if_pos hE, hmid, bs0, hM, hval]
  · unfold raG
    rw [if_pos hE, hmid, bs0, hM, hrep]
theorem raE_ok {bs : List Int} (h : raE bs = 0) : 13 ≤ bs.length ∧ bs.length ≤ 65536 ∧ leV (bs.take 4) = ((bs.length - 4 : Nat) : Int) ∧ leV (endF bs) = (shaD (midF bs)).a ∧ (nuS (midF bs) (0, 0) 1).1 = 2 ∧ (a9 (midF bs) (s0F bs)).2.2 = 0 ∧ (midF bs).length ≤ (a9 (midF bs) (s0F bs)).2.1 ∧ MayA (repT (midF bs) (s0F bs) none (aK (midF bs) (s0F bs)) 0 none (a9 (midF bs) (s0F bs)).1.length 0) (a7 (midF bs) (s0F bs)).1 := by
  unfold raE at h
  by_cases h1 : bs.length < 13 ∨ 65536 < bs.length
  · rw [if_pos h1] at h; omega
  rw [if_neg h1] at h
  by_cases h2 : leV (bs.take 4) ≠ ((bs.length - 4 : Nat) : Int)
  · rw [if_pos h2] at h; omega
  rw [if_neg h2] at h
  by_cases h3 : leV (endF bs) ≠ (shaD (midF bs)).a
  · rw [if_pos h3] at h; omega
  rw [if_neg h3] at h
  by_cases h4 : (nuS (midF bs) (0, 0) 1).1 ≠ 2
  · rw [if_pos h4] at h; omega
  rw [if_neg h4] at h
  by_cases h5 : doneS (midF bs).length (a9 (midF bs) (s0F bs)).2.1 (a9 (midF bs) (s0F bs)).2.2 ≠ 0
  · rw [if_pos h5] at h; omega
  rw [if_neg h5] at h
  by_cases h6 : ¬ MayA (repT (midF bs) (s0F bs) none (aK (midF bs) (s0F bs)) 0 none (a9 (midF bs) (s0F bs)).1.length 0) (a7 (midF bs) (s0F bs)).1
  · rw [if_pos h6] at h; omega
  have h5' : doneS (midF bs).length (a9 (midF bs) (s0F bs)).2.1 (a9 (midF bs) (s0F bs)).2.2 = 0 := Classical.not_not.1 h5
  unfold doneS at h5'
  refine ⟨by omega, by omega, Classical.not_not.1 h2, Classical.not_not.1 h3, Classical.not_not.1 h4, ?_, ?_, Classical.not_not.1 h6⟩
  · split at h5'
    · omega
    · exact h5'
  · split at h5'
    · omega
    · rename_i hx; omega
theorem back_ba {bs : List Int} (hb : ∀ z ∈ bs, 0 ≤ z ∧ z < 256) (h : raE bs = 0) (lp : Option Addr) (lc : Nat) (p : Option Addr) (c : Nat) : MayA (raG bs lp (raL bs).length lc p (raD bs).length c) (raL bs) ∧ frm (inA (raG bs lp (raL bs).length lc p (raD bs).length c) (raL bs) (raD bs)) = bs := by
  obtain ⟨h13, h65, hn, hs, h1, he, hend, hmay⟩ := raE_ok h
  have hbM := midF_bd hb
  have hD : raD bs = (a9 (midF bs) (s0F bs)).1 := by unfold raD; rw [if_pos h]
  have hL : raL bs = (a7 (midF bs) (s0F bs)).1 := by unfold raL; rw [if_pos h]
  have hG : ∀ ln n, raG bs lp ln lc p n c = repT (midF bs) (s0F bs) lp ln lc p n c := fun ln n => by unfold raG; rw [if_pos h]
  have hof := frm_of hb h13 hn hs
  obtain ⟨M, hM⟩ : ∃ M, midF bs = M := ⟨_, rfl⟩
  have hS : s0F bs = (nuS M (0, 0) 1).2 := by unfold s0F; rw [hM]
  rw [hM] at h1 he hend hmay hbM hD hL hG hof
  obtain ⟨S0, hS0⟩ : ∃ S0, s0F bs = S0 := ⟨_, rfl⟩
  rw [hS0] at hS he hend hmay hD hL hG
  obtain ⟨e8, d8, l8⟩ := byS_inv (s := (a8 M S0).2) (k := (a8 M S0).1) he
  obtain ⟨e7, d7, b7, _⟩ := nuS_inv hbM (s := (a7 M S0).2) (k := 2) e8
  obtain ⟨e6, d6⟩ := lsS_inv hbM (a6 M S0).2 (aK M S0) e7
  obtain ⟨e5, d5, b5, b5'⟩ := nuS_inv hbM (s := (a5 M S0).2) (k := 2) e6
  obtain ⟨e4, d4⟩ := txS_inv hbM (s := (a4 M S0).2) e5
  obtain ⟨e3, d3, b3, _⟩ := nuS_inv hbM (s := (a3 M S0).2) (k := 6) e4
  obtain ⟨e2, d2, b2, _⟩ := nuS_inv hbM (s := (a2 M S0).2) (k := 2) e3
  obtain ⟨e1, d1, b1, _⟩ := nuS_inv hbM (s := (a1 M S0).2) (k := 4) e2
  obtain ⟨e0, d0, b0, _⟩ := nuS_inv hbM (s := S0) (k := 1) e1
  have d0' : M.drop S0.1 = le (a1 M S0).1 1 ++ M.drop (a1 M S0).2.1 := d0
  have d1' : M.drop (a1 M S0).2.1 = le (a2 M S0).1 4 ++ M.drop (a2 M S0).2.1 := d1
  have d2' : M.drop (a2 M S0).2.1 = le (a3 M S0).1 2 ++ M.drop (a3 M S0).2.1 := d2
  have d3' : M.drop (a3 M S0).2.1 = le (a4 M S0).1 6 ++ M.drop (a4 M S0).2.1 := d3
  have d4' : M.drop (a4 M S0).2.1 = txF (strOfNums (a5 M S0).1) ++ M.drop (a5 M S0).2.1 := d4
  have d5' : M.drop (a5 M S0).2.1 = le (a6 M S0).1 2 ++ M.drop (a6 M S0).2.1 := d5
  have d6' : M.drop (a6 M S0).2.1 = txT (a7 M S0).1 (aK M S0) ++ M.drop (a7 M S0).2.1 := d6
  have d7' : M.drop (a7 M S0).2.1 = le (a8 M S0).1 2 ++ M.drop (a8 M S0).2.1 := d7
  have d8' : M.drop (a8 M S0).2.1 = (a9 M S0).1 ++ M.drop (a9 M S0).2.1 := d8
  have b5a : 0 ≤ (a6 M S0).1 := b5
  have dend : M.drop (a9 M S0).2.1 = [] := List.drop_eq_nil_of_le hend
  have hlK : (a7 M S0).1.length = aK M S0 := lsS_len _ _ _
  have hK : ((aK M S0 : Nat) : Int) = (a6 M S0).1 := by
    have h2 := congrArg List.length d6'
    have h3 := congrArg List.length d7'
    have h4 := txT_ge (a7 M S0).1 (aK M S0)
    rw [List.length_drop, List.length_append] at h2
    rw [List.length_append, le_length] at h3
    have h5 : aK M S0 = min (a6 M S0).1.toNat (M.length - (a6 M S0).2.1) := rfl
    omega
  have hst : (nuS M (0, 0) 1).2.2 = 0 := by rw [← hS]; exact e0
  obtain ⟨_, dm, _⟩ := nuS_inv hbM (s := ((0, 0) : Rst)) (k := 1) hst
  have dm' : M = le (nuS M (0, 0) 1).1 1 ++ M.drop S0.1 := by rw [hS]; exact dm
  rw [h1] at dm'
  have hlen : (((a9 M S0).1.length : Nat) : Int) = (a8 M S0).1 := l8
  have hin : inA (repT M S0 lp (a7 M S0).1.length lc p (a9 M S0).1.length c) (a7 M S0).1 (a9 M S0).1 = M := by
    have e : M = [2] ++ (le (a1 M S0).1 1 ++ (le (a2 M S0).1 4 ++ (le (a3 M S0).1 2 ++ (le (a4 M S0).1 6 ++ (txF (strOfNums (a5 M S0).1) ++ (le (a6 M S0).1 2 ++ (txT (a7 M S0).1 (aK M S0) ++ (le (a8 M S0).1 2 ++ (a9 M S0).1)))))))) := by
      conv => lhs; rw [dm', d0', d1', d2', d3', d4', d5', d6', d7', d8', dend, List.append_nil]
      rfl
    conv => rhs; rw [e]
    unfold inA bodyA repT
    rw [hlK, hK, hlen]
    simp
  rw [hG, hD, hL, hin]
  refine ⟨?_, hof.symm⟩
  rw [hlK]
  exact hmay
end
section
open Go.RowKit Go.Lib
set_option maxRecDepth 100000

set_option maxHeartbeats 6400000 in
theorem sameA_any (ses id err num : Int) (text : ByteArray) (lp lq : Option Addr) (ln lc le_ : Nat) (p q : Option Addr) (n c m d : Nat) (L : List ByteArray) (ds : List Int) (w : World) (hL : L.length = ln) (hln : ln ≤ 9223372036854775807) (hl1 : RdL w lp L) (hl2 : RdL w lq L) (h1 : Rd w p ds) (h2 : Rd w q ds) (hn : ds.length = n) (hm : ds.length = m) :
    Calls Tryd.prog 20 #[.agg #[.int .i64 ses, .int .i64 id, .int .i64 err, .int .i64 num, .string text, .slice lp ln lc, .slice p n c], .agg #[.int .i64 ses, .int .i64 id, .int .i64 err, .int .i64 num, .string text, .slice lq ln le_, .slice q m d]] w fun e w' => e = .returned (.bool true) ∧ Frm [] w w' := by
  obtain ⟨PO, hPO⟩ : ∃ PO : Ending → World → Prop, (fun e w' => e = .returned (.bool true) ∧ Frm [] w w') = PO := ⟨_, rfl⟩
  rw [hPO]
  have HP : Hid (∀ w', Frm [] w w' → PO (.returned (.bool true)) w') := hid (fun w' h => by rw [← hPO]; exact ⟨rfl, h⟩)
  clear hPO
  have hra := heap_alloc_new w (.cells #[.int .i64 ses, .int .i64 id, .int .i64 err, .int .i64 num, .string text, .slice lp ln lc, .slice p n c] 32)
  obtain ⟨wa, hwa⟩ : ∃ z, w.alloc (.cells #[.int .i64 ses, .int .i64 id, .int .i64 err, .int .i64 num, .string text, .slice lp ln lc, .slice p n c] 32) = z := ⟨_, rfl⟩
  have hfa : Frm [] w wa := by rw [← hwa]; exact (Frm.refl _ _).alloc _
  obtain ⟨ba, hba⟩ : ∃ z, w.heap.size = z := ⟨_, rfl⟩
  rw [hwa, hba] at hra
  have hrb := heap_alloc_new wa (.cells #[.int .i64 ses, .int .i64 id, .int .i64 err, .int .i64 num, .string text, .slice lq ln le_, .slice q m d] 32)
  obtain ⟨wb, hwb⟩ : ∃ z, wa.alloc (.cells #[.int .i64 ses, .int .i64 id, .int .i64 err, .int .i64 num, .string text, .slice lq ln le_, .slice q m d] 32) = z := ⟨_, rfl⟩
  have hfb : Frm [] wa wb := by rw [← hwb]; exact (Frm.refl _ _).alloc _
  obtain ⟨bb, hbb⟩ : ∃ z, wa.heap.size = z := ⟨_, rfl⟩
  rw [hwb, hbb] at hrb
  have hbs : ba + 1 = bb := by rw [← hbb, ← hwa, ← hba]; simp
  have HBS := hid hbs
  have HBA := hid hba
  have HBB := hid hbb
  have HWA := hid hwa
  have HWB := hid hwb
  have HF : Hid (Frm [] w wb) := hid (hfa.trans hfb (by simp))
  have HX : Hid (∀ V, Frm [] wb V → (V.cell? ⟨ba, 0, none⟩ = some (.int .i64 ses) ∧ V.cell? ⟨ba, 1, none⟩ = some (.int .i64 id) ∧ V.cell? ⟨ba, 2, none⟩ = some (.int .i64 err) ∧ V.cell? ⟨ba, 3, none⟩ = some (.int .i64 num) ∧ V.cell? ⟨ba, 4, none⟩ = some (.string text) ∧ V.cell? ⟨ba, 5, none⟩ = some (.slice lp ln lc) ∧ V.cell? ⟨ba, 6, none⟩ = some (.slice p n c)) ∧ (V.cell? ⟨bb, 0, none⟩ = some (.int .i64 ses) ∧ V.cell? ⟨bb, 1, none⟩ = some (.int .i64 id) ∧ V.cell? ⟨bb, 2, none⟩ = some (.int .i64 err) ∧ V.cell? ⟨bb, 3, none⟩ = some (.int .i64 num) ∧ V.cell? ⟨bb, 4, none⟩ = some (.string text) ∧ V.cell? ⟨bb, 5, none⟩ = some (.slice lq ln le_) ∧ V.cell? ⟨bb, 6, none⟩ = some (.slice q m d))) := hid (fun V hf => by
    have e1 := hf.heap (hfb.heap hra (by simp)) (by simp)
    have e2 := hf.heap hrb (by simp)
    refine ⟨⟨?_, ?_, ?_, ?_, ?_, ?_, ?_⟩, ⟨?_, ?_, ?_, ?_, ?_, ?_, ?_⟩⟩ <;> first | (rw [cell_of_row _ _ _ _ _ _ e1]; rfl) | (rw [cell_of_row _ _ _ _ _ _ e2]; rfl))
  have HL1 := hid (hl1.kept HF.out (by simp))
  have HL2 := hid (hl2.kept HF.out (by simp))
  have HR1 := hid (h1.kept HF.out (by simp))
  have HR2 := hid (h2.kept HF.out (by simp))
  have HN := hid hn
  have HM := hid hm
  have HLL := hid hL
  clear hwa hwb hfa hfb hra hrb h1 h2 hn hm hba hbb hbs hl1 hl2 hL
  obtain ⟨⟨x0, x1, x2, x3, x4, x5, x6⟩, ⟨y0, y1, y2, y3, y4, y5, y6⟩⟩ := HX.out wb (Frm.refl _ _)
  go_enter Tryd.func20, Tryd.ntmps20
  go_upto_region 1 with fail
  first | rw [HBB.out] | skip
  first | rw [HWA.out] | skip
  first | rw [HBA.out] | skip
  first | rw [HBB.out] | skip
  first | rw [HBS.out] | skip
  first | rw [HWB.out] | skip
  go_wp2_with fail
  go_loopw [5] (fun i wr => ∃ t : Nat, t ≤ ln ∧ i = .int .i64 (t : Int) ∧ Hid (Frm [] wb wr)) (fun i _ => ln - (intOf i).toNat)
  case atStart => exact ⟨0, Nat.zero_le _, rfl, hid (Frm.refl _ _)⟩
  case round =>
    clear x0 x1 x2 x3 x4 x5 x6 y0 y1 y2 y3 y4 y5 y6
    obtain ⟨t, ht, rfl, hin⟩ := hrel
    have HIN := hid hin.out
    clear hin
    obtain ⟨⟨x0, x1, x2, x3, x4, x5, x6⟩, ⟨y0, y1, y2, y3, y4, y5, y6⟩⟩ := HX.out wr HIN.out
    by_cases hlt : t < ln
    · have t1 : (t : Int) < (ln : Int) := by omega
      obtain ⟨v, hv⟩ : ∃ v, L[t]? = some v := ⟨_, List.getElem?_eq_getElem (by rw [HLL.out]; exact hlt)⟩
      obtain ⟨g1, o1, rfl, k1⟩ := (HL1.out.kept HIN.out (by simp)).at hv
      obtain ⟨g2, o2, rfl, k2⟩ := (HL2.out.kept HIN.out (by simp)).at hv
      have HF2 : Hid (∀ k, Frm [] wb (wr.drewN k)) := hid (fun k => HIN.out.drewN k)
      clear hv
      clear x0 x1 x2 x3 x4 x6 y0 y1 y2 y3 y4 y6
      go_wp2_with fail
      go_quiet (fail)
      go_wp2_with fail
      go_roundw
      case rel => exact ⟨t + 1, by omega, by go_num, hid (HF2.out _)⟩
      case measure => first | (simp [intOf]; done) | (simp [intOf]; omega)
    · obtain rfl : t = ln := by omega
      have cv1 := cv_any (P := Tryd.prog) (w := wr) 22 5 9 Tryd.underlying22 Tryd.underlying5 Tryd.underlying9 (HR1.out.kept HIN.out (by simp)) c HN.out
      have cv2 := cv_any (P := Tryd.prog) (w := wr) 22 5 9 Tryd.underlying22 Tryd.underlying5 Tryd.underlying9 (HR2.out.kept HIN.out (by simp)) d HM.out
      go_wp2_with fail
      first | go_returns | skip
      exact HP.out _ (HF.out.trans HIN.out (by simp))
end
end Go.Proofs.YtignoocdeghiaaaDoor
