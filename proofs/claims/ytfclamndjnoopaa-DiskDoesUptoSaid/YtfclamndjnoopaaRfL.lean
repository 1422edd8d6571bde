/- Bytes turned about by a mask: the program's turn, the document's turned. -/
import Derived.Test.YtfclamndjnoopaaRfF
import Derived.Laws.BitsAllLaws
namespace Go.Proofs.Ytfclamndjnoopaa
open Go.RowKit Go.Lib
set_option maxRecDepth 100000

/-- The first j bytes are turned. -/
def xj (bs ms : List Int) (j : Nat) : List Int := ((List.range j).map (fun i => bits .xor .u8 (bs.getD i 0) (ms.getD i 0))) ++ bs.drop j
theorem xj_zero (bs ms : List Int) : xj bs ms 0 = bs := by simp [xj]
theorem xj_length {bs ms : List Int} {j : Nat} (h : j ≤ bs.length) : (xj bs ms j).length = bs.length := by simp [xj]; omega
theorem xj_at {bs ms : List Int} {j : Nat} : (xj bs ms j).getD j 0 = bs.getD j 0 := by
  unfold xj
  rw [List.getD_eq_getElem?_getD, List.getElem?_append_right (by simp), List.length_map, List.length_range, Nat.sub_self, List.getElem?_drop, Nat.add_zero, List.getD_eq_getElem?_getD]
theorem xj_set {bs ms : List Int} {j : Nat} (h : j < bs.length) : (xj bs ms j).set j (bits .xor .u8 (bs.getD j 0) (ms.getD j 0)) = xj bs ms (j + 1) := by
  unfold xj
  rw [List.set_append_right _ _ (by simp), List.length_map, List.length_range, Nat.sub_self, List.drop_eq_getElem_cons h, List.set_cons_zero, List.range_succ, List.map_append]
  simp
theorem xj_bd {bs ms : List Int} {j : Nat} (hb : ∀ z ∈ bs, 0 ≤ z ∧ z < 256) (hm : ∀ z ∈ ms, 0 ≤ z ∧ z < 256) : ∀ z ∈ xj bs ms j, 0 ≤ z ∧ z < 256 := by
  have gd : ∀ (l : List Int), (∀ z ∈ l, 0 ≤ z ∧ z < 256) → ∀ i, 0 ≤ l.getD i 0 ∧ l.getD i 0 < 256 := fun l hl i => by
    rw [List.getD_eq_getElem?_getD]
    cases e : l[i]? with
    | none => simp
    | some v => simpa using hl v (List.mem_of_getElem? e)
  intro z hz
  unfold xj at hz
  rcases List.mem_append.1 hz with h | h
  · simp only [List.mem_map, List.mem_range] at h
    obtain ⟨i, _, rfl⟩ := h
    obtain ⟨a1, a2⟩ := gd bs hb i
    obtain ⟨b1, b2⟩ := gd ms hm i
    rw [u8_xor _ _ a1 a2 b1 b2]
    have hlt : (bs.getD i 0).toNat ^^^ (ms.getD i 0).toNat < 2 ^ 8 := Nat.xor_lt_two_pow (by omega) (by omega)
    omega
  · exact hb z (List.mem_of_mem_drop h)
/-- A sector by a mask. -/
def xr (bs ms : List Int) : List Int := xj bs ms ms.length
theorem rd_at {w : World} {p : Option Addr} {ms : List Int} (h : Rd w p ms) {i : Nat} (hi : i < ms.length) : ∃ g o, p = some ⟨g, o, none⟩ ∧ w.cell? ⟨g, o + i, none⟩ = some (.int .u8 (ms.getD i 0)) := by
  rcases h with h0 | ⟨g, o, rfl, hc⟩
  · subst h0; simp at hi
  · exact ⟨g, o, rfl, hc i hi⟩
set_option maxHeartbeats 3200000 in
theorem turn_any (g off cc : Nat) (C : List Value) (B : TypeId) (bs : List Int) (p : Option Addr) (cm : Nat) (ms : List Int) (w : World) (hg : w.heap[g]? = some (.cells C.toArray B (0, 0))) (hC : off + 128 ≤ C.length) (hb : (C.drop off).take 128 = bv bs) (hl : bs.length = 128) (hm : ms.length ≤ 128) (hrd : Rd w p ms) (hap : ms ≠ [] → g ∉ blk p) :
    Calls Try.prog 50 #[.slice (some ⟨g, off, none⟩) 128 cc, .slice p ms.length cm] w fun e w' => e = .returned (.tuple #[]) ∧ w'.heap[g]? = some (.cells (C.take off ++ bv (xr bs ms) ++ C.drop (off + 128)).toArray B (0, 0)) ∧ Frm [g] w w' := by
  have HRD := hid hrd
  have HAP := hid hap
  have HBL := hid hl
  have HC := hid hC
  obtain ⟨m, hmm⟩ : ∃ m, ms.length = m := ⟨_, rfl⟩
  have HM := hid hmm
  rw [hmm] at hm ⊢
  have HST : Hid (w.heap[g]? = some (.cells (C.take off ++ bv (xj bs ms 0) ++ C.drop (off + 128)).toArray B (0, 0)) ∧ Frm [g] w w) := hid ⟨by
    rw [xj_zero, ← hb, hg]
    congr 2
    have e : C = C.take off ++ ((C.drop off).take 128 ++ (C.drop off).drop 128) := by rw [List.take_append_drop, List.take_append_drop]
    conv => lhs; rw [e]
    rw [List.drop_drop, List.append_assoc], Frm.refl _ _⟩
  clear hg hC hb hl hrd hap hmm
  go_enter Try.func50, Try.ntmps50
  go_wp2_with fail
  go_loopw [8, 4, 5] (fun t s4 s5 wr => ∃ j : Nat, j ≤ m ∧ t = .int .i64 (j : Int) ∧ Hid (wr.heap[g]? = some (.cells (C.take off ++ bv (xj bs ms j) ++ C.drop (off + 128)).toArray B (0, 0)) ∧ Frm [g] w wr)) (fun t _ _ _ => m - (intOf t).toNat)
  case atStart => exact ⟨0, by omega, rfl, HST⟩
  case round =>
    clear HST
    obtain ⟨j, hj, rfl, hin⟩ := hrel
    by_cases hlt : j < m
    · have t1 : (j : Int) < (m : Int) := by omega
      obtain ⟨gm, om, rfl, hcm⟩ := rd_at HRD.out (i := j) (by rw [HM.out]; exact hlt)
      have hne : ms ≠ [] := fun e => by have := HM.out; rw [e] at this; simp at this; omega
      have c1 := (hin.out.2.cell (p := ⟨gm, om + j, none⟩) (World.block_lt_of_cell? w _ hcm) (by simp; exact fun e => HAP.out hne (by simp [blk, e]))).trans hcm
      have hxl : (xj bs ms j).length = 128 := (xj_length (by rw [HBL.out]; omega)).trans HBL.out
      have htl : (C.take off).length = off := by rw [List.length_take]; have := HC.out; omega
      have c2 : wr.cell? ⟨g, off + j, none⟩ = some (.int .u8 (bs.getD j 0)) := by
        rw [cell_of_row _ _ _ _ _ _ hin.out.1]
        simp only [List.getElem?_toArray]
        rw [List.append_assoc, List.getElem?_append_right (by omega), htl, show off + j - off = j by omega, List.getElem?_append_left (by rw [bv_length, hxl]; omega), bv_get (by rw [hxl]; omega), xj_at]
      have z2 : wr.frozen? ⟨g, off + j, none⟩ = false := frozen_of_row _ _ _ _ _ hin.out.1
      have t2 : (j : Int) < 128 := by omega
      obtain ⟨X, hX⟩ : ∃ X, bs.getD j 0 = X := ⟨_, rfl⟩
      obtain ⟨Y, hY⟩ : ∃ Y, ms.getD j 0 = Y := ⟨_, rfl⟩
      rw [hX] at c2
      rw [hY] at c1
      have HIN : Hid ((wr.setCell ⟨g, off + j, none⟩ (.int .u8 (bits .xor .u8 X Y))).heap[g]? = some (.cells (C.take off ++ bv (xj bs ms (j + 1)) ++ C.drop (off + 128)).toArray B (0, 0)) ∧ Frm [g] w (wr.setCell ⟨g, off + j, none⟩ (.int .u8 (bits .xor .u8 X Y)))) := hid ⟨by
        rw [heap_setCell_same _ _ _ _ _ _ hin.out.1]
        congr 2
        apply Array.ext'
        simp only [Array.toList_setIfInBounds]
        rw [List.append_assoc, List.set_append_right _ _ (by omega), htl, show off + j - off = j by omega, List.set_append_left _ _ (by rw [bv_length, hxl]; omega), ← xj_set (by rw [HBL.out]; omega), hX, hY]
        unfold bv
        rw [← List.map_set (f := fun z => Value.int .u8 z), List.append_assoc], hin.out.2.trans ((Frm.refl [g] wr).setCell _ _ (by simp)) (fun k hk _ => hk)⟩
      clear hcm hne hxl htl hX hY hin
      go_wp2_with fail
      go_roundw
      case rel => exact ⟨j + 1, by omega, by go_num, HIN⟩
      case measure => first | (simp [intOf]; done) | (simp [intOf]; omega)
    · obtain rfl : j = m := by omega
      go_wp2_with fail
      go_returns
      unfold xr
      rw [HM.out]
      exact ⟨rfl, hin.out.1, hin.out.2⟩
set_option maxHeartbeats 3200000 in
theorem refTurned_any (g c : Nat) (bs : List Int) (p : Option Addr) (cm : Nat) (ms : List Int) (w : World) (hr : Rd w (some ⟨g, 0, none⟩) bs) (hl : bs.length = 128) (hm : ms.length ≤ 128) (hrd : Rd w p ms) :
    Calls Try.prog 51 #[.slice (some ⟨g, 0, none⟩) 128 c, .slice p ms.length cm] w fun e w' => ∃ g' c', e = .returned (.slice (some ⟨g', 0, none⟩) 128 c') ∧ Rd w' (some ⟨g', 0, none⟩) (xr bs ms) ∧ 128 ≤ c' ∧ Frm [] w w' ∧ w.heap.size ≤ g' ∧ g' < w'.heap.size := by
  have HR := hid hr
  have HRD := hid hrd
  have HBL := hid hl
  obtain ⟨m, hmm⟩ : ∃ m, ms.length = m := ⟨_, rfl⟩
  have HM := hid hmm
  rw [hmm] at hm ⊢
  have HL := hid hl.symm
  clear hr hrd hl hmm
  go_enter Try.func51, Try.ntmps51
  go_wp2_with (at_builtin; refine wpList_appB rfl _ _ 22 rfl 5 Try.underlying22 infoB none 0 0 [] rfl rfl (Own.nil _ _) (some ⟨g, 0, none⟩) 128 c bs rfl HL.out (by simp) HR.out (by have := HBL.out; simp; omega) ?_)
  intro ys p5 c5 w5 hys ho5 hf5 hb5
  have hye : ys = bs := by simpa using hys.out
  have ho5' := ho5.out
  rw [hye] at ho5'
  have hyl : ys.length = 128 := by rw [hye]; exact HBL.out
  rw [hyl]
  rw [HBL.out] at ho5'
  obtain ⟨g5, c0, cur, he5, hg5, hcur, hcap⟩ : ∃ (g5 c0 : Nat) (cur : List Value), p5 = some ⟨g5, 0, none⟩ ∧ w5.heap[g5]? = some (.cells cur.toArray 5 (0, 0)) ∧ cur.take 128 = bv bs ∧ 128 ≤ cur.length ∧ c5 = c0 ∧ 128 ≤ c0 := by
    rcases ho5'.2 with ⟨h, h0⟩ | ⟨g5, c', cur, he, _, hg, hc, _, hs, ht⟩
    · rw [HBL.out] at h0; omega
    · simp only [Value.slice.injEq] at he
      obtain ⟨rfl, _, rfl⟩ := he
      rw [HBL.out] at hc ht
      exact ⟨g5, c5, cur.toList, rfl, by simpa using hg, by simpa using ht, by simp [hs]; omega, rfl, hc⟩
  subst he5
  have hge5 := (hb5.out g5 (by simp [blk])).resolve_left (by simp [blk])
  have hf5' := hf5.out
  rw [blk_none] at hf5'
  have HST : Hid (w5.heap[g5]? = some (.cells (bv (xj bs ms 0) ++ cur.drop 128).toArray 5 (0, 0)) ∧ Frm [] w w5) := hid ⟨by rw [xj_zero, ← hcur, List.take_append_drop]; exact hg5, hf5'⟩
  have HGE : Hid (w.heap.size ≤ g5 ∧ 128 ≤ c5) := hid ⟨by simpa using hge5, by omega⟩
  clear hys ho5 hf5 hb5 hye ho5' hyl hg5 hcur hcap hge5 hf5' HR HL
  go_wp2_with fail
  go_loopw [6] (fun t wr => ∃ j : Nat, j ≤ m ∧ t = .int .i64 (j : Int) ∧ Hid (wr.heap[g5]? = some (.cells (bv (xj bs ms j) ++ cur.drop 128).toArray 5 (0, 0)) ∧ Frm [] w wr)) (fun t _ => m - (intOf t).toNat)
  case atStart => exact ⟨0, by omega, rfl, HST⟩
  case round =>
    clear HST
    obtain ⟨j, hj, rfl, hin⟩ := hrel
    by_cases hlt : j < m
    · have t1 : (j : Int) < (m : Int) := by omega
      obtain ⟨gm, om, rfl, hcm⟩ := rd_at HRD.out (i := j) (by rw [HM.out]; exact hlt)
      have c1 : wr.drew.cell? ⟨gm, om + j, none⟩ = _ := (hin.out.2.cell (p := ⟨gm, om + j, none⟩) (World.block_lt_of_cell? w _ hcm) (by simp)).trans hcm
      have c1' := (hin.out.2.cell (p := ⟨gm, om + j, none⟩) (World.block_lt_of_cell? w _ hcm) (by simp)).trans hcm
      have hxl : (xj bs ms j).length = 128 := (xj_length (by rw [HBL.out]; omega)).trans HBL.out
      have c2 : wr.cell? ⟨g5, j, none⟩ = some (.int .u8 (bs.getD j 0)) := by
        rw [cell_of_row _ _ _ _ _ _ hin.out.1]
        simp only [List.getElem?_toArray]
        rw [List.getElem?_append_left (by rw [bv_length, hxl]; omega), bv_get (by rw [hxl]; omega), xj_at]
      have z2 : wr.frozen? ⟨g5, j, none⟩ = false := frozen_of_row _ _ _ _ _ hin.out.1
      have t2 : (j : Int) < 128 := by omega
      obtain ⟨X, hX⟩ : ∃ X, bs.getD j 0 = X := ⟨_, rfl⟩
      obtain ⟨Y, hY⟩ : ∃ Y, ms.getD j 0 = Y := ⟨_, rfl⟩
      rw [hX] at c2
      rw [hY] at c1 c1'
      have HIN : Hid ((wr.drew.setCell ⟨g5, j, none⟩ (.int .u8 (bits .xor .u8 X Y))).heap[g5]? = some (.cells (bv (xj bs ms (j + 1)) ++ cur.drop 128).toArray 5 (0, 0)) ∧ Frm [] w (wr.drew.setCell ⟨g5, j, none⟩ (.int .u8 (bits .xor .u8 X Y)))) := hid ⟨by
        rw [heap_setCell_same wr.drew _ _ _ _ _ hin.out.1]
        congr 2
        apply Array.ext'
        simp only [Array.toList_setIfInBounds]
        rw [List.set_append_left _ _ (by rw [bv_length, hxl]; omega), ← xj_set (by rw [HBL.out]; omega), hX, hY]
        unfold bv
        rw [← List.map_set (f := fun z => Value.int .u8 z)], hin.out.2.drew.trans ((Frm.refl [g5] wr.drew).setCell _ _ (by simp)) (fun k hk hkl => by simp at hk; subst hk; have := HGE.out.1; omega)⟩
      clear hcm hxl hX hY hin
      go_wp2_with fail
      go_still_tail 12, (by kernel_rfl)
      change wpList _ _ _ _ _ wr.drew
      have q2 : wr.drew.cell? ⟨g5, j, none⟩ = some (.int .u8 X) := c2
      have qz : wr.drew.frozen? ⟨g5, j, none⟩ = false := z2
      obtain ⟨wb, hwb⟩ : ∃ W, wr.drew = W := ⟨_, rfl⟩
      rw [hwb] at q2 qz HIN ⊢
      clear hwb c1 c1' c2 z2
      go_wp2_with fail
      go_roundw
      case rel => exact ⟨j + 1, by omega, by go_num, HIN⟩
      case measure => first | (simp [intOf]; done) | (simp [intOf]; omega)
    · obtain rfl : j = m := by omega
      go_wp2_with fail
      go_returns
      have hxl : (xj bs ms j).length = 128 := (xj_length (by rw [HBL.out]; omega)).trans HBL.out
      refine ⟨g5, c5, rfl, Or.inr ⟨g5, 0, rfl, fun i hi => ?_⟩, HGE.out.2, hin.out.2, HGE.out.1, lt_of_heap hin.out.1⟩
      unfold xr at hi ⊢
      rw [HM.out] at hi ⊢
      rw [Nat.zero_add, cell_of_row _ _ _ _ _ _ hin.out.1]
      simp only [List.getElem?_toArray]
      rw [List.getElem?_append_left (by rw [bv_length]; exact hi), bv_get hi]
end Go.Proofs.Ytfclamndjnoopaa
