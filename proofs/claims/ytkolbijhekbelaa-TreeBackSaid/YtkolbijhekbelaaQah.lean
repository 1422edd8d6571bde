/- The document's numbers, noughts and sums at a place. The document's Decode of a pointer. The document's Decode of a pointer. The document's formed. The document's Decode of an uberblock. Bytes in pieces: plain facts; lists of blocks of one's own; tree.Blank, Cost. -/
import Derived.Test.YtkolbijhekbelaaQae
import Derived.BigQuiet
import Derived.Deep.DeepCutAuto
import Derived.Test.YtkolbijhekbelaaQag
import Derived.Deep.RegionHeld3
import Derived.Test.YtkolbijhekbelaaQaf
import Derived.Test.YtkolbijhekbelaaQab
import Derived.Laws.Tables
namespace Go.Proofs.Ytkolbijhekbelaa
section
section
open Go.RowKit
set_option maxRecDepth 100000

theorem valAt_zero (bs : List Int) (pos : Nat) : valAt bs pos 0 = 0 := by unfold valAt; rfl
theorem valAt_step (bs : List Int) (pos k : Nat) (h : pos < bs.length) : valAt bs pos (k + 1) = 256 * valAt bs (pos + 1) k + bs.getD pos 0 := by
  unfold valAt
  rw [List.drop_eq_getElem_cons h, List.take_succ_cons]
  show bs[pos] + 256 * leV _ = _
  simp [List.getD, h]
  omega
set_option maxHeartbeats 1600000 in
theorem refAt_any (p : Option Addr) (n c : Nat) (bs : List Int) (w : World) (hn : bs.length = n) (hrd : Rd w p bs) (hb : ∀ z ∈ bs, 0 ≤ z ∧ z < 256) (fm k : Nat) (hk : k ≤ 8) (hf : fm + k ≤ n) (hmx : n ≤ 140737488355328) :
    Calls Try.prog 55 #[.slice p n c, .int .i64 (fm : Int), .int .i64 (k : Int)] w fun e w' => e = .returned (.int .u64 (valAt bs fm k)) ∧ w' = w := by
  have HR : Hid (∀ i, i < n → ∃ g o, p = some ⟨g, o, none⟩ ∧ w.cell? ⟨g, o + i, none⟩ = some (.int .u8 (bs.getD i 0))) := hid (by
    intro i hi
    rcases hrd with h | ⟨g, o, h1, h2⟩
    · subst h; simp at hn; omega
    · exact ⟨g, o, h1, h2 i (by omega)⟩)
  have HB := hid hb
  have HN := hid hn
  clear hrd hb hn
  go_enter Try.func55, Try.ntmps55
  go_wp2_with fail
  go_loopw [7, 8] (fun v i wr => ∃ j : Nat, j ≤ k ∧ i = .int .i64 ((j : Int) - 1) ∧ v = .int .u64 (valAt bs (fm + j) (k - j)) ∧ Hid (wr = w)) (fun _ i _ => (intOf i + 1).toNat)
  case atStart => exact ⟨k, Nat.le_refl _, rfl, by rw [Nat.sub_self, valAt_zero], hid rfl⟩
  case round =>
    obtain ⟨j, hj, rfl, rfl, hfr⟩ := hrel
    obtain rfl := hfr.out
    by_cases hlt : 0 < j
    · obtain ⟨m, rfl⟩ : ∃ m, j = m + 1 := ⟨j - 1, by omega⟩
      have HV := hid (valAt_bd HB.out (fm + (m + 1)) (k - (m + 1)) (by have := HN.out; omega))
      have HV2 := hid (valAt_bd HB.out (fm + m) (k - m) (by have := HN.out; omega))
      have HS : Hid (valAt bs (fm + m) (k - m) = 256 * valAt bs (fm + (m + 1)) (k - (m + 1)) + bs.getD (fm + m) 0) := hid (by
        rw [show k - m = (k - (m + 1)) + 1 by omega, valAt_step bs (fm + m) _ (by have := HN.out; omega)]
        rfl)
      obtain ⟨g, o, rfl, hc⟩ := HR.out (fm + m) (by omega)
      have hx := HB.out (bs.getD (fm + m) 0) (by have := HN.out; rw [List.getD_eq_getElem?_getD, List.getElem?_eq_getElem (by omega)]; exact List.getElem_mem _)
      generalize bs.getD (fm + m) 0 = x at hc hx HS
      obtain ⟨hx0, hx1⟩ := hx
      obtain ⟨V, hV⟩ : ∃ V, valAt bs (fm + (m + 1)) (k - (m + 1)) = V := ⟨_, rfl⟩
      obtain ⟨V2, hV2⟩ : ∃ V, valAt bs (fm + m) (k - m) = V := ⟨_, rfl⟩
      rw [hV] at HV HS ⊢
      rw [hV2] at HV2 HS
      have HV2' := hid hV2
      have hpw : (2 : Int) ^ (8 * (k - m)) ≤ 18446744073709551616 := by
        calc (2 : Int) ^ (8 * (k - m)) ≤ 2 ^ 64 := by exact_mod_cast Nat.pow_le_pow_right (by omega : 0 < 2) (show 8 * (k - m) ≤ 64 by omega)
          _ = _ := rfl
      have HW : Hid (0 ≤ V2 ∧ V2 < 18446744073709551616) := hid ⟨HV2.out.1, by have := HV2.out.2; omega⟩
      have hV0 := HV.out.1
      clear hV hV2 hpw HV HV2
      go_wp2_with fail
      go_roundw
      case rel =>
        refine ⟨m, by omega, by go_num, ?_, hid trivial⟩
        have := HS.out
        have := HW.out
        rw [HV2'.out]
        first
          | rw [IntWalk.u64_in _ (by omega), ← HS.out]
          | (rw [IntWalk.u64_in (256 * V) (by omega), IntWalk.u64_in _ (by omega), ← HS.out])
      case measure => simp [intOf]
    · obtain rfl : j = 0 := by omega
      go_wp2_with fail
      go_returns
      exact ⟨rfl, rfl⟩
def noughtB (bs : List Int) (a b : Nat) : Bool := ((bs.drop a).take (b - a)).all (· == 0)
theorem nought_step (bs : List Int) (a b j : Nat) (h : a + j < b) (hb : b ≤ bs.length) : noughtB bs (a + j) b = (decide (bs.getD (a + j) 0 = 0) && noughtB bs (a + (j + 1)) b) := by
  unfold noughtB
  rw [List.drop_eq_getElem_cons (show a + j < bs.length by omega), show b - (a + j) = (b - (a + (j + 1))) + 1 by omega, List.take_succ_cons, List.all_cons]
  have e : bs.getD (a + j) 0 = bs[a + j]'(by omega) := by simp [List.getD, show a + j < bs.length by omega]
  rw [e]
  congr 1
theorem nought_end (bs : List Int) (a : Nat) : noughtB bs a a = true := by unfold noughtB; simp
set_option maxHeartbeats 1600000 in
theorem refNought_any (p : Option Addr) (n c : Nat) (bs : List Int) (w : World) (hn : bs.length = n) (hrd : Rd w p bs) (a b : Nat) (hab : a ≤ b) (hb : b ≤ n) (hmx : n ≤ 140737488355328) :
    Calls Try.prog 54 #[.slice p n c, .int .i64 (a : Int), .int .i64 (b : Int)] w fun e w' => e = .returned (.bool (noughtB bs a b)) ∧ w' = w := by
  have HR : Hid (∀ i, i < n → ∃ g o, p = some ⟨g, o, none⟩ ∧ w.cell? ⟨g, o + i, none⟩ = some (.int .u8 (bs.getD i 0))) := hid (by
    intro i hi
    rcases hrd with h | ⟨g, o, h1, h2⟩
    · subst h; simp at hn; omega
    · exact ⟨g, o, h1, h2 i (by omega)⟩)
  have HN := hid hn
  clear hrd hn
  obtain ⟨R, hR⟩ : ∃ R, noughtB bs a b = R := ⟨_, rfl⟩
  rw [hR]
  have HR0 := hid hR
  clear hR
  go_enter Try.func54, Try.ntmps54
  go_wp2_with fail
  go_loopw [7] (fun i wr => ∃ j : Nat, a + j ≤ b ∧ i = .int .i64 ((a + j : Nat) : Int) ∧ Hid (noughtB bs (a + j) b = R) ∧ Hid (wr = w)) (fun i _ => b - (intOf i).toNat)
  case atStart => exact ⟨0, by omega, rfl, HR0, hid rfl⟩
  case round =>
    obtain ⟨j, hj, rfl, hq, hfr⟩ := hrel
    obtain rfl := hfr.out
    by_cases hlt : a + j < b
    · have t1 : ((a + j : Nat) : Int) < (b : Int) := by omega
      have HS := hid (nought_step bs a b j hlt (by have := HN.out; omega))
      obtain ⟨g, o, rfl, hc⟩ := HR.out (a + j) (by omega)
      generalize bs.getD (a + j) 0 = x at hc HS
      by_cases hx : x = 0
      · subst hx
        have HQ2 : Hid (noughtB bs (a + (j + 1)) b = R) := hid (by rw [← hq.out, HS.out]; simp)
        clear HS hq
        go_wp2_with fail
        go_roundw
        case rel => exact ⟨j + 1, by omega, by go_num, HQ2, hid trivial⟩
        case measure => simp [intOf]; omega
      · have hxb : (x != 0) = true := by simpa using hx
        have HQ2 : Hid (R = false) := hid (by rw [← hq.out, HS.out]; simp [hx])
        clear HS hq
        go_wp2_with fail
        go_returns
        exact ⟨by rw [HQ2.out]; rfl, rfl⟩
    · obtain rfl : b = a + j := by omega
      have HQ2 : Hid (R = true) := hid (by rw [← hq.out, nought_end])
      clear hq
      go_wp2_with fail
      go_returns
      exact ⟨by rw [HQ2.out]; rfl, rfl⟩
end
section
open Go.RowKit
set_option maxRecDepth 100000

set_option maxHeartbeats 1600000 in
theorem refSumAt_any (p : Option Addr) (n c : Nat) (bs : List Int) (w : World) (hn : bs.length = n) (hrd : Rd w p bs) (hb : ∀ z ∈ bs, 0 ≤ z ∧ z < 256) (fm : Nat) (hf : fm + 32 ≤ n) (hmx : n ≤ 140737488355328) :
    Calls Try.prog 56 #[.slice p n c, .int .i64 (fm : Int)] w fun e w' => e = .returned (.agg (sumAt bs fm).arr) ∧ Frm [] w w' := by
  have hrow := heap_alloc_new w (.cells #[.int .u64 0, .int .u64 0, .int .u64 0, .int .u64 0] 38)
  have hfa : Frm [] w (w.alloc (.cells #[.int .u64 0, .int .u64 0, .int .u64 0, .int .u64 0] 38)) := (Frm.refl _ _).alloc _
  have HA := hid (fun fm (h : fm + 8 ≤ n) => refAt_any p n c bs _ hn (hrd.kept hfa (by simp)) hb fm 8 (by omega) h hmx)
  have a0 := HA.out fm (by omega)
  have a1 := HA.out (fm + 8) (by omega)
  have a2 := HA.out (fm + 16) (by omega)
  have a3 := HA.out (fm + 24) (by omega)
  unfold sumAt S4.arr
  obtain ⟨v0, e0⟩ : ∃ v, valAt bs fm 8 = v := ⟨_, rfl⟩
  obtain ⟨v1, e1⟩ : ∃ v, valAt bs (fm + 8) 8 = v := ⟨_, rfl⟩
  obtain ⟨v2, e2⟩ : ∃ v, valAt bs (fm + 16) 8 = v := ⟨_, rfl⟩
  obtain ⟨v3, e3⟩ : ∃ v, valAt bs (fm + 24) 8 = v := ⟨_, rfl⟩
  rw [e0] at a0
  rw [e1, show ((fm + 8 : Nat) : Int) = (fm : Int) + 8 by omega] at a1
  rw [e2, show ((fm + 16 : Nat) : Int) = (fm : Int) + 16 by omega] at a2
  rw [e3, show ((fm + 24 : Nat) : Int) = (fm : Int) + 24 by omega] at a3
  dsimp only
  rw [e0, e1, e2, e3]
  obtain ⟨rb, hrb⟩ : ∃ rb, w.heap.size = rb := ⟨_, rfl⟩
  obtain ⟨wa, hwa⟩ : ∃ wa, w.alloc (.cells #[.int .u64 0, .int .u64 0, .int .u64 0, .int .u64 0] 38) = wa := ⟨_, rfl⟩
  rw [hwa] at a0 a1 a2 a3 hfa
  rw [hwa, hrb] at hrow
  simp only [Int.cast_ofNat_Int] at a0 a1 a2 a3
  have A0 := hid a0
  have A1 := hid a1
  have A2 := hid a2
  have A3 := hid a3
  have HF := hid hfa
  have HROW := hid hrow
  have HRB := hid hrb
  have hfm : fm ≤ 140737488355328 := by omega
  clear a0 a1 a2 a3 hfa hrow HA hrd hb e0 e1 e2 e3
  go_enter Try.func56, Try.ntmps56
  go_wp2_with fail
  clear hwa hrb
  refine A0.out.mono ?_
  rintro e w1 ⟨rfl, rfl⟩
  go_wp2_with fail
  refine A1.out.mono ?_
  rintro e w2 ⟨rfl, rfl⟩
  go_wp2_with fail
  refine A2.out.mono ?_
  rintro e w3 ⟨rfl, rfl⟩
  go_wp2_with fail
  refine A3.out.mono ?_
  rintro e w4 ⟨rfl, rfl⟩
  have y0 : w4.cell? ⟨rb, 0, none⟩ = some (.int .u64 0) := by rw [cell_of_row w4 _ _ _ _ _ HROW.out]; rfl
  have y1 : w4.cell? ⟨rb, 1, none⟩ = some (.int .u64 0) := by rw [cell_of_row w4 _ _ _ _ _ HROW.out]; rfl
  have y2 : w4.cell? ⟨rb, 2, none⟩ = some (.int .u64 0) := by rw [cell_of_row w4 _ _ _ _ _ HROW.out]; rfl
  have y3 : w4.cell? ⟨rb, 3, none⟩ = some (.int .u64 0) := by rw [cell_of_row w4 _ _ _ _ _ HROW.out]; rfl
  have z0 := frozen_of_row w4 rb 0 _ _ HROW.out
  have z1 := frozen_of_row w4 rb 1 _ _ HROW.out
  have z2 := frozen_of_row w4 rb 2 _ _ HROW.out
  have z3 := frozen_of_row w4 rb 3 _ _ HROW.out
  go_wp2_with fail
  obtain ⟨h4, f4⟩ := sets_row rb 38 [(0, .int .u64 v0), (1, .int .u64 v1), (2, .int .u64 v2), (3, .int .u64 v3)] w4 _ HROW.out
  obtain ⟨wz, hwz⟩ : ∃ wz, sets w4 rb [(0, .int .u64 v0), (1, .int .u64 v1), (2, .int .u64 v2), (3, .int .u64 v3)] = wz := ⟨_, rfl⟩
  rw [hwz] at h4 f4
  have hwz' : (((w4.setCell ⟨rb, 0, none⟩ (.int .u64 v0)).setCell ⟨rb, 1, none⟩ (.int .u64 v1)).setCell ⟨rb, 2, none⟩ (.int .u64 v2)).setCell ⟨rb, 3, none⟩ (.int .u64 v3) = wz := hwz
  rw [hwz']
  have g0 : wz.cell? ⟨rb, 0, none⟩ = some (.int .u64 v0) := by rw [cell_of_row wz _ _ _ _ _ h4]; rfl
  have g1 : wz.cell? ⟨rb, 1, none⟩ = some (.int .u64 v1) := by rw [cell_of_row wz _ _ _ _ _ h4]; rfl
  have g2 : wz.cell? ⟨rb, 2, none⟩ = some (.int .u64 v2) := by rw [cell_of_row wz _ _ _ _ _ h4]; rfl
  have g3 : wz.cell? ⟨rb, 3, none⟩ = some (.int .u64 v3) := by rw [cell_of_row wz _ _ _ _ _ h4]; rfl
  exact bodyPost_ret (v := .agg #[.int .u64 v0, .int .u64 v1, .int .u64 v2, .int .u64 v3]) (by simp [results, Try.results56, go_sem, g0, g1, g2, g3]) rfl ⟨rfl, HF.out.trans f4 (fun i hi hl => by simp at hi; have := HRB.out; omega)⟩
end
section
open Go.RowKit
set_option maxRecDepth 100000

theorem valAt_one (bs : List Int) (pos : Nat) (h : pos < bs.length) : valAt bs pos 1 = bs.getD pos 0 := by
  rw [valAt_step bs pos 0 h, valAt_zero]
  omega
theorem nought_drop (bs : List Int) (a b : Nat) (h : bs.length = b) : noughtB bs a b = (bs.drop a).all (· == 0) := by
  unfold noughtB
  rw [List.take_of_length_le (by rw [List.length_drop]; omega)]
set_option maxHeartbeats 6400000 in
theorem refDecode_any (p : Option Addr) (n c : Nat) (bs : List Int) (w : World) (hn : bs.length = n) (hrd : Rd w p bs) (hb : ∀ z ∈ bs, 0 ≤ z ∧ z < 256) (hmx : n ≤ 140737488355328) :
    Calls Try.prog 37 #[.slice p n c] w fun e w' => e = .returned (.tuple #[.agg (decP bs).1.arr, .int .i64 (decP bs).2]) ∧ Frm [] w w' := by
  have hrow := heap_alloc_new w (.cells #[.int .i64 0, .int .i64 0, .int .i64 0, .int .u64 0, .int .i64 0, .int .u64 0, .int .u64 0, .int .u64 0, .int .u64 0] 40)
  have hfa : Frm [] w (w.alloc (.cells #[.int .i64 0, .int .i64 0, .int .i64 0, .int .u64 0, .int .i64 0, .int .u64 0, .int .u64 0, .int .u64 0, .int .u64 0] 40)) := (Frm.refl _ _).alloc _
  obtain ⟨rb, hrb⟩ : ∃ rb, w.heap.size = rb := ⟨_, rfl⟩
  obtain ⟨wa, hwa⟩ : ∃ wa, w.alloc (.cells #[.int .i64 0, .int .i64 0, .int .i64 0, .int .u64 0, .int .i64 0, .int .u64 0, .int .u64 0, .int .u64 0, .int .u64 0] 40) = wa := ⟨_, rfl⟩
  rw [hwa] at hfa
  rw [hwa, hrb] at hrow
  have HRB := hid hrb
  have HROW := hid hrow
  have HFA := hid hfa
  have hrda := hrd.kept hfa (by simp)
  clear hrow hfa hrd
  obtain ⟨R, hR⟩ : ∃ R, decP bs = R := ⟨_, rfl⟩
  rw [hR]
  by_cases h64 : n = 64
  case neg =>
    have hne : ((n : Int) != 64) = true := by simp; omega
    have hR2 : R = (zero9, 41) := by rw [← hR]; unfold decP; rw [if_pos (by rw [hn]; exact h64)]
    subst hR2
    clear hR hrda hb hn
    go_enter Try.func37, Try.ntmps37
    obtain ⟨y0, y1, y2, y3, y4, y5, y6, y7, y8⟩ := ptr_row (p := zero9) HROW.out
    obtain ⟨z0, z1, z2, z3, z4, z5, z6, z7, z8⟩ := ptr_froz (p := zero9) HROW.out
    go_wp2_with fail
    show bodyPost _ _ _ _ _ (st9 wa rb zero9)
    obtain ⟨h9, f9⟩ := st9_row zero9 zero9 HROW.out
    obtain ⟨wz, hwz⟩ : ∃ wz, st9 wa rb zero9 = wz := ⟨_, rfl⟩
    rw [hwz] at h9 f9 ⊢
    obtain ⟨g0, g1, g2, g3, g4, g5, g6, g7, g8⟩ := ptr_row (p := zero9) h9
    unfold zero9 at g0 g1 g2 g3 g4 g5 g6 g7 g8
    clear hwz
    exact bodyPost_ret (v := .tuple #[.agg #[.int .i64 0, .int .i64 0, .int .i64 0, .int .u64 0, .int .i64 0, .int .u64 0, .int .u64 0, .int .u64 0, .int .u64 0], .int .i64 41]) (by simp [results, Try.results37, go_sem, g0, g1, g2, g3, g4, g5, g6, g7, g8]) rfl ⟨rfl, (HFA.out).trans f9 (fun i hi hl => by simp at hi; have := HRB.out; omega)⟩
  subst h64
  rcases hrda with rfl | ⟨b0, o0, rfl, hcell⟩
  · simp at hn
  have hrda : Rd wa (some ⟨b0, o0, none⟩) bs := Or.inr ⟨b0, o0, rfl, hcell⟩
  have HNO := hid (refNought_any (some ⟨b0, o0, none⟩) 64 c bs wa hn hrda 48 64 (by omega) (by omega) hmx)
  have q0 := hcell 0 (by omega)
  have q1 := hcell 1 (by omega)
  have HRDA := hid hrda
  have HB := hid hb
  have HN := hid hn
  rw [← valAt_one bs 0 (by omega)] at q0
  rw [← valAt_one bs 1 (by omega)] at q1
  rw [Nat.add_zero] at q0
  have hND := nought_drop bs 48 64 hn
  simp only [Int.cast_ofNat_Int] at HNO
  obtain ⟨N, hNN⟩ : ∃ N, noughtB bs 48 64 = N := ⟨_, rfl⟩
  rw [hNN] at HNO hND
  clear hcell hNN
  cases N
  case false =>
    have hR2 : R = (zero9, 41) := by rw [← hR]; unfold decP; rw [if_neg (by rw [hn]; simp), if_pos hND.symm]
    subst hR2
    clear hR hrda hb hn q0 q1 hND
    go_enter Try.func37, Try.ntmps37
    go_wp2_with fail
    refine HNO.out.mono ?_
    rintro e w1 ⟨rfl, rfl⟩
    clear hwa
    obtain ⟨y0, y1, y2, y3, y4, y5, y6, y7, y8⟩ := ptr_row (p := zero9) HROW.out
    obtain ⟨z0, z1, z2, z3, z4, z5, z6, z7, z8⟩ := ptr_froz (p := zero9) HROW.out
    go_wp2_with fail
    show bodyPost _ _ _ _ _ (st9 w1 rb zero9)
    obtain ⟨h9, f9⟩ := st9_row zero9 zero9 HROW.out
    obtain ⟨wz, hwz⟩ : ∃ wz, st9 w1 rb zero9 = wz := ⟨_, rfl⟩
    rw [hwz] at h9 f9 ⊢
    obtain ⟨g0, g1, g2, g3, g4, g5, g6, g7, g8⟩ := ptr_row (p := zero9) h9
    unfold zero9 at g0 g1 g2 g3 g4 g5 g6 g7 g8
    clear hwz
    exact bodyPost_ret (v := .tuple #[.agg #[.int .i64 0, .int .i64 0, .int .i64 0, .int .u64 0, .int .i64 0, .int .u64 0, .int .u64 0, .int .u64 0, .int .u64 0], .int .i64 41]) (by simp [results, Try.results37, go_sem, g0, g1, g2, g3, g4, g5, g6, g7, g8]) rfl ⟨rfl, (HFA.out).trans f9 (fun i hi hl => by simp at hi; have := HRB.out; omega)⟩
  have hR2 : R = if checkP (rdP bs 0) = 0 then (rdP bs 0, 0) else (zero9, checkP (rdP bs 0)) := by rw [← hR]; unfold decP; rw [if_neg (by rw [hn]; simp), if_neg (by rw [← hND]; simp)]
  have HR2 := hid hR2
  have HAT := hid (fun fm k W (hk : k ≤ 8) (hf : fm + k ≤ 64) (hW : Rd W (some ⟨b0, o0, none⟩) bs) => refAt_any (some ⟨b0, o0, none⟩) 64 c bs W hn hW hb fm k hk hf hmx)
  have HSU := hid (fun W (hW : Rd W (some ⟨b0, o0, none⟩) bs) => refSumAt_any (some ⟨b0, o0, none⟩) 64 c bs W hn hW hb 16 (by omega) hmx)
  have HCK := hid (fun W => refCheck9_any (rdP bs 0) W)
  obtain ⟨a0, b0'⟩ := valAt_bd hb 0 1 (by omega)
  obtain ⟨a1, b1'⟩ := valAt_bd hb 1 1 (by omega)
  obtain ⟨a2, b2'⟩ := valAt_bd hb 2 2 (by omega)
  obtain ⟨a4, b4'⟩ := valAt_bd hb 4 4 (by omega)
  simp only [Nat.reduceMul, Int.reducePow] at b0' b1' b2' b4'
  have hPE : rdP bs 0 = ⟨valAt bs 0 1, valAt bs 4 4, valAt bs 2 2, valAt bs 8 8, valAt bs 1 1, (sumAt bs 16).a, (sumAt bs 16).b, (sumAt bs 16).c, (sumAt bs 16).d⟩ := rfl
  obtain ⟨P, hP⟩ : ∃ P, rdP bs 0 = P := ⟨_, rfl⟩
  rw [hP] at HR2 HCK hPE
  obtain ⟨C, hC⟩ : ∃ C, checkP P = C := ⟨_, rfl⟩
  rw [hC] at HR2 HCK
  have h1 := fun W hW => HAT.out 2 2 W (by omega) (by omega) hW
  have h2 := fun W hW => HAT.out 4 4 W (by omega) (by omega) hW
  have h3 := fun W hW => HAT.out 8 8 W (by omega) (by omega) hW
  simp only [Int.cast_ofNat_Int] at h1 h2 h3
  have hsu := HSU.out
  simp only [Int.cast_ofNat_Int] at hsu
  obtain ⟨x0, e0⟩ : ∃ v, valAt bs 0 1 = v := ⟨_, rfl⟩
  obtain ⟨x1, e1⟩ : ∃ v, valAt bs 1 1 = v := ⟨_, rfl⟩
  obtain ⟨x2, e2⟩ : ∃ v, valAt bs 2 2 = v := ⟨_, rfl⟩
  obtain ⟨x4, e4⟩ : ∃ v, valAt bs 4 4 = v := ⟨_, rfl⟩
  obtain ⟨x8, e8⟩ : ∃ v, valAt bs 8 8 = v := ⟨_, rfl⟩
  obtain ⟨V, eV⟩ : ∃ V, sumAt bs 16 = V := ⟨_, rfl⟩
  rw [e2] at h1 a2 b2'
  rw [e4] at h2 a4 b4'
  rw [e8] at h3
  rw [e0] at a0 b0' q0
  rw [e1] at a1 b1' q1
  rw [e0, e1, e2, e4, e8, eV] at hPE
  rw [eV] at hsu
  unfold S4.arr at hsu
  have H1 := hid h1
  have H2 := hid h2
  have H3 := hid h3
  have H4 := hid hsu
  have HPE := hid hPE
  clear e0 e1 e2 e4 e8 eV h1 h2 h3 hsu HSU HAT hR hR2 hb hn hrda hND hP hC hPE
  go_enter Try.func37, Try.ntmps37
  go_wp2_with fail
  refine HNO.out.mono ?_
  rintro e w1 ⟨rfl, rfl⟩
  clear hwa hrb
  have HKS : Hid (∀ W W' : World, (W.cell? ⟨b0, o0, none⟩ = some (.int .u8 x0) ∧ W.cell? ⟨b0, o0 + 1, none⟩ = some (.int .u8 x1) ∧ Frm [] w1 W) → Frm [] W W' → (W'.cell? ⟨b0, o0, none⟩ = some (.int .u8 x0) ∧ W'.cell? ⟨b0, o0 + 1, none⟩ = some (.int .u8 x1) ∧ Frm [] w1 W')) := hid (fun W W' h hf => ⟨(hf.cell (p := ⟨b0, o0, none⟩) (World.block_lt_of_cell? W _ h.1) (by simp)).trans h.1, (hf.cell (p := ⟨b0, o0 + 1, none⟩) (World.block_lt_of_cell? W _ h.2.1) (by simp)).trans h.2.1, h.2.2.trans hf (by simp)⟩)
  have HRK : Hid (∀ W : World, (W.cell? ⟨b0, o0, none⟩ = some (.int .u8 x0) ∧ W.cell? ⟨b0, o0 + 1, none⟩ = some (.int .u8 x1) ∧ Frm [] w1 W) → Rd W (some ⟨b0, o0, none⟩) bs) := hid (fun W h => HRDA.out.kept h.2.2 (by simp))
  go_upto_region 6 with fail
  go_cut [5] (fun s wx => ∃ pb, s = .pointer (some ⟨pb, 0, none⟩) ∧ Hid (wx.heap[pb]? = some (.cells P.arr 40 (0, 0))) ∧ Hid (Frm [] w1 wx) ∧ Hid (rb < pb))
  case first =>
    have HLT : Hid (rb < w1.heap.size) := hid (lt_of_heap HROW.out)
    have HP2 : Hid (P = ⟨IntKind.i64.wrap x0, IntKind.i64.wrap x4, IntKind.i64.wrap x2, x8, IntKind.i64.wrap x1, V.a, V.b, V.c, V.d⟩) := hid (by rw [HPE.out, IntWalk.i64_in x0 (by omega), IntWalk.i64_in x4 (by omega), IntWalk.i64_in x2 (by omega), IntWalk.i64_in x1 (by omega)])
    have HFD : Hid (Frm [] w1 w1.drew) := hid (Frm.refl _ _).drew
    have HS0 : Hid ((w1.drew.cell? ⟨b0, o0, none⟩ = some (.int .u8 x0) ∧ w1.drew.cell? ⟨b0, o0 + 1, none⟩ = some (.int .u8 x1) ∧ Frm [] w1 w1.drew)) := hid ⟨q0, q1, HFD.out⟩
    have H9 : Hid (∀ (W : World) (u0 u1 u2 u3 u4 u5 u6 u7 u8 : Value), Frm [] w1.drew W → Frm [] w1.drew (((((((((W.setCell ⟨w1.heap.size, 0, none⟩ u0).setCell ⟨w1.heap.size, 1, none⟩ u1).setCell ⟨w1.heap.size, 2, none⟩ u2).setCell ⟨w1.heap.size, 3, none⟩ u3).setCell ⟨w1.heap.size, 4, none⟩ u4).setCell ⟨w1.heap.size, 5, none⟩ u5).setCell ⟨w1.heap.size, 6, none⟩ u6).setCell ⟨w1.heap.size, 7, none⟩ u7).setCell ⟨w1.heap.size, 8, none⟩ u8)) := hid (fun W u0 u1 u2 u3 u4 u5 u6 u7 u8 h => h.trans (((((((((((Frm.refl [w1.heap.size] W).setCell _ _ (by simp)).setCell _ _ (by simp)).setCell _ _ (by simp)).setCell _ _ (by simp)).setCell _ _ (by simp)).setCell _ _ (by simp)).setCell _ _ (by simp)).setCell _ _ (by simp)).setCell _ _ (by simp))) (fun i hi hl => by simp at hi; subst hi; exact absurd hl (Nat.lt_irrefl _)))
    have hfz : Frm [] w1.drew (w1.alloc (.cells #[.int .i64 0, .int .i64 0, .int .i64 0, .int .u64 0, .int .i64 0, .int .u64 0, .int .u64 0, .int .u64 0, .int .u64 0] 40)).drew := (((Frm.refl [] w1.drew).alloc (.cells #[.int .i64 0, .int .i64 0, .int .i64 0, .int .u64 0, .int .i64 0, .int .u64 0, .int .u64 0, .int .u64 0, .int .u64 0] 40)) : Frm [] w1.drew (w1.drew.alloc (.cells #[.int .i64 0, .int .i64 0, .int .i64 0, .int .u64 0, .int .i64 0, .int .u64 0, .int .u64 0, .int .u64 0, .int .u64 0] 40)))
    have H4a : Hid (Calls Try.prog 56 #[.slice (some ⟨b0, o0, none⟩) 64 c, .int .i64 16] (w1.alloc (.cells #[.int .i64 0, .int .i64 0, .int .i64 0, .int .u64 0, .int .i64 0, .int .u64 0, .int .u64 0, .int .u64 0, .int .u64 0] 40)).drew fun e w' => e = .returned (.agg #[.int .u64 V.a, .int .u64 V.b, .int .u64 V.c, .int .u64 V.d]) ∧ Frm [] w1.drew w' ∧ w'.heap[w1.heap.size]? = some (.cells zero9.arr 40 (0, 0)) ∧ (w'.cell? ⟨w1.heap.size, 0, none⟩ = some (.int .i64 0) ∧ w'.cell? ⟨w1.heap.size, 1, none⟩ = some (.int .i64 0) ∧ w'.cell? ⟨w1.heap.size, 2, none⟩ = some (.int .i64 0) ∧ w'.cell? ⟨w1.heap.size, 3, none⟩ = some (.int .u64 0) ∧ w'.cell? ⟨w1.heap.size, 4, none⟩ = some (.int .i64 0) ∧ w'.cell? ⟨w1.heap.size, 5, none⟩ = some (.int .u64 0) ∧ w'.cell? ⟨w1.heap.size, 6, none⟩ = some (.int .u64 0) ∧ w'.cell? ⟨w1.heap.size, 7, none⟩ = some (.int .u64 0) ∧ w'.cell? ⟨w1.heap.size, 8, none⟩ = some (.int .u64 0)) ∧ (w'.frozen? ⟨w1.heap.size, 0, none⟩ = false ∧ w'.frozen? ⟨w1.heap.size, 1, none⟩ = false ∧ w'.frozen? ⟨w1.heap.size, 2, none⟩ = false ∧ w'.frozen? ⟨w1.heap.size, 3, none⟩ = false ∧ w'.frozen? ⟨w1.heap.size, 4, none⟩ = false ∧ w'.frozen? ⟨w1.heap.size, 5, none⟩ = false ∧ w'.frozen? ⟨w1.heap.size, 6, none⟩ = false ∧ w'.frozen? ⟨w1.heap.size, 7, none⟩ = false ∧ w'.frozen? ⟨w1.heap.size, 8, none⟩ = false)) := hid (by
      refine (H4.out (w1.alloc (.cells #[.int .i64 0, .int .i64 0, .int .i64 0, .int .u64 0, .int .i64 0, .int .u64 0, .int .u64 0, .int .u64 0, .int .u64 0] 40)).drew (HRDA.out.kept (HFD.out.trans hfz (by simp)) (by simp))).mono ?_
      rintro e w' ⟨rfl, hf⟩
      have hr : w'.heap[w1.heap.size]? = some (.cells zero9.arr 40 (0, 0)) := hf.heap (show (w1.alloc (.cells #[.int .i64 0, .int .i64 0, .int .i64 0, .int .u64 0, .int .i64 0, .int .u64 0, .int .u64 0, .int .u64 0, .int .u64 0] 40)).drew.heap[w1.heap.size]? = _ from heap_alloc_new w1 _) (by simp)
      exact ⟨rfl, hfz.trans hf (by simp), hr, ptr_row (p := zero9) hr, ptr_froz (p := zero9) hr⟩)
    have HSA : Hid (((w1.alloc (.cells #[.int .i64 0, .int .i64 0, .int .i64 0, .int .u64 0, .int .i64 0, .int .u64 0, .int .u64 0, .int .u64 0, .int .u64 0] 40)).drew.cell? ⟨b0, o0, none⟩ = some (.int .u8 x0) ∧ (w1.alloc (.cells #[.int .i64 0, .int .i64 0, .int .i64 0, .int .u64 0, .int .i64 0, .int .u64 0, .int .u64 0, .int .u64 0, .int .u64 0] 40)).drew.cell? ⟨b0, o0 + 1, none⟩ = some (.int .u8 x1) ∧ Frm [] w1 (w1.alloc (.cells #[.int .i64 0, .int .i64 0, .int .i64 0, .int .u64 0, .int .i64 0, .int .u64 0, .int .u64 0, .int .u64 0, .int .u64 0] 40)).drew)) := hid (HKS.out _ _ HS0.out hfz)
    clear hfz
    go_region_held3 (fun w' => (w'.cell? ⟨b0, o0, none⟩ = some (.int .u8 x0) ∧ w'.cell? ⟨b0, o0 + 1, none⟩ = some (.int .u8 x1) ∧ Frm [] w1 w')) (first | (with_reducible exact HS0.out) | (with_reducible exact HSA.out) | (with_reducible exact HKS.out _ _ HS0.out hf9) | (with_reducible exact HKS.out _ _ HS0.out (hf9.alloc _)) | (with_reducible exact HKS.out _ _ HS0.out (H9.out _ _ _ _ _ _ _ _ _ _ hf9))) (first | ((with_reducible refine (H1.out _ (HRK.out _ (by assumption))).mono ?_); rintro e w9 ⟨rfl, rfl⟩) | ((with_reducible refine (H2.out _ (HRK.out _ (by assumption))).mono ?_); rintro e w9 ⟨rfl, rfl⟩) | ((with_reducible refine (H3.out _ (HRK.out _ (by assumption))).mono ?_); rintro e w9 ⟨rfl, rfl⟩) | ((with_reducible refine H4a.out.mono ?_); rintro e w9 ⟨rfl, hf9, hr9, ⟨y0, y1, y2, y3, y4, y5, y6, y7, y8⟩, ⟨z0, z1, z2, z3, z4, z5, z6, z7, z8⟩⟩) | ((with_reducible refine (H4.out _ (HRK.out _ (by assumption))).mono ?_); rintro e w9 ⟨rfl, hf9⟩))
    all_goals (
      clear HRDA HROW H1 H2 H3 H4 HKS HRK H9 HNO HCK HR2 HFA
      go_wp2_with fail
      go_meet
      case rel =>
        first
          | exact ⟨w1.heap.size, rfl, hid (by have h := (st9_row P zero9 hr9).1; rw [HP2.out] at h ⊢; exact h), hid ((HFD.out.trans hf9 (by simp)).trans (st9_row P zero9 hr9).2 (fun i hi hl => by simp at hi; omega)) |> fun h => (by rw [HP2.out] at h; exact h), HLT⟩
          | exact ⟨w9.heap.size, rfl, hid (by rw [HP2.out]; exact heap_alloc_new w9 _), hid ((HFD.out.trans hf9 (by simp)).alloc _), hid (Nat.lt_of_lt_of_le HLT.out hf9.size)⟩)
  obtain ⟨pb, rfl, hP, hF, hlt⟩ := hcut
  obtain ⟨w2, hw2⟩ : ∃ W, wc = W := ⟨_, rfl⟩
  subst hw2
  have hP' := hP.out
  have HF2 := hid (HFA.out.trans hF.out (by simp))
  have HR2' := hid (hF.out.heap HROW.out (by simp))
  clear q0 q1
  obtain ⟨q0, q1, q2, q3, q4, q5, q6, q7, q8⟩ := ptr_row hP'
  unfold P9.arr at HCK
  clear HROW HFA hF HNO H1 H2 H3 H4 HKS HRK HRDA
  go_wp2_with fail
  refine (HCK.out wc).mono ?_
  rintro e w3 ⟨rfl, hf⟩
  have HP3 := hid (hf.heap hP' (by simp))
  have HR3 := hid (hf.heap HR2'.out (by simp))
  have HF3 := hid (HF2.out.trans hf (by simp))
  clear hf hP hP' HR2' HF2 HCK q0 q1 q2 q3 q4 q5 q6 q7 q8
  by_cases hC0 : C = 0
  · subst hC0
    have HV : Hid (R = (P, 0)) := hid (by rw [HR2.out]; rfl)
    obtain ⟨q0, q1, q2, q3, q4, q5, q6, q7, q8⟩ := ptr_row HP3.out
    obtain ⟨y0, y1, y2, y3, y4, y5, y6, y7, y8⟩ := ptr_row (p := zero9) HR3.out
    obtain ⟨z0, z1, z2, z3, z4, z5, z6, z7, z8⟩ := ptr_froz (p := zero9) HR3.out
    go_wp2_with fail
    show bodyPost _ _ _ _ _ (st9 w3 rb P)
    obtain ⟨h9, f9⟩ := st9_row P zero9 HR3.out
    obtain ⟨wz, hwz⟩ : ∃ wz, st9 w3 rb P = wz := ⟨_, rfl⟩
    rw [hwz] at h9 f9 ⊢
    obtain ⟨g0, g1, g2, g3, g4, g5, g6, g7, g8⟩ := ptr_row (p := P) h9
    clear hwz
    exact bodyPost_ret (v := .tuple #[.agg #[.int .i64 P.top, .int .i64 P.at_, .int .i64 P.bytes, .int .u64 P.birth, .int .i64 P.kind, .int .u64 P.sa, .int .u64 P.sb, .int .u64 P.sc, .int .u64 P.sd], .int .i64 0]) (by simp [results, Try.results37, go_sem, g0, g1, g2, g3, g4, g5, g6, g7, g8]) rfl ⟨by rw [HV.out]; rfl, (HF3.out).trans f9 (fun i hi hl => by simp at hi; have := HRB.out; omega)⟩
  · have hb : (C != 0) = true := by simpa using hC0
    have HV : Hid (R = (zero9, C)) := hid (by rw [HR2.out, if_neg hC0])
    clear hC0
    obtain ⟨y0, y1, y2, y3, y4, y5, y6, y7, y8⟩ := ptr_row (p := zero9) HR3.out
    obtain ⟨z0, z1, z2, z3, z4, z5, z6, z7, z8⟩ := ptr_froz (p := zero9) HR3.out
    go_wp2_with fail
    show bodyPost _ _ _ _ _ (st9 w3 rb zero9)
    obtain ⟨h9, f9⟩ := st9_row zero9 zero9 HR3.out
    obtain ⟨wz, hwz⟩ : ∃ wz, st9 w3 rb zero9 = wz := ⟨_, rfl⟩
    rw [hwz] at h9 f9 ⊢
    obtain ⟨g0, g1, g2, g3, g4, g5, g6, g7, g8⟩ := ptr_row (p := zero9) h9
    unfold zero9 at g0 g1 g2 g3 g4 g5 g6 g7 g8
    clear hwz
    exact bodyPost_ret (v := .tuple #[.agg #[.int .i64 0, .int .i64 0, .int .i64 0, .int .u64 0, .int .i64 0, .int .u64 0, .int .u64 0, .int .u64 0, .int .u64 0], .int .i64 C]) (by simp [results, Try.results37, go_sem, g0, g1, g2, g3, g4, g5, g6, g7, g8]) rfl ⟨by rw [HV.out]; rfl, (HF3.out).trans f9 (fun i hi hl => by simp at hi; have := HRB.out; omega)⟩
end
section
open Go.RowKit Go.Lib
set_option maxRecDepth 100000

/-- What formed answers. -/
def formedB (bs ks : List Int) (fm : Nat) : Bool := decide (bs.length = 128) && (decide (bs.take 4 = ks) && (noughtB bs fm 96 && sumOk bs))
end
section
open Go.RowKit
set_option maxRecDepth 100000

theorem nought_two (bs : List Int) (a b c : Nat) (h1 : a ≤ b) (h2 : b ≤ c) : noughtB bs a c = (noughtB bs a b && noughtB bs b c) := by
  unfold noughtB
  have e : (bs.drop a).take (c - a) = (bs.drop a).take (b - a) ++ (bs.drop b).take (c - b) := by
    rw [show c - a = (b - a) + (c - b) by omega, List.take_add, List.drop_drop, show a + (b - a) = b by omega]
  rw [e, List.all_append]
theorem take_noughts (bs : List Int) (a b : Nat) (_h : a ≤ b) : ((bs.take b).drop a).all (· == 0) = noughtB bs a b := by
  unfold noughtB
  rw [List.drop_take]
/-- The uberblock as the document reads it. -/
def refU (bs : List Int) : U12 := ⟨valAt bs 4 8, valAt bs 12 8, valAt bs 20 8, (decP ((bs.drop 28).take 64)).1⟩
theorem decU_ref {bs : List Int} : (formedB bs [85, 67, 85, 66] 92 = false → decU bs = (zero12, 45)) ∧ (formedB bs [85, 67, 85, 66] 92 = true → bs.length = 128 ∧ (noughtB bs 76 92 = false → decU bs = (zero12, 45)) ∧
    (noughtB bs 76 92 = true → ((decP ((bs.drop 28).take 64)).2 = 0 → checkU (refU bs) = 0 → decU bs = (refU bs, 0)) ∧ ((decP ((bs.drop 28).take 64)).2 ≠ 0 ∨ checkU (refU bs) ≠ 0 → decU bs = (zero12, 44)))) := by
  have hlet : lettersU (bs.take 96) = decide (bs.take 4 = [85, 67, 85, 66]) := by unfold lettersU; rw [List.take_take]; rfl
  have hall : ((bs.take 96).drop 76).all (· == 0) = (noughtB bs 76 92 && noughtB bs 92 96) := by rw [take_noughts bs 76 96 (by omega), nought_two bs 76 92 96 (by omega) (by omega)]
  have hrd : rdU (bs.take 96) = ⟨valAt bs 4 8, valAt bs 12 8, valAt bs 20 8, rdP bs 28⟩ := by
    unfold rdU rdP
    rw [valAt_take bs 96 4 8 (by omega), valAt_take bs 96 12 8 (by omega), valAt_take bs 96 20 8 (by omega), valAt_take bs 96 28 1 (by omega), valAt_take bs 96 (28 + 4) 4 (by omega), valAt_take bs 96 (28 + 2) 2 (by omega), valAt_take bs 96 (28 + 8) 8 (by omega), valAt_take bs 96 (28 + 1) 1 (by omega), valAt_take bs 96 (28 + 16) 8 (by omega), valAt_take bs 96 (28 + 24) 8 (by omega), valAt_take bs 96 (28 + 32) 8 (by omega), valAt_take bs 96 (28 + 40) 8 (by omega)]
  have hmid : rdP ((bs.drop 28).take 64) 0 = rdP bs 28 := by
    unfold rdP
    rw [valAt_take _ 64 0 1 (by omega), valAt_take _ 64 (0 + 4) 4 (by omega), valAt_take _ 64 (0 + 2) 2 (by omega), valAt_take _ 64 (0 + 8) 8 (by omega), valAt_take _ 64 (0 + 1) 1 (by omega), valAt_take _ 64 (0 + 16) 8 (by omega), valAt_take _ 64 (0 + 24) 8 (by omega), valAt_take _ 64 (0 + 32) 8 (by omega), valAt_take _ 64 (0 + 40) 8 (by omega)]
    simp only [valAt_drop]
  constructor
  · intro h
    unfold formedB at h
    unfold decU
    by_cases h1 : bs.length = 128
    · rw [if_neg (by omega)]
      by_cases h2 : sumOk bs = false
      · rw [if_pos h2]
      · rw [if_neg h2]
        unfold decBU
        rw [hlet, hall]
        by_cases h3 : decide (bs.take 4 = [85, 67, 85, 66]) = false
        · rw [if_pos h3]
        · rw [if_neg h3]
          have h2' : sumOk bs = true := by simpa using h2
          have h3' : decide (bs.take 4 = [85, 67, 85, 66]) = true := by simpa using h3
          rw [h2', h3', decide_eq_true h1] at h
          have h4 : noughtB bs 92 96 = false := by simpa using h
          rw [h4, if_pos (by simp)]
    · rw [if_pos h1]
  · intro h
    unfold formedB at h
    simp only [Bool.and_eq_true] at h
    obtain ⟨h1, h2, h3, h4⟩ := h
    have hl : bs.length = 128 := of_decide_eq_true h1
    have hml : ((bs.drop 28).take 64).length = 64 := by rw [List.length_take, List.length_drop]; omega
    have hma : (((bs.drop 28).take 64).drop 48).all (· == 0) = noughtB bs 76 92 := by
      unfold noughtB
      rw [List.drop_take, List.drop_drop]
    refine ⟨hl, fun hn => ?_, fun hn => ?_⟩
    · unfold decU
      rw [if_neg (by omega), if_neg (by rw [h4]; simp)]
      unfold decBU
      rw [hlet, if_neg (by rw [h2]; simp), hall, hn, if_pos (by simp)]
    · have e1 : decU bs = if checkU (rdU (bs.take 96)) = 0 then (rdU (bs.take 96), 0) else (zero12, checkU (rdU (bs.take 96))) := by
        unfold decU
        rw [if_neg (by omega), if_neg (by rw [h4]; simp)]
        unfold decBU
        rw [hlet, if_neg (by rw [h2]; simp), hall, hn, h3, if_neg (by simp)]
      have e2 : decP ((bs.drop 28).take 64) = if checkP (rdP bs 28) = 0 then (rdP bs 28, 0) else (zero9, checkP (rdP bs 28)) := by
        unfold decP
        rw [if_neg (by omega), hma, hn, if_neg (by simp), hmid]
      have e3 : checkU (rdU (bs.take 96)) = 0 ∨ checkU (rdU (bs.take 96)) = 44 := by unfold checkU; split <;> simp
      unfold refU
      rw [e1, e2]
      by_cases hp : checkP (rdP bs 28) = 0
      · rw [if_pos hp, ← hrd]
        exact ⟨fun _ h => by rw [if_pos h], fun h => by
          rcases h with h | h
          · exact absurd rfl h
          · rw [if_neg h]
            rcases e3 with e3 | e3
            · exact absurd e3 h
            · rw [e3]⟩
      · rw [if_neg hp]
        refine ⟨fun h => absurd h hp, fun _ => ?_⟩
        have e4 : checkU (rdU (bs.take 96)) = 44 := by
          rw [hrd]
          unfold checkU
          rw [if_neg (fun h => hp h.2.2.1)]
        rw [e4, if_neg (by omega)]
end
end
section
open Go.RowKit Go.Lib
set_option maxRecDepth 100000

/-- Piece i of so many. -/
def pc {α : Type} (n i : Nat) (l : List α) : List α := (l.drop (i * n)).take n
/-- How many pieces there are. -/
def np (n len : Nat) : Nat := (len + n - 1) / n
def cutL {α : Type} (n : Nat) (l : List α) : List (List α) := (List.range (np n l.length)).map (fun i => pc n i l)
theorem np_eq {n len t : Nat} (hn : 0 < n) (h1 : len ≤ t * n) (h2 : t * n < len + n) : np n len = t := by
  unfold np
  refine Nat.div_eq_of_lt_le (by omega) ?_
  rw [Nat.succ_mul]; omega
theorem np_lt {n len t : Nat} (hn : 0 < n) (h : t * n < len) : t < np n len := by
  unfold np
  rw [Nat.lt_iff_add_one_le, Nat.le_div_iff_mul_le hn, Nat.add_mul, Nat.one_mul]
  omega
def blank (bs : List Int) : Bool := bs.all (· == 0)
theorem blank_step {bs : List Int} {t : Nat} {z : Int} (h : bs[t]? = some z) : blank (bs.take (t + 1)) = (blank (bs.take t) && (z == 0)) := by
  unfold blank
  rw [List.take_add_one, h, List.all_append]
  simp
/-- A block of bytes: where it lies, its room, its bytes. -/
structure Bk where
  p : Option Addr
  c : Nat
  bs : List Int
def Bk.v (x : Bk) : Value := .slice x.p x.bs.length x.c
def rowsK (ls : List Bk) : List Value := ls.map Bk.v
theorem rowsK_len (ls : List Bk) : (rowsK ls).length = ls.length := by simp [rowsK]
theorem rowsK_app (a b : List Bk) : rowsK (a ++ b) = rowsK a ++ rowsK b := by simp [rowsK]
theorem rowsK_get {ls : List Bk} {i : Nat} {x : Bk} (h : ls[i]? = some x) : (rowsK ls)[i]? = some x.v := by simp [rowsK, h]
theorem infoK : (Try.prog.info? 22).map (fun i => (i.zero, i.size, i.bytes)) = some (some (.slice none 0 0), 1, 24) := by kernel_rfl
theorem infoU8 : (Try.prog.info? 5).map (fun i => (i.zero, i.size, i.bytes)) = some (some (.int .u8 0), 1, 1) := by kernel_rfl
/-- A block that may be written, with these bytes at its beginning. -/
structure BkOk (w : World) (x : Bk) : Prop where
  it : x.bs = [] ∨ ∃ g cur, x.p = some ⟨g, 0, none⟩ ∧ w.heap[g]? = some (.cells cur 5 (0, 0)) ∧ cur.toList.take x.bs.length = bv x.bs
  lo : ∀ k ∈ blk x.p, k < w.heap.size
  cp : x.bs.length ≤ x.c ∧ x.c ≤ 9223372036854775807
theorem BkOk.kept {w w' : World} {x : Bk} {S : List Nat} (h : BkOk w x) (hf : Frm S w w') (hn : ∀ k ∈ blk x.p, k ∉ S) : BkOk w' x := by
  refine ⟨h.it.imp (fun h => h) (fun ⟨g, cur, h1, h2, h3⟩ => ⟨g, cur, h1, hf.heap h2 (hn g (by rw [h1]; simp [blk])), h3⟩), fun k hk => Nat.lt_of_lt_of_le (h.lo k hk) hf.size, h.cp⟩
theorem BkOk.of_own {w : World} {x : Bk} (h : Own w 5 x.v x.bs) : BkOk w x := by
  refine ⟨?_, ownsRow_low (show w.ownsRow 0 5 1 (.slice x.p x.bs.length x.c) x.bs.length (bv x.bs) from h), ?_⟩
  · rcases h.2 with ⟨_, h0⟩ | ⟨g, c', cur, he, _, hg, hc, _, hs, ht⟩
    · exact Or.inl (List.eq_nil_of_length_eq_zero h0)
    · unfold Bk.v at he
      simp only [Value.slice.injEq] at he
      exact Or.inr ⟨g, cur, he.1, hg, by simpa using ht⟩
  · rcases h.2 with ⟨he, h0⟩ | ⟨g, c', cur, he, _, hg, hc, hm, hs, ht⟩
    · unfold Bk.v at he
      simp only [Value.slice.injEq] at he
      omega
    · unfold Bk.v at he
      simp only [Value.slice.injEq] at he
      unfold maxLen at hm
      omega
theorem BkOk.at {w : World} {x : Bk} (h : BkOk w x) {i : Nat} {z : Int} (hz : x.bs[i]? = some z) : ∃ g cur, x.p = some ⟨g, 0, none⟩ ∧ w.heap[g]? = some (.cells cur 5 (0, 0)) ∧ w.cell? ⟨g, i, none⟩ = some (.int .u8 z) := by
  rcases h.it with h0 | ⟨g, cur, h1, h2, h3⟩
  · rw [h0] at hz; simp at hz
  · refine ⟨g, cur, h1, h2, ?_⟩
    rw [cell_of_row _ _ _ _ _ _ h2]
    have hi := (List.getElem?_eq_some_iff.1 hz).1
    have h4 : (bv x.bs)[i]? = some (.int .u8 z) := by unfold bv; rw [List.getElem?_map, hz]; rfl
    rw [← h3, List.getElem?_take, if_pos hi] at h4
    simpa using h4
theorem BkOk.rd {w : World} {x : Bk} (h : BkOk w x) : Rd w x.p x.bs := by
  rcases h.it with h0 | ⟨g, cur, h1, _⟩
  · exact Or.inl h0
  · refine Or.inr ⟨g, 0, h1, fun i hi => ?_⟩
    obtain ⟨g', cur', e1, _, e3⟩ := h.at (List.getElem?_eq_getElem hi)
    rw [h1] at e1
    simp only [Option.some.injEq, Addr.mk.injEq, and_true] at e1
    subst e1
    rw [Nat.zero_add, e3, List.getD_eq_getElem?_getD, List.getElem?_eq_getElem hi]; rfl
/-- A list of blocks of one's own, all apart. -/
structure OwnK (w : World) (q : Option Addr) (n c : Nat) (ls : List Bk) : Prop where
  ow : w.ownsRow 0 22 1 (.slice q n c) n (rowsK ls)
  ln : ls.length = n
  it : ∀ x ∈ ls, BkOk w x ∧ ∀ k ∈ blk x.p, k ∉ blk q
  ap : ∀ (i j : Nat) (x y : Bk), i ≠ j → ls[i]? = some x → ls[j]? = some y → ∀ k ∈ blk x.p, k ∉ blk y.p
def NewK (N : Nat) (q : Option Addr) (ls : List Bk) : Prop := (∀ k ∈ blk q, N ≤ k) ∧ ∀ x ∈ ls, ∀ k ∈ blk x.p, N ≤ k
theorem OwnK.nil (w : World) : OwnK w none 0 0 [] := ⟨⟨rfl, Or.inl ⟨rfl, rfl⟩⟩, rfl, by simp, fun i j x y _ h => by simp at h⟩
theorem OwnK.kept {w w' : World} {q : Option Addr} {n c : Nat} {ls : List Bk} {S : List Nat} (h : OwnK w q n c ls) (hf : Frm S w w') (h1 : ∀ k ∈ blk q, k ∉ S) (h2 : ∀ x ∈ ls, ∀ k ∈ blk x.p, k ∉ S) : OwnK w' q n c ls :=
  ⟨ownsRow_kept h.ow hf h1, h.ln, fun x hx => ⟨(h.it x hx).1.kept hf (h2 x hx), (h.it x hx).2⟩, h.ap⟩
theorem OwnK.k0 {w w' : World} {q : Option Addr} {n c : Nat} {ls : List Bk} (h : OwnK w q n c ls) (hf : Frm [] w w') : OwnK w' q n c ls := h.kept hf (by simp) (by simp)
/-- A block more. -/
theorem OwnK.app {w wa w' : World} {q q' : Option Addr} {n c c' : Nat} {ls : List Bk} {x : Bk} (h : OwnK w q n c ls) (hx : BkOk w x) (hxq : ∀ k ∈ blk x.p, k ∉ blk q) (hxl : ∀ y ∈ ls, ∀ k ∈ blk x.p, k ∉ blk y.p) (hA : Frm [] w wa) (ho : w'.ownsRow 0 22 1 (.slice q' (n + 1) c') (n + 1) (rowsK ls ++ [x.v])) (hf : Frm (blk q) wa w') (hb : ∀ k ∈ blk q', k ∈ blk q ∨ wa.heap.size ≤ k) :
    OwnK w' q' (n + 1) c' (ls ++ [x]) := by
  have hz := hA.size
  have hF : Frm (blk q) w w' := (hA.mono (by simp)).trans hf (fun k hk _ => hk)
  have hq : ∀ (y : Bk), BkOk w y → (∀ k ∈ blk y.p, k ∉ blk q) → ∀ k ∈ blk y.p, k ∉ blk q' := fun y hy hyq k hk hm => by
    rcases hb k hm with h1 | h1
    · exact hyq k hk h1
    · have := hy.lo k hk; omega
  refine ⟨by rw [rowsK_app]; exact ho, by rw [List.length_append, h.ln]; rfl, fun y hy => ?_, fun i j y z hij hy hz k hk hkz => ?_⟩
  · rcases List.mem_append.1 hy with hy | hy
    · exact ⟨(h.it y hy).1.kept hF (h.it y hy).2, hq y (h.it y hy).1 (h.it y hy).2⟩
    · rw [List.mem_singleton] at hy
      subst hy
      exact ⟨hx.kept hF hxq, hq y hx hxq⟩
  · have hla : ∀ (a : Nat) (u : Bk), (ls ++ [x])[a]? = some u → (a < ls.length ∧ ls[a]? = some u) ∨ (a = ls.length ∧ u = x) := fun a u hu => by
      rcases Nat.lt_or_ge a ls.length with h1 | h1
      · rw [List.getElem?_append_left h1] at hu; exact Or.inl ⟨h1, hu⟩
      · rw [List.getElem?_append_right h1] at hu
        have h2 := (List.getElem?_eq_some_iff.1 hu).1
        simp only [List.length_singleton] at h2
        have h3 : a = ls.length := by omega
        subst h3
        simp at hu
        exact Or.inr ⟨rfl, hu.symm⟩
    rcases hla i y hy with ⟨_, hy'⟩ | ⟨hi, rfl⟩
    · rcases hla j z hz with ⟨_, hz'⟩ | ⟨_, rfl⟩
      · exact h.ap i j y z hij hy' hz' k hk hkz
      · exact hxl y (List.mem_of_getElem? hy') k hkz hk
    · rcases hla j z hz with ⟨_, hz'⟩ | ⟨hj, rfl⟩
      · exact hxl z (List.mem_of_getElem? hz') k hk hkz
      · omega
/-- A block of the list, as a cell. -/
theorem OwnK.at {w : World} {q : Option Addr} {n c : Nat} {ls : List Bk} (h : OwnK w q n c ls) {i : Nat} {x : Bk} (hx : ls[i]? = some x) : ∃ g cur, q = some ⟨g, 0, none⟩ ∧ w.heap[g]? = some (.cells cur 22 (0, 0)) ∧ w.cell? ⟨g, i, none⟩ = some (.slice x.p x.bs.length x.c) := by
  have hlt : i < n := by rw [← h.ln]; exact (List.getElem?_eq_some_iff.1 hx).1
  rcases h.ow.2 with ⟨_, h0⟩ | ⟨g, c', cur, he, _, hg, _⟩
  · omega
  · simp only [Value.slice.injEq] at he
    obtain ⟨rfl, _, _⟩ := he
    refine ⟨g, cur, rfl, hg, ?_⟩
    rw [World.ownsRow.cellAt h.ow i (by omega)]
    exact rowsK_get hx
def lenK : Value → Nat
  | .slice _ n _ => n
  | _ => 0
set_option maxHeartbeats 1600000 in
theorem blank_any (p : Option Addr) (n c : Nat) (bs : List Int) (w : World) (hr : Rd w p bs) (hn : bs.length = n) (hb : n ≤ 4611686018427387904) :
    Calls Try.prog 13 #[.slice p n c] w fun e w' => e = .returned (.bool (blank bs)) ∧ w' = w := by
  obtain ⟨B, hB⟩ : ∃ q, blank bs = q := ⟨_, rfl⟩
  rw [hB]
  have HB := hid hB
  have HN := hid hn
  have HR := hid hr
  clear hB hn hr
  go_enter Try.func13, Try.ntmps13
  go_wp2_with fail
  go_loopw [7, 2] (fun i s2 wr => ∃ t : Nat, t ≤ n ∧ i = .int .i64 (t : Int) ∧ s2 = .bool false ∧ Hid (wr = w ∧ blank (bs.take t) = true)) (fun i _ _ => n - (intOf i).toNat)
  case atStart => exact ⟨0, Nat.zero_le _, rfl, rfl, hid ⟨rfl, rfl⟩⟩
  case round =>
    obtain ⟨t, ht, rfl, rfl, hin⟩ := hrel
    have hwr := hin.out.1
    have HT := hid hin.out.2
    subst hwr
    clear hin
    by_cases hlt : t < n
    · have t1 : (t : Int) < (n : Int) := by omega
      obtain ⟨z, hz⟩ : ∃ z, bs[t]? = some z := ⟨_, List.getElem?_eq_getElem (by rw [HN.out]; exact hlt)⟩
      have HST := hid (blank_step hz)
      have HZM := hid (List.mem_of_getElem? hz)
      have hrr := HR.out
      rcases hrr with h0 | ⟨g, o, rfl, hcs⟩
      · rw [h0] at hz; simp at hz
      have q0 : wr.cell? ⟨g, o + t, none⟩ = some (.int .u8 z) := by
        rw [hcs t (by rw [HN.out]; exact hlt), List.getD_eq_getElem?_getD, hz]; rfl
      clear hcs hz
      by_cases h0 : z = 0
      · subst h0
        have HT2 : Hid (blank (bs.take (t + 1)) = true) := hid (by rw [HST.out, HT.out]; rfl)
        go_wp2_with fail
        go_roundw
        case rel => exact ⟨t + 1, by omega, by go_num, by first | rfl | trivial, hid ⟨by first | rfl | trivial, HT2.out⟩⟩
        case measure => first | (simp [intOf]; done) | (simp [intOf]; omega)
      · have HE : Hid (B = false) := hid (by
          rw [← HB.out]
          unfold blank
          rw [List.all_eq_false]
          exact ⟨z, HZM.out, by simpa using h0⟩)
        go_wp2_with fail
        first | go_returns | skip
        exact ⟨by rw [HE.out]; rfl, rfl⟩
    · obtain rfl : t = n := by omega
      have HE : Hid (B = true) := hid (by rw [← HB.out, ← HT.out, List.take_of_length_le (by rw [HN.out]; exact Nat.le_refl _)])
      go_wp2_with fail
      first | go_returns | skip
      exact ⟨by rw [HE.out]; rfl, rfl⟩
end
end Go.Proofs.Ytkolbijhekbelaa
