/- The document's Fletcher. -/
import Derived.Test.YtdnnbinmippkdaaDoorSumL
namespace Go.Proofs.YtdnnbinmippkdaaDoor
open Go.RowKit
set_option maxRecDepth 100000

/-- The word behind so many rounds of the inner loop. -/
def wdD (zs : List Int) (i : Nat) : Nat → Int
  | 0 => 0
  | t + 1 => 256 * wdD zs i t + zA zs (i + (3 - t))
theorem wdD_bd {zs : List Int} (hb : ∀ i, 0 ≤ zA zs i ∧ zA zs i < 256) (i t : Nat) : 0 ≤ wdD zs i t ∧ wdD zs i t < 256 ^ t := by
  induction t with
  | zero => simp [wdD]
  | succ t ih =>
    have h := hb (i + (3 - t))
    rw [wdD, Int.pow_succ]
    omega
theorem wdD_four {zs : List Int} (hb : ∀ i, 0 ≤ zA zs i ∧ zA zs i < 256) (i : Nat) : wdD zs i 4 = lowW (zA zs i) (zA zs (i + 1)) (zA zs (i + 2)) (zA zs (i + 3)) := by
  rw [lowW_val (hb _) (hb _) (hb _) (hb _)]
  simp only [wdD, Nat.sub_zero, Nat.sub_self, Nat.add_zero, show 3 - 1 = 2 from rfl, show 3 - 2 = 1 from rfl]
  omega
theorem zA_out {zs : List Int} {i : Nat} (h : zs.length ≤ i) : zA zs i = 0 := by
  unfold zA
  rw [List.getD_eq_getElem?_getD, List.getElem?_eq_none h]
  rfl
theorem fl_up (zs : List Int) : flW Z4 zs ((zs.length + 3) / 4) = fletch zs := by
  unfold fletch
  by_cases h : zs.length % 4 = 0
  · rw [if_pos h, show (zs.length + 3) / 4 = zs.length / 4 by omega]
  · rw [if_neg h, show (zs.length + 3) / 4 = zs.length / 4 + 1 by omega, flW, zA_out (i := 4 * (zs.length / 4) + 3) (by omega)]
/-- The blocks inside the document's Fletcher: the result, the sum. -/
structure StF (w0 w : World) (s : S4) : Prop where
  h0 : w.heap[w0.heap.size]? = some (.cells #[.int .u64 0, .int .u64 0, .int .u64 0, .int .u64 0] 24 (0, 0))
  h1 : w.heap[w0.heap.size + 1]? = some (.cells s.arr 24 (0, 0))
  fr : Frm [] w0 w
set_option maxHeartbeats 3200000 in
theorem refFl_any (p : Option Addr) (n c : Nat) (zs : List Int) (w : World) (hn : zs.length = n) (hnb : n ≤ 9223372036854775790) (hrd : Rd w p zs) (hb : ∀ z ∈ zs, 0 ≤ z ∧ z < 256) :
    Calls Tryd.prog 62 #[.slice p n c] w fun e w' => e = .returned (.agg (fletch zs).arr) ∧ Frm [] w w' := by
  have HRD := hid hrd
  have HN := hid hn
  have HZ := hid (zA_bd hb)
  have HU := hid (fl_up zs)
  rw [hn] at HU
  have hfa : Frm [] w (w.alloc (.cells #[.int .u64 0, .int .u64 0, .int .u64 0, .int .u64 0] 24)) := (Frm.refl _ _).alloc _
  have hfb : Frm [] (w.alloc (.cells #[.int .u64 0, .int .u64 0, .int .u64 0, .int .u64 0] 24)) ((w.alloc (.cells #[.int .u64 0, .int .u64 0, .int .u64 0, .int .u64 0] 24)).alloc (.cells #[.int .u64 0, .int .u64 0, .int .u64 0, .int .u64 0] 24)) := (Frm.refl _ _).alloc _
  have HS0 : Hid (StF w ((w.alloc (.cells #[.int .u64 0, .int .u64 0, .int .u64 0, .int .u64 0] 24)).alloc (.cells #[.int .u64 0, .int .u64 0, .int .u64 0, .int .u64 0] 24)) (flW Z4 zs 0)) := hid ⟨hfb.heap (heap_alloc_new _ _) (by simp), heap_alloc_to _ _ (by simp), hfa.trans hfb (by simp)⟩
  clear hrd hb hn hfa hfb
  go_enter Tryd.func62, Tryd.ntmps62
  go_wp2_with fail
  go_loopw [4] (fun i wr => ∃ k : Nat, Hid (4 * k ≤ n + 3) ∧ i = .int .i64 (4 * (k : Int)) ∧ Hid (StF w wr (flW Z4 zs k))) (fun i _ => n + 3 - (intOf i).toNat)
  case atStart => exact ⟨0, hid (by omega), rfl, HS0⟩
  case round =>
    clear HS0
    obtain ⟨k, hk, rfl, hst⟩ := hrel
    have hk' := hk.out
    by_cases hlt : 4 * (k : Int) < (n : Int)
    · go_wp2_with fail
      go_loopw [5, 6] (fun x y wi => ∃ t : Nat, t ≤ 4 ∧ Hid (x = .int .u64 (wdD zs (4 * k) t)) ∧ y = .int .i64 (3 - (t : Int)) ∧ Hid (StF w wi (flW Z4 zs k))) (fun x y _ => (intOf y + 1).toNat)
      case atStart => exact ⟨0, by omega, hid rfl, rfl, hst⟩
      case round =>
        clear hst
        obtain ⟨t, ht, hx, rfl, hst⟩ := hrel
        obtain rfl := hx.out
        by_cases ht4 : t < 4
        · obtain ⟨W, hW⟩ : ∃ W, wdD zs (4 * k) t = W := ⟨_, rfl⟩
          have hWb := wdD_bd HZ.out (4 * k) t
          have hp : (256 : Int) ^ t ≤ 16777216 := by
            have h3 : t = 0 ∨ t = 1 ∨ t = 2 ∨ t = 3 := by omega
            rcases h3 with rfl | rfl | rfl | rfl <;> decide
          have hnx : wdD zs (4 * k) (t + 1) = 256 * W + zA zs (4 * k + (3 - t)) := by rw [wdD, hW]
          rw [hW] at hWb ⊢
          have hWlt : W < 16777216 := Int.lt_of_lt_of_le hWb.2 hp
          have hWge := hWb.1
          clear hWb
          obtain ⟨J, hJ⟩ : ∃ J, 4 * k + (3 - t) = J := ⟨_, rfl⟩
          have hJi : IntKind.i64.wrap (4 * (k : Int) + (3 - (t : Int))) = (J : Int) := by rw [IntWalk.i64_in _ (by omega)]; omega
          have hz := HZ.out J
          rw [hJ] at hnx
          have q0 : IntKind.u64.wrap (256 * W) = 256 * W := IntWalk.u64_in _ (by omega)
          have q1 : IntKind.i64.wrap (3 - (t : Int) - 1) = 3 - ((t + 1 : Nat) : Int) := by rw [IntWalk.i64_in _ (by omega)]; omega
          have HNX := hid hnx
          have g3 : (0 : Int) ≤ 3 - (t : Int) := by omega
          clear hnx hx hW hp
          by_cases hJn : (J : Int) < (n : Int)
          · obtain ⟨g, o, rfl, hc⟩ := rd_byte (i := J) (HRD.out.kept hst.out.fr (by simp)) (by rw [HN.out]; omega)
            have hc' : wr.cell? ⟨g, o + J, none⟩ = some (.int .u8 (zA zs J)) := hc
            obtain ⟨z, hzz⟩ : ∃ z, zA zs J = z := ⟨_, rfl⟩
            rw [hzz] at hz hc'
            have q2 : IntKind.u64.wrap z = z := IntWalk.u64_in _ (by omega)
            have q3 : IntKind.u64.wrap (256 * W + z) = 256 * W + z := IntWalk.u64_in _ (by omega)
            have HZZ := hid hzz
            clear hc hzz hJ
            go_wp2_with fail
            go_roundw
            case rel => exact ⟨t + 1, by omega, hid (by rw [HNX.out, HZZ.out]), rfl, hst⟩
            case measure => simp [intOf]; omega
          · have hz0 : zA zs J = 0 := zA_out (by rw [HN.out]; omega)
            have HZZ := hid hz0
            clear hz0 hJ
            go_wp2_with fail
            go_roundw
            case rel => exact ⟨t + 1, by omega, hid (by rw [HNX.out, HZZ.out, Int.add_zero]), rfl, hst⟩
            case measure => simp [intOf]; omega
        · obtain rfl : t = 4 := by omega
          rw [wdD_four HZ.out]
          have hlb := lowW_bd (zA zs (4 * k)) (zA zs (4 * k + 1)) (zA zs (4 * k + 2)) (zA zs (4 * k + 3))
          have hnx : wordS (flW Z4 zs k) (lowW (zA zs (4 * k)) (zA zs (4 * k + 1)) (zA zs (4 * k + 2)) (zA zs (4 * k + 3))) = flW Z4 zs (k + 1) := rfl
          obtain ⟨L, hL⟩ : ∃ L, lowW (zA zs (4 * k)) (zA zs (4 * k + 1)) (zA zs (4 * k + 2)) (zA zs (4 * k + 3)) = L := ⟨_, rfl⟩
          obtain ⟨cur, hcur⟩ : ∃ cur, flW Z4 zs k = cur := ⟨_, rfl⟩
          rw [hL] at hlb hnx ⊢
          rw [hcur] at hnx hst
          have HNX := hid hnx
          have l1 := lt_of_heap hst.out.h1
          have e0 : wr.cell? ⟨w.heap.size + 1, 0, none⟩ = some (.int .u64 cur.a) := by rw [cell_of_row wr _ _ _ _ _ hst.out.h1]; rfl
          have e1 : wr.cell? ⟨w.heap.size + 1, 1, none⟩ = some (.int .u64 cur.b) := by rw [cell_of_row wr _ _ _ _ _ hst.out.h1]; rfl
          have e2 : wr.cell? ⟨w.heap.size + 1, 2, none⟩ = some (.int .u64 cur.c) := by rw [cell_of_row wr _ _ _ _ _ hst.out.h1]; rfl
          have e3 : wr.cell? ⟨w.heap.size + 1, 3, none⟩ = some (.int .u64 cur.d) := by rw [cell_of_row wr _ _ _ _ _ hst.out.h1]; rfl
          have z0 : wr.frozen? ⟨w.heap.size + 1, 0, none⟩ = false := frozen_of_row wr _ 0 _ _ hst.out.h1
          have z1 : wr.frozen? ⟨w.heap.size + 1, 1, none⟩ = false := frozen_of_row wr _ 1 _ _ hst.out.h1
          have z2 : wr.frozen? ⟨w.heap.size + 1, 2, none⟩ = false := frozen_of_row wr _ 2 _ _ hst.out.h1
          have z3 : wr.frozen? ⟨w.heap.size + 1, 3, none⟩ = false := frozen_of_row wr _ 3 _ _ hst.out.h1
          have HS4 := hid (set4 (y0 := .int .u64 (wordS cur L).a) (y1 := .int .u64 (wordS cur L).b) (y2 := .int .u64 (wordS cur L).c) (y3 := .int .u64 (wordS cur L).d) hst.out.h1)
          have q1 : IntKind.i64.wrap (4 * (k : Int) + 4) = 4 * ((k + 1 : Nat) : Int) := by rw [IntWalk.i64_in _ (by omega)]; omega
          rw [show (3 - ((4 : Nat) : Int)) = -1 from rfl]
          have HST0 := hid (And.intro hst.out.h0 hst.out.fr)
          clear hnx hL hcur hx hst ht ht4
          go_wp2_with fail
          go_roundw
          case rel =>
            obtain ⟨h4, f4⟩ := HS4.out
            refine ⟨k + 1, hid (by omega), rfl, hid ⟨f4.heap HST0.out.1 (by simp), ?_, HST0.out.2.trans f4 (fun i hi hl => by simp at hi; omega)⟩⟩
            rw [← HNX.out]
            exact h4
          case measure => simp [intOf]; omega
    · have hkq : k = (n + 3) / 4 := by omega
      have hst' := hst.out
      rw [hkq, HU.out] at hst'
      obtain ⟨S, hS⟩ : ∃ S, fletch zs = S := ⟨_, rfl⟩
      rw [hS] at hst'
      have HS := hid hS
      have e0 : wr.cell? ⟨w.heap.size + 1, 0, none⟩ = some (.int .u64 S.a) := by rw [cell_of_row wr _ _ _ _ _ hst'.h1]; rfl
      have e1 : wr.cell? ⟨w.heap.size + 1, 1, none⟩ = some (.int .u64 S.b) := by rw [cell_of_row wr _ _ _ _ _ hst'.h1]; rfl
      have e2 : wr.cell? ⟨w.heap.size + 1, 2, none⟩ = some (.int .u64 S.c) := by rw [cell_of_row wr _ _ _ _ _ hst'.h1]; rfl
      have e3 : wr.cell? ⟨w.heap.size + 1, 3, none⟩ = some (.int .u64 S.d) := by rw [cell_of_row wr _ _ _ _ _ hst'.h1]; rfl
      have r0 : wr.cell? ⟨w.heap.size, 0, none⟩ = some (.int .u64 0) := by rw [cell_of_row wr _ _ _ _ _ hst'.h0]; rfl
      have r1 : wr.cell? ⟨w.heap.size, 1, none⟩ = some (.int .u64 0) := by rw [cell_of_row wr _ _ _ _ _ hst'.h0]; rfl
      have r2 : wr.cell? ⟨w.heap.size, 2, none⟩ = some (.int .u64 0) := by rw [cell_of_row wr _ _ _ _ _ hst'.h0]; rfl
      have r3 : wr.cell? ⟨w.heap.size, 3, none⟩ = some (.int .u64 0) := by rw [cell_of_row wr _ _ _ _ _ hst'.h0]; rfl
      have z0 : wr.frozen? ⟨w.heap.size, 0, none⟩ = false := frozen_of_row wr _ 0 _ _ hst'.h0
      have z1 : wr.frozen? ⟨w.heap.size, 1, none⟩ = false := frozen_of_row wr _ 1 _ _ hst'.h0
      have z2 : wr.frozen? ⟨w.heap.size, 2, none⟩ = false := frozen_of_row wr _ 2 _ _ hst'.h0
      have z3 : wr.frozen? ⟨w.heap.size, 3, none⟩ = false := frozen_of_row wr _ 3 _ _ hst'.h0
      have HS4 := hid (set4 (y0 := .int .u64 S.a) (y1 := .int .u64 S.b) (y2 := .int .u64 S.c) (y3 := .int .u64 S.d) hst'.h0)
      have HFR := hid hst'.fr
      clear hkq hst hst' hS hk'
      go_wp2_with fail
      obtain ⟨h4, f4⟩ := HS4.out
      obtain ⟨wz, hwz⟩ : ∃ wz, (((wr.setCell ⟨w.heap.size, 0, none⟩ (.int .u64 S.a)).setCell ⟨w.heap.size, 1, none⟩ (.int .u64 S.b)).setCell ⟨w.heap.size, 2, none⟩ (.int .u64 S.c)).setCell ⟨w.heap.size, 3, none⟩ (.int .u64 S.d) = wz := ⟨_, rfl⟩
      rw [hwz] at h4 f4 ⊢
      have hfz : Frm [] w wz := HFR.out.trans f4 (fun i hi hl => by simp at hi; omega)
      have g0 : wz.cell? ⟨w.heap.size, 0, none⟩ = some (.int .u64 S.a) := by rw [cell_of_row wz _ _ _ _ _ h4]; rfl
      have g1 : wz.cell? ⟨w.heap.size, 1, none⟩ = some (.int .u64 S.b) := by rw [cell_of_row wz _ _ _ _ _ h4]; rfl
      have g2 : wz.cell? ⟨w.heap.size, 2, none⟩ = some (.int .u64 S.c) := by rw [cell_of_row wz _ _ _ _ _ h4]; rfl
      have g3 : wz.cell? ⟨w.heap.size, 3, none⟩ = some (.int .u64 S.d) := by rw [cell_of_row wz _ _ _ _ _ h4]; rfl
      refine bodyPost_ret (v := .agg #[.int .u64 S.a, .int .u64 S.b, .int .u64 S.c, .int .u64 S.d]) (by simp [results, Tryd.results62, go_sem, g0, g1, g2, g3]) rfl ⟨?_, hfz⟩
      rw [HS.out]
      rfl
end Go.Proofs.YtdnnbinmippkdaaDoor
