/- The document's words. -/
import Derived.Test.YtcnochabdhdlnaaDoorSumAa
namespace Go.Proofs.YtcnochabdhdlnaaDoor
open Go.RowKit
set_option maxRecDepth 100000

def lowD (a b c d : Int) : Int := bits .or .u32 (bits .or .u32 (bits .or .u32 (a * 16777216) (b * 65536)) (c * 256)) d
theorem or_nat {a b : Int} (ha : 0 ≤ a ∧ a < 4294967296) (hb : 0 ≤ b ∧ b < 4294967296) : ∃ x y : Nat, a = (x : Int) ∧ b = (y : Int) ∧ x < 4294967296 ∧ y < 4294967296 ∧ bits .or .u32 a b = ((x ||| y : Nat) : Int) ∧ x ||| y < 4294967296 :=
  ⟨a.toNat, b.toNat, by omega, by omega, by omega, by omega, u32_or a b ha.1 ha.2 hb.1 hb.2, Nat.or_lt_two_pow (n := 32) (by omega) (by omega)⟩
theorem lowD_eq (a b c d : Int) (ha : 0 ≤ a ∧ a < 256) (hb : 0 ≤ b ∧ b < 256) (hc : 0 ≤ c ∧ c < 256) (hd : 0 ≤ d ∧ d < 256) : lowD a b c d = lowW d c b a := by
  unfold lowD lowW
  obtain ⟨x, y, e1, e2, l1, l2, h1, g1⟩ := or_nat (a := a * 16777216) (b := b * 65536) (by omega) (by omega)
  obtain ⟨x2, y2, f1, f2, _, _, h2, g2⟩ := or_nat (a := ((x ||| y : Nat) : Int)) (b := c * 256) (by omega) (by omega)
  obtain ⟨x3, y3, k1, k2, _, _, h3, g3⟩ := or_nat (a := ((x2 ||| y2 : Nat) : Int)) (b := d) (by omega) (by omega)
  rw [h1, h2, h3]
  rw [e1, e2, f2, k2]
  rw [u32_or_nat y3 y2 (by omega) (by omega), u32_or_nat (y3 ||| y2) y (Nat.or_lt_two_pow (n := 32) (by omega) (by omega)) (by omega), u32_or_nat (y3 ||| y2 ||| y) x (Nat.or_lt_two_pow (n := 32) (Nat.or_lt_two_pow (n := 32) (by omega) (by omega)) (by omega)) (by omega)]
  have hx2 : x2 = x ||| y := by omega
  have hx3 : x3 = x2 ||| y2 := by omega
  subst hx3
  subst hx2
  congr 1
  simp only [Nat.or_assoc]
  rw [Nat.or_comm, Nat.or_comm y, Nat.or_assoc, Nat.or_comm y2, Nat.or_assoc]
/-- The words of a call of the document's words. -/
structure StW (w0 w : World) (y : Nat) (cur : List Int) : Prop where
  h2 : w.heap[y]? = some (.cells (wv cur).toArray 59 (0, 0))
  len : cur.length = 64
  hy : w0.heap.size ≤ y
  fr : Frm [] w0 w
theorem StW.drew {w0 w : World} {y : Nat} {cur : List Int} (h : StW w0 w y cur) : StW w0 w.drew y cur := ⟨h.h2, h.len, h.hy, h.fr.drew⟩
theorem StW.set {w0 w : World} {y : Nat} {cur : List Int} (h : StW w0 w y cur) (t : Nat) (z : Int) : StW w0 (w.setCell ⟨y, t, none⟩ (.int .u32 z)) y (cur.set t z) := by
  have f : Frm [y] w (w.setCell ⟨y, t, none⟩ (.int .u32 z)) := (Frm.refl _ _).setCell _ _ (by simp)
  have e := h.hy
  refine ⟨?_, by simp [h.len], e, h.fr.trans f (fun i hi hl => by simp at hi; omega)⟩
  rw [heap_setCell_same w y t _ _ _ h.h2]
  congr 2
  apply Array.ext'
  simp [wv, List.map_set]
theorem StW.at {w0 w : World} {y : Nat} {cur : List Int} (h : StW w0 w y cur) (t : Nat) (ht : t < 64) : w.cell? ⟨y, t, none⟩ = some (.int .u32 (zA cur t)) := by
  rw [cell_of_row w _ _ _ _ _ h.h2]
  have := h.len
  simp [wv, zA, List.getD_eq_getElem?_getD, show t < cur.length by omega]
theorem StW.free {w0 w : World} {y : Nat} {cur : List Int} (h : StW w0 w y cur) (t : Nat) : w.frozen? ⟨y, t, none⟩ = false := frozen_of_row w y t _ _ h.h2
theorem make_words (w : World) : (Instr.makeSlice 65 (.int .i64 64) (.int .i64 64)).run Tryd.prog w = .ok (.slice (some ⟨w.heap.size, 0, none⟩) 64 64) (w.alloc (.cells (wv (List.replicate 64 0)).toArray 59)) := by
  have hI : (Tryd.prog.info? 59).map (fun i => (i.zero, i.size, i.bytes)) = some (some (.int .u32 0), 1, 4) := by kernel_rfl
  obtain ⟨i, hi, h⟩ := Option.map_eq_some_iff.1 hI
  simp only [Prod.mk.injEq] at h
  obtain ⟨hz, h1, h2⟩ := h
  have hr := run_make (P := Tryd.prog) w 65 59 i (.int .u32 0) Tryd.underlying65 hi hz .i64 .i64 64 64 (by omega) (by omega) (by rw [h2]; omega) (by omega)
  rw [h1, show (Value.int .u32 0).cells = #[Value.int .u32 0] from rfl] at hr
  have e : madeCells #[Value.int .u32 0] 64 = (wv (List.replicate 64 0)).toArray := by kernel_rfl
  simpa [e] using hr
set_option maxHeartbeats 6400000 in
theorem words_any (p : Option Addr) (n c : Nat) (zs : List Int) (w : World) (hn : zs.length = n) (h64 : n = 64) (hrd : Rd w p zs) (hb : ∀ z ∈ zs, 0 ≤ z ∧ z < 256) :
    Calls Tryd.prog 35 #[.slice p n c] w fun e w' => ∃ y, e = .returned (.slice (some ⟨y, 0, none⟩) 64 64) ∧ StW w w' y (wB (wA zs 16) 48) := by
  have HRD := hid hrd
  have HZB := hid hb
  have HN := hid hn
  have hnn : 64 ≤ n ∧ n ≤ 64 := by omega
  clear hrd hb hn h64
  have hmk := make_words w
  have HS0 : Hid (StW w (w.alloc (.cells (wv (List.replicate 64 0)).toArray 59)) w.heap.size (wA zs 0)) := hid ⟨heap_alloc_new _ _, by simp [wA], Nat.le_refl _, (Frm.refl _ _).alloc _⟩
  obtain ⟨wm, hwm⟩ : ∃ wm, w.alloc (.cells (wv (List.replicate 64 0)).toArray 59) = wm := ⟨_, rfl⟩
  rw [hwm] at hmk HS0
  clear hwm
  obtain ⟨xb, hxb⟩ : ∃ x, w.heap.size = x := ⟨_, rfl⟩
  rw [hxb] at hmk HS0
  clear hxb
  go_enter Tryd.func35, Tryd.ntmps35
  go_wp2_with fail
  go_loopw [4] (fun i wr => ∃ t : Nat, t ≤ 16 ∧ i = .int .i64 t ∧ Hid (StW w wr xb (wA zs t))) (fun i _ => 16 - (intOf i).toNat)
  case atStart => exact ⟨0, by omega, rfl, HS0⟩
  case round =>
    clear HS0
    obtain ⟨t, ht, rfl, hst⟩ := hrel
    by_cases hlt : t < 16
    · have rd : ∀ i, i < n → ∃ g o, p = some ⟨g, o, none⟩ ∧ wr.cell? ⟨g, o + i, none⟩ = some (.int .u8 (zA zs i)) ∧ (0 ≤ zA zs i ∧ zA zs i < 256) := fun i hi => by
        obtain ⟨g, o, e1, e2⟩ := rd_byte (i := i) (HRD.out.kept hst.out.fr (by simp)) (by rw [HN.out]; exact hi)
        refine ⟨g, o, e1, e2, HZB.out _ ?_⟩
        unfold zA
        rw [List.getD_eq_getElem?_getD, List.getElem?_eq_getElem (by rw [HN.out]; exact hi)]
        exact List.getElem_mem _
      obtain ⟨g, o, rfl, c0, b0⟩ := rd (4 * t) (by omega)
      obtain ⟨_, _, e1, c1, b1⟩ := rd (4 * t + 1) (by omega)
      obtain ⟨_, _, e2, c2, b2⟩ := rd (4 * t + 2) (by omega)
      obtain ⟨_, _, e3, c3, b3⟩ := rd (4 * t + 3) (by omega)
      simp only [Option.some.injEq, Addr.mk.injEq, and_true] at e1 e2 e3
      obtain ⟨rfl, rfl⟩ := e1
      obtain ⟨rfl, rfl⟩ := e2
      obtain ⟨rfl, rfl⟩ := e3
      have hnx : (wA zs t).set t (lowW (zA zs (4 * t + 3)) (zA zs (4 * t + 2)) (zA zs (4 * t + 1)) (zA zs (4 * t))) = wA zs (t + 1) := rfl
      rw [← lowD_eq _ _ _ _ b0 b1 b2 b3] at hnx
      have HNX := hid hnx
      clear hnx
      generalize zA zs (4 * t) = y0 at c0 b0 HNX
      generalize zA zs (4 * t + 1) = y1 at c1 b1 HNX
      generalize zA zs (4 * t + 2) = y2 at c2 b2 HNX
      generalize zA zs (4 * t + 3) = y3 at c3 b3 HNX
      obtain ⟨b00, b01⟩ := b0
      obtain ⟨b10, b11⟩ := b1
      obtain ⟨b20, b21⟩ := b2
      obtain ⟨b30, b31⟩ := b3
      have cw := hst.out.at t (by omega)
      have fz := hst.out.free t
      have s0 : (0 : Int) ≤ (t : Int) := by omega
      have s1 : (t : Int) < 64 := by omega
      have s2 : (4 * (t : Int)).toNat = 4 * t := by omega
      have s3 : (4 * (t : Int) + 1).toNat = 4 * t + 1 := by omega
      have s4 : (4 * (t : Int) + 2).toNat = 4 * t + 2 := by omega
      have s5 : (4 * (t : Int) + 3).toNat = 4 * t + 3 := by omega
      have i0 : 4 * (t : Int) < (n : Int) := by omega
      have i1 : 4 * (t : Int) + 1 < (n : Int) := by omega
      have i2 : 4 * (t : Int) + 2 < (n : Int) := by omega
      have i3 : 4 * (t : Int) + 3 < (n : Int) := by omega
      have j0 : (0 : Int) ≤ 4 * (t : Int) := by omega
      have j1 : (0 : Int) ≤ 4 * (t : Int) + 1 := by omega
      have j2 : (0 : Int) ≤ 4 * (t : Int) + 2 := by omega
      have j3 : (0 : Int) ≤ 4 * (t : Int) + 3 := by omega
      have k0 : IntKind.i64.wrap (4 * (t : Int)) = 4 * (t : Int) := IntWalk.i64_in _ (by omega)
      have k1 : IntKind.i64.wrap (4 * (t : Int) + 1) = 4 * (t : Int) + 1 := IntWalk.i64_in _ (by omega)
      have k2 : IntKind.i64.wrap (4 * (t : Int) + 2) = 4 * (t : Int) + 2 := IntWalk.i64_in _ (by omega)
      have k3 : IntKind.i64.wrap (4 * (t : Int) + 3) = 4 * (t : Int) + 3 := IntWalk.i64_in _ (by omega)
      clear rd
      go_wp2_with fail
      go_still_tail 36, (by kernel_rfl)
      change wpList _ _ _ _ _ wr.drew
      have HS4 := hid hst.out.drew
      obtain ⟨w4, hw4⟩ : ∃ w4, wr.drew = w4 := ⟨_, rfl⟩
      have cw4 : w4.cell? ⟨xb, t, none⟩ = some (.int .u32 (zA (wA zs t) t)) := by rw [← hw4]; exact cw
      have fz4 : w4.frozen? ⟨xb, t, none⟩ = false := by rw [← hw4]; exact fz
      rw [hw4] at HS4 ⊢
      clear hw4 c0 c1 c2 c3 cw fz
      go_wp2_with fail
      go_roundw
      case rel => exact ⟨t + 1, by omega, by go_num, hid (by have h := HS4.out.set t (lowD y0 y1 y2 y3); rwa [HNX.out] at h)⟩
      case measure => simp [intOf]; omega
    · obtain rfl : t = 16 := by omega
      clear hlt
      rw [show ((16 : Nat) : Int) = 16 from rfl]
      go_wp2_with fail
      go_loopw [5] (fun i wr => ∃ t u : Nat, Hid (t = 16 + u) ∧ 16 ≤ t ∧ t ≤ 64 ∧ i = .int .i64 t ∧ Hid (StW w wr xb (wB (wA zs 16) u))) (fun i _ => 64 - (intOf i).toNat)
      case atStart => exact ⟨16, 0, hid rfl, by omega, by omega, rfl, hst⟩
      case round =>
        clear hst
        obtain ⟨t, u, htu, ht6, ht, rfl, hst⟩ := hrel
        by_cases hlt : t < 64
        · have hnx : (wB (wA zs 16) u).set t (wN (wB (wA zs 16) u) t) = wB (wA zs 16) (u + 1) := by rw [htu.out]; rfl
          have HNX := hid hnx
          obtain ⟨cur, hcur⟩ : ∃ cur, wB (wA zs 16) u = cur := ⟨_, rfl⟩
          rw [hcur] at hst HNX
          have HC : Hid (∀ w', StW w w' xb cur → w'.cell? ⟨xb, t - 16, none⟩ = some (.int .u32 (zA cur (t - 16))) ∧ w'.cell? ⟨xb, t - 15, none⟩ = some (.int .u32 (zA cur (t - 15))) ∧ w'.cell? ⟨xb, t - 7, none⟩ = some (.int .u32 (zA cur (t - 7))) ∧ w'.cell? ⟨xb, t - 2, none⟩ = some (.int .u32 (zA cur (t - 2))) ∧ w'.cell? ⟨xb, t, none⟩ = some (.int .u32 (zA cur t)) ∧ w'.frozen? ⟨xb, t, none⟩ = false) := hid (fun w' h => ⟨h.at _ (by omega), h.at _ (by omega), h.at _ (by omega), h.at _ (by omega), h.at _ (by omega), h.free t⟩)
          unfold wN sg0 sg1 at HNX
          generalize zA cur (t - 16) = x16 at HC HNX
          generalize zA cur (t - 15) = x15 at HC HNX
          generalize zA cur (t - 7) = x7 at HC HNX
          generalize zA cur (t - 2) = x2 at HC HNX
          generalize zA cur t = xt at HC
          obtain ⟨c16, c15, c7, c2, cw, fz⟩ := HC.out wr hst.out
          have k16 : IntKind.i64.wrap ((t : Int) - 16) = (t : Int) - 16 := IntWalk.i64_in _ (by omega)
          have k15 : IntKind.i64.wrap ((t : Int) - 15) = (t : Int) - 15 := IntWalk.i64_in _ (by omega)
          have k7 : IntKind.i64.wrap ((t : Int) - 7) = (t : Int) - 7 := IntWalk.i64_in _ (by omega)
          have k2 : IntKind.i64.wrap ((t : Int) - 2) = (t : Int) - 2 := IntWalk.i64_in _ (by omega)
          have n16 : ((t : Int) - 16).toNat = t - 16 := by omega
          have n15 : ((t : Int) - 15).toNat = t - 15 := by omega
          have n7 : ((t : Int) - 7).toNat = t - 7 := by omega
          have n2 : ((t : Int) - 2).toNat = t - 2 := by omega
          have a16 : (0 : Int) ≤ (t : Int) - 16 := by omega
          have a15 : (0 : Int) ≤ (t : Int) - 15 := by omega
          have a7 : (0 : Int) ≤ (t : Int) - 7 := by omega
          have a2 : (0 : Int) ≤ (t : Int) - 2 := by omega
          have b16 : (t : Int) - 16 < 64 := by omega
          have b15 : (t : Int) - 15 < 64 := by omega
          have b7 : (t : Int) - 7 < 64 := by omega
          have b2 : (t : Int) - 2 < 64 := by omega
          have s0 : (0 : Int) ≤ (t : Int) := by omega
          have s1 : (t : Int) < 64 := by omega
          have q16 : (16 : Int) ≤ (t : Int) := by omega
          have q7 : (7 : Int) ≤ (t : Int) := by omega
          clear hnx hcur
          go_wp2_with fail
          go_still_tail 32, (by kernel_rfl)
          refine wpStill_step (fun K hK => ?_)
          go_simp
          refine ⟨_, turned_all _ _ rfl _, hK _ ?_⟩
          clear hK K
          repeat still_step
          refine wpStill_step (fun K hK => ?_)
          go_simp
          refine ⟨_, turned_all _ _ rfl _, hK _ ?_⟩
          clear hK K
          repeat still_step
          refine wpStill_step (fun K hK => ?_)
          go_simp
          refine ⟨_, turned_all _ _ rfl _, hK _ ?_⟩
          clear hK K
          repeat still_step
          refine wpStill_step (fun K hK => ?_)
          go_simp
          refine ⟨_, turned_all _ _ rfl _, hK _ ?_⟩
          clear hK K
          repeat still_step
          refine wpStill_nil ?_
          change wpList _ _ _ _ _ wr.drew
          have HS7 := hid (hst.out.drew)
          obtain ⟨w7, hw7⟩ : ∃ w7, wr.drew = w7 := ⟨_, rfl⟩
          rw [hw7] at HS7 ⊢
          clear c16 c15 c7 c2 cw fz hw7 hst
          obtain ⟨_, _, _, _, cw, fz⟩ := HC.out w7 HS7.out
          go_wp2_with fail
          go_roundw
          case rel => exact ⟨t + 1, u + 1, hid (by have := htu.out; omega), by omega, by omega, by go_num, hid (by rw [← HNX.out]; exact HS7.out.set t _)⟩
          case measure => simp [intOf]; omega
        · obtain rfl : t = 64 := by omega
          clear hlt
          obtain rfl : u = 48 := by have := htu.out; omega
          rw [show ((64 : Nat) : Int) = 64 from rfl]
          go_wp2_with fail
          go_returns
          exact ⟨xb, rfl, hst.out⟩
end Go.Proofs.YtcnochabdhdlnaaDoor
