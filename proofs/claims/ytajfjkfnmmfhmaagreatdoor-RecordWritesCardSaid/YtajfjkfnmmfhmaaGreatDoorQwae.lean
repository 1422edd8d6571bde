/- Contracts of package sum: SHA-256 of any bytes. -/
import Derived.Test.YtajfjkfnmmfhmaaGreatDoorQwad
namespace Go.Proofs.YtajfjkfnmmfhmaaGreatDoor
section
open Go.RowKit
set_option maxRecDepth 100000
/-- The eight words behind k blocks of what came in. -/
def blksV (v : V8) (zs : List Int) : Nat → V8
  | 0 => v
  | k + 1 => blockV (blksV v zs k) (zs.drop (64 * k))
def lenC (n i : Nat) : Int := (n : Int) * 8 % 18446744073709551616 / 2 ^ (8 * i) % 256
def tlE (n E : Nat) (T : List Int) : Nat → List Int
  | 0 => T
  | i + 1 => (tlE n E T i).set (E - i) (lenC n i)
theorem OkB.tlE {T : List Int} (h : OkB T) (n E i : Nat) : OkB (tlE n E T i) := by
  induction i with
  | zero => exact h
  | succ i ih => exact ih.set _ (by unfold lenC; omega)
/-- The tail: what is left, the byte 128, noughts, and the length. -/
def tailE (n E : Nat) (ms : List Int) : List Int := tlE n E ((ms ++ List.replicate (128 - ms.length) 0).set ms.length 128) 8
def shaLo (n : Nat) (zs : List Int) : S4 := sumV (blockV (blksV H0 zs (n / 64)) ((tailE n 63 (zs.drop (64 * (n / 64)))).take 64))
def shaHi (n : Nat) (zs : List Int) : S4 := sumV (blockV (blockV (blksV H0 zs (n / 64)) ((tailE n 127 (zs.drop (64 * (n / 64)))).take 64)) ((tailE n 127 (zs.drop (64 * (n / 64)))).drop 64))
structure StJ (w0 w : World) (x : Nat) (v : V8) : Prop where
  h0 : w.heap[x]? = some (.cells #[.int .u64 0, .int .u64 0, .int .u64 0, .int .u64 0] 29 (0, 0))
  h1 : w.heap[x + 1]? = some (.cells v.arr 124 (0, 0))
  fr : Frm [] w0 w
structure StY (w0 w : World) (x y : Nat) (v : V8) (T : List Int) : Prop where
  j : StJ w0 w x v
  h2 : w.heap[y]? = some (.cells (bv T).toArray 139 (0, 0))
  len : T.length = 128
theorem StY.set {w0 w : World} {x y : Nat} {v : V8} {T : List Int} (h : StY w0 w x y v T) (hx : w0.heap.size ≤ x) (hy : x + 1 < y) (t : Nat) (z : Int) : StY w0 (w.setCell ⟨y, t, none⟩ (.int .u8 z)) x y v (T.set t z) := by
  have f : Frm [y] w (w.setCell ⟨y, t, none⟩ (.int .u8 z)) := (Frm.refl _ _).setCell _ _ (by simp)
  refine ⟨⟨f.heap h.j.h0 (by simp; omega), f.heap h.j.h1 (by simp; omega), h.j.fr.trans f (fun i hi hl => by simp at hi; omega)⟩, ?_, by simp [h.len]⟩
  rw [heap_setCell_same w y t _ _ _ h.h2]
  congr 2
  apply Array.ext'
  simp [bv, List.map_set]
theorem StY.at {w0 w : World} {x y : Nat} {v : V8} {T : List Int} (h : StY w0 w x y v T) (t : Nat) (ht : t < 128) : w.cell? ⟨y, t, none⟩ = some (.int .u8 (zA T t)) := by
  rw [cell_of_row w _ _ _ _ _ h.h2]
  have := h.len
  simp [bv, zA, List.getD_eq_getElem?_getD, show t < T.length by omega]
theorem StY.rd {w0 w : World} {x y : Nat} {v : V8} {T : List Int} (h : StY w0 w x y v T) : Rd w (some ⟨y, 0, none⟩) (T.take 64) := by
  refine Or.inr ⟨y, 0, rfl, fun i hi => ?_⟩
  have hl := h.len
  have hi' : i < 64 := by rw [List.length_take] at hi; omega
  rw [Nat.zero_add, h.at i (by omega)]
  simp [zA, List.getD_eq_getElem?_getD, hi']
theorem StY.rd2 {w0 w : World} {x y : Nat} {v : V8} {T : List Int} (h : StY w0 w x y v T) : Rd w (some ⟨y, 64, none⟩) (T.drop 64) := by
  refine Or.inr ⟨y, 64, rfl, fun i hi => ?_⟩
  have hl := h.len
  rw [List.length_drop] at hi
  rw [h.at (64 + i) (by omega)]
  simp [zA, List.getD_eq_getElem?_getD, show 64 + i < T.length by omega]
theorem StJ.e {w0 w : World} {x : Nat} {v : V8} (h : StJ w0 w x v) :
    w.cell? ⟨x + 1, 0, none⟩ = some (.int .u32 v.a) ∧ w.cell? ⟨x + 1, 1, none⟩ = some (.int .u32 v.b) ∧ w.cell? ⟨x + 1, 2, none⟩ = some (.int .u32 v.c) ∧ w.cell? ⟨x + 1, 3, none⟩ = some (.int .u32 v.d) ∧ w.cell? ⟨x + 1, 4, none⟩ = some (.int .u32 v.e) ∧ w.cell? ⟨x + 1, 5, none⟩ = some (.int .u32 v.f) ∧ w.cell? ⟨x + 1, 6, none⟩ = some (.int .u32 v.g) ∧ w.cell? ⟨x + 1, 7, none⟩ = some (.int .u32 v.h) := by
  refine ⟨?_, ?_, ?_, ?_, ?_, ?_, ?_, ?_⟩ <;> (rw [cell_of_row w _ _ _ _ _ h.h1]; rfl)
theorem StJ.f {w0 w : World} {x : Nat} {v : V8} (h : StJ w0 w x v) (i : Nat) : w.frozen? ⟨x + 1, i, none⟩ = false := frozen_of_row w _ i _ _ h.h1
theorem cut_tail2 (b : Nat) (W : World) : (Instr.sliceAt 139 (.pointer (some ⟨b, 0, none⟩)) (some (.int .i64 64)) (some (.int .i64 128)) none).run Tryz.prog W = .ok (.slice (some ⟨b, 64, none⟩) 64 64) W := by
  rw [run_sliceAt_array_lh W 139 _ (by kernel_rfl) .i64 .i64 64 128 (by omega) (by omega) (by rw [show Tryz.prog.arrayLen 139 = 128 from by kernel_rfl]; omega)]
  rw [show ∀ W : World, (sizeOf (Tryz.prog.elem 139)).run Tryz.prog W = .ok 1 W from fun W => by kernel_rfl]
  rw [show Tryz.prog.arrayLen 139 = 128 from by kernel_rfl]
  simp [Result.andThen_ok, slicedAt, Addr.add]
set_option maxHeartbeats 6400000 in
theorem sha_lo (p : Option Addr) (n c : Nat) (zs : List Int) (w : World) (hn : zs.length = n) (hnc : n ≤ c) (hnb : n ≤ 9223372036854775807) (h55 : n % 64 < 56) (hrd : Rd w p zs) (hb : ∀ z ∈ zs, 0 ≤ z ∧ z < 256) (hpr : Primes w) :
    Calls Tryz.prog 103 #[.slice p n c] w fun e w' => e = .returned (.agg (shaLo n zs).arr) ∧ Frm [] w w' := by
  have HRD := hid hrd
  have HZB := hid hb
  have HN := hid hn
  have HPR := hid hpr
  have HNC := hid hnc
  have HMOD := hid (h55)
  clear hrd hb hn hpr hnc h55
  go_enter Tryz.func103, Tryz.ntmps103
  go_wp2_with fail
  obtain ⟨wa, hwa⟩ : ∃ wa, (w.alloc (.cells #[.int .u64 0, .int .u64 0, .int .u64 0, .int .u64 0] 29)).alloc (.cells #[.int .u32 1779033703, .int .u32 3144134277, .int .u32 1013904242, .int .u32 2773480762, .int .u32 1359893119, .int .u32 2600822924, .int .u32 528734635, .int .u32 1541459225] 124) = wa := ⟨_, rfl⟩
  have hfa0 : Frm [] w (w.alloc (.cells #[.int .u64 0, .int .u64 0, .int .u64 0, .int .u64 0] 29)) := (Frm.refl _ _).alloc _
  have hfa1 : Frm [] (w.alloc (.cells #[.int .u64 0, .int .u64 0, .int .u64 0, .int .u64 0] 29)) wa := by rw [← hwa]; exact (Frm.refl _ _).alloc _
  have hA0 : wa.heap[w.heap.size]? = some (.cells #[.int .u64 0, .int .u64 0, .int .u64 0, .int .u64 0] 29 (0, 0)) := hfa1.heap (heap_alloc_new _ _) (by simp)
  have hA1 : wa.heap[w.heap.size + 1]? = some (.cells H0.arr 124 (0, 0)) := by rw [← hwa]; exact heap_alloc_to _ _ (by simp)
  have hsz : wa.heap.size = w.heap.size + 2 := by rw [← hwa]; simp
  have HA0 := hid hA0
  have HA1 := hid hA1
  have HFA := hid (hfa0.trans hfa1 (by simp))
  have HSZ := hid hsz
  rw [hwa]
  clear hwa hfa0 hfa1 hA0 hA1 hsz
  have HJ0 : Hid (StJ w wa w.heap.size H0) := hid ⟨HA0.out, HA1.out, HFA.out⟩
  have HSA : Hid (w.heap.size + 2 ≤ wa.heap.size) := hid (by have := HSZ.out; omega)
  clear HA0 HA1 HFA HSZ
  go_loopw [0] (fun b wr => ∃ (k m d : Nat) (pk : Option Addr), b = .slice pk m d ∧ Hid (64 * k + m = n) ∧ Hid (64 * k + d = c) ∧ Hid (Rd w pk (zs.drop (64 * k))) ∧ Hid (StJ w wr w.heap.size (blksV H0 zs k)) ∧ Hid (w.heap.size + 2 ≤ wr.heap.size)) (fun b _ => match b with | .slice _ m _ => m | _ => 0)
  case atStart => exact ⟨0, n, c, p, rfl, hid (by omega), hid (by omega), HRD, HJ0, HSA⟩
  case round =>
    clear HJ0 HSA
    obtain ⟨k, m, d, pk, rfl, hkm, hkd, hrk, hst, hsz⟩ := hrel
    by_cases hlt : (64 : Int) ≤ (m : Int)
    · obtain ⟨e0, e1, e2, e3, e4, e5, e6, e7⟩ := hst.out.e
      have hlen : (zs.drop (64 * k)).length = m := by rw [List.length_drop, HN.out]; have := hkm.out; omega
      have HB := hid (block_any (blksV H0 zs k) pk m d (zs.drop (64 * k)) wr hlen (by omega) (by have := hkm.out; omega) (hrk.out.kept hst.out.fr (by simp)) (fun z hz => HZB.out z (List.mem_of_mem_drop hz)) (HPR.out.kept hst.out.fr))
      obtain ⟨pp, hsl, hrd2, hbk2⟩ := slice_from pk (zs.drop (64 * k)) m d 64 hlen (by omega) (by have := hkm.out; have := hkd.out; have := HNC.out; omega) w hrk.out
      have hsl' : ∀ W : World, (Instr.sliceAt 24 (.slice pk m d) (some (.int .i64 64)) none none).run Tryz.prog W = .ok (.slice pp (m - 64) (d - 64)) W := hsl
      have hsl2 : ∀ W : World, (Instr.slice 24 (.slice pk m d) (some (.int .i64 64)) none none).run Tryz.prog W = .ok (.slice pp (m - 64) (d - 64)) W := fun W => by rw [← run_sliceAt_slice (h := elem_of Tryz.underlying24)]; exact hsl' W
      have HR2 := hid hrd2
      have hvn : blockV (blksV H0 zs k) (zs.drop (64 * k)) = blksV H0 zs (k + 1) := rfl
      obtain ⟨v, hv⟩ : ∃ v, blksV H0 zs k = v := ⟨_, rfl⟩
      obtain ⟨v1, hv1⟩ : ∃ v, blksV H0 zs (k + 1) = v := ⟨_, rfl⟩
      rw [hv] at e0 e1 e2 e3 e4 e5 e6 e7 HB hst hvn
      rw [hv1] at hvn
      rw [hvn] at HB
      have HV1 := hid hv1
      clear hvn hv hv1 hlen hsl hrd2 hbk2
      go_wp2_with fail
      refine (HB.out).mono ?_
      rintro e w6 ⟨rfl, hf6⟩
      have h1 := hf6.heap hst.out.h1 (by simp)
      have HF6 := hid hf6
      have hS8 := set8 (y0 := .int .u32 v1.a) (y1 := .int .u32 v1.b) (y2 := .int .u32 v1.c) (y3 := .int .u32 v1.d) (y4 := .int .u32 v1.e) (y5 := .int .u32 v1.f) (y6 := .int .u32 v1.g) (y7 := .int .u32 v1.h) h1
      have HS8 := hid hS8
      have hfr6 : ∀ i, w6.frozen? ⟨w.heap.size + 1, i, none⟩ = false := fun i => frozen_of_row w6 _ i _ _ h1
      have f0 := hfr6 0
      have f1 := hfr6 1
      have f2 := hfr6 2
      have f3 := hfr6 3
      have f4 := hfr6 4
      have f5 := hfr6 5
      have f6 := hfr6 6
      have f7 := hfr6 7
      have o0 : w6.cell? ⟨w.heap.size + 1, 0, none⟩ = some (.int .u32 v.a) := by rw [cell_of_row w6 _ _ _ _ _ h1]; rfl
      have o1 : w6.cell? ⟨w.heap.size + 1, 1, none⟩ = some (.int .u32 v.b) := by rw [cell_of_row w6 _ _ _ _ _ h1]; rfl
      have o2 : w6.cell? ⟨w.heap.size + 1, 2, none⟩ = some (.int .u32 v.c) := by rw [cell_of_row w6 _ _ _ _ _ h1]; rfl
      have o3 : w6.cell? ⟨w.heap.size + 1, 3, none⟩ = some (.int .u32 v.d) := by rw [cell_of_row w6 _ _ _ _ _ h1]; rfl
      have o4 : w6.cell? ⟨w.heap.size + 1, 4, none⟩ = some (.int .u32 v.e) := by rw [cell_of_row w6 _ _ _ _ _ h1]; rfl
      have o5 : w6.cell? ⟨w.heap.size + 1, 5, none⟩ = some (.int .u32 v.f) := by rw [cell_of_row w6 _ _ _ _ _ h1]; rfl
      have o6 : w6.cell? ⟨w.heap.size + 1, 6, none⟩ = some (.int .u32 v.g) := by rw [cell_of_row w6 _ _ _ _ _ h1]; rfl
      have o7 : w6.cell? ⟨w.heap.size + 1, 7, none⟩ = some (.int .u32 v.h) := by rw [cell_of_row w6 _ _ _ _ _ h1]; rfl
      clear h1 hf6 hS8 hfr6 e0 e1 e2 e3 e4 e5 e6 e7
      unfold V8.arr
      go_wp2_with fail
      go_roundw
      case rel =>
        obtain ⟨h8, f8⟩ := HS8.out
        have hw6 : Frm [] w w6 := hst.out.fr.trans HF6.out (by simp)
        have hz := hsz.out
        have hz6 := HF6.out.size
        refine ⟨k + 1, m - 64, d - 64, pp, rfl, hid (by have := hkm.out; omega), hid (by have := hkm.out; have := hkd.out; have := HNC.out; omega), hid ?_, hid ⟨f8.heap (HF6.out.heap hst.out.h0 (by simp)) (by simp), ?_, hw6.trans f8 (fun i hi hl => by simp at hi; omega)⟩, hid (by have := f8.size; omega)⟩
        · have := HR2.out; rw [List.drop_drop] at this; exact this
        · rw [HV1.out]; exact h8
      case measure => show m - 64 < m; omega
    · have hkm' := hkm.out
      have hk : k = n / 64 := by omega
      have hm0 : m = n % 64 := by omega
      have hcut : ¬ (56 : Int) ≤ (m : Int) := by have := HMOD.out; omega
      have HK := hid hk
      have hzs : (zs.drop (64 * k)).length = m := by rw [List.length_drop, HN.out]; omega
      obtain ⟨ms, hms⟩ : ∃ ms, zs.drop (64 * k) = ms := ⟨_, rfl⟩
      obtain ⟨v, hv⟩ : ∃ v, blksV H0 zs k = v := ⟨_, rfl⟩
      have HMZ : Hid (∀ z ∈ ms, 0 ≤ z ∧ z < 256) := hid (fun z hz => HZB.out z (List.mem_of_mem_drop (by rw [hms]; exact hz)))
      rw [hms] at hrk hzs
      rw [hv] at hst
      have HMS := hid hms
      have HV := hid hv
      have HML := hid hzs
      clear hk hms hv hzs hkm' hm0 hkd hkm
      have hm64 : m < 64 := by omega
      have hzt := zero_tail wr
      generalize hT0 : List.replicate 128 (0 : Int) = T0 at hzt
      have HT0 := hid hT0
      clear hT0
      have hfb : Frm [] wr (wr.alloc (.cells (bv T0).toArray 139)) := (Frm.refl _ _).alloc _
      have HG0 : Hid ((wr.alloc (.cells (bv T0).toArray 139)).heap[wr.heap.size]? = some (.cells (bv T0).toArray 139 (0, 0))) := hid (heap_alloc_new _ _)
      have HR0 : Hid (Rd (wr.alloc (.cells (bv T0).toArray 139)) pk ms) := hid (hrk.out.kept (hst.out.fr.trans hfb (by simp)) (by simp))
      have HFB := hid hfb
      clear hfb
      go_wp2_with (refine wpList_copyS rfl _ _ 24 rfl 5 139 Tryz.underlying24 infoB _ _ _ rfl _ 0 T0 HG0.out (fun _ => rfl) (by rw [← HT0.out]; simp) pk m d ms rfl HML.out.symm HR0.out ?_)
      intro w2 q hq hg2 hf2
      have hT1 : splice T0 0 (ms.take q) = ms ++ List.replicate (128 - m) 0 := by
        have hk' := hq.out
        have e1 : ms.take q = ms := List.take_of_length_le (by rw [HML.out]; omega)
        rw [e1, ← HT0.out]
        unfold splice
        simp only [List.take_zero, List.nil_append, Nat.zero_add, HML.out, List.drop_replicate]
      have hg3 := hg2.out
      rw [hT1] at hg3
      have hsz' := hsz.out
      have hF2 : Frm [] w w2 := (hst.out.fr.trans HFB.out (by simp)).trans hf2.out (fun i hi hl => by simp at hi; have := hst.out.fr.size; omega)
      obtain ⟨T1, hT⟩ : ∃ T1, ms ++ List.replicate (128 - m) 0 = T1 := ⟨_, rfl⟩
      rw [hT] at hg3
      have HT := hid hT
      have hT1l : T1.length = 128 := by rw [← hT]; simp [HML.out]; omega
      obtain ⟨y, hy⟩ : ∃ y, wr.heap.size = y := ⟨_, rfl⟩
      have HF2' := hf2.out
      rw [hy] at hg3 hsz' HF2' ⊢
      have HY : Hid (w.heap.size + 1 < y) := hid (by omega)
      have HY0 : Hid (StY w w2 w.heap.size y v T1) := hid ⟨⟨HF2'.heap (HFB.out.heap hst.out.h0 (by simp)) (by simp; omega), HF2'.heap (HFB.out.heap hst.out.h1 (by simp)) (by simp; omega), hF2⟩, hg3, hT1l⟩
      have HTL := hid hT1l
      have c0 : w2.cell? ⟨y, m, none⟩ = some (.int .u8 (T1.getD m 0)) := by
        rw [cell_of_row w2 _ _ _ _ _ hg3]
        simp [bv, List.getD_eq_getElem?_getD, show m < T1.length by omega]
      have f0 : w2.frozen? ⟨y, m, none⟩ = false := frozen_of_row w2 _ m _ _ hg3
      have n0 : (0 : Int) ≤ (m : Int) := by omega
      have n1 : (m : Int) < 128 := by omega
      clear hq hg2 hf2 HF2' hT1 hF2 hsz hsz' hT hg3 hT1l hst HT0 hzt HG0 HR0 HFB hy hrk
      go_wp2_with fail
      have HS0 : Hid (StY w (w2.setCell ⟨y, m, none⟩ (.int .u8 128)) w.heap.size y v (T1.set m 128)) := hid (HY0.out.set (Nat.le_refl _) HY.out m 128)
      clear HY0 c0 f0
      go_loopw [29] (fun i wr => ∃ t : Nat, t ≤ 8 ∧ i = .int .i64 t ∧ Hid (StY w wr w.heap.size y v (tlE n 63 (T1.set m 128) t))) (fun i _ => 8 - (intOf i).toNat)
      case atStart => exact ⟨0, by omega, rfl, HS0⟩
      case round =>
        clear HS0
        obtain ⟨t, ht, rfl, hst⟩ := hrel
        by_cases hlt : t < 8
        · have c0 := hst.out.at (63 - t) (by omega)
          have f0 : wr.frozen? ⟨y, 63 - t, none⟩ = false := frozen_of_row wr _ _ _ _ hst.out.h2
          have k0 : IntKind.i64.wrap (63 - (t : Int)) = 63 - (t : Int) := IntWalk.i64_in _ (by omega)
          have k1 : (0 : Int) ≤ 63 - (t : Int) := by omega
          have k2 : 63 - (t : Int) < 128 := by omega
          have k3 : (63 - (t : Int)).toNat = 63 - t := by omega
          have k4 : (0 : Int) ≤ 8 * (t : Int) := by omega
          have k5 : IntKind.i64.wrap (8 * (t : Int)) = 8 * (t : Int) := IntWalk.i64_in _ (by omega)
          have k6 : (8 * (t : Int)).toNat = 8 * t := by omega
          go_wp2_with fail
          go_roundw
          case rel => exact ⟨t + 1, by omega, by go_num, hid (hst.out.set (Nat.le_refl _) HY.out (63 - t) (lenC n t))⟩
          case measure => simp [intOf]; omega
        · obtain rfl : t = 8 := by omega
          clear hlt
          rw [show ((8 : Nat) : Int) = 8 from rfl]
          have hok : OkB (tlE n 63 (T1.set m 128) 8) := by
            refine OkB.tlE (OkB.set ?_ _ (by omega)) _ _ _
            rw [← HT.out]
            intro z hz
            rcases List.mem_append.1 hz with hz | hz
            · exact HMZ.out z hz
            · have := List.eq_of_mem_replicate hz; omega
          have hpad : tlE n 63 (T1.set m 128) 8 = tailE n 63 ms := by
            unfold tailE
            rw [HML.out, HT.out]
          obtain ⟨T, hT⟩ : ∃ T, tlE n 63 (T1.set m 128) 8 = T := ⟨_, rfl⟩
          rw [hT] at hok hpad hst
          have HOK := hid hok
          have HPAD := hid hpad
          clear hok hpad hT HT HTL n0 n1 hcut hm64 hnb
          go_wp2_with fail
          obtain ⟨v1, hv1⟩ : ∃ v1, blockV v (T.take 64) = v1 := ⟨_, rfl⟩
          have HV1 := hid hv1
          clear hv1
          go_loopw [8] (fun a wr => (a = .int .i64 0 ∧ Hid (StY w wr w.heap.size y v T)) ∨ (a = .int .i64 64 ∧ Hid (StY w wr w.heap.size y v1 T))) (fun a _ => 64 - (intOf a).toNat)
          case atStart => exact Or.inl ⟨rfl, hst⟩
          case round =>
          clear hst
          rcases hrel with ⟨rfl, hst⟩ | ⟨rfl, hst⟩
          · have HB := hid (fun w' (h : StY w w' w.heap.size y v T) => block_any v (some ⟨y, 0, none⟩) 64 128 (T.take 64) w' (by rw [List.length_take, h.len]; rfl) (by omega) (by omega) h.rd (fun z hz => HOK.out z (List.mem_of_mem_take hz)) (HPR.out.kept h.j.fr))
            rw [HV1.out] at HB
            obtain ⟨e0, e1, e2, e3, e4, e5, e6, e7⟩ := hst.out.j.e
            have hcut := cut_tail y
            have hw64 : IntKind.i64.wrap 64 = 64 := rfl
            have hw128 : IntKind.i64.wrap 128 = 128 := rfl
            go_wp2_with fail
            go_still_tail 5, (by kernel_rfl)
            change wpList _ _ _ _ _ wr.drew
            have HS5 : Hid (StY w wr.drew w.heap.size y v T) := hid ⟨⟨hst.out.j.h0, hst.out.j.h1, hst.out.j.fr.drew⟩, hst.out.h2, hst.out.len⟩
            obtain ⟨w5, hw5⟩ : ∃ w5, wr.drew = w5 := ⟨_, rfl⟩
            rw [hw5] at HS5 ⊢
            clear hw5 e0 e1 e2 e3 e4 e5 e6 e7 hst
            go_wp2_with fail
            refine (HB.out w5 HS5.out).mono ?_
            rintro e w6 ⟨rfl, hf6⟩
            have h1 := hf6.heap HS5.out.j.h1 (by simp)
            have HF6 := hid hf6
            unfold V8.arr
            have hfr6 : ∀ i, w6.frozen? ⟨w.heap.size + 1, i, none⟩ = false := fun i => frozen_of_row w6 _ i _ _ h1
            have f0 := hfr6 0
            have f1 := hfr6 1
            have f2 := hfr6 2
            have f3 := hfr6 3
            have f4 := hfr6 4
            have f5 := hfr6 5
            have f6 := hfr6 6
            have f7 := hfr6 7
            have o0 : w6.cell? ⟨w.heap.size + 1, 0, none⟩ = some (.int .u32 v.a) := by rw [cell_of_row w6 _ _ _ _ _ h1]; rfl
            have o1 : w6.cell? ⟨w.heap.size + 1, 1, none⟩ = some (.int .u32 v.b) := by rw [cell_of_row w6 _ _ _ _ _ h1]; rfl
            have o2 : w6.cell? ⟨w.heap.size + 1, 2, none⟩ = some (.int .u32 v.c) := by rw [cell_of_row w6 _ _ _ _ _ h1]; rfl
            have o3 : w6.cell? ⟨w.heap.size + 1, 3, none⟩ = some (.int .u32 v.d) := by rw [cell_of_row w6 _ _ _ _ _ h1]; rfl
            have o4 : w6.cell? ⟨w.heap.size + 1, 4, none⟩ = some (.int .u32 v.e) := by rw [cell_of_row w6 _ _ _ _ _ h1]; rfl
            have o5 : w6.cell? ⟨w.heap.size + 1, 5, none⟩ = some (.int .u32 v.f) := by rw [cell_of_row w6 _ _ _ _ _ h1]; rfl
            have o6 : w6.cell? ⟨w.heap.size + 1, 6, none⟩ = some (.int .u32 v.g) := by rw [cell_of_row w6 _ _ _ _ _ h1]; rfl
            have o7 : w6.cell? ⟨w.heap.size + 1, 7, none⟩ = some (.int .u32 v.h) := by rw [cell_of_row w6 _ _ _ _ _ h1]; rfl
            have hS8 := set8 (y0 := .int .u32 v1.a) (y1 := .int .u32 v1.b) (y2 := .int .u32 v1.c) (y3 := .int .u32 v1.d) (y4 := .int .u32 v1.e) (y5 := .int .u32 v1.f) (y6 := .int .u32 v1.g) (y7 := .int .u32 v1.h) h1
            have HS8 := hid hS8
            clear h1 hf6 hS8 hfr6
            go_wp2_with fail
            go_roundw
            case rel =>
              refine Or.inr ⟨rfl, hid ?_⟩
              obtain ⟨h8, f8⟩ := HS8.out
              have hw6 : Frm [] w w6 := HS5.out.j.fr.trans HF6.out (by simp)
              have hy' := HY.out
              exact ⟨⟨f8.heap (HF6.out.heap HS5.out.j.h0 (by simp)) (by simp), h8, hw6.trans f8 (fun i hi hl => by simp at hi; omega)⟩, f8.heap (HF6.out.heap HS5.out.h2 (by simp)) (by simp; omega), HS5.out.len⟩
            case measure => simp [intOf]
          · have HRES : Hid (sumV v1 = shaLo n zs) := hid (by
              rw [← HV1.out, HPAD.out, ← HV.out, ← HMS.out, HK.out]
              rfl)
            have hok : v1.ok := by rw [← HV1.out]; exact blockV_ok _ _
            obtain ⟨d0, d1, d2, d3, d4, d5, d6, d7⟩ := hok
            have HP1 := hid (pair_any v1.a v1.b wr.drew d0 d1)
            have HP2 := hid (pair_any v1.c v1.d wr.drew d2 d3)
            have HP3 := hid (pair_any v1.e v1.f wr.drew d4 d5)
            have HP4 := hid (pair_any v1.g v1.h wr.drew d6 d7)
            clear d0 d1 d2 d3 d4 d5 d6 d7
            obtain ⟨e0, e1, e2, e3, e4, e5, e6, e7⟩ := hst.out.j.e
            go_wp2_with fail
            go_still_tail 21, (by kernel_rfl)
            refine wpStill_step (fun K hK => ?_)
            go_simp
            refine ⟨_, HP1.out, hK _ ?_⟩
            clear hK K
            repeat still_step
            refine wpStill_step (fun K hK => ?_)
            go_simp
            refine ⟨_, HP2.out, hK _ ?_⟩
            clear hK K
            repeat still_step
            refine wpStill_step (fun K hK => ?_)
            go_simp
            refine ⟨_, HP3.out, hK _ ?_⟩
            clear hK K
            repeat still_step
            refine wpStill_step (fun K hK => ?_)
            go_simp
            refine ⟨_, HP4.out, hK _ ?_⟩
            clear hK K
            repeat still_step
            refine wpStill_nil ?_
            change wpList _ _ _ _ _ wr.drew
            have HS9 : Hid (StJ w wr.drew w.heap.size v1) := hid ⟨hst.out.j.h0, hst.out.j.h1, hst.out.j.fr.drew⟩
            obtain ⟨w9, hw9⟩ : ∃ w9, wr.drew = w9 := ⟨_, rfl⟩
            rw [hw9] at HS9 ⊢
            clear hw9 e0 e1 e2 e3 e4 e5 e6 e7 hst HP1 HP2 HP3 HP4
            have r0 : w9.cell? ⟨w.heap.size, 0, none⟩ = some (.int .u64 0) := by rw [cell_of_row w9 _ _ _ _ _ HS9.out.h0]; rfl
            have q0 : w9.frozen? ⟨w.heap.size, 0, none⟩ = false := frozen_of_row w9 _ 0 _ _ HS9.out.h0
            have r1 : w9.cell? ⟨w.heap.size, 1, none⟩ = some (.int .u64 0) := by rw [cell_of_row w9 _ _ _ _ _ HS9.out.h0]; rfl
            have q1 : w9.frozen? ⟨w.heap.size, 1, none⟩ = false := frozen_of_row w9 _ 1 _ _ HS9.out.h0
            have r2 : w9.cell? ⟨w.heap.size, 2, none⟩ = some (.int .u64 0) := by rw [cell_of_row w9 _ _ _ _ _ HS9.out.h0]; rfl
            have q2 : w9.frozen? ⟨w.heap.size, 2, none⟩ = false := frozen_of_row w9 _ 2 _ _ HS9.out.h0
            have r3 : w9.cell? ⟨w.heap.size, 3, none⟩ = some (.int .u64 0) := by rw [cell_of_row w9 _ _ _ _ _ HS9.out.h0]; rfl
            have q3 : w9.frozen? ⟨w.heap.size, 3, none⟩ = false := frozen_of_row w9 _ 3 _ _ HS9.out.h0
            have HS4 := hid (set4 (y0 := .int .u64 (pairW v1.a v1.b)) (y1 := .int .u64 (pairW v1.c v1.d)) (y2 := .int .u64 (pairW v1.e v1.f)) (y3 := .int .u64 (pairW v1.g v1.h)) HS9.out.h0)
            go_wp2_with fail
            obtain ⟨h4, f4⟩ := HS4.out
            obtain ⟨wz, hwz⟩ : ∃ wz, (((w9.setCell ⟨w.heap.size, 0, none⟩ (.int .u64 (pairW v1.a v1.b))).setCell ⟨w.heap.size, 1, none⟩ (.int .u64 (pairW v1.c v1.d))).setCell ⟨w.heap.size, 2, none⟩ (.int .u64 (pairW v1.e v1.f))).setCell ⟨w.heap.size, 3, none⟩ (.int .u64 (pairW v1.g v1.h)) = wz := ⟨_, rfl⟩
            rw [hwz] at h4 f4 ⊢
            have g0 : wz.cell? ⟨w.heap.size, 0, none⟩ = some (.int .u64 (pairW v1.a v1.b)) := by rw [cell_of_row wz _ _ _ _ _ h4]; rfl
            have g1 : wz.cell? ⟨w.heap.size, 1, none⟩ = some (.int .u64 (pairW v1.c v1.d)) := by rw [cell_of_row wz _ _ _ _ _ h4]; rfl
            have g2 : wz.cell? ⟨w.heap.size, 2, none⟩ = some (.int .u64 (pairW v1.e v1.f)) := by rw [cell_of_row wz _ _ _ _ _ h4]; rfl
            have g3 : wz.cell? ⟨w.heap.size, 3, none⟩ = some (.int .u64 (pairW v1.g v1.h)) := by rw [cell_of_row wz _ _ _ _ _ h4]; rfl
            have hfz : Frm [] w wz := HS9.out.fr.trans f4 (fun i hi hl => by simp at hi; omega)
            clear hwz h4 f4 HS4 r0 r1 r2 r3 q0 q1 q2 q3
            refine bodyPost_ret (v := .agg #[.int .u64 (pairW v1.a v1.b), .int .u64 (pairW v1.c v1.d), .int .u64 (pairW v1.e v1.f), .int .u64 (pairW v1.g v1.h)]) (by simp [results, Tryz.results103, go_sem, g0, g1, g2, g3]) rfl ⟨?_, hfz⟩
            rw [← HRES.out]
            rfl
end
end Go.Proofs.YtajfjkfnmmfhmaaGreatDoor
