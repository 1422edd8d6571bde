/- Contracts of package sum: SHA-256 of few bytes. Contracts of package sum: Fletcher's sum, piece by piece. -/
import Derived.Test.YtajfjkfnmmfhmaaDoorQae
import Derived.Deep.RegionHeld3
namespace Go.Proofs.YtajfjkfnmmfhmaaDoor
section
open Go.RowKit
set_option maxRecDepth 100000

structure S4 where
  a : Int
  b : Int
  c : Int
  d : Int
def S4.arr (s : S4) : Array Value := #[.int .u64 s.a, .int .u64 s.b, .int .u64 s.c, .int .u64 s.d]
theorem set4 {w : World} {b : Nat} {T : TypeId} {x0 x1 x2 x3 y0 y1 y2 y3 : Value} (h : w.heap[b]? = some (.cells #[x0, x1, x2, x3] T (0, 0))) :
    ((((w.setCell ⟨b, 0, none⟩ y0).setCell ⟨b, 1, none⟩ y1).setCell ⟨b, 2, none⟩ y2).setCell ⟨b, 3, none⟩ y3).heap[b]? = some (.cells #[y0, y1, y2, y3] T (0, 0)) ∧ Frm [b] w ((((w.setCell ⟨b, 0, none⟩ y0).setCell ⟨b, 1, none⟩ y1).setCell ⟨b, 2, none⟩ y2).setCell ⟨b, 3, none⟩ y3) := by
  refine ⟨?_, ((((Frm.refl _ w).setCell _ _ (by simp)).setCell _ _ (by simp)).setCell _ _ (by simp)).setCell _ _ (by simp)⟩
  have h0 : (w.setCell ⟨b, 0, none⟩ y0).heap[b]? = some (.cells #[y0, x1, x2, x3] T (0, 0)) := by rw [heap_setCell_same _ _ 0 _ _ _ h]; rfl
  have h1 : ((w.setCell ⟨b, 0, none⟩ y0).setCell ⟨b, 1, none⟩ y1).heap[b]? = some (.cells #[y0, y1, x2, x3] T (0, 0)) := by rw [heap_setCell_same _ _ 1 _ _ _ h0]; rfl
  have h2 : (((w.setCell ⟨b, 0, none⟩ y0).setCell ⟨b, 1, none⟩ y1).setCell ⟨b, 2, none⟩ y2).heap[b]? = some (.cells #[y0, y1, y2, x3] T (0, 0)) := by rw [heap_setCell_same _ _ 2 _ _ _ h1]; rfl
  have h3 : ((((w.setCell ⟨b, 0, none⟩ y0).setCell ⟨b, 1, none⟩ y1).setCell ⟨b, 2, none⟩ y2).setCell ⟨b, 3, none⟩ y3).heap[b]? = some (.cells #[y0, y1, y2, y3] T (0, 0)) := by rw [heap_setCell_same _ _ 3 _ _ _ h2]; rfl
  exact h3
theorem set8 {w : World} {b : Nat} {T : TypeId} {x0 x1 x2 x3 x4 x5 x6 x7 y0 y1 y2 y3 y4 y5 y6 y7 : Value} (h : w.heap[b]? = some (.cells #[x0, x1, x2, x3, x4, x5, x6, x7] T (0, 0))) :
    ((((((((w.setCell ⟨b, 0, none⟩ y0).setCell ⟨b, 1, none⟩ y1).setCell ⟨b, 2, none⟩ y2).setCell ⟨b, 3, none⟩ y3).setCell ⟨b, 4, none⟩ y4).setCell ⟨b, 5, none⟩ y5).setCell ⟨b, 6, none⟩ y6).setCell ⟨b, 7, none⟩ y7).heap[b]? = some (.cells #[y0, y1, y2, y3, y4, y5, y6, y7] T (0, 0)) ∧ Frm [b] w ((((((((w.setCell ⟨b, 0, none⟩ y0).setCell ⟨b, 1, none⟩ y1).setCell ⟨b, 2, none⟩ y2).setCell ⟨b, 3, none⟩ y3).setCell ⟨b, 4, none⟩ y4).setCell ⟨b, 5, none⟩ y5).setCell ⟨b, 6, none⟩ y6).setCell ⟨b, 7, none⟩ y7) := by
  refine ⟨?_, ((((((((Frm.refl _ w).setCell _ _ (by simp)).setCell _ _ (by simp)).setCell _ _ (by simp)).setCell _ _ (by simp)).setCell _ _ (by simp)).setCell _ _ (by simp)).setCell _ _ (by simp)).setCell _ _ (by simp)⟩
  have h0 : (w.setCell ⟨b, 0, none⟩ y0).heap[b]? = some (.cells #[y0, x1, x2, x3, x4, x5, x6, x7] T (0, 0)) := by rw [heap_setCell_same _ _ 0 _ _ _ h]; rfl
  have h1 : ((w.setCell ⟨b, 0, none⟩ y0).setCell ⟨b, 1, none⟩ y1).heap[b]? = some (.cells #[y0, y1, x2, x3, x4, x5, x6, x7] T (0, 0)) := by rw [heap_setCell_same _ _ 1 _ _ _ h0]; rfl
  have h2 : (((w.setCell ⟨b, 0, none⟩ y0).setCell ⟨b, 1, none⟩ y1).setCell ⟨b, 2, none⟩ y2).heap[b]? = some (.cells #[y0, y1, y2, x3, x4, x5, x6, x7] T (0, 0)) := by rw [heap_setCell_same _ _ 2 _ _ _ h1]; rfl
  have h3 : ((((w.setCell ⟨b, 0, none⟩ y0).setCell ⟨b, 1, none⟩ y1).setCell ⟨b, 2, none⟩ y2).setCell ⟨b, 3, none⟩ y3).heap[b]? = some (.cells #[y0, y1, y2, y3, x4, x5, x6, x7] T (0, 0)) := by rw [heap_setCell_same _ _ 3 _ _ _ h2]; rfl
  have h4 : (((((w.setCell ⟨b, 0, none⟩ y0).setCell ⟨b, 1, none⟩ y1).setCell ⟨b, 2, none⟩ y2).setCell ⟨b, 3, none⟩ y3).setCell ⟨b, 4, none⟩ y4).heap[b]? = some (.cells #[y0, y1, y2, y3, y4, x5, x6, x7] T (0, 0)) := by rw [heap_setCell_same _ _ 4 _ _ _ h3]; rfl
  have h5 : ((((((w.setCell ⟨b, 0, none⟩ y0).setCell ⟨b, 1, none⟩ y1).setCell ⟨b, 2, none⟩ y2).setCell ⟨b, 3, none⟩ y3).setCell ⟨b, 4, none⟩ y4).setCell ⟨b, 5, none⟩ y5).heap[b]? = some (.cells #[y0, y1, y2, y3, y4, y5, x6, x7] T (0, 0)) := by rw [heap_setCell_same _ _ 5 _ _ _ h4]; rfl
  have h6 : (((((((w.setCell ⟨b, 0, none⟩ y0).setCell ⟨b, 1, none⟩ y1).setCell ⟨b, 2, none⟩ y2).setCell ⟨b, 3, none⟩ y3).setCell ⟨b, 4, none⟩ y4).setCell ⟨b, 5, none⟩ y5).setCell ⟨b, 6, none⟩ y6).heap[b]? = some (.cells #[y0, y1, y2, y3, y4, y5, y6, x7] T (0, 0)) := by rw [heap_setCell_same _ _ 6 _ _ _ h5]; rfl
  have h7 : ((((((((w.setCell ⟨b, 0, none⟩ y0).setCell ⟨b, 1, none⟩ y1).setCell ⟨b, 2, none⟩ y2).setCell ⟨b, 3, none⟩ y3).setCell ⟨b, 4, none⟩ y4).setCell ⟨b, 5, none⟩ y5).setCell ⟨b, 6, none⟩ y6).setCell ⟨b, 7, none⟩ y7).heap[b]? = some (.cells #[y0, y1, y2, y3, y4, y5, y6, y7] T (0, 0)) := by rw [heap_setCell_same _ _ 7 _ _ _ h6]; rfl
  exact h7
def H0 : V8 := ⟨1779033703, 3144134277, 1013904242, 2773480762, 1359893119, 2600822924, 528734635, 1541459225⟩
/-- The blocks of a call of sha256: what goes out, the eight words, the tail. -/
structure StH (w0 w : World) (x : Nat) (v : V8) (T : List Int) : Prop where
  h0 : w.heap[x]? = some (.cells #[.int .u64 0, .int .u64 0, .int .u64 0, .int .u64 0] 39 (0, 0))
  h1 : w.heap[x + 1]? = some (.cells v.arr 110 (0, 0))
  h2 : w.heap[x + 2]? = some (.cells (bv T).toArray 112 (0, 0))
  len : T.length = 128
  fr : Frm [] w0 w
theorem zero_tail (w : World) : (zeroValue 112).run Tryd.prog w = .ok (.agg (bv (List.replicate 128 0)).toArray) w := by
  have h : (Tryd.prog.info? 112).map (fun i => i.zero) = some (some (.agg (bv (List.replicate 128 0)).toArray)) := by kernel_rfl
  obtain ⟨i, hi, hz⟩ := Option.map_eq_some_iff.1 h
  simp [zeroValue, typeInfo, hi, hz]
theorem StH.set {w0 w : World} {x : Nat} {v : V8} {T : List Int} (h : StH w0 w x v T) (hx : w0.heap.size ≤ x) (t : Nat) (z : Int) : StH w0 (w.setCell ⟨x + 2, t, none⟩ (.int .u8 z)) x v (T.set t z) := by
  have f : Frm [x + 2] w (w.setCell ⟨x + 2, t, none⟩ (.int .u8 z)) := (Frm.refl _ _).setCell _ _ (by simp)
  refine ⟨f.heap h.h0 (by simp), f.heap h.h1 (by simp), ?_, by simp [h.len], h.fr.trans f (fun i hi hl => by simp at hi; omega)⟩
  rw [heap_setCell_same w (x + 2) t _ _ _ h.h2]
  congr 2
  apply Array.ext'
  simp [bv, List.map_set]
theorem StH.at {w0 w : World} {x : Nat} {v : V8} {T : List Int} (h : StH w0 w x v T) (t : Nat) (ht : t < 128) : w.cell? ⟨x + 2, t, none⟩ = some (.int .u8 (zA T t)) := by
  rw [cell_of_row w _ _ _ _ _ h.h2]
  have := h.len
  simp [bv, zA, List.getD_eq_getElem?_getD, show t < T.length by omega]
def lenB (n i : Nat) : Int := (n : Int) * 8 / 2 ^ (8 * i) % 256
def tlF (n : Nat) (T : List Int) : Nat → List Int
  | 0 => T
  | i + 1 => (tlF n T i).set (63 - i) (lenB n i)
def OkB (T : List Int) : Prop := ∀ z ∈ T, 0 ≤ z ∧ z < 256
theorem OkB.set {T : List Int} (h : OkB T) (i : Nat) {z : Int} (hz : 0 ≤ z ∧ z < 256) : OkB (T.set i z) := fun y hy => by
  rcases List.mem_or_eq_of_mem_set hy with hy | hy
  · exact h y hy
  · rw [hy]; exact hz
theorem OkB.tl {T : List Int} (h : OkB T) (n i : Nat) : OkB (tlF n T i) := by
  induction i with
  | zero => exact h
  | succ i ih => exact ih.set _ (by unfold lenB; omega)
theorem StH.rd {w0 w : World} {x : Nat} {v : V8} {T : List Int} (h : StH w0 w x v T) : Rd w (some ⟨x + 2, 0, none⟩) (T.take 64) := by
  refine Or.inr ⟨x + 2, 0, rfl, fun i hi => ?_⟩
  have hl := h.len
  have hi' : i < 64 := by rw [List.length_take] at hi; omega
  rw [Nat.zero_add, h.at i (by omega)]
  simp [zA, List.getD_eq_getElem?_getD, hi']
def V8.ok (v : V8) : Prop := (0 ≤ v.a ∧ v.a < 4294967296) ∧ (0 ≤ v.b ∧ v.b < 4294967296) ∧ (0 ≤ v.c ∧ v.c < 4294967296) ∧ (0 ≤ v.d ∧ v.d < 4294967296) ∧ (0 ≤ v.e ∧ v.e < 4294967296) ∧ (0 ≤ v.f ∧ v.f < 4294967296) ∧ (0 ≤ v.g ∧ v.g < 4294967296) ∧ (0 ≤ v.h ∧ v.h < 4294967296)
theorem blockV_ok (v : V8) (zs : List Int) : (blockV v zs).ok := by
  unfold blockV addV V8.ok
  refine ⟨?_, ?_, ?_, ?_, ?_, ?_, ?_, ?_⟩ <;> simp only <;> omega
def sumV (v : V8) : S4 := ⟨pairW v.a v.b, pairW v.c v.d, pairW v.e v.f, pairW v.g v.h⟩
/-- The bytes that are laid behind fewer than 56, with them. -/
def padS (zs : List Int) : List Int := (tlF zs.length ((zs ++ List.replicate (128 - zs.length) 0).set zs.length 128) 8).take 64
def shaS (zs : List Int) : S4 := sumV (blockV H0 (padS zs))
theorem cut_tail (b : Nat) (W : World) : (Instr.sliceAt 112 (.pointer (some ⟨b, 0, none⟩)) (some (.int .i64 0)) (some (.int .i64 64)) none).run Tryd.prog W = .ok (.slice (some ⟨b, 0, none⟩) 64 128) W := by
  rw [run_sliceAt_array_lh W 112 _ (by kernel_rfl) .i64 .i64 0 64 (by omega) (by omega) (by rw [show Tryd.prog.arrayLen 112 = 128 from by kernel_rfl]; omega)]
  rw [show ∀ W : World, (sizeOf (Tryd.prog.elem 112)).run Tryd.prog W = .ok 1 W from fun W => by kernel_rfl]
  rw [show Tryd.prog.arrayLen 112 = 128 from by kernel_rfl]
  simp [Result.andThen_ok, slicedAt, Addr.add]
set_option maxHeartbeats 3200000 in
theorem sha_short (p : Option Addr) (n c : Nat) (zs : List Int) (w : World) (hn : zs.length = n) (h55 : n ≤ 55) (hrd : Rd w p zs) (hb : ∀ z ∈ zs, 0 ≤ z ∧ z < 256) (hpr : Primes w) :
    Calls Tryd.prog 74 #[.slice p n c] w fun e w' => e = .returned (.agg (shaS zs).arr) ∧ Frm [] w w' := by
  have HRD := hid hrd
  have HZB := hid hb
  have HN := hid hn
  have HPR := hid hpr
  clear hrd hb hn hpr
  go_enter Tryd.func74, Tryd.ntmps74
  go_wp2_with fail
  obtain ⟨wa, hwa⟩ : ∃ wa, (w.alloc (.cells #[.int .u64 0, .int .u64 0, .int .u64 0, .int .u64 0] 39)).alloc (.cells #[.int .u32 1779033703, .int .u32 3144134277, .int .u32 1013904242, .int .u32 2773480762, .int .u32 1359893119, .int .u32 2600822924, .int .u32 528734635, .int .u32 1541459225] 110) = wa := ⟨_, rfl⟩
  have hfa0 : Frm [] w (w.alloc (.cells #[.int .u64 0, .int .u64 0, .int .u64 0, .int .u64 0] 39)) := (Frm.refl _ _).alloc _
  have hfa1 : Frm [] (w.alloc (.cells #[.int .u64 0, .int .u64 0, .int .u64 0, .int .u64 0] 39)) wa := by rw [← hwa]; exact (Frm.refl _ _).alloc _
  have hA0 : wa.heap[w.heap.size]? = some (.cells #[.int .u64 0, .int .u64 0, .int .u64 0, .int .u64 0] 39 (0, 0)) := hfa1.heap (heap_alloc_new _ _) (by simp)
  have hA1 : wa.heap[w.heap.size + 1]? = some (.cells H0.arr 110 (0, 0)) := by rw [← hwa]; exact heap_alloc_to _ _ (by simp)
  have hsz : wa.heap.size = w.heap.size + 2 := by rw [← hwa]; simp
  have HA0 := hid hA0
  have HA1 := hid hA1
  have HFA := hid (hfa0.trans hfa1 (by simp))
  have HSZ := hid hsz
  rw [hwa]
  clear hwa hfa0 hfa1 hA0 hA1 hsz
  go_loopw [0] (fun b wr => b = .slice p n c ∧ wr = wa) (fun _ _ => 0)
  case atStart => exact ⟨rfl, rfl⟩
  case round =>
    obtain ⟨rfl, rfl⟩ := hrel
    have b1 : ¬ (64 : Int) ≤ (n : Int) := by omega
    have hzt := zero_tail wr
    generalize hT0 : List.replicate 128 (0 : Int) = T0 at hzt
    have HT0 := hid hT0
    clear hT0
    have hfb : Frm [] wr (wr.alloc (.cells (bv T0).toArray 112)) := (Frm.refl _ _).alloc _
    have HG0 : Hid ((wr.alloc (.cells (bv T0).toArray 112)).heap[wr.heap.size]? = some (.cells (bv T0).toArray 112 (0, 0))) := hid (heap_alloc_new _ _)
    have HR0 : Hid (Rd (wr.alloc (.cells (bv T0).toArray 112)) p zs) := hid (HRD.out.kept (HFA.out.trans hfb (by simp)) (by simp))
    have HFB := hid hfb
    clear hfb
    go_wp2_with (refine wpList_copyS rfl _ _ 23 rfl 5 112 Tryd.underlying23 infoB _ _ _ rfl _ 0 T0 HG0.out (fun _ => rfl) (by rw [← HT0.out]; simp) p n c zs rfl HN.out.symm HR0.out ?_)
    intro w2 k hk hg2 hf2
    have hT1 : splice T0 0 (zs.take k) = zs ++ List.replicate (128 - n) 0 := by
      have hk' := hk.out
      have e1 : zs.take k = zs := List.take_of_length_le (by rw [HN.out]; omega)
      rw [e1, ← HT0.out]
      unfold splice
      simp only [List.take_zero, List.nil_append, Nat.zero_add, HN.out, List.drop_replicate]
    have hg3 := hg2.out
    rw [hT1] at hg3
    have hF2 : Frm [] w w2 := (HFA.out.trans HFB.out (by simp)).trans hf2.out (fun i hi hl => by simp at hi; have := HSZ.out; omega)
    have HF2 := hid hF2
    have hsz := HSZ.out
    have HA0' : Hid (w2.heap[w.heap.size]? = some (.cells #[.int .u64 0, .int .u64 0, .int .u64 0, .int .u64 0] 39 (0, 0))) := hid (hf2.out.heap (HFB.out.heap HA0.out (by simp)) (by simp; omega))
    have HA1' : Hid (w2.heap[w.heap.size + 1]? = some (.cells H0.arr 110 (0, 0))) := hid (hf2.out.heap (HFB.out.heap HA1.out (by simp)) (by simp; omega))
    rw [hsz] at hg3 ⊢
    obtain ⟨T1, hT⟩ : ∃ T1, zs ++ List.replicate (128 - n) 0 = T1 := ⟨_, rfl⟩
    rw [hT] at hg3
    have HT := hid hT
    have HG := hid hg3
    have hT1l : T1.length = 128 := by rw [← hT]; simp [HN.out]; omega
    have HTL := hid hT1l
    have c0 : w2.cell? ⟨w.heap.size + 2, n, none⟩ = some (.int .u8 (T1.getD n 0)) := by
      rw [cell_of_row w2 _ _ _ _ _ hg3]
      simp [bv, List.getD_eq_getElem?_getD, show n < T1.length by omega]
    have f0 : w2.frozen? ⟨w.heap.size + 2, n, none⟩ = false := frozen_of_row w2 _ n _ _ hg3
    have n0 : (0 : Int) ≤ (n : Int) := by omega
    have n1 : (n : Int) < 128 := by omega
    have n2 : ¬ (56 : Int) ≤ (n : Int) := by omega
    clear hk hg2 hf2 hT1 hF2 hsz hT hg3 hT1l HA0 HA1 HFA HSZ HT0 hzt HG0 HR0 HFB
    go_wp2_with fail
    have HS0 : Hid (StH w (w2.setCell ⟨w.heap.size + 2, n, none⟩ (.int .u8 128)) w.heap.size H0 (T1.set n 128)) := hid ((StH.mk HA0'.out HA1'.out HG.out HTL.out HF2.out).set (Nat.le_refl _) n 128)
    clear HA0' HA1' HG HF2 c0 f0
    go_loopw [29] (fun i wr => ∃ t : Nat, t ≤ 8 ∧ i = .int .i64 t ∧ Hid (StH w wr w.heap.size H0 (tlF n (T1.set n 128) t))) (fun i _ => 8 - (intOf i).toNat)
    case atStart => exact ⟨0, by omega, rfl, HS0⟩
    case round =>
      clear HS0
      obtain ⟨t, ht, rfl, hst⟩ := hrel
      by_cases hlt : t < 8
      · have c0 := hst.out.at (63 - t) (by omega)
        have f0 : wr.frozen? ⟨w.heap.size + 2, 63 - t, none⟩ = false := frozen_of_row wr _ _ _ _ hst.out.h2
        have k0 : IntKind.i64.wrap (63 - (t : Int)) = 63 - (t : Int) := IntWalk.i64_in _ (by omega)
        have k1 : (0 : Int) ≤ 63 - (t : Int) := by omega
        have k2 : 63 - (t : Int) < 128 := by omega
        have k3 : (63 - (t : Int)).toNat = 63 - t := by omega
        have k4 : (0 : Int) ≤ 8 * (t : Int) := by omega
        have k5 : IntKind.i64.wrap (8 * (t : Int)) = 8 * (t : Int) := IntWalk.i64_in _ (by omega)
        have k6 : (8 * (t : Int)).toNat = 8 * t := by omega
        go_wp2_with fail
        go_roundw
        case rel => exact ⟨t + 1, by omega, by go_num, hid (hst.out.set (Nat.le_refl _) (63 - t) (lenB n t))⟩
        case measure => simp [intOf]; omega
      · obtain rfl : t = 8 := by omega
        clear hlt
        rw [show ((8 : Nat) : Int) = 8 from rfl]
        have hok : OkB (tlF n (T1.set n 128) 8) := by
          refine OkB.tl (OkB.set ?_ _ (by omega)) _ _
          rw [← HT.out]
          intro z hz
          rcases List.mem_append.1 hz with hz | hz
          · exact HZB.out z hz
          · have := List.eq_of_mem_replicate hz; omega
        have hpad : (tlF n (T1.set n 128) 8).take 64 = padS zs := by
          unfold padS
          rw [HN.out, HT.out]
        obtain ⟨T, hT⟩ : ∃ T, tlF n (T1.set n 128) 8 = T := ⟨_, rfl⟩
        rw [hT] at hok hpad hst
        have HOK := hid hok
        have HPAD := hid hpad
        obtain ⟨v, hv⟩ : ∃ v, H0 = v := ⟨_, rfl⟩
        rw [hv] at hst
        have HV := hid hv
        clear hok hpad hT hv HT HTL n0 n1 n2 b1
        go_wp2_with fail
        go_loopw [8] (fun a wr => (a = .int .i64 0 ∧ Hid (StH w wr w.heap.size v T)) ∨ (a = .int .i64 64 ∧ Hid (StH w wr w.heap.size (blockV v (padS zs)) T))) (fun a _ => 64 - (intOf a).toNat)
        case atStart => exact Or.inl ⟨rfl, hst⟩
        case round =>
        clear hst
        rcases hrel with ⟨rfl, hst⟩ | ⟨rfl, hst⟩
        · have HB := hid (fun w' (h : StH w w' w.heap.size v T) => block_any v (some ⟨w.heap.size + 2, 0, none⟩) 64 128 (T.take 64) w' (by rw [List.length_take, h.len]; rfl) (by omega) (by omega) h.rd (fun z hz => HOK.out z (List.mem_of_mem_take hz)) (HPR.out.kept h.fr))
          have e0 : wr.cell? ⟨w.heap.size + 1, 0, none⟩ = some (.int .u32 v.a) := by rw [cell_of_row wr _ _ _ _ _ hst.out.h1]; rfl
          have e1 : wr.cell? ⟨w.heap.size + 1, 1, none⟩ = some (.int .u32 v.b) := by rw [cell_of_row wr _ _ _ _ _ hst.out.h1]; rfl
          have e2 : wr.cell? ⟨w.heap.size + 1, 2, none⟩ = some (.int .u32 v.c) := by rw [cell_of_row wr _ _ _ _ _ hst.out.h1]; rfl
          have e3 : wr.cell? ⟨w.heap.size + 1, 3, none⟩ = some (.int .u32 v.d) := by rw [cell_of_row wr _ _ _ _ _ hst.out.h1]; rfl
          have e4 : wr.cell? ⟨w.heap.size + 1, 4, none⟩ = some (.int .u32 v.e) := by rw [cell_of_row wr _ _ _ _ _ hst.out.h1]; rfl
          have e5 : wr.cell? ⟨w.heap.size + 1, 5, none⟩ = some (.int .u32 v.f) := by rw [cell_of_row wr _ _ _ _ _ hst.out.h1]; rfl
          have e6 : wr.cell? ⟨w.heap.size + 1, 6, none⟩ = some (.int .u32 v.g) := by rw [cell_of_row wr _ _ _ _ _ hst.out.h1]; rfl
          have e7 : wr.cell? ⟨w.heap.size + 1, 7, none⟩ = some (.int .u32 v.h) := by rw [cell_of_row wr _ _ _ _ _ hst.out.h1]; rfl
          have hcut := cut_tail (w.heap.size + 2)
          have hw64 : IntKind.i64.wrap 64 = 64 := rfl
          go_wp2_with fail
          go_still_tail 5, (by kernel_rfl)
          change wpList _ _ _ _ _ wr.drew
          have HS5 : Hid (StH w wr.drew w.heap.size v T) := hid ⟨hst.out.h0, hst.out.h1, hst.out.h2, hst.out.len, hst.out.fr.drew⟩
          obtain ⟨w5, hw5⟩ : ∃ w5, wr.drew = w5 := ⟨_, rfl⟩
          rw [hw5] at HS5 ⊢
          clear hw5 e0 e1 e2 e3 e4 e5 e6 e7 hst
          go_wp2_with fail
          refine (HB.out w5 HS5.out).mono ?_
          rintro e w6 ⟨rfl, hf6⟩
          have h1 := hf6.heap HS5.out.h1 (by simp)
          have HF6 := hid hf6
          have hpe := HPAD.out
          rw [hpe]
          obtain ⟨v1, hv1⟩ : ∃ v1, blockV v (padS zs) = v1 := ⟨_, rfl⟩
          rw [hv1]
          have HV1 := hid hv1
          unfold V8.arr
          have o0 : w6.cell? ⟨w.heap.size + 1, 0, none⟩ = some (.int .u32 v.a) := by rw [cell_of_row w6 _ _ _ _ _ h1]; rfl
          have f0 : w6.frozen? ⟨w.heap.size + 1, 0, none⟩ = false := frozen_of_row w6 _ 0 _ _ h1
          have o1 : w6.cell? ⟨w.heap.size + 1, 1, none⟩ = some (.int .u32 v.b) := by rw [cell_of_row w6 _ _ _ _ _ h1]; rfl
          have f1 : w6.frozen? ⟨w.heap.size + 1, 1, none⟩ = false := frozen_of_row w6 _ 1 _ _ h1
          have o2 : w6.cell? ⟨w.heap.size + 1, 2, none⟩ = some (.int .u32 v.c) := by rw [cell_of_row w6 _ _ _ _ _ h1]; rfl
          have f2 : w6.frozen? ⟨w.heap.size + 1, 2, none⟩ = false := frozen_of_row w6 _ 2 _ _ h1
          have o3 : w6.cell? ⟨w.heap.size + 1, 3, none⟩ = some (.int .u32 v.d) := by rw [cell_of_row w6 _ _ _ _ _ h1]; rfl
          have f3 : w6.frozen? ⟨w.heap.size + 1, 3, none⟩ = false := frozen_of_row w6 _ 3 _ _ h1
          have o4 : w6.cell? ⟨w.heap.size + 1, 4, none⟩ = some (.int .u32 v.e) := by rw [cell_of_row w6 _ _ _ _ _ h1]; rfl
          have f4 : w6.frozen? ⟨w.heap.size + 1, 4, none⟩ = false := frozen_of_row w6 _ 4 _ _ h1
          have o5 : w6.cell? ⟨w.heap.size + 1, 5, none⟩ = some (.int .u32 v.f) := by rw [cell_of_row w6 _ _ _ _ _ h1]; rfl
          have f5 : w6.frozen? ⟨w.heap.size + 1, 5, none⟩ = false := frozen_of_row w6 _ 5 _ _ h1
          have o6 : w6.cell? ⟨w.heap.size + 1, 6, none⟩ = some (.int .u32 v.g) := by rw [cell_of_row w6 _ _ _ _ _ h1]; rfl
          have f6 : w6.frozen? ⟨w.heap.size + 1, 6, none⟩ = false := frozen_of_row w6 _ 6 _ _ h1
          have o7 : w6.cell? ⟨w.heap.size + 1, 7, none⟩ = some (.int .u32 v.h) := by rw [cell_of_row w6 _ _ _ _ _ h1]; rfl
          have f7 : w6.frozen? ⟨w.heap.size + 1, 7, none⟩ = false := frozen_of_row w6 _ 7 _ _ h1
          have hS8 := set8 (y0 := .int .u32 v1.a) (y1 := .int .u32 v1.b) (y2 := .int .u32 v1.c) (y3 := .int .u32 v1.d) (y4 := .int .u32 v1.e) (y5 := .int .u32 v1.f) (y6 := .int .u32 v1.g) (y7 := .int .u32 v1.h) h1
          have HS8 := hid hS8
          clear h1 hf6 hpe hv1 hS8
          go_wp2_with fail
          go_roundw
          case rel =>
            refine Or.inr ⟨rfl, hid ?_⟩
            rw [HV1.out]
            obtain ⟨h8, f8⟩ := HS8.out
            have hw6 : Frm [] w w6 := HS5.out.fr.trans HF6.out (by simp)
            exact ⟨f8.heap (HF6.out.heap HS5.out.h0 (by simp)) (by simp), h8, f8.heap (HF6.out.heap HS5.out.h2 (by simp)) (by simp), HS5.out.len, hw6.trans f8 (fun i hi hl => by simp at hi; omega)⟩
          case measure => simp [intOf]
        · have hok := blockV_ok v (padS zs)
          have HRES : Hid (sumV (blockV v (padS zs)) = shaS zs) := hid (by rw [← HV.out]; rfl)
          obtain ⟨v1, hv1⟩ : ∃ v1, blockV v (padS zs) = v1 := ⟨_, rfl⟩
          rw [hv1] at hst hok HRES
          obtain ⟨d0, d1, d2, d3, d4, d5, d6, d7⟩ := hok
          have HP1 := hid (pair_any v1.a v1.b wr.drew d0 d1)
          have HP2 := hid (pair_any v1.c v1.d wr.drew d2 d3)
          have HP3 := hid (pair_any v1.e v1.f wr.drew d4 d5)
          have HP4 := hid (pair_any v1.g v1.h wr.drew d6 d7)
          clear d0 d1 d2 d3 d4 d5 d6 d7 hv1
          have e0 : wr.cell? ⟨w.heap.size + 1, 0, none⟩ = some (.int .u32 v1.a) := by rw [cell_of_row wr _ _ _ _ _ hst.out.h1]; rfl
          have e1 : wr.cell? ⟨w.heap.size + 1, 1, none⟩ = some (.int .u32 v1.b) := by rw [cell_of_row wr _ _ _ _ _ hst.out.h1]; rfl
          have e2 : wr.cell? ⟨w.heap.size + 1, 2, none⟩ = some (.int .u32 v1.c) := by rw [cell_of_row wr _ _ _ _ _ hst.out.h1]; rfl
          have e3 : wr.cell? ⟨w.heap.size + 1, 3, none⟩ = some (.int .u32 v1.d) := by rw [cell_of_row wr _ _ _ _ _ hst.out.h1]; rfl
          have e4 : wr.cell? ⟨w.heap.size + 1, 4, none⟩ = some (.int .u32 v1.e) := by rw [cell_of_row wr _ _ _ _ _ hst.out.h1]; rfl
          have e5 : wr.cell? ⟨w.heap.size + 1, 5, none⟩ = some (.int .u32 v1.f) := by rw [cell_of_row wr _ _ _ _ _ hst.out.h1]; rfl
          have e6 : wr.cell? ⟨w.heap.size + 1, 6, none⟩ = some (.int .u32 v1.g) := by rw [cell_of_row wr _ _ _ _ _ hst.out.h1]; rfl
          have e7 : wr.cell? ⟨w.heap.size + 1, 7, none⟩ = some (.int .u32 v1.h) := by rw [cell_of_row wr _ _ _ _ _ hst.out.h1]; rfl
          go_wp2_with fail
          go_still_tail 21, (by kernel_rfl)
          refine wpStill_step (fun K hK => ?_)
          go_simp
          refine ⟨_, HP1.out, hK _ ?_⟩
          clear hK K
          repeat still_step
          refine wpStill_step (fun K hK => ?_)
          go_simp
          refine ⟨_, HP2.out, hK _ ?_⟩
          clear hK K
          repeat still_step
          refine wpStill_step (fun K hK => ?_)
          go_simp
          refine ⟨_, HP3.out, hK _ ?_⟩
          clear hK K
          repeat still_step
          refine wpStill_step (fun K hK => ?_)
          go_simp
          refine ⟨_, HP4.out, hK _ ?_⟩
          clear hK K
          repeat still_step
          refine wpStill_nil ?_
          change wpList _ _ _ _ _ wr.drew
          have HS9 : Hid (StH w wr.drew w.heap.size v1 T) := hid ⟨hst.out.h0, hst.out.h1, hst.out.h2, hst.out.len, hst.out.fr.drew⟩
          obtain ⟨w9, hw9⟩ : ∃ w9, wr.drew = w9 := ⟨_, rfl⟩
          rw [hw9] at HS9 ⊢
          clear hw9 e0 e1 e2 e3 e4 e5 e6 e7 hst HP1 HP2 HP3 HP4
          have r0 : w9.cell? ⟨w.heap.size, 0, none⟩ = some (.int .u64 0) := by rw [cell_of_row w9 _ _ _ _ _ HS9.out.h0]; rfl
          have q0 : w9.frozen? ⟨w.heap.size, 0, none⟩ = false := frozen_of_row w9 _ 0 _ _ HS9.out.h0
          have r1 : w9.cell? ⟨w.heap.size, 1, none⟩ = some (.int .u64 0) := by rw [cell_of_row w9 _ _ _ _ _ HS9.out.h0]; rfl
          have q1 : w9.frozen? ⟨w.heap.size, 1, none⟩ = false := frozen_of_row w9 _ 1 _ _ HS9.out.h0
          have r2 : w9.cell? ⟨w.heap.size, 2, none⟩ = some (.int .u64 0) := by rw [cell_of_row w9 _ _ _ _ _ HS9.out.h0]; rfl
          have q2 : w9.frozen? ⟨w.heap.size, 2, none⟩ = false := frozen_of_row w9 _ 2 _ _ HS9.out.h0
          have r3 : w9.cell? ⟨w.heap.size, 3, none⟩ = some (.int .u64 0) := by rw [cell_of_row w9 _ _ _ _ _ HS9.out.h0]; rfl
          have q3 : w9.frozen? ⟨w.heap.size, 3, none⟩ = false := frozen_of_row w9 _ 3 _ _ HS9.out.h0
          have HS4 := hid (set4 (y0 := .int .u64 (pairW v1.a v1.b)) (y1 := .int .u64 (pairW v1.c v1.d)) (y2 := .int .u64 (pairW v1.e v1.f)) (y3 := .int .u64 (pairW v1.g v1.h)) HS9.out.h0)
          go_wp2_with fail
          obtain ⟨h4, f4⟩ := HS4.out
          obtain ⟨wz, hwz⟩ : ∃ wz, (((w9.setCell ⟨w.heap.size, 0, none⟩ (.int .u64 (pairW v1.a v1.b))).setCell ⟨w.heap.size, 1, none⟩ (.int .u64 (pairW v1.c v1.d))).setCell ⟨w.heap.size, 2, none⟩ (.int .u64 (pairW v1.e v1.f))).setCell ⟨w.heap.size, 3, none⟩ (.int .u64 (pairW v1.g v1.h)) = wz := ⟨_, rfl⟩
          rw [hwz] at h4 f4 ⊢
          have g0 : wz.cell? ⟨w.heap.size, 0, none⟩ = some (.int .u64 (pairW v1.a v1.b)) := by rw [cell_of_row wz _ _ _ _ _ h4]; rfl
          have g1 : wz.cell? ⟨w.heap.size, 1, none⟩ = some (.int .u64 (pairW v1.c v1.d)) := by rw [cell_of_row wz _ _ _ _ _ h4]; rfl
          have g2 : wz.cell? ⟨w.heap.size, 2, none⟩ = some (.int .u64 (pairW v1.e v1.f)) := by rw [cell_of_row wz _ _ _ _ _ h4]; rfl
          have g3 : wz.cell? ⟨w.heap.size, 3, none⟩ = some (.int .u64 (pairW v1.g v1.h)) := by rw [cell_of_row wz _ _ _ _ _ h4]; rfl
          have hfz : Frm [] w wz := HS9.out.fr.trans f4 (fun i hi hl => by simp at hi; omega)
          clear hwz h4 f4 HS4 r0 r1 r2 r3 q0 q1 q2 q3
          refine bodyPost_ret (v := .agg #[.int .u64 (pairW v1.a v1.b), .int .u64 (pairW v1.c v1.d), .int .u64 (pairW v1.e v1.f), .int .u64 (pairW v1.g v1.h)]) (by simp [results, Tryd.results74, go_sem, g0, g1, g2, g3]) rfl ⟨?_, hfz⟩
          rw [← HRES.out]
          rfl
end
section
open Go.RowKit
set_option maxRecDepth 100000

def wordS (s : S4) (x : Int) : S4 := ⟨IntKind.u64.wrap (s.a + x), IntKind.u64.wrap (s.b + IntKind.u64.wrap (s.a + x)), IntKind.u64.wrap (s.c + IntKind.u64.wrap (s.b + IntKind.u64.wrap (s.a + x))), IntKind.u64.wrap (s.d + IntKind.u64.wrap (s.c + IntKind.u64.wrap (s.b + IntKind.u64.wrap (s.a + x))))⟩
set_option maxHeartbeats 800000 in
theorem word_any (s : S4) (x : Int) (w : World) (hx : 0 ≤ x ∧ x < 4294967296) :
    Calls Tryd.prog 83 #[.agg s.arr, .int .u32 x] w fun e w' => e = .returned (.agg (wordS s x).arr) ∧ Frm [] w w' := by
  obtain ⟨x0, x1⟩ := hx
  have k0 : IntKind.u64.wrap x = x := IntWalk.u64_in _ (by omega)
  unfold S4.arr
  go_enter Tryd.func83, Tryd.ntmps83
  go_wp2_with fail
  go_returns
  exact ⟨rfl, ((Frm.refl _ _).alloc _).alloc _⟩
theorem lowW_bd (a b c d : Int) : 0 ≤ lowW a b c d ∧ lowW a b c d < 4294967296 := by
  have h : ∀ n : Int, 0 ≤ IntKind.u32.wrap n ∧ IntKind.u32.wrap n < 4294967296 := fun n => by
    show 0 ≤ n % 4294967296 ∧ n % 4294967296 < 4294967296
    omega
  exact h _
/-- A running sum at block r: the sum so far, the bytes that wait, how many. -/
def RowR (w : World) (r : Nat) (s : S4) (x0 x1 x2 x3 m : Int) : Prop :=
  w.heap[r]? = some (.cells #[.int .u64 s.a, .int .u64 s.b, .int .u64 s.c, .int .u64 s.d, .int .u8 x0, .int .u8 x1, .int .u8 x2, .int .u8 x3, .int .i64 m] 98 (0, 0))
theorem elem_of {P : Program} {t e : TypeId} (ht : P.underlying t = some (.slice e)) : P.underlying t = some (.slice (P.elem t)) := by simp [Program.elem, ht]
theorem slice_low {P : Program} {t e : TypeId} (ht : P.underlying t = some (.slice e)) (hI : (P.info? e).map (fun i => (i.zero, i.size, i.bytes)) = some (some (.int .u8 0), 1, 1)) (p : Option Addr) (zs : List Int) (n c lo : Nat) (hn : zs.length = n) (hlo : lo ≤ n) (hc : n ≤ c) (w : World) (hr : Rd w p zs) :
    ∃ pp, (∀ W : World, (Instr.slice t (.slice p n c) (some (.int .i64 (lo : Int))) none none).run P W = .ok (.slice pp (n - lo) (c - lo)) W) ∧ Rd w pp (zs.drop lo) := by
  obtain ⟨i, hi, hz, h1, h2⟩ := info_parts hI
  have he : P.elem t = e := by simp [Program.elem, ht]
  refine ⟨if c = lo then p else p.map (·.add lo), fun W => ?_, ?_⟩
  · rw [run_slice_l W t _ _ _ (elem_of ht) .i64 _ (by omega) (by omega), he]
    have hs : (sizeOf e).run P W = .ok 1 W := by simp [sizeOf, typeInfo, hi, h1, Result.andThen]
    rw [hs]
    simp [Result.andThen, sliced]
  · by_cases h : c = lo
    · rw [if_pos h, List.drop_eq_nil_of_le (by omega)]
      exact Rd.nil _ _
    · rw [if_neg h]
      rcases hr with hr | ⟨g, o, rfl, hr⟩
      · subst hr
        rw [List.drop_nil]
        exact Rd.nil _ _
      · have h2 := Rd.drop (Or.inr ⟨g, o, rfl, hr⟩ : Rd w (some ⟨g, o, none⟩) zs) lo
        by_cases h0 : lo = 0
        · simpa [Addr.add, h0] using h2
        · simpa [Addr.add, h0] using h2
set_option maxHeartbeats 1600000 in
theorem one_0 (r : Nat) (s : S4) (x0 x1 x2 x3 : Int) (g o n c : Nat) (z : Int) (w : World) (hr : RowR w r s x0 x1 x2 x3 0) (hn : 0 < n) (hnb : n ≤ 9223372036854775807) (hz : w.cell? ⟨g, o, none⟩ = some (.int .u8 z)) (pp : Option Addr) (hsl : ∀ W : World, (Instr.sliceAt 23 (.slice (some ⟨g, o, none⟩) n c) (some (.int .i64 1)) none none).run Tryd.prog W = .ok (.slice pp (n - 1) (c - 1)) W) :
    Calls Tryd.prog 82 #[.pointer (some ⟨r, 0, none⟩), .slice (some ⟨g, o, none⟩) n c] w fun e w' => e = .returned (.slice pp (n - 1) (c - 1)) ∧ RowR w' r s z x1 x2 x3 1 ∧ Frm [r] w w' := by
  have HR := hid hr
  have c8 : w.cell? ⟨r, 8, none⟩ = some (.int .i64 0) := by rw [cell_of_row w _ _ _ _ _ hr]; rfl
  have cm : w.cell? ⟨r, 4, none⟩ = some (.int .u8 x0) := by rw [cell_of_row w _ _ _ _ _ hr]; rfl
  have fm : w.frozen? ⟨r, 4, none⟩ = false := frozen_of_row w _ 4 _ _ hr
  have f8 : w.frozen? ⟨r, 8, none⟩ = false := frozen_of_row w _ 8 _ _ hr
  have b0 : (0 : Int) < (n : Int) := by omega
  clear hr
  go_enter Tryd.func82, Tryd.ntmps82
  go_wp2_with fail
  go_still_tail 11, (by kernel_rfl)
  change wpList _ _ _ _ _ w.drew
  clear c8 cm fm f8
  obtain ⟨w4, hw4⟩ : ∃ w4, w.drew = w4 := ⟨_, rfl⟩
  have HR4 : Hid (RowR w4 r s x0 x1 x2 x3 0) := hid (by rw [← hw4]; exact HR.out)
  have HF4 : Hid (Frm [r] w w4) := hid (by rw [← hw4]; exact (Frm.refl _ _).drew)
  rw [hw4]
  have c8 : w4.cell? ⟨r, 8, none⟩ = some (.int .i64 0) := by rw [cell_of_row w4 _ _ _ _ _ HR4.out]; rfl
  have cm : w4.cell? ⟨r, 4, none⟩ = some (.int .u8 x0) := by rw [cell_of_row w4 _ _ _ _ _ HR4.out]; rfl
  have fm : w4.frozen? ⟨r, 4, none⟩ = false := frozen_of_row w4 _ 4 _ _ HR4.out
  have f8 : w4.frozen? ⟨r, 8, none⟩ = false := frozen_of_row w4 _ 8 _ _ HR4.out
  go_wp2_with fail
  go_returns
  refine ⟨rfl, ?_, (HF4.out.setCell _ _ (by simp)).setCell _ _ (by simp)⟩
  unfold RowR
  have h1 : (w4.setCell ⟨r, 4, none⟩ (.int .u8 z)).heap[r]? = some (.cells #[.int .u64 s.a, .int .u64 s.b, .int .u64 s.c, .int .u64 s.d, .int .u8 z, .int .u8 x1, .int .u8 x2, .int .u8 x3, .int .i64 0] 98 (0, 0)) := by rw [heap_setCell_same _ _ 4 _ _ _ HR4.out]; rfl
  rw [heap_setCell_same _ _ 8 _ _ _ h1]
  rfl
set_option maxHeartbeats 1600000 in
theorem one_1 (r : Nat) (s : S4) (x0 x1 x2 x3 : Int) (g o n c : Nat) (z : Int) (w : World) (hr : RowR w r s x0 x1 x2 x3 1) (hn : 0 < n) (hnb : n ≤ 9223372036854775807) (hz : w.cell? ⟨g, o, none⟩ = some (.int .u8 z)) (pp : Option Addr) (hsl : ∀ W : World, (Instr.sliceAt 23 (.slice (some ⟨g, o, none⟩) n c) (some (.int .i64 1)) none none).run Tryd.prog W = .ok (.slice pp (n - 1) (c - 1)) W) :
    Calls Tryd.prog 82 #[.pointer (some ⟨r, 0, none⟩), .slice (some ⟨g, o, none⟩) n c] w fun e w' => e = .returned (.slice pp (n - 1) (c - 1)) ∧ RowR w' r s x0 z x2 x3 2 ∧ Frm [r] w w' := by
  have HR := hid hr
  have c8 : w.cell? ⟨r, 8, none⟩ = some (.int .i64 1) := by rw [cell_of_row w _ _ _ _ _ hr]; rfl
  have cm : w.cell? ⟨r, 5, none⟩ = some (.int .u8 x1) := by rw [cell_of_row w _ _ _ _ _ hr]; rfl
  have fm : w.frozen? ⟨r, 5, none⟩ = false := frozen_of_row w _ 5 _ _ hr
  have f8 : w.frozen? ⟨r, 8, none⟩ = false := frozen_of_row w _ 8 _ _ hr
  have b0 : (0 : Int) < (n : Int) := by omega
  clear hr
  go_enter Tryd.func82, Tryd.ntmps82
  go_wp2_with fail
  go_still_tail 11, (by kernel_rfl)
  change wpList _ _ _ _ _ w.drew
  clear c8 cm fm f8
  obtain ⟨w4, hw4⟩ : ∃ w4, w.drew = w4 := ⟨_, rfl⟩
  have HR4 : Hid (RowR w4 r s x0 x1 x2 x3 1) := hid (by rw [← hw4]; exact HR.out)
  have HF4 : Hid (Frm [r] w w4) := hid (by rw [← hw4]; exact (Frm.refl _ _).drew)
  rw [hw4]
  have c8 : w4.cell? ⟨r, 8, none⟩ = some (.int .i64 1) := by rw [cell_of_row w4 _ _ _ _ _ HR4.out]; rfl
  have cm : w4.cell? ⟨r, 5, none⟩ = some (.int .u8 x1) := by rw [cell_of_row w4 _ _ _ _ _ HR4.out]; rfl
  have fm : w4.frozen? ⟨r, 5, none⟩ = false := frozen_of_row w4 _ 5 _ _ HR4.out
  have f8 : w4.frozen? ⟨r, 8, none⟩ = false := frozen_of_row w4 _ 8 _ _ HR4.out
  go_wp2_with fail
  go_returns
  refine ⟨rfl, ?_, (HF4.out.setCell _ _ (by simp)).setCell _ _ (by simp)⟩
  unfold RowR
  have h1 : (w4.setCell ⟨r, 5, none⟩ (.int .u8 z)).heap[r]? = some (.cells #[.int .u64 s.a, .int .u64 s.b, .int .u64 s.c, .int .u64 s.d, .int .u8 x0, .int .u8 z, .int .u8 x2, .int .u8 x3, .int .i64 1] 98 (0, 0)) := by rw [heap_setCell_same _ _ 5 _ _ _ HR4.out]; rfl
  rw [heap_setCell_same _ _ 8 _ _ _ h1]
  rfl
set_option maxHeartbeats 1600000 in
theorem one_2 (r : Nat) (s : S4) (x0 x1 x2 x3 : Int) (g o n c : Nat) (z : Int) (w : World) (hr : RowR w r s x0 x1 x2 x3 2) (hn : 0 < n) (hnb : n ≤ 9223372036854775807) (hz : w.cell? ⟨g, o, none⟩ = some (.int .u8 z)) (pp : Option Addr) (hsl : ∀ W : World, (Instr.sliceAt 23 (.slice (some ⟨g, o, none⟩) n c) (some (.int .i64 1)) none none).run Tryd.prog W = .ok (.slice pp (n - 1) (c - 1)) W) :
    Calls Tryd.prog 82 #[.pointer (some ⟨r, 0, none⟩), .slice (some ⟨g, o, none⟩) n c] w fun e w' => e = .returned (.slice pp (n - 1) (c - 1)) ∧ RowR w' r s x0 x1 z x3 3 ∧ Frm [r] w w' := by
  have HR := hid hr
  have c8 : w.cell? ⟨r, 8, none⟩ = some (.int .i64 2) := by rw [cell_of_row w _ _ _ _ _ hr]; rfl
  have cm : w.cell? ⟨r, 6, none⟩ = some (.int .u8 x2) := by rw [cell_of_row w _ _ _ _ _ hr]; rfl
  have fm : w.frozen? ⟨r, 6, none⟩ = false := frozen_of_row w _ 6 _ _ hr
  have f8 : w.frozen? ⟨r, 8, none⟩ = false := frozen_of_row w _ 8 _ _ hr
  have b0 : (0 : Int) < (n : Int) := by omega
  clear hr
  go_enter Tryd.func82, Tryd.ntmps82
  go_wp2_with fail
  go_still_tail 11, (by kernel_rfl)
  change wpList _ _ _ _ _ w.drew
  clear c8 cm fm f8
  obtain ⟨w4, hw4⟩ : ∃ w4, w.drew = w4 := ⟨_, rfl⟩
  have HR4 : Hid (RowR w4 r s x0 x1 x2 x3 2) := hid (by rw [← hw4]; exact HR.out)
  have HF4 : Hid (Frm [r] w w4) := hid (by rw [← hw4]; exact (Frm.refl _ _).drew)
  rw [hw4]
  have c8 : w4.cell? ⟨r, 8, none⟩ = some (.int .i64 2) := by rw [cell_of_row w4 _ _ _ _ _ HR4.out]; rfl
  have cm : w4.cell? ⟨r, 6, none⟩ = some (.int .u8 x2) := by rw [cell_of_row w4 _ _ _ _ _ HR4.out]; rfl
  have fm : w4.frozen? ⟨r, 6, none⟩ = false := frozen_of_row w4 _ 6 _ _ HR4.out
  have f8 : w4.frozen? ⟨r, 8, none⟩ = false := frozen_of_row w4 _ 8 _ _ HR4.out
  go_wp2_with fail
  go_returns
  refine ⟨rfl, ?_, (HF4.out.setCell _ _ (by simp)).setCell _ _ (by simp)⟩
  unfold RowR
  have h1 : (w4.setCell ⟨r, 6, none⟩ (.int .u8 z)).heap[r]? = some (.cells #[.int .u64 s.a, .int .u64 s.b, .int .u64 s.c, .int .u64 s.d, .int .u8 x0, .int .u8 x1, .int .u8 z, .int .u8 x3, .int .i64 2] 98 (0, 0)) := by rw [heap_setCell_same _ _ 6 _ _ _ HR4.out]; rfl
  rw [heap_setCell_same _ _ 8 _ _ _ h1]
  rfl
end
end Go.Proofs.YtajfjkfnmmfhmaaDoor
