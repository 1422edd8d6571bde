/- Contracts of package sum: Add to a fresh running sum. -/
import Derived.Test.YtajfjkfnmmfhmaaGreatDoorQrab
import Derived.Test.YtajfjkfnmmfhmaaGreatDoorQraa
import Derived.Test.YtajfjkfnmmfhmaaGreatDoorRows
import Derived.Laws.OwnMore
import Derived.Deep.QuietTactic
import Derived.BigQuiet
import Derived.Deep.RegionHeld3
import Derived.StillTailTactics
import Derived.BigRegion
import Derived.Laws.BitsAllLaws
import Derived.WalkKit
import Derived.WalkSpells
import Derived.WalkLawsBesides
import Derived.Handy
import Derived.Deep.OwnRows
import Derived.Laws.BytesArg
import Derived.Laws.CopyOwn
import Derived.Lib.AppendStr
namespace Go.Proofs.YtajfjkfnmmfhmaaGreatDoor
set_option maxRecDepth 100000
set_option maxHeartbeats 25600000
section
open Go.RowKit
theorem slice_from (p : Option Addr) (zs : List Int) (n c lo : Nat) (hn : zs.length = n) (hlo : lo ≤ n) (hc : n ≤ c) (w : World) (hr : Rd w p zs) :
  ∃ pp, (∀ W : World, (Instr.sliceAt 24 (.slice p n c) (some (.int .i64 (lo : Int))) none none).run Tryz.prog W = .ok (.slice pp (n - lo) (c - lo)) W) ∧ Rd w pp (zs.drop lo) ∧ ∀ k ∈ blk pp, k ∈ blk p := by
 obtain ⟨pp, h1, h2⟩ := slice_low (P := Tryz.prog) Tryz.underlying24 infoB p zs n c lo hn hlo hc w hr
 have h3 : ∀ W : World, (Instr.sliceAt 24 (.slice p n c) (some (.int .i64 (lo : Int))) none none).run Tryz.prog W = .ok (.slice pp (n - lo) (c - lo)) W := fun W => by
  rw [run_sliceAt_slice (h := elem_of Tryz.underlying24)]
  exact h1 W
 refine ⟨pp, h3, h2, ?_⟩
 have h4 := (h1 w).symm.trans (by
  have hx : (Instr.slice 24 (.slice p n c) (some (.int .i64 (lo : Int))) none none).run Tryz.prog w = .ok (.slice (if c = lo then p else p.map (·.add lo)) (n - lo) (c - lo)) w := by
   have hI : (Tryz.prog.info? 5).map (fun i => (i.zero, i.size, i.bytes)) = some (some (.int .u8 0), 1, 1) := infoB
   obtain ⟨i, hi, hz, e1, e2⟩ := info_parts hI
   rw [run_slice_l w 24 _ _ _ (elem_of Tryz.underlying24) .i64 _ (by omega) (by omega), show Tryz.prog.elem 24 = 5 by simp [Program.elem, Tryz.underlying24]]
   have hs : (sizeOf 5).run Tryz.prog w = .ok 1 w := by simp [sizeOf, typeInfo, hi, e1, Result.andThen]
   rw [hs]
   simp [Result.andThen, sliced]
  exact hx)
 simp only [Result.ok.injEq, Value.slice.injEq, and_true] at h4
 rw [h4]
 intro k hk
 split at hk
 ·exact hk
 ·cases p with
  | none => simp [blk] at hk
  | some a => by_cases h0 : lo = 0 <;> simpa [blk, Addr.add, h0] using hk
def flW (s : S4) (zs : List Int) : Nat → S4
 | 0 => s
 | k + 1 => wordS (flW s zs k) (lowW (zA zs (4 * k)) (zA zs (4 * k + 1)) (zA zs (4 * k + 2)) (zA zs (4 * k + 3)))
end
section
open Go.RowKit
def Z4 : S4 := ⟨0, 0, 0, 0⟩
def fletch (zs : List Int) : S4 := if zs.length % 4 = 0 then flW Z4 zs (zs.length / 4) else wordS (flW Z4 zs (zs.length / 4)) (lowW (zA zs (4 * (zs.length / 4))) (zA zs (4 * (zs.length / 4) + 1)) (zA zs (4 * (zs.length / 4) + 2)) 0)
theorem zA_bd {zs : List Int} (hb : ∀ z ∈ zs, 0 ≤ z ∧ z < 256) (i : Nat) : 0 ≤ zA zs i ∧ zA zs i < 256 := by
 unfold zA
 rw [List.getD_eq_getElem?_getD]
 by_cases hi : i < zs.length
 ·rw [List.getElem?_eq_getElem hi]
  exact hb _ (List.getElem_mem hi)
 ·rw [List.getElem?_eq_none (by omega)]
  simp
end
section
open Go.RowKit
def blksV (v : V8) (zs : List Int) : Nat → V8
 | 0 => v
 | k + 1 => blockV (blksV v zs k) (zs.drop (64 * k))
def lenC (n i : Nat) : Int := (n : Int) * 8 % 18446744073709551616 / 2 ^ (8 * i) % 256
def tlE (n E : Nat) (T : List Int) : Nat → List Int
 | 0 => T
 | i + 1 => (tlE n E T i).set (E - i) (lenC n i)
theorem OkB.tlE {T : List Int} (h : OkB T) (n E i : Nat) : OkB (tlE n E T i) := by
 induction i with
 | zero => exact h
 | succ i ih => exact ih.set _ (by unfold lenC; omega)
def tailE (n E : Nat) (ms : List Int) : List Int := tlE n E ((ms ++ List.replicate (128 - ms.length) 0).set ms.length 128) 8
def shaLo (n : Nat) (zs : List Int) : S4 := sumV (blockV (blksV H0 zs (n / 64)) ((tailE n 63 (zs.drop (64 * (n / 64)))).take 64))
def shaHi (n : Nat) (zs : List Int) : S4 := sumV (blockV (blockV (blksV H0 zs (n / 64)) ((tailE n 127 (zs.drop (64 * (n / 64)))).take 64)) ((tailE n 127 (zs.drop (64 * (n / 64)))).drop 64))
structure StJ (w0 w : World) (x : Nat) (v : V8) : Prop where
 h0 : w.heap[x]? = some (.cells #[.int .u64 0, .int .u64 0, .int .u64 0, .int .u64 0] 29 (0, 0))
 h1 : w.heap[x + 1]? = some (.cells v.arr 124 (0, 0))
 fr : Frm [] w0 w
structure StY (w0 w : World) (x y : Nat) (v : V8) (T : List Int) : Prop where
 j : StJ w0 w x v
 h2 : w.heap[y]? = some (.cells (bv T).toArray 139 (0, 0))
 len : T.length = 128
theorem StY.set {w0 w : World} {x y : Nat} {v : V8} {T : List Int} (h : StY w0 w x y v T) (hx : w0.heap.size ≤ x) (hy : x + 1 < y) (t : Nat) (z : Int) : StY w0 (w.setCell ⟨y, t, none⟩ (.int .u8 z)) x y v (T.set t z) := by
 have f : Frm [y] w (w.setCell ⟨y, t, none⟩ (.int .u8 z)) := (Frm.refl _ _).setCell _ _ (by simp)
 refine ⟨⟨f.heap h.j.h0 (by simp; omega), f.heap h.j.h1 (by simp; omega), h.j.fr.trans f (fun i hi hl => by simp at hi; omega)⟩, ?_, by simp [h.len]⟩
 rw [heap_setCell_same w y t _ _ _ h.h2]
 congr 2
 apply Array.ext'
 simp [bv, List.map_set]
theorem StY.at {w0 w : World} {x y : Nat} {v : V8} {T : List Int} (h : StY w0 w x y v T) (t : Nat) (ht : t < 128) : w.cell? ⟨y, t, none⟩ = some (.int .u8 (zA T t)) := by
 rw [cell_of_row w _ _ _ _ _ h.h2]
 have := h.len
 simp [bv, zA, List.getD_eq_getElem?_getD, show t < T.length by omega]
theorem StY.rd {w0 w : World} {x y : Nat} {v : V8} {T : List Int} (h : StY w0 w x y v T) : Rd w (some ⟨y, 0, none⟩) (T.take 64) := by
 refine Or.inr ⟨y, 0, rfl, fun i hi => ?_⟩
 have hl := h.len
 have hi' : i < 64 := by rw [List.length_take] at hi; omega
 rw [Nat.zero_add, h.at i (by omega)]
 simp [zA, List.getD_eq_getElem?_getD, hi']
theorem StY.rd2 {w0 w : World} {x y : Nat} {v : V8} {T : List Int} (h : StY w0 w x y v T) : Rd w (some ⟨y, 64, none⟩) (T.drop 64) := by
 refine Or.inr ⟨y, 64, rfl, fun i hi => ?_⟩
 have hl := h.len
 rw [List.length_drop] at hi
 rw [h.at (64 + i) (by omega)]
 simp [zA, List.getD_eq_getElem?_getD, show 64 + i < T.length by omega]
theorem StJ.e {w0 w : World} {x : Nat} {v : V8} (h : StJ w0 w x v) :
  w.cell? ⟨x + 1, 0, none⟩ = some (.int .u32 v.a) ∧ w.cell? ⟨x + 1, 1, none⟩ = some (.int .u32 v.b) ∧ w.cell? ⟨x + 1, 2, none⟩ = some (.int .u32 v.c) ∧ w.cell? ⟨x + 1, 3, none⟩ = some (.int .u32 v.d) ∧ w.cell? ⟨x + 1, 4, none⟩ = some (.int .u32 v.e) ∧ w.cell? ⟨x + 1, 5, none⟩ = some (.int .u32 v.f) ∧ w.cell? ⟨x + 1, 6, none⟩ = some (.int .u32 v.g) ∧ w.cell? ⟨x + 1, 7, none⟩ = some (.int .u32 v.h) := by
 refine ⟨?_, ?_, ?_, ?_, ?_, ?_, ?_, ?_⟩ <;> (rw [cell_of_row w _ _ _ _ _ h.h1]; rfl)
theorem StJ.f {w0 w : World} {x : Nat} {v : V8} (h : StJ w0 w x v) (i : Nat) : w.frozen? ⟨x + 1, i, none⟩ = false := fZ i h.h1
theorem cut_tail2 (b : Nat) (W : World) : (Instr.sliceAt 139 (.pointer (some ⟨b, 0, none⟩)) (some (.int .i64 64)) (some (.int .i64 128)) none).run Tryz.prog W = .ok (.slice (some ⟨b, 64, none⟩) 64 64) W := by
 rw [run_sliceAt_array_lh W 139 _ (by kernel_rfl) .i64 .i64 64 128 (by omega) (by omega) (by rw [show Tryz.prog.arrayLen 139 = 128 from by kernel_rfl]; omega)]
 rw [show ∀ W : World, (sizeOf (Tryz.prog.elem 139)).run Tryz.prog W = .ok 1 W from fun W => by kernel_rfl]
 rw [show Tryz.prog.arrayLen 139 = 128 from by kernel_rfl]
 simp [Result.andThen_ok, slicedAt, Addr.add]
theorem sha_lo (p : Option Addr) (n c : Nat) (zs : List Int) (w : World) (hn : zs.length = n) (hnc : n ≤ c) (hnb : n ≤ 9223372036854775807) (h55 : n % 64 < 56) (hrd : Rd w p zs) (hb : ∀ z ∈ zs, 0 ≤ z ∧ z < 256) (hpr : Primes w) :
  Calls Tryz.prog 103 #[.slice p n c] w fun e w' => e = .returned (.agg (shaLo n zs).arr) ∧ Frm [] w w' := by
 have HRD := hid hrd
 have HZB := hid hb
 have HN := hid hn
 have HPR := hid hpr
 have HNC := hid hnc
 have HMOD := hid (h55)
 clear hrd hb hn hpr hnc h55
 go_enter Tryz.func103, Tryz.ntmps103
 go_wp2_with fail
 obtain ⟨wa, hwa⟩ := eX ((w.alloc (.cells #[.int .u64 0, .int .u64 0, .int .u64 0, .int .u64 0] 29)).alloc (.cells #[.int .u32 1779033703, .int .u32 3144134277, .int .u32 1013904242, .int .u32 2773480762, .int .u32 1359893119, .int .u32 2600822924, .int .u32 528734635, .int .u32 1541459225] 124))
 have hfa0 : Frm [] w (w.alloc (.cells #[.int .u64 0, .int .u64 0, .int .u64 0, .int .u64 0] 29)) := (Frm.refl _ _).alloc _
 have hfa1 : Frm [] (w.alloc (.cells #[.int .u64 0, .int .u64 0, .int .u64 0, .int .u64 0] 29)) wa := by rw [← hwa]; exact (Frm.refl _ _).alloc _
 have hA0 : wa.heap[w.heap.size]? = some (.cells #[.int .u64 0, .int .u64 0, .int .u64 0, .int .u64 0] 29 (0, 0)) := hfa1.heap (heap_alloc_new _ _) (by simp)
 have hA1 : wa.heap[w.heap.size + 1]? = some (.cells H0.arr 124 (0, 0)) := by rw [← hwa]; exact heap_alloc_to _ _ (by simp)
 have hsz : wa.heap.size = w.heap.size + 2 := by rw [← hwa]; simp
 have HA0 := hid hA0
 have HA1 := hid hA1
 have HFA := hid (hfa0.trans hfa1 (by simp))
 have HSZ := hid hsz
 rw [hwa]
 clear hwa hfa0 hfa1 hA0 hA1 hsz
 have HJ0 : Hid (StJ w wa w.heap.size H0) := hid ⟨HA0.out, HA1.out, HFA.out⟩
 have HSA : Hid (w.heap.size + 2 ≤ wa.heap.size) := hid (by have := HSZ.out; omega)
 clear HA0 HA1 HFA HSZ
 go_loopw [0] (fun b wr => ∃ (k m d : Nat) (pk : Option Addr), b = .slice pk m d ∧ Hid (64 * k + m = n) ∧ Hid (64 * k + d = c) ∧ Hid (Rd w pk (zs.drop (64 * k))) ∧ Hid (StJ w wr w.heap.size (blksV H0 zs k)) ∧ Hid (w.heap.size + 2 ≤ wr.heap.size)) (fun b _ => match b with | .slice _ m _ => m | _ => 0)
 case atStart => exact ⟨0, n, c, p, rfl, hid (by omega), hid (by omega), HRD, HJ0, HSA⟩
 case round =>
  clear HJ0 HSA
  obtain ⟨k, m, d, pk, rfl, hkm, hkd, hrk, hst, hsz⟩ := hrel
  by_cases hlt : (64 : Int) ≤ (m : Int)
  ·obtain ⟨e0, e1, e2, e3, e4, e5, e6, e7⟩ := hst.out.e
   have hlen : (zs.drop (64 * k)).length = m := by rw [List.length_drop, HN.out]; have := hkm.out; omega
   have HB := hid (block_any (blksV H0 zs k) pk m d (zs.drop (64 * k)) wr hlen (by omega) (by have := hkm.out; omega) (hrk.out.kept hst.out.fr (by simp)) (fun z hz => HZB.out z (List.mem_of_mem_drop hz)) (HPR.out.kept hst.out.fr))
   obtain ⟨pp, hsl, hrd2, hbk2⟩ := slice_from pk (zs.drop (64 * k)) m d 64 hlen (by omega) (by have := hkm.out; have := hkd.out; have := HNC.out; omega) w hrk.out
   have hsl' : ∀ W : World, (Instr.sliceAt 24 (.slice pk m d) (some (.int .i64 64)) none none).run Tryz.prog W = .ok (.slice pp (m - 64) (d - 64)) W := hsl
   have hsl2 : ∀ W : World, (Instr.slice 24 (.slice pk m d) (some (.int .i64 64)) none none).run Tryz.prog W = .ok (.slice pp (m - 64) (d - 64)) W := fun W => by rw [← run_sliceAt_slice (h := elem_of Tryz.underlying24)]; exact hsl' W
   have HR2 := hid hrd2
   have hvn : blockV (blksV H0 zs k) (zs.drop (64 * k)) = blksV H0 zs (k + 1) := rfl
   obtain ⟨v, hv⟩ := eX (blksV H0 zs k)
   obtain ⟨v1, hv1⟩ := eX (blksV H0 zs (k + 1))
   rw [hv] at e0 e1 e2 e3 e4 e5 e6 e7 HB hst hvn
   rw [hv1] at hvn
   rw [hvn] at HB
   have HV1 := hid hv1
   clear hvn hv hv1 hlen hsl hrd2 hbk2
   go_wp2_with fail
   refine (HB.out).mono ?_
   rintro e w6 ⟨rfl, hf6⟩
   have h1 := hf6.heap hst.out.h1 (by simp)
   have HF6 := hid hf6
   have hS8 := set8 (y0 := .int .u32 v1.a) (y1 := .int .u32 v1.b) (y2 := .int .u32 v1.c) (y3 := .int .u32 v1.d) (y4 := .int .u32 v1.e) (y5 := .int .u32 v1.f) (y6 := .int .u32 v1.g) (y7 := .int .u32 v1.h) h1
   have HS8 := hid hS8
   have hfr6 : ∀ i, w6.frozen? ⟨w.heap.size + 1, i, none⟩ = false := fun i => fZ i h1
   have f0 := hfr6 0
   have f1 := hfr6 1
   have f2 := hfr6 2
   have f3 := hfr6 3
   have f4 := hfr6 4
   have f5 := hfr6 5
   have f6 := hfr6 6
   have f7 := hfr6 7
   have o0 : w6.cell? ⟨w.heap.size + 1, 0, none⟩ = some (.int .u32 v.a) := by rw [cell_of_row w6 _ _ _ _ _ h1]; rfl
   have o1 : w6.cell? ⟨w.heap.size + 1, 1, none⟩ = some (.int .u32 v.b) := by rw [cell_of_row w6 _ _ _ _ _ h1]; rfl
   have o2 : w6.cell? ⟨w.heap.size + 1, 2, none⟩ = some (.int .u32 v.c) := by rw [cell_of_row w6 _ _ _ _ _ h1]; rfl
   have o3 : w6.cell? ⟨w.heap.size + 1, 3, none⟩ = some (.int .u32 v.d) := by rw [cell_of_row w6 _ _ _ _ _ h1]; rfl
   have o4 : w6.cell? ⟨w.heap.size + 1, 4, none⟩ = some (.int .u32 v.e) := by rw [cell_of_row w6 _ _ _ _ _ h1]; rfl
   have o5 : w6.cell? ⟨w.heap.size + 1, 5, none⟩ = some (.int .u32 v.f) := by rw [cell_of_row w6 _ _ _ _ _ h1]; rfl
   have o6 : w6.cell? ⟨w.heap.size + 1, 6, none⟩ = some (.int .u32 v.g) := by rw [cell_of_row w6 _ _ _ _ _ h1]; rfl
   have o7 : w6.cell? ⟨w.heap.size + 1, 7, none⟩ = some (.int .u32 v.h) := by rw [cell_of_row w6 _ _ _ _ _ h1]; rfl
   clear h1 hf6 hS8 hfr6 e0 e1 e2 e3 e4 e5 e6 e7
   unfold V8.arr
   go_wp2_with fail
   go_roundw
   case rel =>
    obtain ⟨h8, f8⟩ := HS8.out
    have hw6 : Frm [] w w6 := hst.out.fr.trans HF6.out (by simp)
    have hz := hsz.out
    have hz6 := HF6.out.size
    refine ⟨k + 1, m - 64, d - 64, pp, rfl, hid (by have := hkm.out; omega), hid (by have := hkm.out; have := hkd.out; have := HNC.out; omega), hid ?_, hid ⟨f8.heap (HF6.out.heap hst.out.h0 (by simp)) (by simp), ?_, hw6.trans f8 (fun i hi hl => by simp at hi; omega)⟩, hid (by have := f8.size; omega)⟩
    ·have := HR2.out; rw [List.drop_drop] at this; exact this
    ·rw [HV1.out]; exact h8
   case measure => show m - 64 < m; omega
  ·have hkm' := hkm.out
   have hk : k = n / 64 := by omega
   have hm0 : m = n % 64 := by omega
   have hcut : ¬ (56 : Int) ≤ (m : Int) := by have := HMOD.out; omega
   have HK := hid hk
   have hzs : (zs.drop (64 * k)).length = m := by rw [List.length_drop, HN.out]; omega
   obtain ⟨ms, hms⟩ := eX (zs.drop (64 * k))
   obtain ⟨v, hv⟩ := eX (blksV H0 zs k)
   have HMZ : Hid (∀ z ∈ ms, 0 ≤ z ∧ z < 256) := hid (fun z hz => HZB.out z (List.mem_of_mem_drop (by rw [hms]; exact hz)))
   rw [hms] at hrk hzs
   rw [hv] at hst
   have HMS := hid hms
   have HV := hid hv
   have HML := hid hzs
   clear hk hms hv hzs hkm' hm0 hkd hkm
   have hm64 : m < 64 := by omega
   have hzt := zero_tail wr
   generalize hT0 : List.replicate 128 (0 : Int) = T0 at hzt
   have HT0 := hid hT0
   clear hT0
   have hfb : Frm [] wr (wr.alloc (.cells (bv T0).toArray 139)) := (Frm.refl _ _).alloc _
   have HG0 : Hid ((wr.alloc (.cells (bv T0).toArray 139)).heap[wr.heap.size]? = some (.cells (bv T0).toArray 139 (0, 0))) := hid (heap_alloc_new _ _)
   have HR0 : Hid (Rd (wr.alloc (.cells (bv T0).toArray 139)) pk ms) := hid (hrk.out.kept (hst.out.fr.trans hfb (by simp)) (by simp))
   have HFB := hid hfb
   clear hfb
   go_wp2_with (refine wpList_copyS rfl _ _ 24 rfl 5 139 Tryz.underlying24 infoB _ _ _ rfl _ 0 T0 HG0.out (fun _ => rfl) (by rw [← HT0.out]; simp) pk m d ms rfl HML.out.symm HR0.out ?_)
   intro w2 q hq hg2 hf2
   have hT1 : splice T0 0 (ms.take q) = ms ++ List.replicate (128 - m) 0 := by
    have hk' := hq.out
    have e1 : ms.take q = ms := List.take_of_length_le (by rw [HML.out]; omega)
    rw [e1, ← HT0.out]
    unfold splice
    simp only [List.take_zero, List.nil_append, Nat.zero_add, HML.out, List.drop_replicate]
   have hg3 := hg2.out
   rw [hT1] at hg3
   have hsz' := hsz.out
   have hF2 : Frm [] w w2 := (hst.out.fr.trans HFB.out (by simp)).trans hf2.out (fun i hi hl => by simp at hi; have := hst.out.fr.size; omega)
   obtain ⟨T1, hT⟩ := eX (ms ++ List.replicate (128 - m) 0)
   rw [hT] at hg3
   have HT := hid hT
   have hT1l : T1.length = 128 := by rw [← hT]; simp [HML.out]; omega
   obtain ⟨y, hy⟩ := eX (wr.heap.size)
   have HF2' := hf2.out
   rw [hy] at hg3 hsz' HF2' ⊢
   have HY : Hid (w.heap.size + 1 < y) := hid (by omega)
   have HY0 : Hid (StY w w2 w.heap.size y v T1) := hid ⟨⟨HF2'.heap (HFB.out.heap hst.out.h0 (by simp)) (by simp; omega), HF2'.heap (HFB.out.heap hst.out.h1 (by simp)) (by simp; omega), hF2⟩, hg3, hT1l⟩
   have HTL := hid hT1l
   have c0 : w2.cell? ⟨y, m, none⟩ = some (.int .u8 (T1.getD m 0)) := by
    rw [cell_of_row w2 _ _ _ _ _ hg3]
    simp [bv, List.getD_eq_getElem?_getD, show m < T1.length by omega]
   have f0 : w2.frozen? ⟨y, m, none⟩ = false := fZ m hg3
   have n0 : (0 : Int) ≤ (m : Int) := by omega
   have n1 : (m : Int) < 128 := by omega
   clear hq hg2 hf2 HF2' hT1 hF2 hsz hsz' hT hg3 hT1l hst HT0 hzt HG0 HR0 HFB hy hrk
   go_wp2_with fail
   have HS0 : Hid (StY w (w2.setCell ⟨y, m, none⟩ (.int .u8 128)) w.heap.size y v (T1.set m 128)) := hid (HY0.out.set (Nat.le_refl _) HY.out m 128)
   clear HY0 c0 f0
   go_loopw [29] (fun i wr => ∃ t : Nat, t ≤ 8 ∧ i = .int .i64 t ∧ Hid (StY w wr w.heap.size y v (tlE n 63 (T1.set m 128) t))) (fun i _ => 8 - (intOf i).toNat)
   case atStart => exact ⟨0, by omega, rfl, HS0⟩
   case round =>
    clear HS0
    obtain ⟨t, ht, rfl, hst⟩ := hrel
    by_cases hlt : t < 8
    ·have c0 := hst.out.at (63 - t) (by omega)
     have f0 : wr.frozen? ⟨y, 63 - t, none⟩ = false := fZ _ hst.out.h2
     have k0 : IntKind.i64.wrap (63 - (t : Int)) = 63 - (t : Int) := IntWalk.i64_in _ (by omega)
     have k1 : (0 : Int) ≤ 63 - (t : Int) := by omega
     have k2 : 63 - (t : Int) < 128 := by omega
     have k3 : (63 - (t : Int)).toNat = 63 - t := by omega
     have k4 : (0 : Int) ≤ 8 * (t : Int) := by omega
     have k5 : IntKind.i64.wrap (8 * (t : Int)) = 8 * (t : Int) := IntWalk.i64_in _ (by omega)
     have k6 : (8 * (t : Int)).toNat = 8 * t := by omega
     go_wp2_with fail
     go_roundw
     case rel => exact ⟨t + 1, by omega, by go_num, hid (hst.out.set (Nat.le_refl _) HY.out (63 - t) (lenC n t))⟩
     case measure => simp [intOf]; omega
    ·obtain rfl : t = 8 := by omega
     clear hlt
     rw [show ((8 : Nat) : Int) = 8 from rfl]
     have hok : OkB (tlE n 63 (T1.set m 128) 8) := by
      refine OkB.tlE (OkB.set ?_ _ (by omega)) _ _ _
      rw [← HT.out]
      intro z hz
      rcases List.mem_append.1 hz with hz | hz
      ·exact HMZ.out z hz
      ·have := List.eq_of_mem_replicate hz; omega
     have hpad : tlE n 63 (T1.set m 128) 8 = tailE n 63 ms := by
      unfold tailE
      rw [HML.out, HT.out]
     obtain ⟨T, hT⟩ := eX (tlE n 63 (T1.set m 128) 8)
     rw [hT] at hok hpad hst
     have HOK := hid hok
     have HPAD := hid hpad
     clear hok hpad hT HT HTL n0 n1 hcut hm64 hnb
     go_wp2_with fail
     obtain ⟨v1, hv1⟩ := eX (blockV v (T.take 64))
     have HV1 := hid hv1
     clear hv1
     go_loopw [8] (fun a wr => (a = .int .i64 0 ∧ Hid (StY w wr w.heap.size y v T)) ∨ (a = .int .i64 64 ∧ Hid (StY w wr w.heap.size y v1 T))) (fun a _ => 64 - (intOf a).toNat)
     case atStart => exact Or.inl ⟨rfl, hst⟩
     case round =>
     clear hst
     rcases hrel with ⟨rfl, hst⟩ | ⟨rfl, hst⟩
     ·have HB := hid (fun w' (h : StY w w' w.heap.size y v T) => block_any v (some ⟨y, 0, none⟩) 64 128 (T.take 64) w' (by rw [List.length_take, h.len]; rfl) (by omega) (by omega) h.rd (fun z hz => HOK.out z (List.mem_of_mem_take hz)) (HPR.out.kept h.j.fr))
      rw [HV1.out] at HB
      obtain ⟨e0, e1, e2, e3, e4, e5, e6, e7⟩ := hst.out.j.e
      have hcut := cut_tail y
      have hw64 : IntKind.i64.wrap 64 = 64 := rfl
      have hw128 : IntKind.i64.wrap 128 = 128 := rfl
      go_wp2_with fail
      go_still_tail 5, (by kernel_rfl)
      change wpList _ _ _ _ _ wr.drew
      have HS5 : Hid (StY w wr.drew w.heap.size y v T) := hid ⟨⟨hst.out.j.h0, hst.out.j.h1, hst.out.j.fr.drew⟩, hst.out.h2, hst.out.len⟩
      obtain ⟨w5, hw5⟩ := eX (wr.drew)
      rw [hw5] at HS5 ⊢
      clear hw5 e0 e1 e2 e3 e4 e5 e6 e7 hst
      go_wp2_with fail
      refine (HB.out w5 HS5.out).mono ?_
      rintro e w6 ⟨rfl, hf6⟩
      have h1 := hf6.heap HS5.out.j.h1 (by simp)
      have HF6 := hid hf6
      unfold V8.arr
      have hfr6 : ∀ i, w6.frozen? ⟨w.heap.size + 1, i, none⟩ = false := fun i => fZ i h1
      have f0 := hfr6 0
      have f1 := hfr6 1
      have f2 := hfr6 2
      have f3 := hfr6 3
      have f4 := hfr6 4
      have f5 := hfr6 5
      have f6 := hfr6 6
      have f7 := hfr6 7
      have o0 : w6.cell? ⟨w.heap.size + 1, 0, none⟩ = some (.int .u32 v.a) := by rw [cell_of_row w6 _ _ _ _ _ h1]; rfl
      have o1 : w6.cell? ⟨w.heap.size + 1, 1, none⟩ = some (.int .u32 v.b) := by rw [cell_of_row w6 _ _ _ _ _ h1]; rfl
      have o2 : w6.cell? ⟨w.heap.size + 1, 2, none⟩ = some (.int .u32 v.c) := by rw [cell_of_row w6 _ _ _ _ _ h1]; rfl
      have o3 : w6.cell? ⟨w.heap.size + 1, 3, none⟩ = some (.int .u32 v.d) := by rw [cell_of_row w6 _ _ _ _ _ h1]; rfl
      have o4 : w6.cell? ⟨w.heap.size + 1, 4, none⟩ = some (.int .u32 v.e) := by rw [cell_of_row w6 _ _ _ _ _ h1]; rfl
      have o5 : w6.cell? ⟨w.heap.size + 1, 5, none⟩ = some (.int .u32 v.f) := by rw [cell_of_row w6 _ _ _ _ _ h1]; rfl
      have o6 : w6.cell? ⟨w.heap.size + 1, 6, none⟩ = some (.int .u32 v.g) := by rw [cell_of_row w6 _ _ _ _ _ h1]; rfl
      have o7 : w6.cell? ⟨w.heap.size + 1, 7, none⟩ = some (.int .u32 v.h) := by rw [cell_of_row w6 _ _ _ _ _ h1]; rfl
      have hS8 := set8 (y0 := .int .u32 v1.a) (y1 := .int .u32 v1.b) (y2 := .int .u32 v1.c) (y3 := .int .u32 v1.d) (y4 := .int .u32 v1.e) (y5 := .int .u32 v1.f) (y6 := .int .u32 v1.g) (y7 := .int .u32 v1.h) h1
      have HS8 := hid hS8
      clear h1 hf6 hS8 hfr6
      go_wp2_with fail
      go_roundw
      case rel =>
       refine Or.inr ⟨rfl, hid ?_⟩
       obtain ⟨h8, f8⟩ := HS8.out
       have hw6 : Frm [] w w6 := HS5.out.j.fr.trans HF6.out (by simp)
       have hy' := HY.out
       exact ⟨⟨f8.heap (HF6.out.heap HS5.out.j.h0 (by simp)) (by simp), h8, hw6.trans f8 (fun i hi hl => by simp at hi; omega)⟩, f8.heap (HF6.out.heap HS5.out.h2 (by simp)) (by simp; omega), HS5.out.len⟩
      case measure => simp [intOf]
     ·have HRES : Hid (sumV v1 = shaLo n zs) := hid (by
       rw [← HV1.out, HPAD.out, ← HV.out, ← HMS.out, HK.out]
       rfl)
      have hok : v1.ok := by rw [← HV1.out]; exact blockV_ok _ _
      obtain ⟨d0, d1, d2, d3, d4, d5, d6, d7⟩ := hok
      have HP1 := hid (pair_any v1.a v1.b wr.drew d0 d1)
      have HP2 := hid (pair_any v1.c v1.d wr.drew d2 d3)
      have HP3 := hid (pair_any v1.e v1.f wr.drew d4 d5)
      have HP4 := hid (pair_any v1.g v1.h wr.drew d6 d7)
      clear d0 d1 d2 d3 d4 d5 d6 d7
      obtain ⟨e0, e1, e2, e3, e4, e5, e6, e7⟩ := hst.out.j.e
      go_wp2_with fail
      go_still_tail 21, (by kernel_rfl)
      refine wpStill_step (fun K hK => ?_)
      go_simp
      refine ⟨_, HP1.out, hK _ ?_⟩
      clear hK K
      repeat still_step
      refine wpStill_step (fun K hK => ?_)
      go_simp
      refine ⟨_, HP2.out, hK _ ?_⟩
      clear hK K
      repeat still_step
      refine wpStill_step (fun K hK => ?_)
      go_simp
      refine ⟨_, HP3.out, hK _ ?_⟩
      clear hK K
      repeat still_step
      refine wpStill_step (fun K hK => ?_)
      go_simp
      refine ⟨_, HP4.out, hK _ ?_⟩
      clear hK K
      repeat still_step
      refine wpStill_nil ?_
      change wpList _ _ _ _ _ wr.drew
      have HS9 : Hid (StJ w wr.drew w.heap.size v1) := hid ⟨hst.out.j.h0, hst.out.j.h1, hst.out.j.fr.drew⟩
      obtain ⟨w9, hw9⟩ := eX (wr.drew)
      rw [hw9] at HS9 ⊢
      clear hw9 e0 e1 e2 e3 e4 e5 e6 e7 hst HP1 HP2 HP3 HP4
      have r0 : w9.cell? ⟨w.heap.size, 0, none⟩ = some (.int .u64 0) := by rw [cell_of_row w9 _ _ _ _ _ HS9.out.h0]; rfl
      have q0 : w9.frozen? ⟨w.heap.size, 0, none⟩ = false := fZ 0 HS9.out.h0
      have r1 : w9.cell? ⟨w.heap.size, 1, none⟩ = some (.int .u64 0) := by rw [cell_of_row w9 _ _ _ _ _ HS9.out.h0]; rfl
      have q1 : w9.frozen? ⟨w.heap.size, 1, none⟩ = false := fZ 1 HS9.out.h0
      have r2 : w9.cell? ⟨w.heap.size, 2, none⟩ = some (.int .u64 0) := by rw [cell_of_row w9 _ _ _ _ _ HS9.out.h0]; rfl
      have q2 : w9.frozen? ⟨w.heap.size, 2, none⟩ = false := fZ 2 HS9.out.h0
      have r3 : w9.cell? ⟨w.heap.size, 3, none⟩ = some (.int .u64 0) := by rw [cell_of_row w9 _ _ _ _ _ HS9.out.h0]; rfl
      have q3 : w9.frozen? ⟨w.heap.size, 3, none⟩ = false := fZ 3 HS9.out.h0
      have HS4 := hid (set4 (y0 := .int .u64 (pairW v1.a v1.b)) (y1 := .int .u64 (pairW v1.c v1.d)) (y2 := .int .u64 (pairW v1.e v1.f)) (y3 := .int .u64 (pairW v1.g v1.h)) HS9.out.h0)
      go_wp2_with fail
      obtain ⟨h4, f4⟩ := HS4.out
      obtain ⟨wz, hwz⟩ := eX ((((w9.setCell ⟨w.heap.size, 0, none⟩ (.int .u64 (pairW v1.a v1.b))).setCell ⟨w.heap.size, 1, none⟩ (.int .u64 (pairW v1.c v1.d))).setCell ⟨w.heap.size, 2, none⟩ (.int .u64 (pairW v1.e v1.f))).setCell ⟨w.heap.size, 3, none⟩ (.int .u64 (pairW v1.g v1.h)))
      rw [hwz] at h4 f4 ⊢
      have g0 : wz.cell? ⟨w.heap.size, 0, none⟩ = some (.int .u64 (pairW v1.a v1.b)) := by rw [cell_of_row wz _ _ _ _ _ h4]; rfl
      have g1 : wz.cell? ⟨w.heap.size, 1, none⟩ = some (.int .u64 (pairW v1.c v1.d)) := by rw [cell_of_row wz _ _ _ _ _ h4]; rfl
      have g2 : wz.cell? ⟨w.heap.size, 2, none⟩ = some (.int .u64 (pairW v1.e v1.f)) := by rw [cell_of_row wz _ _ _ _ _ h4]; rfl
      have g3 : wz.cell? ⟨w.heap.size, 3, none⟩ = some (.int .u64 (pairW v1.g v1.h)) := by rw [cell_of_row wz _ _ _ _ _ h4]; rfl
      have hfz : Frm [] w wz := HS9.out.fr.trans f4 (fun i hi hl => by simp at hi; omega)
      clear hwz h4 f4 HS4 r0 r1 r2 r3 q0 q1 q2 q3
      refine bodyPost_ret (v := .agg #[.int .u64 (pairW v1.a v1.b), .int .u64 (pairW v1.c v1.d), .int .u64 (pairW v1.e v1.f), .int .u64 (pairW v1.g v1.h)]) (by simp [results, Tryz.results103, go_sem, g0, g1, g2, g3]) rfl ⟨?_, hfz⟩
      rw [← HRES.out]
      rfl
end
section
open Go.RowKit
theorem sha_hi (p : Option Addr) (n c : Nat) (zs : List Int) (w : World) (hn : zs.length = n) (hnc : n ≤ c) (hnb : n ≤ 9223372036854775807) (h56 : 56 ≤ n % 64) (hrd : Rd w p zs) (hb : ∀ z ∈ zs, 0 ≤ z ∧ z < 256) (hpr : Primes w) :
  Calls Tryz.prog 103 #[.slice p n c] w fun e w' => e = .returned (.agg (shaHi n zs).arr) ∧ Frm [] w w' := by
 have HRD := hid hrd
 have HZB := hid hb
 have HN := hid hn
 have HPR := hid hpr
 have HNC := hid hnc
 have HMOD := hid (h56)
 clear hrd hb hn hpr hnc h56
 go_enter Tryz.func103, Tryz.ntmps103
 go_wp2_with fail
 obtain ⟨wa, hwa⟩ := eX ((w.alloc (.cells #[.int .u64 0, .int .u64 0, .int .u64 0, .int .u64 0] 29)).alloc (.cells #[.int .u32 1779033703, .int .u32 3144134277, .int .u32 1013904242, .int .u32 2773480762, .int .u32 1359893119, .int .u32 2600822924, .int .u32 528734635, .int .u32 1541459225] 124))
 have hfa0 : Frm [] w (w.alloc (.cells #[.int .u64 0, .int .u64 0, .int .u64 0, .int .u64 0] 29)) := (Frm.refl _ _).alloc _
 have hfa1 : Frm [] (w.alloc (.cells #[.int .u64 0, .int .u64 0, .int .u64 0, .int .u64 0] 29)) wa := by rw [← hwa]; exact (Frm.refl _ _).alloc _
 have hA0 : wa.heap[w.heap.size]? = some (.cells #[.int .u64 0, .int .u64 0, .int .u64 0, .int .u64 0] 29 (0, 0)) := hfa1.heap (heap_alloc_new _ _) (by simp)
 have hA1 : wa.heap[w.heap.size + 1]? = some (.cells H0.arr 124 (0, 0)) := by rw [← hwa]; exact heap_alloc_to _ _ (by simp)
 have hsz : wa.heap.size = w.heap.size + 2 := by rw [← hwa]; simp
 have HA0 := hid hA0
 have HA1 := hid hA1
 have HFA := hid (hfa0.trans hfa1 (by simp))
 have HSZ := hid hsz
 rw [hwa]
 clear hwa hfa0 hfa1 hA0 hA1 hsz
 have HJ0 : Hid (StJ w wa w.heap.size H0) := hid ⟨HA0.out, HA1.out, HFA.out⟩
 have HSA : Hid (w.heap.size + 2 ≤ wa.heap.size) := hid (by have := HSZ.out; omega)
 clear HA0 HA1 HFA HSZ
 go_loopw [0] (fun b wr => ∃ (k m d : Nat) (pk : Option Addr), b = .slice pk m d ∧ Hid (64 * k + m = n) ∧ Hid (64 * k + d = c) ∧ Hid (Rd w pk (zs.drop (64 * k))) ∧ Hid (StJ w wr w.heap.size (blksV H0 zs k)) ∧ Hid (w.heap.size + 2 ≤ wr.heap.size)) (fun b _ => match b with | .slice _ m _ => m | _ => 0)
 case atStart => exact ⟨0, n, c, p, rfl, hid (by omega), hid (by omega), HRD, HJ0, HSA⟩
 case round =>
  clear HJ0 HSA
  obtain ⟨k, m, d, pk, rfl, hkm, hkd, hrk, hst, hsz⟩ := hrel
  by_cases hlt : (64 : Int) ≤ (m : Int)
  ·obtain ⟨e0, e1, e2, e3, e4, e5, e6, e7⟩ := hst.out.e
   have hlen : (zs.drop (64 * k)).length = m := by rw [List.length_drop, HN.out]; have := hkm.out; omega
   have HB := hid (block_any (blksV H0 zs k) pk m d (zs.drop (64 * k)) wr hlen (by omega) (by have := hkm.out; omega) (hrk.out.kept hst.out.fr (by simp)) (fun z hz => HZB.out z (List.mem_of_mem_drop hz)) (HPR.out.kept hst.out.fr))
   obtain ⟨pp, hsl, hrd2, hbk2⟩ := slice_from pk (zs.drop (64 * k)) m d 64 hlen (by omega) (by have := hkm.out; have := hkd.out; have := HNC.out; omega) w hrk.out
   have hsl' : ∀ W : World, (Instr.sliceAt 24 (.slice pk m d) (some (.int .i64 64)) none none).run Tryz.prog W = .ok (.slice pp (m - 64) (d - 64)) W := hsl
   have hsl2 : ∀ W : World, (Instr.slice 24 (.slice pk m d) (some (.int .i64 64)) none none).run Tryz.prog W = .ok (.slice pp (m - 64) (d - 64)) W := fun W => by rw [← run_sliceAt_slice (h := elem_of Tryz.underlying24)]; exact hsl' W
   have HR2 := hid hrd2
   have hvn : blockV (blksV H0 zs k) (zs.drop (64 * k)) = blksV H0 zs (k + 1) := rfl
   obtain ⟨v, hv⟩ := eX (blksV H0 zs k)
   obtain ⟨v1, hv1⟩ := eX (blksV H0 zs (k + 1))
   rw [hv] at e0 e1 e2 e3 e4 e5 e6 e7 HB hst hvn
   rw [hv1] at hvn
   rw [hvn] at HB
   have HV1 := hid hv1
   clear hvn hv hv1 hlen hsl hrd2 hbk2
   go_wp2_with fail
   refine (HB.out).mono ?_
   rintro e w6 ⟨rfl, hf6⟩
   have h1 := hf6.heap hst.out.h1 (by simp)
   have HF6 := hid hf6
   have hS8 := set8 (y0 := .int .u32 v1.a) (y1 := .int .u32 v1.b) (y2 := .int .u32 v1.c) (y3 := .int .u32 v1.d) (y4 := .int .u32 v1.e) (y5 := .int .u32 v1.f) (y6 := .int .u32 v1.g) (y7 := .int .u32 v1.h) h1
   have HS8 := hid hS8
   have hfr6 : ∀ i, w6.frozen? ⟨w.heap.size + 1, i, none⟩ = false := fun i => fZ i h1
   have f0 := hfr6 0
   have f1 := hfr6 1
   have f2 := hfr6 2
   have f3 := hfr6 3
   have f4 := hfr6 4
   have f5 := hfr6 5
   have f6 := hfr6 6
   have f7 := hfr6 7
   have o0 : w6.cell? ⟨w.heap.size + 1, 0, none⟩ = some (.int .u32 v.a) := by rw [cell_of_row w6 _ _ _ _ _ h1]; rfl
   have o1 : w6.cell? ⟨w.heap.size + 1, 1, none⟩ = some (.int .u32 v.b) := by rw [cell_of_row w6 _ _ _ _ _ h1]; rfl
   have o2 : w6.cell? ⟨w.heap.size + 1, 2, none⟩ = some (.int .u32 v.c) := by rw [cell_of_row w6 _ _ _ _ _ h1]; rfl
   have o3 : w6.cell? ⟨w.heap.size + 1, 3, none⟩ = some (.int .u32 v.d) := by rw [cell_of_row w6 _ _ _ _ _ h1]; rfl
   have o4 : w6.cell? ⟨w.heap.size + 1, 4, none⟩ = some (.int .u32 v.e) := by rw [cell_of_row w6 _ _ _ _ _ h1]; rfl
   have o5 : w6.cell? ⟨w.heap.size + 1, 5, none⟩ = some (.int .u32 v.f) := by rw [cell_of_row w6 _ _ _ _ _ h1]; rfl
   have o6 : w6.cell? ⟨w.heap.size + 1, 6, none⟩ = some (.int .u32 v.g) := by rw [cell_of_row w6 _ _ _ _ _ h1]; rfl
   have o7 : w6.cell? ⟨w.heap.size + 1, 7, none⟩ = some (.int .u32 v.h) := by rw [cell_of_row w6 _ _ _ _ _ h1]; rfl
   clear h1 hf6 hS8 hfr6 e0 e1 e2 e3 e4 e5 e6 e7
   unfold V8.arr
   go_wp2_with fail
   go_roundw
   case rel =>
    obtain ⟨h8, f8⟩ := HS8.out
    have hw6 : Frm [] w w6 := hst.out.fr.trans HF6.out (by simp)
    have hz := hsz.out
    have hz6 := HF6.out.size
    refine ⟨k + 1, m - 64, d - 64, pp, rfl, hid (by have := hkm.out; omega), hid (by have := hkm.out; have := hkd.out; have := HNC.out; omega), hid ?_, hid ⟨f8.heap (HF6.out.heap hst.out.h0 (by simp)) (by simp), ?_, hw6.trans f8 (fun i hi hl => by simp at hi; omega)⟩, hid (by have := f8.size; omega)⟩
    ·have := HR2.out; rw [List.drop_drop] at this; exact this
    ·rw [HV1.out]; exact h8
   case measure => show m - 64 < m; omega
  ·have hkm' := hkm.out
   have hk : k = n / 64 := by omega
   have hm0 : m = n % 64 := by omega
   have hcut : (56 : Int) ≤ (m : Int) := by have := HMOD.out; omega
   have HK := hid hk
   have hzs : (zs.drop (64 * k)).length = m := by rw [List.length_drop, HN.out]; omega
   obtain ⟨ms, hms⟩ := eX (zs.drop (64 * k))
   obtain ⟨v, hv⟩ := eX (blksV H0 zs k)
   have HMZ : Hid (∀ z ∈ ms, 0 ≤ z ∧ z < 256) := hid (fun z hz => HZB.out z (List.mem_of_mem_drop (by rw [hms]; exact hz)))
   rw [hms] at hrk hzs
   rw [hv] at hst
   have HMS := hid hms
   have HV := hid hv
   have HML := hid hzs
   clear hk hms hv hzs hkm' hm0 hkd hkm
   have hm64 : m < 64 := by omega
   have hzt := zero_tail wr
   generalize hT0 : List.replicate 128 (0 : Int) = T0 at hzt
   have HT0 := hid hT0
   clear hT0
   have hfb : Frm [] wr (wr.alloc (.cells (bv T0).toArray 139)) := (Frm.refl _ _).alloc _
   have HG0 : Hid ((wr.alloc (.cells (bv T0).toArray 139)).heap[wr.heap.size]? = some (.cells (bv T0).toArray 139 (0, 0))) := hid (heap_alloc_new _ _)
   have HR0 : Hid (Rd (wr.alloc (.cells (bv T0).toArray 139)) pk ms) := hid (hrk.out.kept (hst.out.fr.trans hfb (by simp)) (by simp))
   have HFB := hid hfb
   clear hfb
   go_wp2_with (refine wpList_copyS rfl _ _ 24 rfl 5 139 Tryz.underlying24 infoB _ _ _ rfl _ 0 T0 HG0.out (fun _ => rfl) (by rw [← HT0.out]; simp) pk m d ms rfl HML.out.symm HR0.out ?_)
   intro w2 q hq hg2 hf2
   have hT1 : splice T0 0 (ms.take q) = ms ++ List.replicate (128 - m) 0 := by
    have hk' := hq.out
    have e1 : ms.take q = ms := List.take_of_length_le (by rw [HML.out]; omega)
    rw [e1, ← HT0.out]
    unfold splice
    simp only [List.take_zero, List.nil_append, Nat.zero_add, HML.out, List.drop_replicate]
   have hg3 := hg2.out
   rw [hT1] at hg3
   have hsz' := hsz.out
   have hF2 : Frm [] w w2 := (hst.out.fr.trans HFB.out (by simp)).trans hf2.out (fun i hi hl => by simp at hi; have := hst.out.fr.size; omega)
   obtain ⟨T1, hT⟩ := eX (ms ++ List.replicate (128 - m) 0)
   rw [hT] at hg3
   have HT := hid hT
   have hT1l : T1.length = 128 := by rw [← hT]; simp [HML.out]; omega
   obtain ⟨y, hy⟩ := eX (wr.heap.size)
   have HF2' := hf2.out
   rw [hy] at hg3 hsz' HF2' ⊢
   have HY : Hid (w.heap.size + 1 < y) := hid (by omega)
   have HY0 : Hid (StY w w2 w.heap.size y v T1) := hid ⟨⟨HF2'.heap (HFB.out.heap hst.out.h0 (by simp)) (by simp; omega), HF2'.heap (HFB.out.heap hst.out.h1 (by simp)) (by simp; omega), hF2⟩, hg3, hT1l⟩
   have HTL := hid hT1l
   have c0 : w2.cell? ⟨y, m, none⟩ = some (.int .u8 (T1.getD m 0)) := by
    rw [cell_of_row w2 _ _ _ _ _ hg3]
    simp [bv, List.getD_eq_getElem?_getD, show m < T1.length by omega]
   have f0 : w2.frozen? ⟨y, m, none⟩ = false := fZ m hg3
   have n0 : (0 : Int) ≤ (m : Int) := by omega
   have n1 : (m : Int) < 128 := by omega
   clear hq hg2 hf2 HF2' hT1 hF2 hsz hsz' hT hg3 hT1l hst HT0 hzt HG0 HR0 HFB hy hrk
   go_wp2_with fail
   have HS0 : Hid (StY w (w2.setCell ⟨y, m, none⟩ (.int .u8 128)) w.heap.size y v (T1.set m 128)) := hid (HY0.out.set (Nat.le_refl _) HY.out m 128)
   clear HY0 c0 f0
   go_loopw [29] (fun i wr => ∃ t : Nat, t ≤ 8 ∧ i = .int .i64 t ∧ Hid (StY w wr w.heap.size y v (tlE n 127 (T1.set m 128) t))) (fun i _ => 8 - (intOf i).toNat)
   case atStart => exact ⟨0, by omega, rfl, HS0⟩
   case round =>
    clear HS0
    obtain ⟨t, ht, rfl, hst⟩ := hrel
    by_cases hlt : t < 8
    ·have c0 := hst.out.at (127 - t) (by omega)
     have f0 : wr.frozen? ⟨y, 127 - t, none⟩ = false := fZ _ hst.out.h2
     have k0 : IntKind.i64.wrap (127 - (t : Int)) = 127 - (t : Int) := IntWalk.i64_in _ (by omega)
     have k1 : (0 : Int) ≤ 127 - (t : Int) := by omega
     have k2 : 127 - (t : Int) < 128 := by omega
     have k3 : (127 - (t : Int)).toNat = 127 - t := by omega
     have k4 : (0 : Int) ≤ 8 * (t : Int) := by omega
     have k5 : IntKind.i64.wrap (8 * (t : Int)) = 8 * (t : Int) := IntWalk.i64_in _ (by omega)
     have k6 : (8 * (t : Int)).toNat = 8 * t := by omega
     go_wp2_with fail
     go_roundw
     case rel => exact ⟨t + 1, by omega, by go_num, hid (hst.out.set (Nat.le_refl _) HY.out (127 - t) (lenC n t))⟩
     case measure => simp [intOf]; omega
    ·obtain rfl : t = 8 := by omega
     clear hlt
     rw [show ((8 : Nat) : Int) = 8 from rfl]
     have hok : OkB (tlE n 127 (T1.set m 128) 8) := by
      refine OkB.tlE (OkB.set ?_ _ (by omega)) _ _ _
      rw [← HT.out]
      intro z hz
      rcases List.mem_append.1 hz with hz | hz
      ·exact HMZ.out z hz
      ·have := List.eq_of_mem_replicate hz; omega
     have hpad : tlE n 127 (T1.set m 128) 8 = tailE n 127 ms := by
      unfold tailE
      rw [HML.out, HT.out]
     obtain ⟨T, hT⟩ := eX (tlE n 127 (T1.set m 128) 8)
     rw [hT] at hok hpad hst
     have HOK := hid hok
     have HPAD := hid hpad
     clear hok hpad hT HT HTL n0 n1 hcut hm64 hnb
     go_wp2_with fail
     obtain ⟨v1, hv1⟩ := eX (blockV v (T.take 64))
     have HV1 := hid hv1
     clear hv1
     obtain ⟨v2, hv2⟩ := eX (blockV v1 (T.drop 64))
     have HV2 := hid hv2
     clear hv2
     go_loopw [8] (fun a wr => (a = .int .i64 0 ∧ Hid (StY w wr w.heap.size y v T)) ∨ (a = .int .i64 64 ∧ Hid (StY w wr w.heap.size y v1 T)) ∨ (a = .int .i64 128 ∧ Hid (StY w wr w.heap.size y v2 T))) (fun a _ => 128 - (intOf a).toNat)
     case atStart => exact Or.inl ⟨rfl, hst⟩
     case round =>
     clear hst
     rcases hrel with ⟨rfl, hst⟩ | ⟨rfl, hst⟩ | ⟨rfl, hst⟩
     ·have HB := hid (fun w' (h : StY w w' w.heap.size y v T) => block_any v (some ⟨y, 0, none⟩) 64 128 (T.take 64) w' (by rw [List.length_take, h.len]; rfl) (by omega) (by omega) h.rd (fun z hz => HOK.out z (List.mem_of_mem_take hz)) (HPR.out.kept h.j.fr))
      rw [HV1.out] at HB
      obtain ⟨e0, e1, e2, e3, e4, e5, e6, e7⟩ := hst.out.j.e
      have hcut := cut_tail y
      have hw64 : IntKind.i64.wrap 64 = 64 := rfl
      have hw128 : IntKind.i64.wrap 128 = 128 := rfl
      go_wp2_with fail
      go_still_tail 5, (by kernel_rfl)
      change wpList _ _ _ _ _ wr.drew
      have HS5 : Hid (StY w wr.drew w.heap.size y v T) := hid ⟨⟨hst.out.j.h0, hst.out.j.h1, hst.out.j.fr.drew⟩, hst.out.h2, hst.out.len⟩
      obtain ⟨w5, hw5⟩ := eX (wr.drew)
      rw [hw5] at HS5 ⊢
      clear hw5 e0 e1 e2 e3 e4 e5 e6 e7 hst
      go_wp2_with fail
      refine (HB.out w5 HS5.out).mono ?_
      rintro e w6 ⟨rfl, hf6⟩
      have h1 := hf6.heap HS5.out.j.h1 (by simp)
      have HF6 := hid hf6
      unfold V8.arr
      have hfr6 : ∀ i, w6.frozen? ⟨w.heap.size + 1, i, none⟩ = false := fun i => fZ i h1
      have f0 := hfr6 0
      have f1 := hfr6 1
      have f2 := hfr6 2
      have f3 := hfr6 3
      have f4 := hfr6 4
      have f5 := hfr6 5
      have f6 := hfr6 6
      have f7 := hfr6 7
      have o0 : w6.cell? ⟨w.heap.size + 1, 0, none⟩ = some (.int .u32 v.a) := by rw [cell_of_row w6 _ _ _ _ _ h1]; rfl
      have o1 : w6.cell? ⟨w.heap.size + 1, 1, none⟩ = some (.int .u32 v.b) := by rw [cell_of_row w6 _ _ _ _ _ h1]; rfl
      have o2 : w6.cell? ⟨w.heap.size + 1, 2, none⟩ = some (.int .u32 v.c) := by rw [cell_of_row w6 _ _ _ _ _ h1]; rfl
      have o3 : w6.cell? ⟨w.heap.size + 1, 3, none⟩ = some (.int .u32 v.d) := by rw [cell_of_row w6 _ _ _ _ _ h1]; rfl
      have o4 : w6.cell? ⟨w.heap.size + 1, 4, none⟩ = some (.int .u32 v.e) := by rw [cell_of_row w6 _ _ _ _ _ h1]; rfl
      have o5 : w6.cell? ⟨w.heap.size + 1, 5, none⟩ = some (.int .u32 v.f) := by rw [cell_of_row w6 _ _ _ _ _ h1]; rfl
      have o6 : w6.cell? ⟨w.heap.size + 1, 6, none⟩ = some (.int .u32 v.g) := by rw [cell_of_row w6 _ _ _ _ _ h1]; rfl
      have o7 : w6.cell? ⟨w.heap.size + 1, 7, none⟩ = some (.int .u32 v.h) := by rw [cell_of_row w6 _ _ _ _ _ h1]; rfl
      have hS8 := set8 (y0 := .int .u32 v1.a) (y1 := .int .u32 v1.b) (y2 := .int .u32 v1.c) (y3 := .int .u32 v1.d) (y4 := .int .u32 v1.e) (y5 := .int .u32 v1.f) (y6 := .int .u32 v1.g) (y7 := .int .u32 v1.h) h1
      have HS8 := hid hS8
      clear h1 hf6 hS8 hfr6
      go_wp2_with fail
      go_roundw
      case rel =>
       refine Or.inr <| Or.inl ⟨rfl, hid ?_⟩
       obtain ⟨h8, f8⟩ := HS8.out
       have hw6 : Frm [] w w6 := HS5.out.j.fr.trans HF6.out (by simp)
       have hy' := HY.out
       exact ⟨⟨f8.heap (HF6.out.heap HS5.out.j.h0 (by simp)) (by simp), h8, hw6.trans f8 (fun i hi hl => by simp at hi; omega)⟩, f8.heap (HF6.out.heap HS5.out.h2 (by simp)) (by simp; omega), HS5.out.len⟩
      case measure => simp [intOf]
     ·have HB := hid (fun w' (h : StY w w' w.heap.size y v1 T) => block_any v1 (some ⟨y, 64, none⟩) 64 64 (T.drop 64) w' (by rw [List.length_drop, h.len]) (by omega) (by omega) h.rd2 (fun z hz => HOK.out z (List.mem_of_mem_drop hz)) (HPR.out.kept h.j.fr))
      rw [HV2.out] at HB
      obtain ⟨e0, e1, e2, e3, e4, e5, e6, e7⟩ := hst.out.j.e
      have hcut := cut_tail2 y
      have hw64 : IntKind.i64.wrap 64 = 64 := rfl
      have hw128 : IntKind.i64.wrap 128 = 128 := rfl
      go_wp2_with fail
      go_still_tail 5, (by kernel_rfl)
      change wpList _ _ _ _ _ wr.drew
      have HS5 : Hid (StY w wr.drew w.heap.size y v1 T) := hid ⟨⟨hst.out.j.h0, hst.out.j.h1, hst.out.j.fr.drew⟩, hst.out.h2, hst.out.len⟩
      obtain ⟨w5, hw5⟩ := eX (wr.drew)
      rw [hw5] at HS5 ⊢
      clear hw5 e0 e1 e2 e3 e4 e5 e6 e7 hst
      go_wp2_with fail
      refine (HB.out w5 HS5.out).mono ?_
      rintro e w6 ⟨rfl, hf6⟩
      have h1 := hf6.heap HS5.out.j.h1 (by simp)
      have HF6 := hid hf6
      unfold V8.arr
      have hfr6 : ∀ i, w6.frozen? ⟨w.heap.size + 1, i, none⟩ = false := fun i => fZ i h1
      have f0 := hfr6 0
      have f1 := hfr6 1
      have f2 := hfr6 2
      have f3 := hfr6 3
      have f4 := hfr6 4
      have f5 := hfr6 5
      have f6 := hfr6 6
      have f7 := hfr6 7
      have o0 : w6.cell? ⟨w.heap.size + 1, 0, none⟩ = some (.int .u32 v1.a) := by rw [cell_of_row w6 _ _ _ _ _ h1]; rfl
      have o1 : w6.cell? ⟨w.heap.size + 1, 1, none⟩ = some (.int .u32 v1.b) := by rw [cell_of_row w6 _ _ _ _ _ h1]; rfl
      have o2 : w6.cell? ⟨w.heap.size + 1, 2, none⟩ = some (.int .u32 v1.c) := by rw [cell_of_row w6 _ _ _ _ _ h1]; rfl
      have o3 : w6.cell? ⟨w.heap.size + 1, 3, none⟩ = some (.int .u32 v1.d) := by rw [cell_of_row w6 _ _ _ _ _ h1]; rfl
      have o4 : w6.cell? ⟨w.heap.size + 1, 4, none⟩ = some (.int .u32 v1.e) := by rw [cell_of_row w6 _ _ _ _ _ h1]; rfl
      have o5 : w6.cell? ⟨w.heap.size + 1, 5, none⟩ = some (.int .u32 v1.f) := by rw [cell_of_row w6 _ _ _ _ _ h1]; rfl
      have o6 : w6.cell? ⟨w.heap.size + 1, 6, none⟩ = some (.int .u32 v1.g) := by rw [cell_of_row w6 _ _ _ _ _ h1]; rfl
      have o7 : w6.cell? ⟨w.heap.size + 1, 7, none⟩ = some (.int .u32 v1.h) := by rw [cell_of_row w6 _ _ _ _ _ h1]; rfl
      have hS8 := set8 (y0 := .int .u32 v2.a) (y1 := .int .u32 v2.b) (y2 := .int .u32 v2.c) (y3 := .int .u32 v2.d) (y4 := .int .u32 v2.e) (y5 := .int .u32 v2.f) (y6 := .int .u32 v2.g) (y7 := .int .u32 v2.h) h1
      have HS8 := hid hS8
      clear h1 hf6 hS8 hfr6
      go_wp2_with fail
      go_roundw
      case rel =>
       refine Or.inr <| Or.inr ⟨rfl, hid ?_⟩
       obtain ⟨h8, f8⟩ := HS8.out
       have hw6 : Frm [] w w6 := HS5.out.j.fr.trans HF6.out (by simp)
       have hy' := HY.out
       exact ⟨⟨f8.heap (HF6.out.heap HS5.out.j.h0 (by simp)) (by simp), h8, hw6.trans f8 (fun i hi hl => by simp at hi; omega)⟩, f8.heap (HF6.out.heap HS5.out.h2 (by simp)) (by simp; omega), HS5.out.len⟩
      case measure => simp [intOf]
     ·have HRES : Hid (sumV v2 = shaHi n zs) := hid (by
       rw [← HV2.out, ← HV1.out, HPAD.out, ← HV.out, ← HMS.out, HK.out]
       rfl)
      have hok : v2.ok := by rw [← HV2.out]; exact blockV_ok _ _
      obtain ⟨d0, d1, d2, d3, d4, d5, d6, d7⟩ := hok
      have HP1 := hid (pair_any v2.a v2.b wr.drew d0 d1)
      have HP2 := hid (pair_any v2.c v2.d wr.drew d2 d3)
      have HP3 := hid (pair_any v2.e v2.f wr.drew d4 d5)
      have HP4 := hid (pair_any v2.g v2.h wr.drew d6 d7)
      clear d0 d1 d2 d3 d4 d5 d6 d7
      obtain ⟨e0, e1, e2, e3, e4, e5, e6, e7⟩ := hst.out.j.e
      go_wp2_with fail
      go_still_tail 21, (by kernel_rfl)
      refine wpStill_step (fun K hK => ?_)
      go_simp
      refine ⟨_, HP1.out, hK _ ?_⟩
      clear hK K
      repeat still_step
      refine wpStill_step (fun K hK => ?_)
      go_simp
      refine ⟨_, HP2.out, hK _ ?_⟩
      clear hK K
      repeat still_step
      refine wpStill_step (fun K hK => ?_)
      go_simp
      refine ⟨_, HP3.out, hK _ ?_⟩
      clear hK K
      repeat still_step
      refine wpStill_step (fun K hK => ?_)
      go_simp
      refine ⟨_, HP4.out, hK _ ?_⟩
      clear hK K
      repeat still_step
      refine wpStill_nil ?_
      change wpList _ _ _ _ _ wr.drew
      have HS9 : Hid (StJ w wr.drew w.heap.size v2) := hid ⟨hst.out.j.h0, hst.out.j.h1, hst.out.j.fr.drew⟩
      obtain ⟨w9, hw9⟩ := eX (wr.drew)
      rw [hw9] at HS9 ⊢
      clear hw9 e0 e1 e2 e3 e4 e5 e6 e7 hst HP1 HP2 HP3 HP4
      have r0 : w9.cell? ⟨w.heap.size, 0, none⟩ = some (.int .u64 0) := by rw [cell_of_row w9 _ _ _ _ _ HS9.out.h0]; rfl
      have q0 : w9.frozen? ⟨w.heap.size, 0, none⟩ = false := fZ 0 HS9.out.h0
      have r1 : w9.cell? ⟨w.heap.size, 1, none⟩ = some (.int .u64 0) := by rw [cell_of_row w9 _ _ _ _ _ HS9.out.h0]; rfl
      have q1 : w9.frozen? ⟨w.heap.size, 1, none⟩ = false := fZ 1 HS9.out.h0
      have r2 : w9.cell? ⟨w.heap.size, 2, none⟩ = some (.int .u64 0) := by rw [cell_of_row w9 _ _ _ _ _ HS9.out.h0]; rfl
      have q2 : w9.frozen? ⟨w.heap.size, 2, none⟩ = false := fZ 2 HS9.out.h0
      have r3 : w9.cell? ⟨w.heap.size, 3, none⟩ = some (.int .u64 0) := by rw [cell_of_row w9 _ _ _ _ _ HS9.out.h0]; rfl
      have q3 : w9.frozen? ⟨w.heap.size, 3, none⟩ = false := fZ 3 HS9.out.h0
      have HS4 := hid (set4 (y0 := .int .u64 (pairW v2.a v2.b)) (y1 := .int .u64 (pairW v2.c v2.d)) (y2 := .int .u64 (pairW v2.e v2.f)) (y3 := .int .u64 (pairW v2.g v2.h)) HS9.out.h0)
      go_wp2_with fail
      obtain ⟨h4, f4⟩ := HS4.out
      obtain ⟨wz, hwz⟩ := eX ((((w9.setCell ⟨w.heap.size, 0, none⟩ (.int .u64 (pairW v2.a v2.b))).setCell ⟨w.heap.size, 1, none⟩ (.int .u64 (pairW v2.c v2.d))).setCell ⟨w.heap.size, 2, none⟩ (.int .u64 (pairW v2.e v2.f))).setCell ⟨w.heap.size, 3, none⟩ (.int .u64 (pairW v2.g v2.h)))
      rw [hwz] at h4 f4 ⊢
      have g0 : wz.cell? ⟨w.heap.size, 0, none⟩ = some (.int .u64 (pairW v2.a v2.b)) := by rw [cell_of_row wz _ _ _ _ _ h4]; rfl
      have g1 : wz.cell? ⟨w.heap.size, 1, none⟩ = some (.int .u64 (pairW v2.c v2.d)) := by rw [cell_of_row wz _ _ _ _ _ h4]; rfl
      have g2 : wz.cell? ⟨w.heap.size, 2, none⟩ = some (.int .u64 (pairW v2.e v2.f)) := by rw [cell_of_row wz _ _ _ _ _ h4]; rfl
      have g3 : wz.cell? ⟨w.heap.size, 3, none⟩ = some (.int .u64 (pairW v2.g v2.h)) := by rw [cell_of_row wz _ _ _ _ _ h4]; rfl
      have hfz : Frm [] w wz := HS9.out.fr.trans f4 (fun i hi hl => by simp at hi; omega)
      clear hwz h4 f4 HS4 r0 r1 r2 r3 q0 q1 q2 q3
      refine bodyPost_ret (v := .agg #[.int .u64 (pairW v2.a v2.b), .int .u64 (pairW v2.c v2.d), .int .u64 (pairW v2.e v2.f), .int .u64 (pairW v2.g v2.h)]) (by simp [results, Tryz.results103, go_sem, g0, g1, g2, g3]) rfl ⟨?_, hfz⟩
      rw [← HRES.out]
      rfl
end
section
open Go.RowKit
def shaA (zs : List Int) : S4 := if zs.length % 64 < 56 then shaLo zs.length zs else shaHi zs.length zs
theorem sha_any (p : Option Addr) (n c : Nat) (zs : List Int) (w : World) (hn : zs.length = n) (hnc : n ≤ c) (hnb : n ≤ 9223372036854775807) (hrd : Rd w p zs) (hb : ∀ z ∈ zs, 0 ≤ z ∧ z < 256) (hpr : Primes w) :
  Calls Tryz.prog 103 #[.slice p n c] w fun e w' => e = .returned (.agg (shaA zs).arr) ∧ Frm [] w w' := by
 unfold shaA
 by_cases h : n % 64 < 56
 ·rw [hn, if_pos h]
  exact sha_lo p n c zs w hn hnc hnb h hrd hb hpr
 ·rw [hn, if_neg h]
  exact sha_hi p n c zs w hn hnc hnb (by omega) hrd hb hpr
theorem or_flip (a b : Int) : bits .or .u32 a b = bits .or .u32 b a := by
 unfold bits
 simp only [BitVec.or_comm]
theorem turn_2 (x : Int) (w : World) :
  Calls Tryz.prog 111 #[.int .u32 x, .int .u64 2] w fun e w' => e = .returned (.int .u32 (rorI x 2)) ∧ w' = w := by
 go_enter Tryz.func111, Tryz.ntmps111
 go_wp2_with fail
 go_returns
 refine ⟨?_, rfl⟩
 rw [or_flip]
 rfl
theorem turn_6 (x : Int) (w : World) :
  Calls Tryz.prog 111 #[.int .u32 x, .int .u64 6] w fun e w' => e = .returned (.int .u32 (rorI x 6)) ∧ w' = w := by
 go_enter Tryz.func111, Tryz.ntmps111
 go_wp2_with fail
 go_returns
 refine ⟨?_, rfl⟩
 rw [or_flip]
 rfl
theorem turn_7 (x : Int) (w : World) :
  Calls Tryz.prog 111 #[.int .u32 x, .int .u64 7] w fun e w' => e = .returned (.int .u32 (rorI x 7)) ∧ w' = w := by
 go_enter Tryz.func111, Tryz.ntmps111
 go_wp2_with fail
 go_returns
 refine ⟨?_, rfl⟩
 rw [or_flip]
 rfl
theorem turn_11 (x : Int) (w : World) :
  Calls Tryz.prog 111 #[.int .u32 x, .int .u64 11] w fun e w' => e = .returned (.int .u32 (rorI x 11)) ∧ w' = w := by
 go_enter Tryz.func111, Tryz.ntmps111
 go_wp2_with fail
 go_returns
 refine ⟨?_, rfl⟩
 rw [or_flip]
 rfl
theorem turn_13 (x : Int) (w : World) :
  Calls Tryz.prog 111 #[.int .u32 x, .int .u64 13] w fun e w' => e = .returned (.int .u32 (rorI x 13)) ∧ w' = w := by
 go_enter Tryz.func111, Tryz.ntmps111
 go_wp2_with fail
 go_returns
 refine ⟨?_, rfl⟩
 rw [or_flip]
 rfl
theorem turn_17 (x : Int) (w : World) :
  Calls Tryz.prog 111 #[.int .u32 x, .int .u64 17] w fun e w' => e = .returned (.int .u32 (rorI x 17)) ∧ w' = w := by
 go_enter Tryz.func111, Tryz.ntmps111
 go_wp2_with fail
 go_returns
 refine ⟨?_, rfl⟩
 rw [or_flip]
 rfl
theorem turn_18 (x : Int) (w : World) :
  Calls Tryz.prog 111 #[.int .u32 x, .int .u64 18] w fun e w' => e = .returned (.int .u32 (rorI x 18)) ∧ w' = w := by
 go_enter Tryz.func111, Tryz.ntmps111
 go_wp2_with fail
 go_returns
 refine ⟨?_, rfl⟩
 rw [or_flip]
 rfl
theorem turn_19 (x : Int) (w : World) :
  Calls Tryz.prog 111 #[.int .u32 x, .int .u64 19] w fun e w' => e = .returned (.int .u32 (rorI x 19)) ∧ w' = w := by
 go_enter Tryz.func111, Tryz.ntmps111
 go_wp2_with fail
 go_returns
 refine ⟨?_, rfl⟩
 rw [or_flip]
 rfl
theorem turn_22 (x : Int) (w : World) :
  Calls Tryz.prog 111 #[.int .u32 x, .int .u64 22] w fun e w' => e = .returned (.int .u32 (rorI x 22)) ∧ w' = w := by
 go_enter Tryz.func111, Tryz.ntmps111
 go_wp2_with fail
 go_returns
 refine ⟨?_, rfl⟩
 rw [or_flip]
 rfl
theorem turn_25 (x : Int) (w : World) :
  Calls Tryz.prog 111 #[.int .u32 x, .int .u64 25] w fun e w' => e = .returned (.int .u32 (rorI x 25)) ∧ w' = w := by
 go_enter Tryz.func111, Tryz.ntmps111
 go_wp2_with fail
 go_returns
 refine ⟨?_, rfl⟩
 rw [or_flip]
 rfl
theorem turned_all (x K : Int) (hK : turnK K = true) (w : World) :
  Calls Tryz.prog 111 #[.int .u32 x, .int .u64 K] w fun e w' => e = .returned (.int .u32 (rorI x K)) ∧ w' = w := by
 simp only [turnK, Bool.or_eq_true, beq_iff_eq] at hK
 rcases hK with ((((((((rfl | rfl) | rfl) | rfl) | rfl) | rfl) | rfl) | rfl) | rfl) | rfl
 ·exact turn_2 x w
 ·exact turn_6 x w
 ·exact turn_7 x w
 ·exact turn_11 x w
 ·exact turn_13 x w
 ·exact turn_17 x w
 ·exact turn_18 x w
 ·exact turn_19 x w
 ·exact turn_22 x w
 ·exact turn_25 x w
end
section
open Go.RowKit
def gapN (n : Nat) : Nat := (120 - n % 64) % 64
def lenL (n : Nat) : Nat → List Int
 | 0 => []
 | t + 1 => lenL n t ++ [lenC n (7 - t)]
theorem lenL_length (n t : Nat) : (lenL n t).length = t := by
 induction t with
 | zero => rfl
 | succ t ih => simp [lenL, ih]
def padD (zs : List Int) : List Int := zs ++ [128] ++ List.replicate (gapN (zs.length + 1)) 0 ++ lenL zs.length 8
theorem padded_any (p : Option Addr) (n c : Nat) (zs : List Int) (w : World) (hn : zs.length = n) (hp : zs = [] → p = none → c = 0) (hnb : n + 100 ≤ 140737488355328) (hrd : Rd w p zs) :
  Calls Tryz.prog 109 #[.slice p n c] w fun e w' => ∃ q d, e = .returned (.slice q (padD zs).length d) ∧ Own w' 5 (.slice q (padD zs).length d) (padD zs) ∧ (∀ k ∈ blk q, w.heap.size ≤ k) ∧ Frm [] w w' := by
 have HRD := hid hrd
 have HPC := hid hp
 have HN := hid hn
 clear hrd hn hp
 go_enter Tryz.func109, Tryz.ntmps109
 go_wp2_with (at_builtin; refine wpList_appB rfl _ _ 24 rfl 5 Tryz.underlying24 infoB none 0 0 [] rfl rfl (Own.nil _ _) p n c zs rfl HN.out.symm HPC.out HRD.out (by rw [HN.out]; simp; omega) ?_)
 intro x1 p1 c1 w1 hx1 ho1 hf1 hk1
 have e1 : x1 = zs := hx1.out
 have HX1 := hid e1
 have hl1 : x1.length = n := by rw [e1, HN.out]
 rw [hl1] at ho1 ⊢
 have HL1 := hid hl1
 have hK1 : Hid (∀ k ∈ blk p1, w.heap.size ≤ k) := hid (fun k hk => by
  rcases hk1.out k hk with h | h
  ·simp [blk] at h
  ·exact h)
 have HF1 : Hid (Frm [] w w1) := hid (by have h := hf1.out; exact h)
 clear e1 hl1 hx1 hf1 hk1
 have hrz : Rd (w1.alloc (.cells #[.int .u8 128] 5)) (some ⟨w1.heap.size, 0, none⟩) [128] :=
  (own_of_block (E := 5) (zs := [128]) (heap_alloc_new w1 _) (by simp [maxLen])).rd
 have HRZ := hid hrz
 have hfz1 : Frm [] w1 (w1.alloc (.cells #[.int .u8 128] 5)) := (Frm.refl _ _).alloc _
 have HOA := hid (ho1.out.kept hfz1 (by simp))
 have HFA := hid (HF1.out.trans hfz1 (by simp))
 have HSZ := hid HF1.out.size
 clear hrz hfz1 ho1
 go_wp2_with (at_builtin; refine wpList_appB rfl _ _ 24 rfl 5 Tryz.underlying24 infoB p1 _ c1 x1 rfl HL1.out.symm (by rw [HL1.out]; exact HOA.out) (some ⟨w1.heap.size, 0, none⟩) 1 1 [128] rfl rfl (by simp) HRZ.out (by rw [HL1.out]; simp; omega) ?_)
 intro x2 p2 c2 w2 hx2 ho2 hf2 hk2
 have hl2 : x2.length = n + 1 := by rw [hx2.out, List.length_append, HL1.out]; rfl
 rw [hl2] at ho2 ⊢
 have HX2 : Hid (x2 = zs ++ [128]) := hid (by rw [hx2.out, HX1.out])
 have HF2 : Hid (Frm [] w w2) := hid (HFA.out.trans hf2.out (fun i hi hl => by have := hK1.out i hi; omega))
 have HK2 : Hid (∀ k ∈ blk p2, w.heap.size ≤ k) := hid (fun k hk => by
  rcases hk2.out k hk with h | h
  ·exact hK1.out k h
  ·have := HSZ.out
   first | omega | (simp at h; omega))
 clear hx2 hf2 hk2 HFA HOA HRZ HSZ hK1 HF1 HX1 HL1
 have HO2 : Hid (Own w2 5 (.slice p2 (n + 1) c2) (x2 ++ List.replicate 0 0)) := hid (by simpa using ho2.out)
 have HL2 := hid hl2
 clear ho2 hl2
 go_wp2_with fail
 go_loopw [3] (fun v wr => ∃ (j m : Nat) (p : Option Addr) (c : Nat), v = .slice p m c ∧ Hid (m = n + 1 + j) ∧ Hid (j ≤ gapN (n + 1)) ∧ Hid ((x2 ++ List.replicate j 0).length = m) ∧ Hid (Own wr 5 (.slice p m c) (x2 ++ List.replicate j 0)) ∧ Hid (∀ k ∈ blk p, w.heap.size ≤ k) ∧ Hid (Frm [] w wr)) (fun v _ => match v with | .slice _ m _ => n + 1 + gapN (n + 1) - m | _ => 0)
 case atStart => exact ⟨0, n + 1, p2, c2, rfl, hid rfl, hid (Nat.zero_le _), hid (by simp [HL2.out]), HO2, HK2, HF2⟩
 case round =>
  clear HO2 HK2 HF2
  obtain ⟨j, m, p, c, rfl, hm, hj, hln, hown, hblk, hf⟩ := hrel
  have hj' := hj.out
  have hm' := hm.out
  by_cases hlt : m % 64 = 56
  ·have hjj : j = gapN (n + 1) := by unfold gapN at hj' ⊢; omega
   have hg : ((m : Int) % 64 = 56) := by omega
   have HJJ := hid hjj
   have hgb : gapN (n + 1) < 64 := by unfold gapN; omega
   have HMM : Hid (m = n + 1 + gapN (n + 1)) := hid (by omega)
   have hmb : m + 16 ≤ 140737488355328 := by omega
   obtain ⟨Y, hY⟩ := eX (x2 ++ List.replicate j 0)
   rw [hY] at hln hown
   have HY := hid hY
   have nb : n < 9223372036854775807 := by omega
   have HLN0 : Hid ((Y ++ lenL n 0).length = m) := hid (by simpa [lenL] using hln.out)
   have HOW0 : Hid (Own wr 5 (.slice p m c) (Y ++ lenL n 0)) := hid (by simpa [lenL] using hown.out)
   clear hY hjj hgb hj' hm' hm hj hln hown
   go_wp2_with fail
   clear hg hlt
   go_loopw [5, 3] (fun i v wr => ∃ (t mm : Nat) (p : Option Addr) (c : Nat), t ≤ 8 ∧ i = .int .i64 (7 - (t : Int)) ∧ v = .slice p mm c ∧ Hid (mm = m + t) ∧ Hid ((Y ++ lenL n t).length = mm) ∧ Hid (Own wr 5 (.slice p mm c) (Y ++ lenL n t)) ∧ Hid (∀ k ∈ blk p, w.heap.size ≤ k) ∧ Hid (Frm [] w wr)) (fun i _ _ => ((intOf i) + 1).toNat)
   case atStart => exact ⟨0, m, p, c, by omega, rfl, rfl, hid rfl, HLN0, HOW0, hblk, hf⟩
   case round =>
    clear HLN0 HOW0 hblk hf
    obtain ⟨t, mm, p, c, ht, rfl, rfl, hmm, hln, hown, hblk, hf⟩ := hrel
    by_cases hlt8 : t < 8
    ·have hls : lenL n (t + 1) = lenL n t ++ [lenC n (7 - t)] := rfl
     have HLS := hid hls
     have k0 : (0 : Int) ≤ 7 - (t : Int) := by omega
     have k1 : IntKind.u64.wrap (7 - (t : Int)) = 7 - (t : Int) := IntWalk.u64_in _ (by omega)
     have k2 : IntKind.u64.wrap (8 * (7 - (t : Int))) = 8 * (7 - (t : Int)) := IntWalk.u64_in _ (by omega)
     have k3 : (8 * (7 - (t : Int))).toNat = 8 * (7 - t) := by omega
     have k4 : IntKind.i64.wrap (7 - (t : Int) - 1) = 7 - (t : Int) - 1 := IntWalk.i64_in _ (by omega)
     have hmb2 : mm ≤ m + 8 := by have := hmm.out; omega
     obtain ⟨D, hD⟩ := eX (lenC n (7 - t))
     have HD := hid hD
     have hDe : (n : Int) * 8 / 2 ^ (8 * (7 - t)) % 256 = D := by rw [← hD, lenC, show (n : Int) * 8 % 18446744073709551616 = (n : Int) * 8 by omega]
     have hrz : Rd (wr.alloc (.cells #[.int .u8 D] 5)) (some ⟨wr.heap.size, 0, none⟩) [D] :=
      (own_of_block (E := 5) (zs := [D]) (heap_alloc_new wr _) (by simp [maxLen])).rd
     have HRZ := hid hrz
     have hfz1 : Frm [] wr (wr.alloc (.cells #[.int .u8 D] 5)) := (Frm.refl _ _).alloc _
     have HOA := hid (hown.out.kept hfz1 (by simp))
     have HFA := hid (hf.out.trans hfz1 (by simp))
     have HSZ := hid hf.out.size
     clear hrz hfz1 hown hls hD
     go_wp2_with (at_builtin; refine wpList_appB rfl _ _ 24 rfl 5 Tryz.underlying24 infoB p _ c (Y ++ lenL n t) rfl hln.out.symm (by rw [hln.out]; exact HOA.out) (some ⟨wr.heap.size, 0, none⟩) 1 1 [D] rfl rfl (by simp) HRZ.out (by rw [hln.out]; simp; omega) ?_)
     intro xs2 q2 d2 w3 hxs ho2 hf2 hfr2
     have hx3 : xs2 = Y ++ lenL n (t + 1) := by rw [hxs.out, HLS.out, HD.out]
     have hxl : xs2.length = mm + 1 := by
      have h1 := hln.out
      rw [hx3, HLS.out]
      simp only [List.length_append, List.length_cons, List.length_nil] at h1 ⊢
      omega
     have HF3 : Hid (Frm [] w w3) := hid (HFA.out.trans hf2.out (fun i hi hlt => by have := hblk.out i hi; omega))
     have HK3 : Hid (∀ k ∈ blk q2, w.heap.size ≤ k) := hid (fun k hk2 => by
      rcases hfr2.out k hk2 with h | h
      ·exact hblk.out k h
      ·have := HSZ.out
       first | omega | (simp at h; omega))
     have HO3 := ho2.out
     rw [hxl] at HO3 ⊢
     rw [hx3] at HO3
     have HO4 := hid HO3
     have HLX : Hid ((Y ++ lenL n (t + 1)).length = mm + 1) := hid (by rw [← hx3, hxl])
     clear hxs ho2 hf2 hfr2 hx3 hxl HFA HOA HRZ HSZ HO3 hln hblk hf hDe
     go_wp2_with fail
     go_roundw
     case rel => exact ⟨t + 1, mm + 1, q2, d2, by omega, by go_num, rfl, hid (by have := hmm.out; omega), HLX, HO4, HK3, HF3⟩
     case measure => simp [intOf]; omega
    ·obtain rfl : t = 8 := by omega
     clear hlt8
     rw [show (7 : Int) - ((8 : Nat) : Int) = -1 from rfl]
     go_wp2_with fail
     go_returns
     have hpd : Y ++ lenL n 8 = padD zs := by rw [← HY.out, HX2.out, HJJ.out]; unfold padD; rw [HN.out]
     have hll := hln.out
     have hoo := hown.out
     rw [hpd] at hll hoo
     exact ⟨p, c, by rw [hll]; rfl, by rw [hll]; exact hoo, hblk.out, hf.out⟩
  ·have hg : ¬ ((m : Int) % 64 = 56) := by omega
   have hg2 : ¬ ((m : Int).tmod 64 = 56) := by rw [Int.tmod_eq_emod_of_nonneg (by omega)]; exact hg
   have hjl : j + 1 ≤ gapN (n + 1) := by unfold gapN at hj' ⊢; omega
   have hgb : gapN (n + 1) < 64 := by unfold gapN; omega
   have HJL := hid hjl
   have hmb : m + 1 ≤ 140737488355328 := by omega
   have hrz : Rd (wr.alloc (.cells #[.int .u8 0] 5)) (some ⟨wr.heap.size, 0, none⟩) [0] :=
    (own_of_block (E := 5) (zs := [0]) (heap_alloc_new wr _) (by simp [maxLen])).rd
   have HRZ := hid hrz
   have hfz1 : Frm [] wr (wr.alloc (.cells #[.int .u8 0] 5)) := (Frm.refl _ _).alloc _
   have HOA := hid (hown.out.kept hfz1 (by simp))
   have HFA := hid (hf.out.trans hfz1 (by simp))
   have HSZ := hid hf.out.size
   clear hrz hfz1 hown hjl hgb hm' hj'
   go_wp2_with (at_builtin; refine wpList_appB rfl _ _ 24 rfl 5 Tryz.underlying24 infoB p _ c (x2 ++ List.replicate j 0) rfl hln.out.symm (by rw [hln.out]; exact HOA.out) (some ⟨wr.heap.size, 0, none⟩) 1 1 [0] rfl rfl (by simp) HRZ.out (by rw [hln.out]; simp; omega) ?_)
   intro xs2 q2 d2 w3 hxs ho2 hf2 hfr2
   have hx3 : xs2 = x2 ++ List.replicate (j + 1) 0 := by rw [hxs.out, List.replicate_succ']
   have hxl : xs2.length = m + 1 := by
    have h1 := hln.out
    rw [hx3]
    simp only [List.length_append, List.length_replicate] at h1 ⊢
    omega
   have HF3 : Hid (Frm [] w w3) := hid (HFA.out.trans hf2.out (fun i hi hlt => by have := hblk.out i hi; omega))
   have HK3 : Hid (∀ k ∈ blk q2, w.heap.size ≤ k) := hid (fun k hk2 => by
    rcases hfr2.out k hk2 with h | h
    ·exact hblk.out k h
    ·have := HSZ.out
     first | omega | (simp at h; omega))
   have HO3 := ho2.out
   rw [hxl] at HO3 ⊢
   rw [hx3] at HO3
   have HO4 := hid HO3
   have HLX : Hid ((x2 ++ List.replicate (j + 1) 0).length = m + 1) := hid (by rw [← hx3, hxl])
   clear hxs ho2 hf2 hfr2 hx3 hxl HFA HOA HRZ HSZ HO3 hln hblk hf
   go_wp2_with fail
   go_roundw
   case rel => exact ⟨j + 1, m + 1, q2, d2, rfl, hid (by have := hm.out; omega), HJL, HLX, HO4, HK3, HF3⟩
   case measure => show n + 1 + gapN (n + 1) - (m + 1) < n + 1 + gapN (n + 1) - m; have := HJL.out; have := hm.out; omega
end
section
open Go.RowKit
theorem at_take (zs : List Int) (m i : Nat) (h : i < m) : zA (zs.take m) i = zA zs i := by
 simp [zA, List.getD_eq_getElem?_getD, h]
theorem at_drop (zs : List Int) (m i : Nat) : zA (zs.drop m) i = zA zs (m + i) := by
 simp [zA, List.getD_eq_getElem?_getD, List.getElem?_drop]
theorem at_set (T : List Int) (j i : Nat) (z : Int) (h : j < T.length) : zA (T.set j z) i = if i = j then z else zA T i := by
 unfold zA
 rw [List.getD_eq_getElem?_getD, List.getD_eq_getElem?_getD, List.getElem?_set]
 by_cases e : j = i
 ·subst e; simp [h]
 ·rw [if_neg e, if_neg (fun h => e h.symm)]
theorem at_app (a b : List Int) (i : Nat) : zA (a ++ b) i = if i < a.length then zA a i else zA b (i - a.length) := by
 unfold zA
 rw [List.getD_eq_getElem?_getD, List.getElem?_append]
 split <;> rw [List.getD_eq_getElem?_getD]
theorem at_rep (n i : Nat) : zA (List.replicate n 0) i = 0 := by
 simp only [zA, List.getD_eq_getElem?_getD, List.getElem?_replicate]
 split <;> rfl
theorem ext_at {a b : List Int} (hl : a.length = b.length) (h : ∀ i, i < a.length → zA a i = zA b i) : a = b := by
 refine List.ext_getElem hl fun i h1 h2 => ?_
 have := h i h1
 simpa [zA, List.getD_eq_getElem?_getD, h1, h2] using this
theorem wA_take (zs : List Int) (t : Nat) (h : t ≤ 16) : wA (zs.take 64) t = wA zs t := by
 induction t with
 | zero => rfl
 | succ t ih => simp only [wA]; rw [ih (by omega), at_take _ _ _ (by omega), at_take _ _ _ (by omega), at_take _ _ _ (by omega), at_take _ _ _ (by omega)]
theorem blockV_take (v : V8) (zs : List Int) : blockV v (zs.take 64) = blockV v zs := by
 unfold blockV
 rw [wA_take _ _ (Nat.le_refl _)]
theorem tlE_length (n E : Nat) (T : List Int) (i : Nat) : (tlE n E T i).length = T.length := by
 induction i with
 | zero => rfl
 | succ i ih => simp [tlE, ih]
theorem at_tlE (n E : Nat) (T : List Int) (i j : Nat) (hE : E < T.length) (hi : i ≤ 8) (h8 : 8 ≤ E) : zA (tlE n E T i) j = if E < j + i ∧ j ≤ E then lenC n (E - j) else zA T j := by
 induction i with
 | zero => rw [if_neg (by omega)]; rfl
 | succ i ih =>
  show zA ((tlE n E T i).set (E - i) (lenC n i)) j = _
  rw [at_set _ _ _ _ (by rw [tlE_length]; omega), ih (by omega)]
  by_cases h : j = E - i
  ·rw [if_pos h, if_pos (by omega), show E - j = i by omega]
  ·rw [if_neg h]
   by_cases h2 : E < j + i ∧ j ≤ E
   ·rw [if_pos h2, if_pos (by omega)]
   ·rw [if_neg h2, if_neg (by omega)]
theorem at_lenL (n t s : Nat) (h : s < t) : zA (lenL n t) s = lenC n (7 - s) := by
 induction t with
 | zero => omega
 | succ t ih =>
  show zA (lenL n t ++ [lenC n (7 - t)]) s = _
  rw [at_app, lenL_length]
  by_cases h2 : s < t
  ·rw [if_pos h2, ih h2]
  ·rw [if_neg h2, show s = t by omega, Nat.sub_self]; rfl
theorem padD_length (zs : List Int) : (padD zs).length = zs.length + 1 + gapN (zs.length + 1) + 8 := by
 simp [padD, lenL_length]; omega
theorem at_pad (zs : List Int) (i : Nat) : zA (padD zs) i = if i < zs.length then zA zs i else if i = zs.length then 128 else if i < zs.length + 1 + gapN (zs.length + 1) then 0 else zA (lenL zs.length 8) (i - (zs.length + 1 + gapN (zs.length + 1))) := by
 unfold padD
 rw [at_app]
 simp only [List.length_append, List.length_replicate, List.length_cons, List.length_nil, Nat.zero_add]
 by_cases h1 : i < zs.length + 1 + gapN (zs.length + 1)
 ·rw [if_pos h1, at_app]
  simp only [List.length_append, List.length_cons, List.length_nil, Nat.zero_add]
  by_cases h2 : i < zs.length + 1
  ·rw [if_pos h2, at_app]
   by_cases h3 : i < zs.length
   ·rw [if_pos h3, if_pos h3]
   ·rw [if_neg h3, if_neg h3, if_pos (by omega), show i - zs.length = 0 by omega]; rfl
  ·rw [if_neg h2, at_rep, if_neg (by omega), if_neg (by omega), if_pos h1]
 ·rw [if_neg h1, if_neg (by omega), if_neg (by omega), if_neg h1]
def blksD (v : V8) (ps : List Int) : Nat → V8
 | 0 => v
 | k + 1 => blockV (blksD v ps k) ((ps.drop (64 * k)).take 64)
def shaD (zs : List Int) : S4 := sumV (blksD H0 (padD zs) ((padD zs).length / 64))
theorem blks_same (v : V8) (zs : List Int) (k : Nat) (h : 64 * k ≤ zs.length) : blksD v (padD zs) k = blksV v zs k := by
 induction k with
 | zero => rfl
 | succ k ih =>
  show blockV (blksD v (padD zs) k) _ = blockV (blksV v zs k) _
  rw [ih (by omega), ← blockV_take _ (zs.drop (64 * k))]
  congr 1
  refine ext_at (by simp [padD_length]; omega) fun i hi => ?_
  have hi' : i < 64 := by rw [List.length_take] at hi; omega
  rw [at_take _ _ _ hi', at_take _ _ _ hi', at_drop, at_drop, at_pad, if_pos (by omega)]
theorem at_tail (n E : Nat) (ms : List Int) (j : Nat) (hE : E < 128) (h8 : 8 ≤ E) (hm : ms.length < 128) : zA (tailE n E ms) j = if E < j + 8 ∧ j ≤ E then lenC n (E - j) else if j = ms.length then 128 else if j < ms.length then zA ms j else 0 := by
 unfold tailE
 have hl : (ms ++ List.replicate (128 - ms.length) 0).length = 128 := by simp; omega
 rw [at_tlE _ _ _ _ _ (by rw [List.length_set, hl]; exact hE) (Nat.le_refl _) h8, at_set _ _ _ _ (by rw [hl]; exact hm), at_app, at_rep]
theorem tail_length (n E : Nat) (ms : List Int) (hm : ms.length < 128) : (tailE n E ms).length = 128 := by
 unfold tailE
 rw [tlE_length]
 simp; omega
theorem sha_same (zs : List Int) : shaA zs = shaD zs := by
 unfold shaA shaD
 generalize hn : zs.length = n
 have hk : 64 * (n / 64) ≤ zs.length := by omega
 have hms : (zs.drop (64 * (n / 64))).length = n % 64 := by rw [List.length_drop]; omega
 rw [padD_length, hn]
 by_cases h : n % 64 < 56
 ·have hg : gapN (n + 1) = 55 - n % 64 := by unfold gapN; omega
  rw [if_pos h, show (n + 1 + gapN (n + 1) + 8) / 64 = n / 64 + 1 by omega]
  unfold shaLo
  congr 1
  show _ = blockV (blksD H0 (padD zs) (n / 64)) _
  rw [blks_same _ _ _ hk]
  congr 1
  refine ext_at (by rw [List.length_take, List.length_take, tail_length _ _ _ (by omega), List.length_drop, padD_length, hn]; omega) fun j hj => ?_
  have hj' : j < 64 := by rw [List.length_take] at hj; omega
  rw [at_take _ _ _ hj', at_take _ _ _ hj', at_drop, at_tail _ _ _ _ (by omega) (by omega) (by omega), at_pad, hn, hms, at_drop]
  by_cases a1 : 63 < j + 8 ∧ j ≤ 63
  ·rw [if_pos a1, if_neg (by omega), if_neg (by omega), if_neg (by omega), at_lenL _ _ _ (by omega)]
   congr 1; omega
  ·rw [if_neg a1]
   by_cases a2 : j = n % 64
   ·rw [if_pos a2, if_neg (by omega), if_pos (by omega)]
   ·rw [if_neg a2]
    by_cases a3 : j < n % 64
    ·rw [if_pos a3, if_pos (by omega)]
    ·rw [if_neg a3, if_neg (by omega), if_neg (by omega), if_pos (by omega)]
 ·have hg : gapN (n + 1) = 119 - n % 64 := by unfold gapN; omega
  rw [if_neg h, show (n + 1 + gapN (n + 1) + 8) / 64 = n / 64 + 1 + 1 by omega]
  unfold shaHi
  congr 1
  show _ = blockV (blockV (blksD H0 (padD zs) (n / 64)) _) _
  rw [blks_same _ _ _ hk]
  have key : ∀ j, j < 128 → zA (tailE n 127 (zs.drop (64 * (n / 64)))) j = zA (padD zs) (64 * (n / 64) + j) := fun j hj => by
   rw [at_tail _ _ _ _ (by omega) (by omega) (by omega), at_pad, hn, hms, at_drop]
   by_cases a1 : 127 < j + 8 ∧ j ≤ 127
   ·rw [if_pos a1, if_neg (by omega), if_neg (by omega), if_neg (by omega), at_lenL _ _ _ (by omega)]
    congr 1; omega
   ·rw [if_neg a1]
    by_cases a2 : j = n % 64
    ·rw [if_pos a2, if_neg (by omega), if_pos (by omega)]
    ·rw [if_neg a2]
     by_cases a3 : j < n % 64
     ·rw [if_pos a3, if_pos (by omega)]
     ·rw [if_neg a3, if_neg (by omega), if_neg (by omega), if_pos (by omega)]
  have hTL := tail_length n 127 (zs.drop (64 * (n / 64))) (by omega)
  have e1 : (tailE n 127 (zs.drop (64 * (n / 64)))).take 64 = ((padD zs).drop (64 * (n / 64))).take 64 := by
   refine ext_at (by rw [List.length_take, List.length_take, hTL, List.length_drop, padD_length, hn]; omega) fun j hj => ?_
   have hj' : j < 64 := by rw [List.length_take] at hj; omega
   rw [at_take _ _ _ hj', at_take _ _ _ hj', at_drop, key _ (by omega)]
  have e2 : (tailE n 127 (zs.drop (64 * (n / 64)))).drop 64 = ((padD zs).drop (64 * (n / 64 + 1))).take 64 := by
   refine ext_at (by rw [List.length_take, List.length_drop, hTL, List.length_drop, padD_length, hn]; omega) fun j hj => ?_
   have hj' : j < 64 := by rw [List.length_drop, hTL] at hj; omega
   rw [at_take _ _ _ hj', at_drop, at_drop, key _ (by omega)]
   congr 1; omega
  rw [e1, e2]
end
section
open Go.RowKit
theorem of_sha2 (p : Option Addr) (n c : Nat) (zs : List Int) (w : World) (hn : zs.length = n) (hnc : n ≤ c) (hnb : n ≤ 9223372036854775807) (hrd : Rd w p zs) (hb : ∀ z ∈ zs, 0 ≤ z ∧ z < 256) (hpr : Primes w) :
  Calls Tryz.prog 75 #[.int .i64 2, .slice p n c] w fun e w' => e = .returned (.tuple #[.agg (shaD zs).arr, .int .i64 0]) ∧ Frm [] w w' := by
 have hfa : Frm [] w (w.alloc (.cells #[.int .u64 0, .int .u64 0, .int .u64 0, .int .u64 0] 29)) := (Frm.refl _ _).alloc _
 have HA := hid (heap_alloc_new w (.cells #[.int .u64 0, .int .u64 0, .int .u64 0, .int .u64 0] 29))
 have HSH := hid (sha_any p n c zs (w.alloc (.cells #[.int .u64 0, .int .u64 0, .int .u64 0, .int .u64 0] 29)) hn hnc hnb (hrd.kept hfa (by simp)) hb (hpr.kept hfa))
 have HFA := hid hfa
 rw [sha_same] at HSH
 clear hrd hb hn hpr hfa hnc hnb
 go_enter Tryz.func75, Tryz.ntmps75
 go_wp2_with fail
 refine HSH.out.mono ?_
 rintro e w6 ⟨rfl, hf6⟩
 have hco := hf6.heap HA.out (by simp)
 obtain ⟨S, hS⟩ := eX (shaD zs)
 rw [hS]
 have HS := hid hS
 unfold S4.arr
 obtain ⟨sb, hsb⟩ := eX (w.heap.size)
 have HSB := hid hsb
 rw [hsb] at hco ⊢
 have e0 : w6.cell? ⟨sb, 0, none⟩ = some (.int .u64 0) := by rw [cell_of_row w6 _ _ _ _ _ hco]; rfl
 have z0 : w6.frozen? ⟨sb, 0, none⟩ = false := fZ 0 hco
 have e1 : w6.cell? ⟨sb, 1, none⟩ = some (.int .u64 0) := by rw [cell_of_row w6 _ _ _ _ _ hco]; rfl
 have z1 : w6.frozen? ⟨sb, 1, none⟩ = false := fZ 1 hco
 have e2 : w6.cell? ⟨sb, 2, none⟩ = some (.int .u64 0) := by rw [cell_of_row w6 _ _ _ _ _ hco]; rfl
 have z2 : w6.frozen? ⟨sb, 2, none⟩ = false := fZ 2 hco
 have e3 : w6.cell? ⟨sb, 3, none⟩ = some (.int .u64 0) := by rw [cell_of_row w6 _ _ _ _ _ hco]; rfl
 have z3 : w6.frozen? ⟨sb, 3, none⟩ = false := fZ 3 hco
 have HS4 := hid (set4 (y0 := .int .u64 S.a) (y1 := .int .u64 S.b) (y2 := .int .u64 S.c) (y3 := .int .u64 S.d) hco)
 have HF6 := hid (HFA.out.trans hf6 (by simp))
 clear hco hf6 hS hsb HSH HA
 go_wp2_with fail
 obtain ⟨h4, f4⟩ := HS4.out
 obtain ⟨wz, hwz⟩ := eX ((((w6.setCell ⟨sb, 0, none⟩ (.int .u64 S.a)).setCell ⟨sb, 1, none⟩ (.int .u64 S.b)).setCell ⟨sb, 2, none⟩ (.int .u64 S.c)).setCell ⟨sb, 3, none⟩ (.int .u64 S.d))
 rw [hwz] at h4 f4 ⊢
 have g0 : wz.cell? ⟨sb, 0, none⟩ = some (.int .u64 S.a) := by rw [cell_of_row wz _ _ _ _ _ h4]; rfl
 have g1 : wz.cell? ⟨sb, 1, none⟩ = some (.int .u64 S.b) := by rw [cell_of_row wz _ _ _ _ _ h4]; rfl
 have g2 : wz.cell? ⟨sb, 2, none⟩ = some (.int .u64 S.c) := by rw [cell_of_row wz _ _ _ _ _ h4]; rfl
 have g3 : wz.cell? ⟨sb, 3, none⟩ = some (.int .u64 S.d) := by rw [cell_of_row wz _ _ _ _ _ h4]; rfl
 refine bodyPost_ret (v := .tuple #[.agg #[.int .u64 S.a, .int .u64 S.b, .int .u64 S.c, .int .u64 S.d], .int .i64 0]) (by simp [results, Tryz.results75, go_sem, g0, g1, g2, g3]) rfl ⟨by rw [HS.out]; rfl, HF6.out.trans f4 (fun i hi hl => by simp at hi; have := HSB.out; omega)⟩
def ofS (kind : Int) (zs : List Int) : S4 × Int := if kind = 1 then (fletch zs, 0) else if kind = 2 then (shaD zs, 0) else (Z4, 20)
end
section
open Go.RowKit
theorem tx_bd (s : ByteArray) : ∀ z ∈ tx s, 0 ≤ z ∧ z < 256 := by
 intro z hz; simp [tx] at hz; obtain ⟨u, _, rfl⟩ := hz; have := u.toNat_lt; omega
theorem readS_err {α : Type} (z : α) (pos : Nat) (err : Int) (r : α × Nat × Int) (h : err ≠ 0) : readS z pos err r = (z, pos, err) := by
 unfold readS; rw [if_pos h]
end
section
open Go.RowKit Go.Lib
theorem FreshW.alloc {w0 w : World} {b : Nat} {room : Int} {s : List Int × Int} {A : List Nat} (h : FreshW w0 w b room s A) (o : Obj) : FreshW w0 (w.alloc o) b room s (w.heap.size :: A) ∧ Keeps A w (w.alloc o) := by
 obtain ⟨fp, h1, h2, h3, h4⟩ := h
 have hf : Frm [] w (w.alloc o) := (Frm.refl _ _).alloc _
 refine ⟨⟨fp, h1.kept hf (by simp), h2.trans hf (by simp), h3, fun k hk => ?_⟩, hf.keeps (fun k hk => ⟨by simp, (h4 k hk).2⟩)⟩
 rcases List.mem_cons.1 hk with rfl | hk
 ·exact ⟨fun hm => absurd (h1.lt _ hm) (Nat.lt_irrefl _), by simp⟩
 ·exact ⟨(h4 k hk).1, Nat.lt_of_lt_of_le (h4 k hk).2 hf.size⟩
theorem FreshW.less {w0 w : World} {b : Nat} {room : Int} {s : List Int × Int} {A B : List Nat} (h : FreshW w0 w b room s A) (hB : ∀ k ∈ B, k ∈ A) : FreshW w0 w b room s B := by
 obtain ⟨fp, h1, h2, h3, h4⟩ := h
 exact ⟨fp, h1, h2, h3, fun k hk => h4 k (hB k hk)⟩
theorem Keeps.trans {A : List Nat} {u v w : World} (h : Keeps A u v) (k : Keeps A v w) : Keeps A u w := fun x hx => (k x hx).trans (h x hx)
theorem Keeps.less {A B : List Nat} {u v : World} (h : Keeps A u v) (hB : ∀ k ∈ B, k ∈ A) : Keeps B u v := fun x hx => h x (hB x hx)
theorem num_fit (w0 w : World) (b : Nat) (room : Int) (zs : List Int) (A : List Nat) (hw : FreshW w0 w b room (zs, 0) A) (hr1 : room ≤ 2147483647) (n : Int) (k : Nat) (hn : 0 ≤ n) (hk1 : 1 ≤ k) (hk8 : k ≤ 8) (hfit : n < 2 ^ (8 * k)) (hz : (zs.length : Int) + k ≤ room) :
  Calls Tryz.prog 27 #[.pointer (some ⟨b, 0, none⟩), .int .u64 n, .int .i64 (k : Int)] w fun e w' => e = .returned (.tuple #[]) ∧ FreshW w0 w' b room (zs ++ le n k, 0) A ∧ Keeps A w w' := by
 have h2 : (2 : Int) ^ (8 * k) ≤ 18446744073709551616 := by
  have hk : k = 1 ∨ k = 2 ∨ k = 3 ∨ k = 4 ∨ k = 5 ∨ k = 6 ∨ k = 7 ∨ k = 8 := by omega
  rcases hk with rfl | rfl | rfl | rfl | rfl | rfl | rfl | rfl <;> decide
 have h := numF_any w0 w b room (zs, 0) A hw (by omega) hr1 (by simp only; omega) n (k : Int) hn (by omega) (by omega) (by omega)
 have e : stepW room (zs, 0) (numF n (k : Int)) = (zs ++ le n k, 0) := by
  have h0 : n / 2 ^ (8 * k) = 0 := Int.ediv_eq_zero_of_lt hn hfit
  unfold numF
  rw [if_neg (by omega), Int.toNat_natCast, if_neg (by rw [h0]; simp)]
  unfold stepW
  simp only [ne_eq, not_true, if_false]
  rw [if_neg (by rw [le_length]; omega)]
 rw [e] at h
 exact h
theorem bytes_fit (w0 w : World) (b : Nat) (room : Int) (zs : List Int) (A : List Nat) (hw : FreshW w0 w b room (zs, 0) A) (hr1 : room ≤ 2147483647) (p : Option Addr) (ns : List Int) (c : Nat) (hc : ns = [] → p = none → c = 0) (hrd : Rd w p ns) (hz : (zs.length : Int) + ns.length ≤ room) :
  Calls Tryz.prog 28 #[.pointer (some ⟨b, 0, none⟩), .slice p ns.length c] w fun e w' => e = .returned (.tuple #[]) ∧ FreshW w0 w' b room (zs ++ ns, 0) A ∧ Keeps A w w' := by
 have h := bytesF_any w0 w b room (zs, 0) A hw (by omega) hr1 (by simp only; omega) p ns c (by omega) hc hrd
 have e : stepW room (zs, 0) (ns, 0) = (zs ++ ns, 0) := by
  unfold stepW
  simp only [ne_eq, not_true, if_false]
  rw [if_neg (by omega)]
 rw [e] at h
 exact h
def txF (s : ByteArray) : List Int := le s.size 2 ++ tx s
theorem txF_len (s : ByteArray) : (txF s).length = 2 + s.size := by unfold txF; rw [List.length_append, le_length, tx_length]
theorem text_fit (w0 w : World) (b : Nat) (room : Int) (zs : List Int) (A : List Nat) (hw : FreshW w0 w b room (zs, 0) A) (hr1 : room ≤ 2147483647) (t : ByteArray) (ht : t.size ≤ 65535) (hz : (zs.length : Int) + 2 + t.size ≤ room) :
  Calls Tryz.prog 92 #[.pointer (some ⟨b, 0, none⟩), .string t] w fun e w' => e = .returned (.tuple #[]) ∧ FreshW w0 w' b room (zs ++ txF t, 0) A ∧ Keeps A w w' := by
 have h := textF_any w0 w b room (zs, 0) A hw (by omega) hr1 (by simp only; omega) t (by unfold maxLen; omega)
 have et : textF t = (txF t, 0) := by unfold textF; rw [if_neg (by omega)]; rfl
 have e : stepW room (zs, 0) (textF t) = (zs ++ txF t, 0) := by
  rw [et]
  unfold stepW
  simp only [ne_eq, not_true, if_false]
  rw [if_neg (by rw [txF_len]; omega)]
 rw [e] at h
 exact h
theorem FreshW.with_ {w0 w : World} {b : Nat} {room : Int} {s : List Int × Int} {A : List Nat} (h : FreshW w0 w b room s []) (hA : ∀ k ∈ A, k < w0.heap.size) : FreshW w0 w b room s A := by
 obtain ⟨fp, h1, h2, h3, _⟩ := h
 exact ⟨fp, h1, h2, h3, fun k hk => ⟨fun hm => by have := h3 k hm; have := hA k hk; omega, Nat.lt_of_lt_of_le (hA k hk) h2.size⟩⟩
end
end Go.Proofs.YtajfjkfnmmfhmaaGreatDoor
