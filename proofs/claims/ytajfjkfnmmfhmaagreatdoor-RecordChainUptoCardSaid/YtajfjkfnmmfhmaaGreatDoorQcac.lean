/- Contracts of package sum: a block of SHA-256. -/
import Derived.StillTailTactics
import Derived.BigRegion
import Derived.Test.YtajfjkfnmmfhmaaGreatDoorQcab
import Derived.Deep.Cut
import Derived.Test.YtajfjkfnmmfhmaaGreatDoorQcaa
import Derived.Lib.Bytealg
import Derived.Laws.MakeOwn
namespace Go.Proofs.YtajfjkfnmmfhmaaGreatDoor
set_option maxRecDepth 100000
set_option maxHeartbeats 25600000
section
open Go.RowKit
structure V8 where
 a : Int
 b : Int
 c : Int
 d : Int
 e : Int
 f : Int
 g : Int
 h : Int
def V8.arr (v : V8) : Array Value := #[.int .u32 v.a, .int .u32 v.b, .int .u32 v.c, .int .u32 v.d, .int .u32 v.e, .int .u32 v.f, .int .u32 v.g, .int .u32 v.h]
def zA (zs : List Int) (i : Nat) : Int := zs.getD i 0
def wA (zs : List Int) : Nat → List Int
 | 0 => List.replicate 64 0
 | t + 1 => (wA zs t).set t (lowW (zA zs (4 * t + 3)) (zA zs (4 * t + 2)) (zA zs (4 * t + 1)) (zA zs (4 * t)))
def sg0 (x : Int) : Int := bits .xor .u32 (bits .xor .u32 (rorI x 7) (rorI x 18)) (x / 8)
def sg1 (x : Int) : Int := bits .xor .u32 (bits .xor .u32 (rorI x 17) (rorI x 19)) (x / 1024)
def wN (c : List Int) (t : Nat) : Int := (zA c (t - 16) + sg0 (zA c (t - 15)) + zA c (t - 7) + sg1 (zA c (t - 2))) % 4294967296
def wB (c : List Int) : Nat → List Int
 | 0 => c
 | t + 1 => (wB c t).set (16 + t) (wN (wB c t) (16 + t))
def wv (l : List Int) : List Value := l.map (fun z => Value.int .u32 z)
structure StB (w0 w : World) (x y : Nat) (v : V8) (cur : List Int) : Prop where
 h0 : w.heap[x]? = some (.cells v.arr 124 (0, 0))
 h1 : w.heap[x + 1]? = some (.cells #[.int .u32 0, .int .u32 0, .int .u32 0, .int .u32 0, .int .u32 0, .int .u32 0, .int .u32 0, .int .u32 0] 124 (0, 0))
 h2 : w.heap[y]? = some (.cells (wv cur).toArray 130 (0, 0))
 len : cur.length = 64
 hy : x + 2 = y
 fr : Frm [] w0 w
theorem StB.drewN {w0 w : World} {x y : Nat} {v : V8} {cur : List Int} (h : StB w0 w x y v cur) (n : Nat) : StB w0 (w.drewN n) x y v cur :=
 have f : Frm [] w (w.drewN n) := (Frm.refl [] w).drewN n
 ⟨f.heap h.h0 (by simp), f.heap h.h1 (by simp), f.heap h.h2 (by simp), h.len, h.hy, h.fr.drewN n⟩
theorem StB.drew {w0 w : World} {x y : Nat} {v : V8} {cur : List Int} (h : StB w0 w x y v cur) : StB w0 w.drew x y v cur := h.drewN 1
theorem StB.set {w0 w : World} {x y : Nat} {v : V8} {cur : List Int} (h : StB w0 w x y v cur) (hx : w0.heap.size ≤ x) (t : Nat) (z : Int) : StB w0 (w.setCell ⟨y, t, none⟩ (.int .u32 z)) x y v (cur.set t z) := by
 have f : Frm [y] w (w.setCell ⟨y, t, none⟩ (.int .u32 z)) := (Frm.refl _ _).setCell _ _ (by simp)
 have e := h.hy
 refine ⟨f.heap h.h0 (by simp; omega), f.heap h.h1 (by simp; omega), ?_, by simp [h.len], e, h.fr.trans f (fun i hi hl => by simp at hi; omega)⟩
 rw [heap_setCell_same w y t _ _ _ h.h2]
 congr 2
 apply Array.ext'
 simp [wv, List.map_set]
theorem StB.at {w0 w : World} {x y : Nat} {v : V8} {cur : List Int} (h : StB w0 w x y v cur) (t : Nat) (ht : t < 64) : w.cell? ⟨y, t, none⟩ = some (.int .u32 (zA cur t)) := by
 rw [cell_of_row w _ _ _ _ _ h.h2]
 have := h.len
 simp [wv, zA, List.getD_eq_getElem?_getD, show t < cur.length by omega]
theorem StB.free {w0 w : World} {x y : Nat} {v : V8} {cur : List Int} (h : StB w0 w x y v cur) (t : Nat) : w.frozen? ⟨y, t, none⟩ = false := fZ t h.h2
def t1F (r : V8) (k w : Int) : Int := ((r.h + bits .xor .u32 (bits .xor .u32 (rorI r.e 6) (rorI r.e 11)) (rorI r.e 25) + bits .xor .u32 (bits .and .u32 r.e r.f) (bits .and .u32 (bits .xor .u32 (if IntKind.u32.signed = true then -1 else IntKind.u32.max) r.e) r.g) + k) % 4294967296 + w) % 4294967296
def t2F (r : V8) : Int := (bits .xor .u32 (bits .xor .u32 (rorI r.a 2) (rorI r.a 13)) (rorI r.a 22) + bits .xor .u32 (bits .xor .u32 (bits .and .u32 r.a r.b) (bits .and .u32 r.a r.c)) (bits .and .u32 r.b r.c)) % 4294967296
def rnd (r : V8) (k w : Int) : V8 := ⟨(t1F r k w + t2F r) % 4294967296, r.a, r.b, r.c, (r.d + t1F r k w) % 4294967296, r.e, r.f, r.g⟩
def PR : List Int := [1116352408, 1899447441, 3049323471, 3921009573, 961987163, 1508970993, 2453635748, 2870763221, 3624381080, 310598401, 607225278, 1426881987, 1925078388, 2162078206, 2614888103, 3248222580, 3835390401, 4022224774, 264347078, 604807628, 770255983, 1249150122, 1555081692, 1996064986, 2554220882, 2821834349, 2952996808, 3210313671, 3336571891, 3584528711, 113926993, 338241895, 666307205, 773529912, 1294757372, 1396182291, 1695183700, 1986661051, 2177026350, 2456956037, 2730485921, 2820302411, 3259730800, 3345764771, 3516065817, 3600352804, 4094571909, 275423344, 430227734, 506948616, 659060556, 883997877, 958139571, 1322822218, 1537002063, 1747873779, 1955562222, 2024104815, 2227730452, 2361852424, 2428436474, 2756734187, 3204031479, 3329325298]
def Primes (w : World) : Prop := ∀ t, t < 64 → w.cell? ⟨2, t, none⟩ = some (.int .u32 (zA PR t))
theorem Primes.kept {w w' : World} (h : Primes w) (hf : Frm [] w w') : Primes w' := fun t ht =>
 (hf.cell (p := ⟨2, t, none⟩) (World.block_lt_of_cell? w _ (h t ht)) (by simp)).trans (h t ht)
def rnds (ws : List Int) (v : V8) : Nat → V8
 | 0 => v
 | t + 1 => rnd (rnds ws v t) (zA PR t) (zA ws t)
def addV (v r : V8) : V8 := ⟨(v.a + r.a) % 4294967296, (v.b + r.b) % 4294967296, (v.c + r.c) % 4294967296, (v.d + r.d) % 4294967296, (v.e + r.e) % 4294967296, (v.f + r.f) % 4294967296, (v.g + r.g) % 4294967296, (v.h + r.h) % 4294967296⟩
def blockV (v : V8) (zs : List Int) : V8 := addV v (rnds (wB (wA zs 16) 48) v 64)
theorem block_any (v : V8) (p : Option Addr) (n c : Nat) (zs : List Int) (w : World) (hn : zs.length = n) (h64 : 64 ≤ n) (hnb : n ≤ 9223372036854775807) (hrd : Rd w p zs) (hb : ∀ z ∈ zs, 0 ≤ z ∧ z < 256) (hpr : Primes w) :
  Calls Tryz.prog 122 #[.agg v.arr, .slice p n c] w fun e w' => e = .returned (.agg (blockV v zs).arr) ∧ Frm [] w w' := by
 have HRD := hid hrd
 have HZB := hid hb
 have HN := hid hn
 have HPR := hid hpr
 have hst : StB w (((w.alloc (.cells v.arr 124)).alloc (.cells #[.int .u32 0, .int .u32 0, .int .u32 0, .int .u32 0, .int .u32 0, .int .u32 0, .int .u32 0, .int .u32 0] 124)).alloc (.cells (wv (List.replicate 64 0)).toArray 130)) w.heap.size (w.heap.size + 2) v (List.replicate 64 0) := by
  have f1 := (Frm.refl [] w).alloc (.cells v.arr 124)
  have f2 := (Frm.refl [] (w.alloc (.cells v.arr 124))).alloc (.cells #[.int .u32 0, .int .u32 0, .int .u32 0, .int .u32 0, .int .u32 0, .int .u32 0, .int .u32 0, .int .u32 0] 124)
  have f3 := (Frm.refl [] ((w.alloc (.cells v.arr 124)).alloc (.cells #[.int .u32 0, .int .u32 0, .int .u32 0, .int .u32 0, .int .u32 0, .int .u32 0, .int .u32 0, .int .u32 0] 124))).alloc (.cells (wv (List.replicate 64 0)).toArray 130)
  refine ⟨f3.heap (f2.heap (heap_alloc_new _ _) (by simp)) (by simp), f3.heap ?_ (by simp), ?_, by simp, rfl, (f1.trans f2 (by simp)).trans f3 (by simp)⟩
  ·exact heap_alloc_to _ _ (by simp)
  ·exact heap_alloc_to _ _ (by simp)
 have HST := hid hst
 clear hrd hb hn hst hpr
 unfold V8.arr at HST ⊢
 go_enter Tryz.func122, Tryz.ntmps122
 go_wp2_with fail
 generalize hxb : w.heap.size + 1 + 1 = xb
 have hxb2 : w.heap.size + 2 = xb := hxb
 rw [hxb2] at HST
 clear hxb hxb2
 go_loopw [21] (fun i wr => ∃ t : Nat, t ≤ 16 ∧ i = .int .i64 t ∧ Hid (StB w wr w.heap.size xb v (wA zs t))) (fun i _ => 16 - (intOf i).toNat)
 case atStart => exact ⟨0, by omega, rfl, HST⟩
 case round =>
  clear HST
  obtain ⟨t, ht, rfl, hst⟩ := hrel
  by_cases hlt : t < 16
  ·have hz3 := HZB.out (zA zs (4 * t + 3))
   have rd : ∀ i, i < n → ∃ g o, p = some ⟨g, o, none⟩ ∧ wr.cell? ⟨g, o + i, none⟩ = some (.int .u8 (zA zs i)) ∧ (0 ≤ zA zs i ∧ zA zs i < 256) := fun i hi => by
    obtain ⟨g, o, e1, e2⟩ := rd_byte (i := i) (HRD.out.kept hst.out.fr (by simp)) (by rw [HN.out]; exact hi)
    refine ⟨g, o, e1, e2, HZB.out _ ?_⟩
    unfold zA
    rw [List.getD_eq_getElem?_getD, List.getElem?_eq_getElem (by rw [HN.out]; exact hi)]
    exact List.getElem_mem _
   obtain ⟨g, o, rfl, c0, b0⟩ := rd (4 * t) (by omega)
   obtain ⟨_, _, e1, c1, b1⟩ := rd (4 * t + 1) (by omega)
   obtain ⟨_, _, e2, c2, b2⟩ := rd (4 * t + 2) (by omega)
   obtain ⟨_, _, e3, c3, b3⟩ := rd (4 * t + 3) (by omega)
   simp only [Option.some.injEq, Addr.mk.injEq, and_true] at e1 e2 e3
   obtain ⟨rfl, rfl⟩ := e1
   obtain ⟨rfl, rfl⟩ := e2
   obtain ⟨rfl, rfl⟩ := e3
   have HLO := hid (low_any _ _ _ _ wr.drew b3 b2 b1 b0)
   have hnx : (wA zs t).set t (lowW (zA zs (4 * t + 3)) (zA zs (4 * t + 2)) (zA zs (4 * t + 1)) (zA zs (4 * t))) = wA zs (t + 1) := rfl
   have HNX := hid hnx
   generalize zA zs (4 * t) = y0 at c0 HLO HNX
   generalize zA zs (4 * t + 1) = y1 at c1 HLO HNX
   generalize zA zs (4 * t + 2) = y2 at c2 HLO HNX
   generalize zA zs (4 * t + 3) = y3 at c3 HLO HNX
   have cw := hst.out.at t (by omega)
   have fz := hst.out.free t
   have s0 : (0 : Int) ≤ (t : Int) := by omega
   have s1 : (t : Int) < 64 := by omega
   have s2 : (4 * (t : Int)).toNat = 4 * t := by omega
   have s3 : (4 * (t : Int) + 1).toNat = 4 * t + 1 := by omega
   have s4 : (4 * (t : Int) + 2).toNat = 4 * t + 2 := by omega
   have s5 : (4 * (t : Int) + 3).toNat = 4 * t + 3 := by omega
   have i0 : 4 * (t : Int) < (n : Int) := by omega
   have i1 : 4 * (t : Int) + 1 < (n : Int) := by omega
   have i2 : 4 * (t : Int) + 2 < (n : Int) := by omega
   have i3 : 4 * (t : Int) + 3 < (n : Int) := by omega
   have j0 : (0 : Int) ≤ 4 * (t : Int) := by omega
   have j1 : (0 : Int) ≤ 4 * (t : Int) + 1 := by omega
   have j2 : (0 : Int) ≤ 4 * (t : Int) + 2 := by omega
   have j3 : (0 : Int) ≤ 4 * (t : Int) + 3 := by omega
   have k0 : IntKind.i64.wrap (4 * (t : Int)) = 4 * (t : Int) := IntWalk.i64_in _ (by omega)
   have k1 : IntKind.i64.wrap (4 * (t : Int) + 1) = 4 * (t : Int) + 1 := IntWalk.i64_in _ (by omega)
   have k2 : IntKind.i64.wrap (4 * (t : Int) + 2) = 4 * (t : Int) + 2 := IntWalk.i64_in _ (by omega)
   have k3 : IntKind.i64.wrap (4 * (t : Int) + 3) = 4 * (t : Int) + 3 := IntWalk.i64_in _ (by omega)
   clear hz3 rd hnx b0 b1 b2 b3
   go_wp2_with fail
   go_still_tail 26, (by kernel_rfl)
   refine wpStill_step (fun K hK => ?_)
   go_simp
   refine ⟨_, HLO.out, hK _ ?_⟩
   clear hK K
   repeat still_step
   refine wpStill_nil ?_
   change wpList _ _ _ _ _ wr.drew
   have HS4 := hid hst.out.drew
   obtain ⟨w4, hw4⟩ := eX (wr.drew)
   have cw4 : w4.cell? ⟨xb, t, none⟩ = some (.int .u32 (zA (wA zs t) t)) := by rw [← hw4]; exact cw
   have fz4 : w4.frozen? ⟨xb, t, none⟩ = false := by rw [← hw4]; exact fz
   rw [hw4] at HS4 ⊢
   clear hw4 c0 c1 c2 c3 cw fz HLO
   go_wp2_with fail
   go_roundw
   case rel => exact ⟨t + 1, by omega, by go_num, hid (by have h := HS4.out.set (Nat.le_refl _) t (lowW y3 y2 y1 y0); rwa [HNX.out] at h)⟩
   case measure => simp [intOf]; omega
  ·obtain rfl : t = 16 := by omega
   clear hlt
   rw [show ((16 : Nat) : Int) = 16 from rfl]
   go_wp2_with fail
   go_loopw [7] (fun i wr => ∃ t u : Nat, Hid (t = 16 + u) ∧ 16 ≤ t ∧ t ≤ 64 ∧ i = .int .i64 t ∧ Hid (StB w wr w.heap.size xb v (wB (wA zs 16) u))) (fun i _ => 64 - (intOf i).toNat)
   case atStart => exact ⟨16, 0, hid rfl, by omega, by omega, rfl, hst⟩
   case round =>
    clear hst
    obtain ⟨t, u, htu, ht6, ht, rfl, hst⟩ := hrel
    by_cases hlt : t < 64
    ·have hnx : (wB (wA zs 16) u).set t (wN (wB (wA zs 16) u) t) = wB (wA zs 16) (u + 1) := by rw [htu.out]; rfl
     have HNX := hid hnx
     obtain ⟨cur, hcur⟩ := eX (wB (wA zs 16) u)
     rw [hcur] at hst HNX
     have HC : Hid (∀ w', StB w w' w.heap.size xb v cur → w'.cell? ⟨xb, t - 16, none⟩ = some (.int .u32 (zA cur (t - 16))) ∧ w'.cell? ⟨xb, t - 15, none⟩ = some (.int .u32 (zA cur (t - 15))) ∧ w'.cell? ⟨xb, t - 7, none⟩ = some (.int .u32 (zA cur (t - 7))) ∧ w'.cell? ⟨xb, t - 2, none⟩ = some (.int .u32 (zA cur (t - 2))) ∧ w'.cell? ⟨xb, t, none⟩ = some (.int .u32 (zA cur t)) ∧ w'.frozen? ⟨xb, t, none⟩ = false) := hid (fun w' h => ⟨h.at _ (by omega), h.at _ (by omega), h.at _ (by omega), h.at _ (by omega), h.at _ (by omega), h.free t⟩)
     unfold wN sg0 sg1 at HNX
     generalize zA cur (t - 16) = x16 at HC HNX
     generalize zA cur (t - 15) = x15 at HC HNX
     generalize zA cur (t - 7) = x7 at HC HNX
     generalize zA cur (t - 2) = x2 at HC HNX
     generalize zA cur t = xt at HC
     obtain ⟨c16, c15, c7, c2, cw, fz⟩ := HC.out wr hst.out
     have k16 : IntKind.i64.wrap ((t : Int) - 16) = (t : Int) - 16 := IntWalk.i64_in _ (by omega)
     have k15 : IntKind.i64.wrap ((t : Int) - 15) = (t : Int) - 15 := IntWalk.i64_in _ (by omega)
     have k7 : IntKind.i64.wrap ((t : Int) - 7) = (t : Int) - 7 := IntWalk.i64_in _ (by omega)
     have k2 : IntKind.i64.wrap ((t : Int) - 2) = (t : Int) - 2 := IntWalk.i64_in _ (by omega)
     have n16 : ((t : Int) - 16).toNat = t - 16 := by omega
     have n15 : ((t : Int) - 15).toNat = t - 15 := by omega
     have n7 : ((t : Int) - 7).toNat = t - 7 := by omega
     have n2 : ((t : Int) - 2).toNat = t - 2 := by omega
     have a16 : (0 : Int) ≤ (t : Int) - 16 := by omega
     have a15 : (0 : Int) ≤ (t : Int) - 15 := by omega
     have a7 : (0 : Int) ≤ (t : Int) - 7 := by omega
     have a2 : (0 : Int) ≤ (t : Int) - 2 := by omega
     have b16 : (t : Int) - 16 < 64 := by omega
     have b15 : (t : Int) - 15 < 64 := by omega
     have b7 : (t : Int) - 7 < 64 := by omega
     have b2 : (t : Int) - 2 < 64 := by omega
     have s0 : (0 : Int) ≤ (t : Int) := by omega
     have s1 : (t : Int) < 64 := by omega
     clear hnx hcur
     go_wp2_with fail
     go_quiet ((go_at_call 129; refine Calls.quiet_of_same (right_all _ _ rfl _)))
     have HS5 := hid (hst.out.drewN nq)
     obtain ⟨w5, hw5⟩ := eX (wr.drewN nq)
     rw [hw5] at HS5 ⊢
     clear c16 c15 c7 c2 cw fz hw5 hst
     obtain ⟨c16, c15, c7, c2, cw, fz⟩ := HC.out w5 HS5.out
     go_wp2_with fail
     go_quiet ((go_at_call 129; refine Calls.quiet_of_same (right_all _ _ rfl _)))
     have HS6 := hid (HS5.out.drewN nq)
     obtain ⟨w6, hw6⟩ := eX (w5.drewN nq)
     rw [hw6] at HS6 ⊢
     clear c16 c15 c7 c2 cw fz hw6 HS5
     obtain ⟨c16, c15, c7, c2, cw, fz⟩ := HC.out w6 HS6.out
     go_wp2_with fail
     have q16 : (16 : Int) ≤ (t : Int) := by omega
     have q7 : (7 : Int) ≤ (t : Int) := by omega
     go_still_tail 15, (by kernel_rfl)
     change wpList _ _ _ _ _ w6.drew
     have HS7 := hid (HS6.out.drew)
     obtain ⟨w7, hw7⟩ := eX (w6.drew)
     rw [hw7] at HS7 ⊢
     clear c16 c15 c7 c2 cw fz hw7 HS6
     obtain ⟨_, _, _, _, cw, fz⟩ := HC.out w7 HS7.out
     go_wp2_with fail
     go_roundw
     case rel => exact ⟨t + 1, u + 1, hid (by have := htu.out; omega), by omega, by omega, by go_num, hid (by rw [← HNX.out]; exact HS7.out.set (Nat.le_refl _) t _)⟩
     case measure => simp [intOf]; omega
    ·obtain rfl : t = 64 := by omega
     clear hlt
     obtain rfl : u = 48 := by have := htu.out; omega
     rw [show ((64 : Nat) : Int) = 64 from rfl]
     go_wp2_with fail
     have HH : Hid (∀ w', StB w w' w.heap.size xb v (wB (wA zs 16) 48) → w'.cell? ⟨w.heap.size, 0, none⟩ = some (.int .u32 v.a) ∧ w'.cell? ⟨w.heap.size, 1, none⟩ = some (.int .u32 v.b) ∧ w'.cell? ⟨w.heap.size, 2, none⟩ = some (.int .u32 v.c) ∧ w'.cell? ⟨w.heap.size, 3, none⟩ = some (.int .u32 v.d) ∧ w'.cell? ⟨w.heap.size, 4, none⟩ = some (.int .u32 v.e) ∧ w'.cell? ⟨w.heap.size, 5, none⟩ = some (.int .u32 v.f) ∧ w'.cell? ⟨w.heap.size, 6, none⟩ = some (.int .u32 v.g) ∧ w'.cell? ⟨w.heap.size, 7, none⟩ = some (.int .u32 v.h)) := hid (fun w' h => by
      refine ⟨?_, ?_, ?_, ?_, ?_, ?_, ?_, ?_⟩ <;> rw [cell_of_row w' _ _ _ _ _ h.h0] <;> rfl)
     obtain ⟨e0, e1, e2, e3, e4, e5, e6, e7⟩ := HH.out _ hst.out
     go_quiet (fail)
     have HS8 := hid (hst.out.drewN nq)
     obtain ⟨w8, hw8⟩ := eX (wr.drewN nq)
     rw [hw8] at HS8 ⊢
     clear e0 e1 e2 e3 e4 e5 e6 e7 hw8 hst
     go_wp2_with fail
     obtain ⟨ws, hws⟩ := eX (wB (wA zs 16) 48)
     rw [hws] at HS8 HH
     go_loopw [120, 10, 11, 12, 13, 14, 15, 16, 17] (fun i sa sb sc sd se sf sg sh wr => ∃ (t : Nat) (r : V8), t ≤ 64 ∧ i = .int .i64 t ∧ sa = .int .u32 r.a ∧ sb = .int .u32 r.b ∧ sc = .int .u32 r.c ∧ sd = .int .u32 r.d ∧ se = .int .u32 r.e ∧ sf = .int .u32 r.f ∧ sg = .int .u32 r.g ∧ sh = .int .u32 r.h ∧ Hid (rnds ws v t = r) ∧ Hid (StB w wr w.heap.size xb v ws)) (fun i _ _ _ _ _ _ _ _ _ => 64 - (intOf i).toNat)
     case atStart => exact ⟨0, v, by omega, rfl, rfl, rfl, rfl, rfl, rfl, rfl, rfl, rfl, hid rfl, HS8⟩
     case round =>
      clear HS8
      obtain ⟨t, r, ht, rfl, rfl, rfl, rfl, rfl, rfl, rfl, rfl, rfl, hr, hst⟩ := hrel
      by_cases hlt : t < 64
      ·have cw := hst.out.at t (by omega)
       have cp := (HPR.out.kept hst.out.fr) t hlt
       have s0 : (0 : Int) ≤ (t : Int) := by omega
       have s1 : (t : Int) < 64 := by omega
       go_wp2_with fail
       go_quiet ((go_at_call 129; refine Calls.quiet_of_same (right_all _ _ rfl _)))
       have e1 : ((r.h + bits .xor .u32 (bits .xor .u32 (rorI r.e 6) (rorI r.e 11)) (rorI r.e 25) + bits .xor .u32 (bits .and .u32 r.e r.f) (bits .and .u32 (bits .xor .u32 (if IntKind.u32.signed = true then -1 else IntKind.u32.max) r.e) r.g) + zA PR t) % 4294967296 + zA ws t) % 4294967296 = t1F r (zA PR t) (zA ws t) := rfl
       rw [e1]
       obtain ⟨T1, hT1⟩ := eX (t1F r (zA PR t) (zA ws t))
       rw [hT1]
       have HT1 := hid hT1
       clear e1 hT1
       have HS9 := hid (hst.out.drewN nq)
       obtain ⟨w9, hw9⟩ := eX (wr.drewN nq)
       rw [hw9] at HS9 ⊢
       clear hw9 cw cp hst
       generalize (if IntKind.u32.signed = true then (-1 : Int) else IntKind.u32.max) = MX
       go_wp2_with fail
       refine (right_all _ 2 rfl _).mono ?_
       rintro e w10 ⟨rfl, rfl⟩
       go_wp2_with fail
       refine (right_all _ 13 rfl _).mono ?_
       rintro e w10 ⟨rfl, rfl⟩
       go_wp2_with fail
       refine (right_all _ 22 rfl _).mono ?_
       rintro e w10 ⟨rfl, rfl⟩
       go_wp2_with fail
       go_roundw
       case rel =>
        refine ⟨t + 1, rnd r (zA PR t) (zA ws t), by omega, by go_num, ?_, rfl, rfl, rfl, ?_, rfl, rfl, rfl, hid (by rw [rnds, hr.out]), HS9⟩
        ·rw [rnd, HT1.out]; rfl
        ·rw [rnd, HT1.out]
       case measure => simp [intOf]; omega
      ·obtain rfl : t = 64 := by omega
       clear hlt
       obtain ⟨e0, e1, e2, e3, e4, e5, e6, e7⟩ := HH.out _ hst.out
       have h1 := hst.out.h1
       have o0 : wr.cell? ⟨w.heap.size + 1, 0, none⟩ = some (.int .u32 0) := by rw [cell_of_row wr _ _ _ _ _ h1]; rfl
       have f0 : wr.frozen? ⟨w.heap.size + 1, 0, none⟩ = false := fZ 0 h1
       have o1 : wr.cell? ⟨w.heap.size + 1, 1, none⟩ = some (.int .u32 0) := by rw [cell_of_row wr _ _ _ _ _ h1]; rfl
       have f1 : wr.frozen? ⟨w.heap.size + 1, 1, none⟩ = false := fZ 1 h1
       have o2 : wr.cell? ⟨w.heap.size + 1, 2, none⟩ = some (.int .u32 0) := by rw [cell_of_row wr _ _ _ _ _ h1]; rfl
       have f2 : wr.frozen? ⟨w.heap.size + 1, 2, none⟩ = false := fZ 2 h1
       have o3 : wr.cell? ⟨w.heap.size + 1, 3, none⟩ = some (.int .u32 0) := by rw [cell_of_row wr _ _ _ _ _ h1]; rfl
       have f3 : wr.frozen? ⟨w.heap.size + 1, 3, none⟩ = false := fZ 3 h1
       have o4 : wr.cell? ⟨w.heap.size + 1, 4, none⟩ = some (.int .u32 0) := by rw [cell_of_row wr _ _ _ _ _ h1]; rfl
       have f4 : wr.frozen? ⟨w.heap.size + 1, 4, none⟩ = false := fZ 4 h1
       have o5 : wr.cell? ⟨w.heap.size + 1, 5, none⟩ = some (.int .u32 0) := by rw [cell_of_row wr _ _ _ _ _ h1]; rfl
       have f5 : wr.frozen? ⟨w.heap.size + 1, 5, none⟩ = false := fZ 5 h1
       have o6 : wr.cell? ⟨w.heap.size + 1, 6, none⟩ = some (.int .u32 0) := by rw [cell_of_row wr _ _ _ _ _ h1]; rfl
       have f6 : wr.frozen? ⟨w.heap.size + 1, 6, none⟩ = false := fZ 6 h1
       have o7 : wr.cell? ⟨w.heap.size + 1, 7, none⟩ = some (.int .u32 0) := by rw [cell_of_row wr _ _ _ _ _ h1]; rfl
       have f7 : wr.frozen? ⟨w.heap.size + 1, 7, none⟩ = false := fZ 7 h1
       have HF := hid hst.out.fr
       have HB1 := hid h1
       clear h1 hst
       go_wp2_with fail
       obtain ⟨wz, hwz⟩ := eX ((((((((wr.setCell ⟨w.heap.size + 1, 0, none⟩ (.int .u32 ((v.a + r.a) % 4294967296))).setCell ⟨w.heap.size + 1, 1, none⟩ (.int .u32 ((v.b + r.b) % 4294967296))).setCell ⟨w.heap.size + 1, 2, none⟩ (.int .u32 ((v.c + r.c) % 4294967296))).setCell ⟨w.heap.size + 1, 3, none⟩ (.int .u32 ((v.d + r.d) % 4294967296))).setCell ⟨w.heap.size + 1, 4, none⟩ (.int .u32 ((v.e + r.e) % 4294967296))).setCell ⟨w.heap.size + 1, 5, none⟩ (.int .u32 ((v.f + r.f) % 4294967296))).setCell ⟨w.heap.size + 1, 6, none⟩ (.int .u32 ((v.g + r.g) % 4294967296))).setCell ⟨w.heap.size + 1, 7, none⟩ (.int .u32 ((v.h + r.h) % 4294967296)))
       have hb : wr.heap[w.heap.size + 1]? = some (.cells #[.int .u32 0, .int .u32 0, .int .u32 0, .int .u32 0, .int .u32 0, .int .u32 0, .int .u32 0, .int .u32 0] 124 (0, 0)) := HB1.out
       have hb0 : ((wr.setCell ⟨w.heap.size + 1, 0, none⟩ (.int .u32 ((v.a + r.a) % 4294967296)))).heap[w.heap.size + 1]? = some (.cells #[.int .u32 ((v.a + r.a) % 4294967296), .int .u32 0, .int .u32 0, .int .u32 0, .int .u32 0, .int .u32 0, .int .u32 0, .int .u32 0] 124 (0, 0)) := by rw [heap_setCell_same _ _ 0 _ _ _ hb]; rfl
       have hb1 : (((wr.setCell ⟨w.heap.size + 1, 0, none⟩ (.int .u32 ((v.a + r.a) % 4294967296))).setCell ⟨w.heap.size + 1, 1, none⟩ (.int .u32 ((v.b + r.b) % 4294967296)))).heap[w.heap.size + 1]? = some (.cells #[.int .u32 ((v.a + r.a) % 4294967296), .int .u32 ((v.b + r.b) % 4294967296), .int .u32 0, .int .u32 0, .int .u32 0, .int .u32 0, .int .u32 0, .int .u32 0] 124 (0, 0)) := by rw [heap_setCell_same _ _ 1 _ _ _ hb0]; rfl
       have hb2 : ((((wr.setCell ⟨w.heap.size + 1, 0, none⟩ (.int .u32 ((v.a + r.a) % 4294967296))).setCell ⟨w.heap.size + 1, 1, none⟩ (.int .u32 ((v.b + r.b) % 4294967296))).setCell ⟨w.heap.size + 1, 2, none⟩ (.int .u32 ((v.c + r.c) % 4294967296)))).heap[w.heap.size + 1]? = some (.cells #[.int .u32 ((v.a + r.a) % 4294967296), .int .u32 ((v.b + r.b) % 4294967296), .int .u32 ((v.c + r.c) % 4294967296), .int .u32 0, .int .u32 0, .int .u32 0, .int .u32 0, .int .u32 0] 124 (0, 0)) := by rw [heap_setCell_same _ _ 2 _ _ _ hb1]; rfl
       have hb3 : (((((wr.setCell ⟨w.heap.size + 1, 0, none⟩ (.int .u32 ((v.a + r.a) % 4294967296))).setCell ⟨w.heap.size + 1, 1, none⟩ (.int .u32 ((v.b + r.b) % 4294967296))).setCell ⟨w.heap.size + 1, 2, none⟩ (.int .u32 ((v.c + r.c) % 4294967296))).setCell ⟨w.heap.size + 1, 3, none⟩ (.int .u32 ((v.d + r.d) % 4294967296)))).heap[w.heap.size + 1]? = some (.cells #[.int .u32 ((v.a + r.a) % 4294967296), .int .u32 ((v.b + r.b) % 4294967296), .int .u32 ((v.c + r.c) % 4294967296), .int .u32 ((v.d + r.d) % 4294967296), .int .u32 0, .int .u32 0, .int .u32 0, .int .u32 0] 124 (0, 0)) := by rw [heap_setCell_same _ _ 3 _ _ _ hb2]; rfl
       have hb4 : ((((((wr.setCell ⟨w.heap.size + 1, 0, none⟩ (.int .u32 ((v.a + r.a) % 4294967296))).setCell ⟨w.heap.size + 1, 1, none⟩ (.int .u32 ((v.b + r.b) % 4294967296))).setCell ⟨w.heap.size + 1, 2, none⟩ (.int .u32 ((v.c + r.c) % 4294967296))).setCell ⟨w.heap.size + 1, 3, none⟩ (.int .u32 ((v.d + r.d) % 4294967296))).setCell ⟨w.heap.size + 1, 4, none⟩ (.int .u32 ((v.e + r.e) % 4294967296)))).heap[w.heap.size + 1]? = some (.cells #[.int .u32 ((v.a + r.a) % 4294967296), .int .u32 ((v.b + r.b) % 4294967296), .int .u32 ((v.c + r.c) % 4294967296), .int .u32 ((v.d + r.d) % 4294967296), .int .u32 ((v.e + r.e) % 4294967296), .int .u32 0, .int .u32 0, .int .u32 0] 124 (0, 0)) := by rw [heap_setCell_same _ _ 4 _ _ _ hb3]; rfl
       have hb5 : (((((((wr.setCell ⟨w.heap.size + 1, 0, none⟩ (.int .u32 ((v.a + r.a) % 4294967296))).setCell ⟨w.heap.size + 1, 1, none⟩ (.int .u32 ((v.b + r.b) % 4294967296))).setCell ⟨w.heap.size + 1, 2, none⟩ (.int .u32 ((v.c + r.c) % 4294967296))).setCell ⟨w.heap.size + 1, 3, none⟩ (.int .u32 ((v.d + r.d) % 4294967296))).setCell ⟨w.heap.size + 1, 4, none⟩ (.int .u32 ((v.e + r.e) % 4294967296))).setCell ⟨w.heap.size + 1, 5, none⟩ (.int .u32 ((v.f + r.f) % 4294967296)))).heap[w.heap.size + 1]? = some (.cells #[.int .u32 ((v.a + r.a) % 4294967296), .int .u32 ((v.b + r.b) % 4294967296), .int .u32 ((v.c + r.c) % 4294967296), .int .u32 ((v.d + r.d) % 4294967296), .int .u32 ((v.e + r.e) % 4294967296), .int .u32 ((v.f + r.f) % 4294967296), .int .u32 0, .int .u32 0] 124 (0, 0)) := by rw [heap_setCell_same _ _ 5 _ _ _ hb4]; rfl
       have hb6 : ((((((((wr.setCell ⟨w.heap.size + 1, 0, none⟩ (.int .u32 ((v.a + r.a) % 4294967296))).setCell ⟨w.heap.size + 1, 1, none⟩ (.int .u32 ((v.b + r.b) % 4294967296))).setCell ⟨w.heap.size + 1, 2, none⟩ (.int .u32 ((v.c + r.c) % 4294967296))).setCell ⟨w.heap.size + 1, 3, none⟩ (.int .u32 ((v.d + r.d) % 4294967296))).setCell ⟨w.heap.size + 1, 4, none⟩ (.int .u32 ((v.e + r.e) % 4294967296))).setCell ⟨w.heap.size + 1, 5, none⟩ (.int .u32 ((v.f + r.f) % 4294967296))).setCell ⟨w.heap.size + 1, 6, none⟩ (.int .u32 ((v.g + r.g) % 4294967296)))).heap[w.heap.size + 1]? = some (.cells #[.int .u32 ((v.a + r.a) % 4294967296), .int .u32 ((v.b + r.b) % 4294967296), .int .u32 ((v.c + r.c) % 4294967296), .int .u32 ((v.d + r.d) % 4294967296), .int .u32 ((v.e + r.e) % 4294967296), .int .u32 ((v.f + r.f) % 4294967296), .int .u32 ((v.g + r.g) % 4294967296), .int .u32 0] 124 (0, 0)) := by rw [heap_setCell_same _ _ 6 _ _ _ hb5]; rfl
       have hb7 : (((((((((wr.setCell ⟨w.heap.size + 1, 0, none⟩ (.int .u32 ((v.a + r.a) % 4294967296))).setCell ⟨w.heap.size + 1, 1, none⟩ (.int .u32 ((v.b + r.b) % 4294967296))).setCell ⟨w.heap.size + 1, 2, none⟩ (.int .u32 ((v.c + r.c) % 4294967296))).setCell ⟨w.heap.size + 1, 3, none⟩ (.int .u32 ((v.d + r.d) % 4294967296))).setCell ⟨w.heap.size + 1, 4, none⟩ (.int .u32 ((v.e + r.e) % 4294967296))).setCell ⟨w.heap.size + 1, 5, none⟩ (.int .u32 ((v.f + r.f) % 4294967296))).setCell ⟨w.heap.size + 1, 6, none⟩ (.int .u32 ((v.g + r.g) % 4294967296))).setCell ⟨w.heap.size + 1, 7, none⟩ (.int .u32 ((v.h + r.h) % 4294967296)))).heap[w.heap.size + 1]? = some (.cells #[.int .u32 ((v.a + r.a) % 4294967296), .int .u32 ((v.b + r.b) % 4294967296), .int .u32 ((v.c + r.c) % 4294967296), .int .u32 ((v.d + r.d) % 4294967296), .int .u32 ((v.e + r.e) % 4294967296), .int .u32 ((v.f + r.f) % 4294967296), .int .u32 ((v.g + r.g) % 4294967296), .int .u32 ((v.h + r.h) % 4294967296)] 124 (0, 0)) := by rw [heap_setCell_same _ _ 7 _ _ _ hb6]; rfl
       rw [hwz] at hb7 ⊢
       have hfz : Frm [] w wz := by
        rw [← hwz]
        have h8 : Frm [w.heap.size + 1] wr ((((((((wr.setCell ⟨w.heap.size + 1, 0, none⟩ (.int .u32 ((v.a + r.a) % 4294967296))).setCell ⟨w.heap.size + 1, 1, none⟩ (.int .u32 ((v.b + r.b) % 4294967296))).setCell ⟨w.heap.size + 1, 2, none⟩ (.int .u32 ((v.c + r.c) % 4294967296))).setCell ⟨w.heap.size + 1, 3, none⟩ (.int .u32 ((v.d + r.d) % 4294967296))).setCell ⟨w.heap.size + 1, 4, none⟩ (.int .u32 ((v.e + r.e) % 4294967296))).setCell ⟨w.heap.size + 1, 5, none⟩ (.int .u32 ((v.f + r.f) % 4294967296))).setCell ⟨w.heap.size + 1, 6, none⟩ (.int .u32 ((v.g + r.g) % 4294967296))).setCell ⟨w.heap.size + 1, 7, none⟩ (.int .u32 ((v.h + r.h) % 4294967296))) := ((((((((Frm.refl _ wr).setCell _ _ (by simp)).setCell _ _ (by simp)).setCell _ _ (by simp)).setCell _ _ (by simp)).setCell _ _ (by simp)).setCell _ _ (by simp)).setCell _ _ (by simp)).setCell _ _ (by simp)
        exact HF.out.trans h8 (fun i hi hl => by simp at hi; omega)
       have g0 : wz.cell? ⟨w.heap.size + 1, 0, none⟩ = some (.int .u32 ((v.a + r.a) % 4294967296)) := by rw [cell_of_row wz _ _ _ _ _ hb7]; rfl
       have g1 : wz.cell? ⟨w.heap.size + 1, 1, none⟩ = some (.int .u32 ((v.b + r.b) % 4294967296)) := by rw [cell_of_row wz _ _ _ _ _ hb7]; rfl
       have g2 : wz.cell? ⟨w.heap.size + 1, 2, none⟩ = some (.int .u32 ((v.c + r.c) % 4294967296)) := by rw [cell_of_row wz _ _ _ _ _ hb7]; rfl
       have g3 : wz.cell? ⟨w.heap.size + 1, 3, none⟩ = some (.int .u32 ((v.d + r.d) % 4294967296)) := by rw [cell_of_row wz _ _ _ _ _ hb7]; rfl
       have g4 : wz.cell? ⟨w.heap.size + 1, 4, none⟩ = some (.int .u32 ((v.e + r.e) % 4294967296)) := by rw [cell_of_row wz _ _ _ _ _ hb7]; rfl
       have g5 : wz.cell? ⟨w.heap.size + 1, 5, none⟩ = some (.int .u32 ((v.f + r.f) % 4294967296)) := by rw [cell_of_row wz _ _ _ _ _ hb7]; rfl
       have g6 : wz.cell? ⟨w.heap.size + 1, 6, none⟩ = some (.int .u32 ((v.g + r.g) % 4294967296)) := by rw [cell_of_row wz _ _ _ _ _ hb7]; rfl
       have g7 : wz.cell? ⟨w.heap.size + 1, 7, none⟩ = some (.int .u32 ((v.h + r.h) % 4294967296)) := by rw [cell_of_row wz _ _ _ _ _ hb7]; rfl
       clear hwz hb hb0 hb1 hb2 hb3 hb4 hb5 hb6 hb7
       refine bodyPost_ret (v := .agg #[.int .u32 ((v.a + r.a) % 4294967296), .int .u32 ((v.b + r.b) % 4294967296), .int .u32 ((v.c + r.c) % 4294967296), .int .u32 ((v.d + r.d) % 4294967296), .int .u32 ((v.e + r.e) % 4294967296), .int .u32 ((v.f + r.f) % 4294967296), .int .u32 ((v.g + r.g) % 4294967296), .int .u32 ((v.h + r.h) % 4294967296)]) (by simp [results, Tryz.results122, go_sem, g0, g1, g2, g3, g4, g5, g6, g7]) rfl ⟨?_, hfz⟩
       have hrr := hr.out
       subst hrr
       rw [← hws]
       rfl
end
section
open Go.RowKit Go.Lib
theorem tx_getR (B : ByteArray) (t : Nat) (h : t < B.size) : zA (tx B) t = (B[t].toNat : Int) := by
 have h2 : t < B.data.toList.length := by simpa using h
 unfold zA tx
 rw [List.getD_eq_getElem?_getD, List.getElem?_map, List.getElem?_eq_getElem h2]
 rfl
def okC (i : Nat) (c : Int) : Prop := (97 ≤ c ∧ c ≤ 122) ∨ (48 ≤ c ∧ c ≤ 57) ∨ (i ≠ 0 ∧ (c = 46 ∨ c = 95 ∨ c = 45))
def PartL (l : List Int) : Prop := (1 ≤ l.length ∧ l.length ≤ 24) ∧ ∀ i, i < l.length → okC i (zA l i)
instance (i : Nat) (c : Int) : Decidable (okC i c) := by unfold okC; infer_instance
instance (l : List Int) : Decidable (PartL l) := by unfold PartL; infer_instance
theorem bool_decR {P : Prop} [Decidable P] {x : Bool} (h : x = true ↔ P) : x = decide P := by
 by_cases hp : P
 ·rw [decide_eq_true hp]; exact h.2 hp
 ·rw [decide_eq_false hp]; cases x
  ·rfl
  ·exact absurd (h.1 rfl) hp
theorem partW_any (B : ByteArray) (w : World) :
  Calls Tryz.prog 91 #[.string B] w fun e w' => e = .returned (.bool (decide (PartL (tx B)))) ∧ w' = w := by
 obtain ⟨PO, hPO⟩ : ∃ PO : Ending → World → Prop, (fun e w' => e = .returned (.bool (decide (PartL (tx B)))) ∧ w' = w) = PO := ⟨_, rfl⟩
 rw [hPO]
 have HP : Hid (∀ x, (x = true ↔ PartL (tx B)) → PO (.returned (.bool x)) w) := hid (fun x h => by rw [← hPO]; exact ⟨by rw [bool_decR h], rfl⟩)
 have HL : Hid ((tx B).length = B.size) := hid (tx_length B)
 have HG : Hid (∀ t (h : t < B.size), zA (tx B) t = (B[t].toNat : Int)) := hid (fun t h => tx_getR B t h)
 clear hPO
 go_enter Tryz.func91, Tryz.ntmps91
 by_cases h1 : B.size < 1
 case pos =>
  have i1 : (B.size : Int) < 1 := by omega
  go_wp2_with fail
  try go_returns
  exact HP.out _ (by simp; intro h; have := h.1.1; have := HL.out; omega)
 by_cases h2 : 24 < B.size
 case pos =>
  have i1 : ¬ (B.size : Int) < 1 := by omega
  have i2 : (24 : Int) < (B.size : Int) := by omega
  go_wp2_with fail
  try go_returns
  exact HP.out _ (by simp; intro h; have := h.1.2; have := HL.out; omega)
 have i1 : ¬ (B.size : Int) < 1 := by omega
 have i2 : ¬ (24 : Int) < (B.size : Int) := by omega
 go_wp2_with fail
 go_loop [2, 16] (fun r i => ∃ t : Nat, t ≤ B.size ∧ r = .bool false ∧ i = .int .i64 (t : Int) ∧ Hid (∀ j, j < t → okC j (zA (tx B) j))) (fun _ i => B.size - (intOf i).toNat)
 case atStart => exact ⟨0, Nat.zero_le _, rfl, rfl, hid (fun j hj => by omega)⟩
 case round =>
  obtain ⟨t, ht, rfl, rfl, hok⟩ := hrel
  have HOK := hid hok.out
  clear hok
  by_cases hlt : t < B.size
  case neg =>
   obtain rfl : t = B.size := by omega
   go_wp2_with fail
   try go_returns
   exact HP.out _ (by simp; exact ⟨by have := HL.out; omega, fun i hi => HOK.out i (by rw [← HL.out]; exact hi)⟩)
  have t1 : (t : Int) < (B.size : Int) := by omega
  have hb := B[t].toNat_lt
  have HNX : Hid (okC t (B[t].toNat : Int) → ∀ j, j < t + 1 → okC j (zA (tx B) j)) := hid (fun h j hj => by
   by_cases hj2 : j < t
   ·exact HOK.out j hj2
   ·obtain rfl : j = t := by omega
    rw [HG.out j hlt]; exact h)
  have HBD : Hid (PartL (tx B) → okC t (B[t].toNat : Int)) := hid (fun h => by rw [← HG.out t hlt]; exact h.2 t (by rw [HL.out]; exact hlt))
  clear HG HOK
  by_cases a1 : 97 ≤ B[t].toNat ∧ B[t].toNat ≤ 122
  case pos =>
   have i0 : (97 : Int) ≤ (B[t].toNat : Int) := by omega
   have i1 : (B[t].toNat : Int) ≤ 122 := by omega
   have HK : Hid (okC t (B[t].toNat : Int)) := hid (by unfold okC; omega)
   try clear a0
   try clear a5
   try clear a6
   go_wp2_with fail
   go_round
   case rel => exact ⟨t + 1, by omega, rfl, by go_num, hid (HNX.out HK.out)⟩
   case measure => simp [intOf] <;> omega
  by_cases a2 : 48 ≤ B[t].toNat ∧ B[t].toNat ≤ 57
  case pos =>
   have i0 : ¬ (97 : Int) ≤ (B[t].toNat : Int) := by omega
   have i1 : (48 : Int) ≤ (B[t].toNat : Int) := by omega
   have i2 : (B[t].toNat : Int) ≤ 57 := by omega
   have HK : Hid (okC t (B[t].toNat : Int)) := hid (by unfold okC; omega)
   try clear a0
   try clear a5
   try clear a6
   go_wp2_with fail
   go_round
   case rel => exact ⟨t + 1, by omega, rfl, by go_num, hid (HNX.out HK.out)⟩
   case measure => simp [intOf] <;> omega
  by_cases a3 : 122 < B[t].toNat
  case pos =>
   by_cases a0 : t = 0
   case pos =>
    have i0 : (97 : Int) ≤ (B[t].toNat : Int) := by omega
    have i1 : ¬ (B[t].toNat : Int) ≤ 122 := by omega
    have i2 : (48 : Int) ≤ (B[t].toNat : Int) := by omega
    have i3 : ¬ (B[t].toNat : Int) ≤ 57 := by omega
    have i4 : ((t : Int) == 0) = true := by simp; omega
    have HK : Hid (¬ okC t (B[t].toNat : Int)) := hid (by unfold okC; omega)
    try clear a0
    try clear a5
    try clear a6
    go_wp2_with fail
    try go_returns
    exact HP.out _ (by simp; exact fun h => HK.out (HBD.out h))
   have i0 : (97 : Int) ≤ (B[t].toNat : Int) := by omega
   have i1 : ¬ (B[t].toNat : Int) ≤ 122 := by omega
   have i2 : (48 : Int) ≤ (B[t].toNat : Int) := by omega
   have i3 : ¬ (B[t].toNat : Int) ≤ 57 := by omega
   have i4 : ((t : Int) == 0) = false := by simp; omega
   have i5 : ((B[t].toNat : Int) != 46) = true := by simp; omega
   have i6 : ((B[t].toNat : Int) != 95) = true := by simp; omega
   have i7 : ((B[t].toNat : Int) != 45) = true := by simp; omega
   have HK : Hid (¬ okC t (B[t].toNat : Int)) := hid (by unfold okC; omega)
   try clear a0
   try clear a5
   try clear a6
   go_wp2_with fail
   try go_returns
   exact HP.out _ (by simp; exact fun h => HK.out (HBD.out h))
  by_cases a4 : B[t].toNat < 48
  case pos =>
   by_cases a0 : t = 0
   case pos =>
    have i0 : ¬ (97 : Int) ≤ (B[t].toNat : Int) := by omega
    have i1 : ¬ (48 : Int) ≤ (B[t].toNat : Int) := by omega
    have i2 : ((t : Int) == 0) = true := by simp; omega
    have HK : Hid (¬ okC t (B[t].toNat : Int)) := hid (by unfold okC; omega)
    try clear a0
    try clear a5
    try clear a6
    go_wp2_with fail
    try go_returns
    exact HP.out _ (by simp; exact fun h => HK.out (HBD.out h))
   by_cases a5 : B[t].toNat = 46
   case pos =>
    have i0 : ¬ (97 : Int) ≤ (B[t].toNat : Int) := by omega
    have i1 : ¬ (48 : Int) ≤ (B[t].toNat : Int) := by omega
    have i2 : ((t : Int) == 0) = false := by simp; omega
    have i3 : ((B[t].toNat : Int) != 46) = false := by simp; omega
    have HK : Hid (okC t (B[t].toNat : Int)) := hid (by unfold okC; omega)
    try clear a0
    try clear a5
    try clear a6
    go_wp2_with fail
    go_round
    case rel => exact ⟨t + 1, by omega, rfl, by go_num, hid (HNX.out HK.out)⟩
    case measure => simp [intOf] <;> omega
   by_cases a6 : B[t].toNat = 45
   case pos =>
    have i0 : ¬ (97 : Int) ≤ (B[t].toNat : Int) := by omega
    have i1 : ¬ (48 : Int) ≤ (B[t].toNat : Int) := by omega
    have i2 : ((t : Int) == 0) = false := by simp; omega
    have i3 : ((B[t].toNat : Int) != 46) = true := by simp; omega
    have i4 : ((B[t].toNat : Int) != 95) = true := by simp; omega
    have i5 : ((B[t].toNat : Int) != 45) = false := by simp; omega
    have HK : Hid (okC t (B[t].toNat : Int)) := hid (by unfold okC; omega)
    try clear a0
    try clear a5
    try clear a6
    go_wp2_with fail
    go_round
    case rel => exact ⟨t + 1, by omega, rfl, by go_num, hid (HNX.out HK.out)⟩
    case measure => simp [intOf] <;> omega
   have i0 : ¬ (97 : Int) ≤ (B[t].toNat : Int) := by omega
   have i1 : ¬ (48 : Int) ≤ (B[t].toNat : Int) := by omega
   have i2 : ((t : Int) == 0) = false := by simp; omega
   have i3 : ((B[t].toNat : Int) != 46) = true := by simp; omega
   have i4 : ((B[t].toNat : Int) != 95) = true := by simp; omega
   have i5 : ((B[t].toNat : Int) != 45) = true := by simp; omega
   have HK : Hid (¬ okC t (B[t].toNat : Int)) := hid (by unfold okC; omega)
   try clear a0
   try clear a5
   try clear a6
   go_wp2_with fail
   try go_returns
   exact HP.out _ (by simp; exact fun h => HK.out (HBD.out h))
  by_cases a0 : t = 0
  case pos =>
   have i0 : ¬ (97 : Int) ≤ (B[t].toNat : Int) := by omega
   have i1 : (48 : Int) ≤ (B[t].toNat : Int) := by omega
   have i2 : ¬ (B[t].toNat : Int) ≤ 57 := by omega
   have i3 : ((t : Int) == 0) = true := by simp; omega
   have HK : Hid (¬ okC t (B[t].toNat : Int)) := hid (by unfold okC; omega)
   try clear a0
   try clear a5
   try clear a6
   go_wp2_with fail
   try go_returns
   exact HP.out _ (by simp; exact fun h => HK.out (HBD.out h))
  by_cases a6 : B[t].toNat = 95
  case pos =>
   have i0 : ¬ (97 : Int) ≤ (B[t].toNat : Int) := by omega
   have i1 : (48 : Int) ≤ (B[t].toNat : Int) := by omega
   have i2 : ¬ (B[t].toNat : Int) ≤ 57 := by omega
   have i3 : ((t : Int) == 0) = false := by simp; omega
   have i4 : ((B[t].toNat : Int) != 46) = true := by simp; omega
   have i5 : ((B[t].toNat : Int) != 95) = false := by simp; omega
   have HK : Hid (okC t (B[t].toNat : Int)) := hid (by unfold okC; omega)
   try clear a0
   try clear a5
   try clear a6
   go_wp2_with fail
   go_round
   case rel => exact ⟨t + 1, by omega, rfl, by go_num, hid (HNX.out HK.out)⟩
   case measure => simp [intOf] <;> omega
  have i0 : ¬ (97 : Int) ≤ (B[t].toNat : Int) := by omega
  have i1 : (48 : Int) ≤ (B[t].toNat : Int) := by omega
  have i2 : ¬ (B[t].toNat : Int) ≤ 57 := by omega
  have i3 : ((t : Int) == 0) = false := by simp; omega
  have i4 : ((B[t].toNat : Int) != 46) = true := by simp; omega
  have i5 : ((B[t].toNat : Int) != 95) = true := by simp; omega
  have i6 : ((B[t].toNat : Int) != 45) = true := by simp; omega
  have HK : Hid (¬ okC t (B[t].toNat : Int)) := hid (by unfold okC; omega)
  try clear a0
  try clear a5
  try clear a6
  go_wp2_with fail
  try go_returns
  exact HP.out _ (by simp; exact fun h => HK.out (HBD.out h))
end
section
open Go.RowKit Go.Lib
def PrnL (l : List Int) : Prop := ∀ i, i < l.length → 32 ≤ zA l i ∧ zA l i ≤ 126
def ValL (l : List Int) : Prop := (1 ≤ l.length ∧ l.length ≤ 64) ∧ PrnL l
instance (l : List Int) : Decidable (PrnL l) := by unfold PrnL; infer_instance
instance (l : List Int) : Decidable (ValL l) := by unfold ValL; infer_instance
theorem printed_any (B : ByteArray) (hB : B.size ≤ 9223372036854775807) (w : World) :
  Calls Tryz.prog 117 #[.string B] w fun e w' => e = .returned (.bool (decide (PrnL (tx B)))) ∧ w' = w := by
 obtain ⟨PO, hPO⟩ : ∃ PO : Ending → World → Prop, (fun e w' => e = .returned (.bool (decide (PrnL (tx B)))) ∧ w' = w) = PO := ⟨_, rfl⟩
 rw [hPO]
 have HP : Hid (∀ x, (x = true ↔ PrnL (tx B)) → PO (.returned (.bool x)) w) := hid (fun x h => by rw [← hPO]; exact ⟨by rw [bool_decR h], rfl⟩)
 have HL : Hid ((tx B).length = B.size) := hid (tx_length B)
 have HG : Hid (∀ t (h : t < B.size), zA (tx B) t = (B[t].toNat : Int)) := hid (fun t h => tx_getR B t h)
 clear hPO
 go_enter Tryz.func117, Tryz.ntmps117
 go_wp2_with fail
 go_loop [2, 6] (fun r i => ∃ t : Nat, t ≤ B.size ∧ r = .bool false ∧ i = .int .i64 (t : Int) ∧ Hid (∀ j, j < t → 32 ≤ zA (tx B) j ∧ zA (tx B) j ≤ 126)) (fun _ i => B.size - (intOf i).toNat)
 case atStart => exact ⟨0, Nat.zero_le _, rfl, rfl, hid (fun j hj => by omega)⟩
 case round =>
  obtain ⟨t, ht, rfl, rfl, hok⟩ := hrel
  have HOK := hid hok.out
  clear hok
  by_cases hlt : t < B.size
  case neg =>
   obtain rfl : t = B.size := by omega
   go_wp2_with fail
   try go_returns
   exact HP.out _ (by simp; exact fun i hi => HOK.out i (by rw [← HL.out]; exact hi))
  have t1 : (t : Int) < (B.size : Int) := by omega
  have hb := B[t].toNat_lt
  have HNX : Hid (32 ≤ (B[t].toNat : Int) ∧ (B[t].toNat : Int) ≤ 126 → ∀ j, j < t + 1 → 32 ≤ zA (tx B) j ∧ zA (tx B) j ≤ 126) := hid (fun h j hj => by
   by_cases hj2 : j < t
   ·exact HOK.out j hj2
   ·obtain rfl : j = t := by omega
    rw [HG.out j hlt]; exact h)
  have HBD : Hid (PrnL (tx B) → 32 ≤ (B[t].toNat : Int) ∧ (B[t].toNat : Int) ≤ 126) := hid (fun h => by rw [← HG.out t hlt]; exact h t (by rw [HL.out]; exact hlt))
  clear HG HOK
  by_cases a1 : B[t].toNat < 32
  case pos =>
   have i1 : (B[t].toNat : Int) < 32 := by omega
   have HK : Hid (¬ (32 ≤ (B[t].toNat : Int) ∧ (B[t].toNat : Int) ≤ 126)) := hid (by omega)
   go_wp2_with fail
   try go_returns
   exact HP.out _ (by simp; exact fun h => HK.out (HBD.out h))
  by_cases a2 : 126 < B[t].toNat
  case pos =>
   have i1 : ¬ (B[t].toNat : Int) < 32 := by omega
   have i2 : (126 : Int) < (B[t].toNat : Int) := by omega
   have HK : Hid (¬ (32 ≤ (B[t].toNat : Int) ∧ (B[t].toNat : Int) ≤ 126)) := hid (by omega)
   go_wp2_with fail
   try go_returns
   exact HP.out _ (by simp; exact fun h => HK.out (HBD.out h))
  have i1 : ¬ (B[t].toNat : Int) < 32 := by omega
  have i2 : ¬ (126 : Int) < (B[t].toNat : Int) := by omega
  have HK : Hid (32 ≤ (B[t].toNat : Int) ∧ (B[t].toNat : Int) ≤ 126) := hid (by omega)
  go_wp2_with fail
  go_round
  case rel => exact ⟨t + 1, by omega, rfl, by go_num, hid (HNX.out HK.out)⟩
  case measure => simp [intOf] <;> omega
theorem value_anyR (B : ByteArray) (w : World) :
  Calls Tryz.prog 96 #[.string B] w fun e w' => e = .returned (.bool (decide (ValL (tx B)))) ∧ w' = w := by
 obtain ⟨PO, hPO⟩ : ∃ PO : Ending → World → Prop, (fun e w' => e = .returned (.bool (decide (ValL (tx B)))) ∧ w' = w) = PO := ⟨_, rfl⟩
 rw [hPO]
 have HP : Hid (∀ x, (x = true ↔ ValL (tx B)) → PO (.returned (.bool x)) w) := hid (fun x h => by rw [← hPO]; exact ⟨by rw [bool_decR h], rfl⟩)
 have HL : Hid ((tx B).length = B.size) := hid (tx_length B)
 clear hPO
 go_enter Tryz.func96, Tryz.ntmps96
 by_cases h1 : 1 ≤ B.size
 case neg =>
  have i1 : ¬ (1 : Int) ≤ (B.size : Int) := by omega
  go_wp2_with fail
  try go_returns
  exact HP.out _ (by simp; intro h; have := h.1.1; have := HL.out; omega)
 have i1 : (1 : Int) ≤ (B.size : Int) := by omega
 by_cases h2 : B.size ≤ 64
 case neg =>
  have i2 : ¬ (B.size : Int) ≤ 64 := by omega
  go_wp2_with fail
  try go_returns
  exact HP.out _ (by simp; intro h; have := h.1.2; have := HL.out; omega)
 have i2 : (B.size : Int) ≤ 64 := by omega
 have HC := hid (printed_any B (by omega) w)
 go_wp2_with fail
 refine HC.out.mono ?_
 rintro e _ ⟨rfl, rfl⟩
 go_wp2_with fail
 try go_returns
 exact HP.out _ (by simp only [decide_eq_true_eq]; exact ⟨fun h => ⟨by rw [HL.out]; omega, h⟩, fun h => h.2⟩)
theorem within_anyR (n lo hi : Int) (w : World) : Calls Tryz.prog 90 #[.int .i64 n, .int .i64 lo, .int .i64 hi] w fun e w' => e = .returned (.bool (decide (lo ≤ n ∧ n ≤ hi))) ∧ w' = w := by
 go_enter Tryz.func90, Tryz.ntmps90
 by_cases h1 : lo ≤ n
 ·by_cases h2 : n ≤ hi
  ·rw [decide_eq_true ⟨h1, h2⟩]
   go_wp2_with fail
   try go_returns
   exact ⟨rfl, rfl⟩
  ·rw [decide_eq_false (fun h => h2 h.2)]
   go_wp2_with fail
   try go_returns
   exact ⟨rfl, rfl⟩
 ·rw [decide_eq_false (fun h => h1 h.1)]
  go_wp2_with fail
  try go_returns
  exact ⟨rfl, rfl⟩
end
section
open Go.RowKit Go.Lib
theorem countC_any (s : ByteArray) (w : World) :
  Calls Tryz.prog 115 #[.string s, .string ⟨#[47]⟩] w fun e w' => e = .returned (.int .i64 (Lib.countByte s.data.toList 47)) ∧ w' = w := by
 go_enter Tryz.func115, Tryz.ntmps115
 go_wp2_with fail
 rw [run_callFunc_extern Tryz.func126 (by kernel_rfl) (by kernel_rfl) (by kernel_rfl) (e := Extern.BytealgCount.count) (by kernel_rfl), Lib.run_countString]
 simp only [Result.andThen]
 rw [Oper.upon_value]
 go_wp2_with fail
 try go_returns
 exact ⟨rfl, rfl⟩
theorem indexB_any (s : ByteArray) (w : World) :
  Calls Tryz.prog 133 #[.string s, .int .u8 47] w fun e w' => e = .returned (.int .i64 (Lib.indexByte s.data.toList 47)) ∧ w' = w := by
 go_enter Tryz.func133, Tryz.ntmps133
 go_wp2_with fail
 rw [run_callFunc_extern Tryz.func138 (by kernel_rfl) (by kernel_rfl) (by kernel_rfl) (e := Extern.BytealgIndexByte.indexByte) (by kernel_rfl), Lib.run_indexByteString]
 simp only [Result.andThen]
 rw [Oper.upon_value]
 go_wp2_with fail
 try go_returns
 exact ⟨rfl, rfl⟩
theorem indexI_any (s : ByteArray) (w : World) :
  Calls Tryz.prog 130 #[.string s, .string ⟨#[47]⟩] w fun e w' => e = .returned (.int .i64 (Lib.indexByte s.data.toList 47)) ∧ w' = w := by
 have HC := hid (indexB_any s w)
 have hd : s.toList = s.data.toList := Lib.toList_data s
 by_cases hs : s.data.toList = [47]
 case pos =>
  have hb : (([47] : List UInt8) == s.toList) = true := by rw [hd, hs]; rfl
  have HI : Hid (Lib.indexByte s.data.toList 47 = 0) := hid (by rw [hs]; rfl)
  clear hd hs
  go_enter Tryz.func130, Tryz.ntmps130
  go_wp2_with fail
  try go_returns
  refine ⟨?_, rfl⟩
  rw [HI.out]
  rfl
 have hb : (([47] : List UInt8) == s.toList) = false := by rw [hd]; simpa using fun h => hs h.symm
 clear hd hs
 go_enter Tryz.func130, Tryz.ntmps130
 go_wp2_with fail
 refine HC.out.mono ?_
 rintro e _ ⟨rfl, rfl⟩
 go_wp2_with fail
 try go_returns
 exact ⟨rfl, rfl⟩
theorem indexC_any (s : ByteArray) (w : World) :
  Calls Tryz.prog 127 #[.string s, .string ⟨#[47]⟩] w fun e w' => e = .returned (.int .i64 (Lib.indexByte s.data.toList 47)) ∧ w' = w := by
 have HC := hid (indexI_any s w)
 go_enter Tryz.func127, Tryz.ntmps127
 go_wp2_with fail
 refine HC.out.mono ?_
 rintro e _ ⟨rfl, rfl⟩
 go_wp2_with fail
 try go_returns
 exact ⟨rfl, rfl⟩
def rootU (l : List UInt8) : Prop := l.head? = some 47
instance (l : List UInt8) : Decidable (rootU l) := by unfold rootU; infer_instance
theorem hasPre_any (s : ByteArray) (w : World) :
  Calls Tryz.prog 114 #[.string s, .string ⟨#[47]⟩] w fun e w' => e = .returned (.bool (decide (rootU s.data.toList))) ∧ w' = w := by
 obtain ⟨PO, hPO⟩ : ∃ PO : Ending → World → Prop, (fun e w' => e = .returned (.bool (decide (rootU s.data.toList))) ∧ w' = w) = PO := ⟨_, rfl⟩
 rw [hPO]
 have HP : Hid (∀ x, (x = true ↔ rootU s.data.toList) → PO (.returned (.bool x)) w) := hid (fun x h => by rw [← hPO]; exact ⟨by rw [bool_decR h], rfl⟩)
 clear hPO
 go_enter Tryz.func114, Tryz.ntmps114
 by_cases h1 : 1 ≤ s.size
 case neg =>
  have i1 : ¬ (1 : Int) ≤ (s.size : Int) := by omega
  have HN : Hid (¬ rootU s.data.toList) := hid (by
   have : s.data.toList = [] := List.eq_nil_of_length_eq_zero (by have h : s.data.size = s.size := rfl; rw [Array.length_toList]; omega)
   rw [this]; simp [rootU])
  go_wp2_with fail
  try go_returns
  exact HP.out _ (by simp; exact HN.out)
 have i1 : (1 : Int) ≤ (s.size : Int) := by omega
 go_wp2_with fail
 refine HP.out _ ?_
 have e1 : (s.extract 0 1).toList = s.data.toList.take 1 := by rw [Lib.toList_data]; simp
 show ((s.extract 0 1).toList == [47]) = true ↔ _
 rw [e1]
 unfold rootU
 cases h : s.data.toList with
 | nil => simp
 | cons b l => simp
theorem hasPreC_any (s : ByteArray) (w : World) :
  Calls Tryz.prog 94 #[.string s, .string ⟨#[47]⟩] w fun e w' => e = .returned (.bool (decide (rootU s.data.toList))) ∧ w' = w := by
 have HC := hid (hasPre_any s w)
 obtain ⟨x, hx⟩ := eX (decide (rootU s.data.toList))
 rw [hx] at HC ⊢
 clear hx
 go_enter Tryz.func94, Tryz.ntmps94
 go_wp2_with fail
 refine HC.out.mono ?_
 rintro e _ ⟨rfl, rfl⟩
 go_wp2_with fail
 try go_returns
 exact ⟨rfl, rfl⟩
end
section
open Go.RowKit Go.Lib
def splitU : List UInt8 → List (List UInt8)
 | [] => [[]]
 | b :: l => if b = 47 then [] :: splitU l else match splitU l with
  | [] => [[b]]
  | p :: ps => (b :: p) :: ps
theorem splitU_len : ∀ l, (splitU l).length = Lib.countByte l 47 + 1
 | [] => rfl
 | b :: l => by
  have ih := splitU_len l
  unfold splitU Lib.countByte
  unfold Lib.countByte at ih
  by_cases hb : b = 47
  ·subst hb
   rw [if_pos rfl, List.count_cons_self, List.length_cons, ih]
  ·rw [if_neg hb, List.count_cons_of_ne hb]
   cases hs : splitU l with
   | nil => rw [hs] at ih; simp at ih
   | cons p ps => rw [hs] at ih; simpa using ih
theorem splitU_none : ∀ l, Lib.countByte l 47 = 0 → splitU l = [l]
 | [], _ => rfl
 | b :: l, h => by
  unfold Lib.countByte at h
  by_cases hb : b = 47
  ·subst hb; rw [List.count_cons_self] at h; omega
  ·rw [List.count_cons_of_ne hb] at h
   unfold splitU
   rw [if_neg hb, splitU_none l h]
theorem splitU_some : ∀ l, 0 < Lib.countByte l 47 → ∃ m : Nat, Lib.indexByte l 47 = (m : Int) ∧ m < l.length ∧ splitU l = l.take m :: splitU (l.drop (m + 1)) ∧ Lib.countByte l 47 = Lib.countByte (l.drop (m + 1)) 47 + 1
 | [], h => by simp [Lib.countByte] at h
 | b :: l, h => by
  unfold Lib.countByte at h
  by_cases hb : b = 47
  ·subst hb
   refine ⟨0, by unfold Lib.indexByte; simp, by simp, ?_, ?_⟩
   ·conv => lhs; unfold splitU
    rw [if_pos rfl]; rfl
   ·unfold Lib.countByte; rw [List.count_cons_self]; rfl
  ·rw [List.count_cons_of_ne hb] at h
   obtain ⟨m, h1, h2, h3, h4⟩ := splitU_some l h
   refine ⟨m + 1, ?_, by simp; omega, ?_, ?_⟩
   ·unfold Lib.indexByte
    have hbe : (b == 47) = false := by simpa using hb
    rw [hbe, h1]
    have hne : ((m : Int) == -1) = false := by rw [beq_eq_false_iff_ne]; omega
    rw [hne]
    simp
   ·conv => lhs; unfold splitU
    rw [if_neg hb, h3]; rfl
   ·unfold Lib.countByte at h4 ⊢
    rw [List.count_cons_of_ne hb]
    simpa using h4
def stU (p : List UInt8) : Value := .string ⟨p.toArray⟩
theorem stU_str (s : ByteArray) : stU s.data.toList = .string s := by unfold stU; simp
def cellsU (L : List (List UInt8)) (m : Nat) : Array Value := (L.map stU ++ List.replicate m (Value.string ⟨#[]⟩)).toArray
theorem cellsU_put (L : List (List UInt8)) (m : Nat) (p : List UInt8) : (cellsU L (m + 1)).setIfInBounds L.length (stU p) = cellsU (L ++ [p]) m := by
 unfold cellsU
 rw [List.setIfInBounds_toArray]
 congr 1
 rw [List.set_append_right _ _ (by simp)]
 simp [List.replicate_succ]
theorem infoStrU : (Tryz.prog.info? 9).map (fun i => (i.zero, i.size, i.bytes)) = some (some (.string ⟨#[]⟩), 1, 16) := by kernel_rfl
theorem make_strU (k : Nat) (hk : k ≤ 1000000000000) (W : World) : (Instr.makeSlice 133 (.int .i64 (k : Int)) (.int .i64 (k : Int))).run Tryz.prog W = .ok (.slice (some ⟨W.heap.size, 0, none⟩) k k) (W.alloc (.cells (cellsU [] k) 9)) := by
 obtain ⟨i, hi, hz, h1, h2⟩ := info_parts infoStrU
 have h := run_make (P := Tryz.prog) W 133 9 i (.string ⟨#[]⟩) Tryz.underlying133 hi hz .i64 .i64 (k : Int) (k : Int) (by omega) (Int.le_refl _) (by rw [h2]; omega) (by omega)
 rw [h, h1]
 have e : madeCells (Value.string ⟨#[]⟩).cells ((k : Int).toNat * 1) = cellsU [] k := by
  apply Array.ext'
  rw [show (Value.string ⟨#[]⟩).cells = #[Value.string ⟨#[]⟩] from rfl, toList_madeCells_one]
  simp [cellsU]
 rw [e]
 simp
structure SplS (w0 w : World) (b n t : Nat) (l : List UInt8) (S : ByteArray) (done : List (List UInt8)) : Prop where
 eq : splitU l = done ++ splitU S.data.toList
 len : done.length = t
 cnt : Lib.countByte S.data.toList 47 + t = n
 row : w.heap[b]? = some (.cells (cellsU done (n + 1 - t)) 9 (0, 0))
 new : w0.heap.size ≤ b
 fr : Frm [] w0 w
theorem SplS.at_ {w0 w : World} {b n t : Nat} {l : List UInt8} {S : ByteArray} {done : List (List UInt8)} (h : SplS w0 w b n t l S done) (ht : t ≤ n) : w.cell? ⟨b, t, none⟩ = some (.string ⟨#[]⟩) ∧ w.frozen? ⟨b, t, none⟩ = false := by
 refine ⟨?_, fZ t h.row⟩
 rw [cell_of_row _ _ _ _ _ _ h.row]
 unfold cellsU
 have hl := h.len
 have e : n + 1 - t = (n - t) + 1 := by omega
 rw [e, List.getElem?_toArray, List.getElem?_append_right (by simp; omega), List.length_map, hl, Nat.sub_self, List.replicate_succ]
 rfl
theorem SplS.put_ {w0 w : World} {b n t : Nat} {l : List UInt8} {S : ByteArray} {done : List (List UInt8)} (h : SplS w0 w b n t l S done) (ht : t ≤ n) (p : List UInt8) : (w.setCell ⟨b, t, none⟩ (stU p)).heap[b]? = some (.cells (cellsU (done ++ [p]) (n - t)) 9 (0, 0)) ∧ Frm [] w0 (w.setCell ⟨b, t, none⟩ (stU p)) := by
 have e : n + 1 - t = (n - t) + 1 := by omega
 have h1 := heap_setCell_same w b t _ _ (stU p) h.row
 have hl := h.len
 rw [e, ← hl, cellsU_put, hl] at h1
 exact ⟨h1, h.fr.setCell _ _ (fun hb => by have := h.new; simp at hb; omega)⟩
theorem genSplit_any (s : ByteArray) (hs : s.size ≤ 9223372036854775806) (hcn : Lib.countByte s.data.toList 47 ≤ 1000000000) (w : World) :
  Calls Tryz.prog 128 #[.string s, .string ⟨#[47]⟩, .int .i64 0, .int .i64 (-1)] w fun e w' => ∃ b n, e = .returned (.slice (some ⟨b, 0, none⟩) n n) ∧ n = (splitU s.data.toList).length ∧ w.heap.size ≤ b ∧ w'.heap[b]? = some (.cells (cellsU (splitU s.data.toList) 0) 9 (0, 0)) ∧ Frm [] w w' := by
 obtain ⟨PO, hPO⟩ : ∃ PO : Ending → World → Prop, (fun e w' => ∃ b n, e = .returned (.slice (some ⟨b, 0, none⟩) n n) ∧ n = (splitU s.data.toList).length ∧ w.heap.size ≤ b ∧ w'.heap[b]? = some (.cells (cellsU (splitU s.data.toList) 0) 9 (0, 0)) ∧ Frm [] w w') = PO := ⟨_, rfl⟩
 rw [hPO]
 have HP : Hid (∀ b n w', n = (splitU s.data.toList).length → w.heap.size ≤ b → w'.heap[b]? = some (.cells (cellsU (splitU s.data.toList) 0) 9 (0, 0)) → Frm [] w w' → PO (.returned (.slice (some ⟨b, 0, none⟩) n n)) w') := hid (fun b n w' h1 h2 h3 h4 => by rw [← hPO]; exact ⟨b, n, rfl, h1, h2, h3, h4⟩)
 have hsz : s.data.toList.length = s.size := by have h : s.data.size = s.size := rfl; rw [Array.length_toList]; exact h
 have hcl : Lib.countByte s.data.toList 47 ≤ s.size := by rw [← hsz]; exact List.count_le_length
 have HLEN := hid (splitU_len s.data.toList)
 have HC := hid (fun W => countC_any s W)
 obtain ⟨n, hn⟩ := eX (Lib.countByte s.data.toList 47)
 rw [hn] at hcl HC HLEN hcn
 have hmin : ∀ (ts : Array TypeId) (ty : TypeId) (W : World), Sem.run Tryz.prog (Builtin.min_ ts ty #[.int .i64 ((n : Int) + 1), .int .i64 ((s.size : Int) + 1)]) W = .ok (.int .i64 ((n : Int) + 1)) W := by
  intro ts ty W
  have h := run_min_int2 (P := Tryz.prog) (w := W) ts ty .i64 .i64 ((n : Int) + 1) ((s.size : Int) + 1)
  rwa [if_neg (by omega)] at h
 have hmk := fun W => make_strU (n + 1) (by omega) W
 have HSS : Hid (s.data.toList = s.data.toList ∧ Lib.countByte s.data.toList 47 = n) := hid ⟨rfl, hn⟩
 clear hPO hsz hn
 go_enter Tryz.func128, Tryz.ntmps128
 go_wp2_with fail
 refine (HC.out _).mono ?_
 rintro e w1 ⟨rfl, rfl⟩
 go_upto_region 8 with fail
 have hmk2 : ∀ W, (Instr.makeSlice 133 (.int .i64 ((n : Int) + 1)) (.int .i64 ((n : Int) + 1))).run Tryz.prog W = .ok (.slice (some ⟨W.heap.size, 0, none⟩) (n + 1) (n + 1)) (W.alloc (.cells (cellsU [] (n + 1)) 9)) := hmk
 obtain ⟨w2, hw2⟩ := eX (w1.alloc (.cells (cellsU [] (n + 1)) 9))
 have hrow := heap_alloc_new w1 (.cells (cellsU [] (n + 1)) 9)
 obtain ⟨b, hb⟩ := eX (w1.heap.size)
 have hf2 : Frm [] w1 w2 := by rw [← hw2]; exact (Frm.refl _ _).alloc _
 rw [hw2, hb] at hrow
 have H0 : Hid (SplS w1 w2 b n 0 s.data.toList s []) := hid ⟨rfl, rfl, by have := HSS.out.2; omega, hrow, by omega, hf2⟩
 have HW2 := hid hw2
 have HB := hid hb
 clear hw2 hrow hb hf2 hmk
 go_upto_region 9 with fail
 try rw [HB.out]
 try rw [HW2.out]
 clear hmk2 hmin
 go_wp2_with fail
 have HIX := hid (fun (S : ByteArray) W => indexC_any S W)
 have hn9 : n ≤ 1000000000 := by omega
 go_loopw [0, 10] (fun sv i wr => ∃ (t : Nat) (S : ByteArray) (done : List (List UInt8)), t ≤ n ∧ S.size ≤ 9223372036854775806 ∧ sv = .string S ∧ i = .int .i64 (t : Int) ∧ Hid (SplS w1 wr b n t s.data.toList S done)) (fun _ i _ => n - (intOf i).toNat)
 case atStart => exact ⟨0, s, [], Nat.zero_le _, hs, rfl, rfl, H0⟩
 case round =>
  clear H0
  obtain ⟨t, S, done, ht, hS9, rfl, rfl, hin⟩ := hrel
  have HIN := hid hin.out
  clear hin
  obtain ⟨z0, y0⟩ := HIN.out.at_ ht
  by_cases hlt : t < n
  case pos =>
   have t1 : (t : Int) < (n : Int) := by omega
   have t2 : (t : Int) < ((n + 1 : Nat) : Int) := by omega
   obtain ⟨m, h1, h2, h3, h4⟩ := splitU_some S.data.toList (by have := HIN.out.cnt; omega)
   have hS : S.data.toList.length = S.size := by have h : S.data.size = S.size := rfl; rw [Array.length_toList]; exact h
   have hc := HIX.out S wr
   rw [h1] at hc
   have HCI := hid hc
   have m1 : (m : Int) < (S.size : Int) := by omega
   have m2 : m < S.size := by omega
   have m0 : ¬ (m : Int) < 0 := by omega
   have hw0 : wrap64 (m : Int) = (m : Int) := by unfold wrap64; omega
   have hw1 : wrap64 ((m : Int) + 1) = (m : Int) + 1 := by unfold wrap64; omega
   have HH3 := hid h3
   have HH4 := hid h4
   clear h1 h2 h3 h4 hc hS
   go_wp2_with fail
   refine HCI.out.mono ?_
   rintro e w3 ⟨rfl, rfl⟩
   go_upto_region 16 with fail
   have e1 : (S.extract 0 m).data.toList = S.data.toList.take m := by simp
   have e2 : (S.extract (m + 1) S.size).data.toList = S.data.toList.drop (m + 1) := by
    simp
    try exact List.take_of_length_le (by simp)
   have e3 : (S.extract (m + 1) S.size).size ≤ S.size := by simp
   obtain ⟨p1, p2⟩ := HIN.out.put_ ht (S.data.toList.take m)
   rw [← e1, stU_str, e1] at p1
   rw [← e1, stU_str] at p2
   have HNX : Hid (SplS w1 (w3.setCell ⟨b, t, none⟩ (.string (S.extract 0 m))) b n (t + 1) s.data.toList (S.extract (m + 1) S.size) (done ++ [S.data.toList.take m])) := hid ⟨by rw [HIN.out.eq, HH3.out, e2]; simp, by rw [List.length_append, HIN.out.len]; rfl, by rw [e2]; have := HH4.out; have := HIN.out.cnt; omega, by rw [show n + 1 - (t + 1) = n - t by omega]; exact p1, HIN.out.new, p2⟩
   clear p1 p2 e1 e2 z0 y0
   go_wp2_with fail
   go_roundw
   case rel => exact ⟨t + 1, _, _, by omega, by omega, rfl, by go_num, HNX⟩
   case measure => simp [intOf] <;> omega
  obtain rfl : t = n := by omega
  go_wp2_with fail
  try go_returns
  obtain ⟨h1, h2⟩ := HIN.out.put_ (Nat.le_refl _) S.data.toList
  rw [stU_str] at h1 h2
  have he : splitU s.data.toList = done ++ [S.data.toList] := by rw [HIN.out.eq, splitU_none _ (by have := HIN.out.cnt; omega)]
  exact HP.out b (t + 1) _ HLEN.out.symm HIN.out.new (by rw [he]; rw [Nat.sub_self] at h1; exact h1) h2
theorem split_anyR (s : ByteArray) (hs : s.size ≤ 9223372036854775806) (hcn : Lib.countByte s.data.toList 47 ≤ 1000000000) (w : World) :
  Calls Tryz.prog 116 #[.string s, .string ⟨#[47]⟩] w fun e w' => ∃ b n, e = .returned (.slice (some ⟨b, 0, none⟩) n n) ∧ n = (splitU s.data.toList).length ∧ w.heap.size ≤ b ∧ w'.heap[b]? = some (.cells (cellsU (splitU s.data.toList) 0) 9 (0, 0)) ∧ Frm [] w w' := by
 have HC := hid (genSplit_any s hs hcn w)
 clear hs hcn
 go_enter Tryz.func116, Tryz.ntmps116
 go_wp2_with fail
 refine HC.out.mono ?_
 rintro e w1 ⟨b, n, rfl, h1, h2, h3, h4⟩
 have HX := hid (And.intro h1 (And.intro h2 (And.intro h3 h4)))
 clear h1 h2 h3 h4 HC
 go_wp2_with fail
 try go_returns
 exact ⟨b, n, rfl, HX.out⟩
end
section
open Go.RowKit Go.Lib
def txU (p : List UInt8) : List Int := p.map fun u => (u.toNat : Int)
theorem txU_of (p : List UInt8) : tx ⟨p.toArray⟩ = txU p := by simp [tx, txU]
def PartsU (l : List UInt8) (most : Int) : Prop := (Lib.countByte l 47 : Int) < most ∧ ∀ p ∈ splitU l, PartL (txU p)
instance (l : List UInt8) (most : Int) : Decidable (PartsU l most) := by unfold PartsU; infer_instance
theorem cellsU_at {L : List (List UInt8)} {t : Nat} (h : t < L.length) : (cellsU L 0)[t]? = some (.string ⟨(L[t]).toArray⟩) := by
 unfold cellsU
 simp [h, stU]
theorem parts_any (s : ByteArray) (hs : s.size ≤ 9223372036854775806) (most : Int) (hmo : most ≤ 1000) (w : World) :
  Calls Tryz.prog 95 #[.string s, .int .i64 most] w fun e w' => e = .returned (.bool (decide (PartsU s.data.toList most))) ∧ Frm [] w w' := by
 obtain ⟨PO, hPO⟩ : ∃ PO : Ending → World → Prop, (fun e w' => e = .returned (.bool (decide (PartsU s.data.toList most))) ∧ Frm [] w w') = PO := ⟨_, rfl⟩
 rw [hPO]
 have HP : Hid (∀ x w', (x = true ↔ PartsU s.data.toList most) → Frm [] w w' → PO (.returned (.bool x)) w') := hid (fun x w' h h2 => by rw [← hPO]; exact ⟨by rw [bool_decR h], h2⟩)
 have HC := hid (countC_any s w)
 have HSP := hid (fun hcn => split_anyR s hs hcn w)
 have HLE := hid (splitU_len s.data.toList)
 have hcl : Lib.countByte s.data.toList 47 ≤ s.size := by
  have hsz : s.data.toList.length = s.size := by have h : s.data.size = s.size := rfl; rw [Array.length_toList]; exact h
  rw [← hsz]; exact List.count_le_length
 have HPU : Hid (∀ n, Lib.countByte s.data.toList 47 = n → (PartsU s.data.toList most ↔ (n : Int) < most ∧ ∀ p ∈ splitU s.data.toList, PartL (txU p))) := hid (fun n h => by unfold PartsU; rw [h])
 obtain ⟨n, hn⟩ := eX (Lib.countByte s.data.toList 47)
 have HPN := hid (HPU.out n hn)
 rw [hn] at HC HLE hcl HSP
 obtain ⟨L, hL⟩ := eX (splitU s.data.toList)
 rw [hL] at HSP HLE HPN
 clear hPO hcl hn hL HPU
 go_enter Tryz.func95, Tryz.ntmps95
 go_wp2_with fail
 refine HC.out.mono ?_
 rintro e w1 ⟨rfl, rfl⟩
 by_cases hm : most ≤ (n : Int)
 case pos =>
  go_wp2_with fail
  try go_returns
  exact HP.out _ _ (by rw [HPN.out]; simp; intro h; omega) (Frm.refl _ _)
 have hn9 : n ≤ 1000000000 := by omega
 go_wp2_with fail
 refine (HSP.out hn9).mono ?_
 rintro e w2 ⟨b, k, rfl, hk, hb, hrow, hf⟩
 have HROW := hid hrow
 have HF := hid hf
 have HLK := hid hk
 have hk9 : k ≤ 1000000001 := by rw [hk, HLE.out]; omega
 clear hk hb hrow hf HC HSP
 go_wp2_with fail
 go_loop [4, 14] (fun r i => ∃ t : Nat, t ≤ k ∧ r = .bool false ∧ i = .int .i64 (t : Int) ∧ Hid (∀ j (h : j < L.length), j < t → PartL (txU L[j]))) (fun _ i => k - (intOf i).toNat)
 case atStart => exact ⟨0, Nat.zero_le _, rfl, rfl, hid (fun j h hj => by omega)⟩
 case round =>
  obtain ⟨t, ht, rfl, rfl, hok⟩ := hrel
  have HOK := hid hok.out
  clear hok
  by_cases hlt : t < k
  case neg =>
   obtain rfl : t = k := by omega
   go_wp2_with fail
   try go_returns
   exact HP.out _ _ (by
    rw [HPN.out]; simp only [true_iff]
    refine ⟨by omega, fun p hp => ?_⟩
    obtain ⟨j, hj, rfl⟩ := List.getElem_of_mem hp
    exact HOK.out j hj (by rw [HLK.out]; exact hj)) HF.out
  have t1 : (t : Int) < (k : Int) := by omega
  have hl : t < L.length := by rw [← HLK.out]; exact hlt
  have z : w2.cell? ⟨b, t, none⟩ = some (.string ⟨(L[t]).toArray⟩) := by rw [cell_of_row _ _ _ _ _ _ HROW.out]; exact cellsU_at hl
  have HPA := hid (partW_any ⟨(L[t]).toArray⟩ w2)
  rw [txU_of] at HPA
  have HBD : Hid (PartsU s.data.toList most → PartL (txU L[t])) := hid (fun h => (HPN.out.1 h).2 _ (List.getElem_mem hl))
  have HNX : Hid (PartL (txU L[t]) → ∀ j (h : j < L.length), j < t + 1 → PartL (txU L[j])) := hid (fun h j hj hjt => by
   by_cases hj2 : j < t
   ·exact HOK.out j hj hj2
   ·obtain rfl : j = t := by omega
    exact h)
  obtain ⟨p, hp⟩ := eX (L[t])
  rw [hp] at z HPA HBD HNX
  clear hp hl HOK
  by_cases hpl : PartL (txU p)
  case neg =>
   rw [decide_eq_false hpl] at HPA
   have HNP := hid hpl
   clear hpl
   go_wp2_with fail
   refine HPA.out.mono ?_
   rintro e w3 ⟨rfl, rfl⟩
   go_wp2_with fail
   try go_returns
   exact HP.out _ _ (by simp; exact fun h => HNP.out (HBD.out h)) HF.out
  rw [decide_eq_true hpl] at HPA
  have HNP := hid hpl
  clear hpl
  go_wp2_with fail
  refine HPA.out.mono ?_
  rintro e w3 ⟨rfl, rfl⟩
  go_wp2_with fail
  go_round
  case rel => exact ⟨t + 1, by omega, rfl, by go_num, hid (HNX.out HNP.out)⟩
  case measure => simp [intOf] <;> omega
def RiseL (K : List Int) (lo hi : Int) : Prop := ∀ i, i < K.length → (lo ≤ zA K i ∧ zA K i ≤ hi) ∧ (0 < i → zA K (i - 1) < zA K i)
instance (K : List Int) (lo hi : Int) : Decidable (RiseL K lo hi) := by unfold RiseL; infer_instance
def RdI (w : World) (p : Option Addr) (K : List Int) : Prop := Rv w p (K.map (Value.int .i64))
theorem RdI.at {w : World} {p : Option Addr} {K : List Int} (h : RdI w p K) {i : Nat} (hi : i < K.length) : ∃ g o, p = some ⟨g, o, none⟩ ∧ ∀ j, j < K.length → w.cell? ⟨g, o + j, none⟩ = some (.int .i64 (zA K j)) := by
 rcases h with h0 | ⟨g, o, hp, hc⟩
 ·have : K = [] := List.map_eq_nil_iff.1 h0
  rw [this] at hi; simp at hi
 ·refine ⟨g, o, hp, fun j hj => hc j _ ?_⟩
  rw [List.getElem?_map, List.getElem?_eq_getElem hj]
  unfold zA
  rw [List.getD_eq_getElem?_getD, List.getElem?_eq_getElem hj]
  rfl
theorem RdI.kept {S : List Nat} {w w' : World} {p : Option Addr} {K : List Int} (h : RdI w p K) (hf : Frm S w w') (hn : ∀ k ∈ blk p, k ∉ S) : RdI w' p K := by
 rcases h with h0 | ⟨g, o, hp, hc⟩
 ·exact Or.inl h0
 ·exact Or.inr ⟨g, o, hp, fun i u hu => (hf.cell (p := ⟨g, o + i, none⟩) (World.block_lt_of_cell? _ _ (hc i u hu)) (hn g (by rw [hp]; simp [blk]))).trans (hc i u hu)⟩
theorem rise_any (p : Option Addr) (n c : Nat) (K : List Int) (lo hi : Int) (w : World) (hn : K.length = n) (hn9 : n ≤ 9223372036854775807) (hr : RdI w p K) :
  Calls Tryz.prog 97 #[.slice p n c, .int .i64 lo, .int .i64 hi] w fun e w' => e = .returned (.bool (decide (RiseL K lo hi))) ∧ w' = w := by
 obtain ⟨PO, hPO⟩ : ∃ PO : Ending → World → Prop, (fun e w' => e = .returned (.bool (decide (RiseL K lo hi))) ∧ w' = w) = PO := ⟨_, rfl⟩
 rw [hPO]
 have HP : Hid (∀ x, (x = true ↔ RiseL K lo hi) → PO (.returned (.bool x)) w) := hid (fun x h => by rw [← hPO]; exact ⟨by rw [bool_decR h], rfl⟩)
 have HR := hid hr
 have HN := hid hn
 have HW := hid (fun z W => within_anyR z lo hi W)
 clear hPO hr hn
 go_enter Tryz.func97, Tryz.ntmps97
 go_wp2_with fail
 go_loop [6, 11] (fun r i => ∃ t : Nat, t ≤ n ∧ r = .bool false ∧ i = .int .i64 (t : Int) ∧ Hid (∀ j, j < t → (lo ≤ zA K j ∧ zA K j ≤ hi) ∧ (0 < j → zA K (j - 1) < zA K j))) (fun _ i => n - (intOf i).toNat)
 case atStart => exact ⟨0, Nat.zero_le _, rfl, rfl, hid (fun j hj => by omega)⟩
 case round =>
  obtain ⟨t, ht, rfl, rfl, hok⟩ := hrel
  have HOK := hid hok.out
  clear hok
  by_cases hlt : t < n
  case neg =>
   obtain rfl : t = n := by omega
   go_wp2_with fail
   try go_returns
   exact HP.out _ (by simp only [true_iff]; exact fun i hi => HOK.out i (by rw [← HN.out]; exact hi))
  have t1 : (t : Int) < (n : Int) := by omega
  obtain ⟨g, o, rfl, hc⟩ := HR.out.at (i := t) (by rw [HN.out]; exact hlt)
  have z0 := hc t (by rw [HN.out]; exact hlt)
  have HBD : Hid (RiseL K lo hi → (lo ≤ zA K t ∧ zA K t ≤ hi) ∧ (0 < t → zA K (t - 1) < zA K t)) := hid (fun h => h t (by rw [HN.out]; exact hlt))
  have HNX : Hid ((lo ≤ zA K t ∧ zA K t ≤ hi) ∧ (0 < t → zA K (t - 1) < zA K t) → ∀ j, j < t + 1 → (lo ≤ zA K j ∧ zA K j ≤ hi) ∧ (0 < j → zA K (j - 1) < zA K j)) := hid (fun h j hj => by
   by_cases hj2 : j < t
   ·exact HOK.out j hj2
   ·obtain rfl : j = t := by omega
    exact h)
  have HWC := hid (HW.out (zA K t) w)
  by_cases hw : lo ≤ zA K t ∧ zA K t ≤ hi
  case neg =>
   rw [decide_eq_false hw] at HWC
   have HK : Hid (¬ RiseL K lo hi) := hid (fun h => hw (HBD.out h).1)
   obtain ⟨x, hx⟩ := eX (zA K t)
   rw [hx] at z0 HWC
   clear hw hc HNX HBD hx
   go_wp2_with fail
   refine HWC.out.mono ?_
   rintro e w1 ⟨rfl, rfl⟩
   go_wp2_with fail
   try go_returns
   exact HP.out _ (by simp; exact HK.out)
  rw [decide_eq_true hw] at HWC
  by_cases h0 : t = 0
  case pos =>
   have HK := hid (HNX.out ⟨hw, fun h => by omega⟩)
   have t0 : ¬ (0 : Int) < (t : Int) := by omega
   obtain ⟨x, hx⟩ := eX (zA K t)
   rw [hx] at z0 HWC
   clear hw hc HNX HBD hx h0
   go_wp2_with fail
   refine HWC.out.mono ?_
   rintro e w1 ⟨rfl, rfl⟩
   go_wp2_with fail
   go_round
   case rel => exact ⟨t + 1, by omega, rfl, by go_num, HK⟩
   case measure => simp [intOf] <;> omega
  obtain ⟨u, rfl⟩ : ∃ u, t = u + 1 := ⟨t - 1, by omega⟩
  have z1 := hc u (by rw [HN.out]; omega)
  by_cases hrs : zA K u < zA K (u + 1)
  case neg =>
   have HK : Hid (¬ RiseL K lo hi) := hid (fun h => hrs ((HBD.out h).2 (by omega)))
   obtain ⟨x, hx⟩ := eX (zA K (u + 1))
   obtain ⟨y, hy⟩ := eX (zA K u)
   rw [hx] at z0 HWC hrs
   rw [hy] at z1 hrs
   have hyx : x ≤ y := by omega
   clear hw hc HNX HBD hx hy h0 hrs
   go_wp2_with fail
   refine HWC.out.mono ?_
   rintro e w1 ⟨rfl, rfl⟩
   go_wp2_with fail
   try go_returns
   exact HP.out _ (by simp; exact HK.out)
  have HK := hid (HNX.out ⟨hw, fun h => by simpa using hrs⟩)
  obtain ⟨x, hx⟩ := eX (zA K (u + 1))
  obtain ⟨y, hy⟩ := eX (zA K u)
  rw [hx] at z0 HWC hrs
  rw [hy] at z1 hrs
  have hyx : ¬ x ≤ y := by omega
  clear hw hc HNX HBD hx hy h0 hrs
  go_wp2_with fail
  refine HWC.out.mono ?_
  rintro e w1 ⟨rfl, rfl⟩
  go_wp2_with fail
  go_round
  case rel => exact ⟨u + 1 + 1, by omega, rfl, by go_num, HK⟩
  case measure => simp [intOf] <;> omega
end
section
open Go.RowKit
theorem tx_bd (s : ByteArray) : ∀ z ∈ tx s, 0 ≤ z ∧ z < 256 := by
 intro z hz; simp [tx] at hz; obtain ⟨u, _, rfl⟩ := hz; have := u.toNat_lt; omega
theorem readS_err {α : Type} (z : α) (pos : Nat) (err : Int) (r : α × Nat × Int) (h : err ≠ 0) : readS z pos err r = (z, pos, err) := by
 unfold readS; rw [if_pos h]
end
end Go.Proofs.YtajfjkfnmmfhmaaGreatDoor
