/- Contracts of package sum: a block of SHA-256. Contracts of package sum: SHA-256 of few bytes. Contracts of package sum: Fletcher's sum, piece by piece. Contracts of package sum: Add to a fresh running sum. Contracts of package sum: Value, Of. -/
import Derived.StillTailTactics
import Derived.BigRegion
import Derived.Test.YtajfjkfnmmfhmaaGreatDoorQwac
import Derived.Deep.RegionHeld3
namespace Go.Proofs.YtajfjkfnmmfhmaaGreatDoor
section
open Go.RowKit
set_option maxRecDepth 100000
structure V8 where
  a : Int
  b : Int
  c : Int
  d : Int
  e : Int
  f : Int
  g : Int
  h : Int
def V8.arr (v : V8) : Array Value := #[.int .u32 v.a, .int .u32 v.b, .int .u32 v.c, .int .u32 v.d, .int .u32 v.e, .int .u32 v.f, .int .u32 v.g, .int .u32 v.h]
def zA (zs : List Int) (i : Nat) : Int := zs.getD i 0
def wA (zs : List Int) : Nat → List Int
  | 0 => List.replicate 64 0
  | t + 1 => (wA zs t).set t (lowW (zA zs (4 * t + 3)) (zA zs (4 * t + 2)) (zA zs (4 * t + 1)) (zA zs (4 * t)))
def sg0 (x : Int) : Int := bits .xor .u32 (bits .xor .u32 (rorI x 7) (rorI x 18)) (x / 8)
def sg1 (x : Int) : Int := bits .xor .u32 (bits .xor .u32 (rorI x 17) (rorI x 19)) (x / 1024)
def wN (c : List Int) (t : Nat) : Int := (zA c (t - 16) + sg0 (zA c (t - 15)) + zA c (t - 7) + sg1 (zA c (t - 2))) % 4294967296
def wB (c : List Int) : Nat → List Int
  | 0 => c
  | t + 1 => (wB c t).set (16 + t) (wN (wB c t) (16 + t))
def wv (l : List Int) : List Value := l.map (fun z => Value.int .u32 z)
/-- The three blocks of a call of block: what came in, what goes out, the schedule. -/
structure StB (w0 w : World) (x y : Nat) (v : V8) (cur : List Int) : Prop where
  h0 : w.heap[x]? = some (.cells v.arr 124 (0, 0))
  h1 : w.heap[x + 1]? = some (.cells #[.int .u32 0, .int .u32 0, .int .u32 0, .int .u32 0, .int .u32 0, .int .u32 0, .int .u32 0, .int .u32 0] 124 (0, 0))
  h2 : w.heap[y]? = some (.cells (wv cur).toArray 130 (0, 0))
  len : cur.length = 64
  hy : x + 2 = y
  fr : Frm [] w0 w
theorem StB.drewN {w0 w : World} {x y : Nat} {v : V8} {cur : List Int} (h : StB w0 w x y v cur) (n : Nat) : StB w0 (w.drewN n) x y v cur :=
  have f : Frm [] w (w.drewN n) := (Frm.refl [] w).drewN n
  ⟨f.heap h.h0 (by simp), f.heap h.h1 (by simp), f.heap h.h2 (by simp), h.len, h.hy, h.fr.drewN n⟩
theorem StB.drew {w0 w : World} {x y : Nat} {v : V8} {cur : List Int} (h : StB w0 w x y v cur) : StB w0 w.drew x y v cur := h.drewN 1
theorem StB.set {w0 w : World} {x y : Nat} {v : V8} {cur : List Int} (h : StB w0 w x y v cur) (hx : w0.heap.size ≤ x) (t : Nat) (z : Int) : StB w0 (w.setCell ⟨y, t, none⟩ (.int .u32 z)) x y v (cur.set t z) := by
  have f : Frm [y] w (w.setCell ⟨y, t, none⟩ (.int .u32 z)) := (Frm.refl _ _).setCell _ _ (by simp)
  have e := h.hy
  refine ⟨f.heap h.h0 (by simp; omega), f.heap h.h1 (by simp; omega), ?_, by simp [h.len], e, h.fr.trans f (fun i hi hl => by simp at hi; omega)⟩
  rw [heap_setCell_same w y t _ _ _ h.h2]
  congr 2
  apply Array.ext'
  simp [wv, List.map_set]
theorem StB.at {w0 w : World} {x y : Nat} {v : V8} {cur : List Int} (h : StB w0 w x y v cur) (t : Nat) (ht : t < 64) : w.cell? ⟨y, t, none⟩ = some (.int .u32 (zA cur t)) := by
  rw [cell_of_row w _ _ _ _ _ h.h2]
  have := h.len
  simp [wv, zA, List.getD_eq_getElem?_getD, show t < cur.length by omega]
theorem StB.free {w0 w : World} {x y : Nat} {v : V8} {cur : List Int} (h : StB w0 w x y v cur) (t : Nat) : w.frozen? ⟨y, t, none⟩ = false := frozen_of_row w y t _ _ h.h2
def t1F (r : V8) (k w : Int) : Int := ((r.h + bits .xor .u32 (bits .xor .u32 (rorI r.e 6) (rorI r.e 11)) (rorI r.e 25) + bits .xor .u32 (bits .and .u32 r.e r.f) (bits .and .u32 (bits .xor .u32 (if IntKind.u32.signed = true then -1 else IntKind.u32.max) r.e) r.g) + k) % 4294967296 + w) % 4294967296
def t2F (r : V8) : Int := (bits .xor .u32 (bits .xor .u32 (rorI r.a 2) (rorI r.a 13)) (rorI r.a 22) + bits .xor .u32 (bits .xor .u32 (bits .and .u32 r.a r.b) (bits .and .u32 r.a r.c)) (bits .and .u32 r.b r.c)) % 4294967296
def rnd (r : V8) (k w : Int) : V8 := ⟨(t1F r k w + t2F r) % 4294967296, r.a, r.b, r.c, (r.d + t1F r k w) % 4294967296, r.e, r.f, r.g⟩
/-- The numbers of the rounds. -/
def PR : List Int := [1116352408, 1899447441, 3049323471, 3921009573, 961987163, 1508970993, 2453635748, 2870763221, 3624381080, 310598401, 607225278, 1426881987, 1925078388, 2162078206, 2614888103, 3248222580, 3835390401, 4022224774, 264347078, 604807628, 770255983, 1249150122, 1555081692, 1996064986, 2554220882, 2821834349, 2952996808, 3210313671, 3336571891, 3584528711, 113926993, 338241895, 666307205, 773529912, 1294757372, 1396182291, 1695183700, 1986661051, 2177026350, 2456956037, 2730485921, 2820302411, 3259730800, 3345764771, 3516065817, 3600352804, 4094571909, 275423344, 430227734, 506948616, 659060556, 883997877, 958139571, 1322822218, 1537002063, 1747873779, 1955562222, 2024104815, 2227730452, 2361852424, 2428436474, 2756734187, 3204031479, 3329325298]
/-- The variable holds them. -/
def Primes (w : World) : Prop := ∀ t, t < 64 → w.cell? ⟨2, t, none⟩ = some (.int .u32 (zA PR t))
theorem Primes.kept {w w' : World} (h : Primes w) (hf : Frm [] w w') : Primes w' := fun t ht =>
  (hf.cell (p := ⟨2, t, none⟩) (World.block_lt_of_cell? w _ (h t ht)) (by simp)).trans (h t ht)
def rnds (ws : List Int) (v : V8) : Nat → V8
  | 0 => v
  | t + 1 => rnd (rnds ws v t) (zA PR t) (zA ws t)
def addV (v r : V8) : V8 := ⟨(v.a + r.a) % 4294967296, (v.b + r.b) % 4294967296, (v.c + r.c) % 4294967296, (v.d + r.d) % 4294967296, (v.e + r.e) % 4294967296, (v.f + r.f) % 4294967296, (v.g + r.g) % 4294967296, (v.h + r.h) % 4294967296⟩
/-- What a block makes of the eight words. -/
def blockV (v : V8) (zs : List Int) : V8 := addV v (rnds (wB (wA zs 16) 48) v 64)
set_option maxHeartbeats 6400000 in
theorem block_any (v : V8) (p : Option Addr) (n c : Nat) (zs : List Int) (w : World) (hn : zs.length = n) (h64 : 64 ≤ n) (hnb : n ≤ 9223372036854775807) (hrd : Rd w p zs) (hb : ∀ z ∈ zs, 0 ≤ z ∧ z < 256) (hpr : Primes w) :
    Calls Tryz.prog 122 #[.agg v.arr, .slice p n c] w fun e w' => e = .returned (.agg (blockV v zs).arr) ∧ Frm [] w w' := by
  have HRD := hid hrd
  have HZB := hid hb
  have HN := hid hn
  have HPR := hid hpr
  have hst : StB w (((w.alloc (.cells v.arr 124)).alloc (.cells #[.int .u32 0, .int .u32 0, .int .u32 0, .int .u32 0, .int .u32 0, .int .u32 0, .int .u32 0, .int .u32 0] 124)).alloc (.cells (wv (List.replicate 64 0)).toArray 130)) w.heap.size (w.heap.size + 2) v (List.replicate 64 0) := by
    have f1 := (Frm.refl [] w).alloc (.cells v.arr 124)
    have f2 := (Frm.refl [] (w.alloc (.cells v.arr 124))).alloc (.cells #[.int .u32 0, .int .u32 0, .int .u32 0, .int .u32 0, .int .u32 0, .int .u32 0, .int .u32 0, .int .u32 0] 124)
    have f3 := (Frm.refl [] ((w.alloc (.cells v.arr 124)).alloc (.cells #[.int .u32 0, .int .u32 0, .int .u32 0, .int .u32 0, .int .u32 0, .int .u32 0, .int .u32 0, .int .u32 0] 124))).alloc (.cells (wv (List.replicate 64 0)).toArray 130)
    refine ⟨f3.heap (f2.heap (heap_alloc_new _ _) (by simp)) (by simp), f3.heap ?_ (by simp), ?_, by simp, rfl, (f1.trans f2 (by simp)).trans f3 (by simp)⟩
    · exact heap_alloc_to _ _ (by simp)
    · exact heap_alloc_to _ _ (by simp)
  have HST := hid hst
  clear hrd hb hn hst hpr
  unfold V8.arr at HST ⊢
  go_enter Tryz.func122, Tryz.ntmps122
  go_wp2_with fail
  generalize hxb : w.heap.size + 1 + 1 = xb
  have hxb2 : w.heap.size + 2 = xb := hxb
  rw [hxb2] at HST
  clear hxb hxb2
  go_loopw [21] (fun i wr => ∃ t : Nat, t ≤ 16 ∧ i = .int .i64 t ∧ Hid (StB w wr w.heap.size xb v (wA zs t))) (fun i _ => 16 - (intOf i).toNat)
  case atStart => exact ⟨0, by omega, rfl, HST⟩
  case round =>
    clear HST
    obtain ⟨t, ht, rfl, hst⟩ := hrel
    by_cases hlt : t < 16
    · have hz3 := HZB.out (zA zs (4 * t + 3))
      have rd : ∀ i, i < n → ∃ g o, p = some ⟨g, o, none⟩ ∧ wr.cell? ⟨g, o + i, none⟩ = some (.int .u8 (zA zs i)) ∧ (0 ≤ zA zs i ∧ zA zs i < 256) := fun i hi => by
        obtain ⟨g, o, e1, e2⟩ := rd_byte (i := i) (HRD.out.kept hst.out.fr (by simp)) (by rw [HN.out]; exact hi)
        refine ⟨g, o, e1, e2, HZB.out _ ?_⟩
        unfold zA
        rw [List.getD_eq_getElem?_getD, List.getElem?_eq_getElem (by rw [HN.out]; exact hi)]
        exact List.getElem_mem _
      obtain ⟨g, o, rfl, c0, b0⟩ := rd (4 * t) (by omega)
      obtain ⟨_, _, e1, c1, b1⟩ := rd (4 * t + 1) (by omega)
      obtain ⟨_, _, e2, c2, b2⟩ := rd (4 * t + 2) (by omega)
      obtain ⟨_, _, e3, c3, b3⟩ := rd (4 * t + 3) (by omega)
      simp only [Option.some.injEq, Addr.mk.injEq, and_true] at e1 e2 e3
      obtain ⟨rfl, rfl⟩ := e1
      obtain ⟨rfl, rfl⟩ := e2
      obtain ⟨rfl, rfl⟩ := e3
      have HLO := hid (low_any _ _ _ _ wr.drew b3 b2 b1 b0)
      have hnx : (wA zs t).set t (lowW (zA zs (4 * t + 3)) (zA zs (4 * t + 2)) (zA zs (4 * t + 1)) (zA zs (4 * t))) = wA zs (t + 1) := rfl
      have HNX := hid hnx
      generalize zA zs (4 * t) = y0 at c0 HLO HNX
      generalize zA zs (4 * t + 1) = y1 at c1 HLO HNX
      generalize zA zs (4 * t + 2) = y2 at c2 HLO HNX
      generalize zA zs (4 * t + 3) = y3 at c3 HLO HNX
      have cw := hst.out.at t (by omega)
      have fz := hst.out.free t
      have s0 : (0 : Int) ≤ (t : Int) := by omega
      have s1 : (t : Int) < 64 := by omega
      have s2 : (4 * (t : Int)).toNat = 4 * t := by omega
      have s3 : (4 * (t : Int) + 1).toNat = 4 * t + 1 := by omega
      have s4 : (4 * (t : Int) + 2).toNat = 4 * t + 2 := by omega
      have s5 : (4 * (t : Int) + 3).toNat = 4 * t + 3 := by omega
      have i0 : 4 * (t : Int) < (n : Int) := by omega
      have i1 : 4 * (t : Int) + 1 < (n : Int) := by omega
      have i2 : 4 * (t : Int) + 2 < (n : Int) := by omega
      have i3 : 4 * (t : Int) + 3 < (n : Int) := by omega
      have j0 : (0 : Int) ≤ 4 * (t : Int) := by omega
      have j1 : (0 : Int) ≤ 4 * (t : Int) + 1 := by omega
      have j2 : (0 : Int) ≤ 4 * (t : Int) + 2 := by omega
      have j3 : (0 : Int) ≤ 4 * (t : Int) + 3 := by omega
      have k0 : IntKind.i64.wrap (4 * (t : Int)) = 4 * (t : Int) := IntWalk.i64_in _ (by omega)
      have k1 : IntKind.i64.wrap (4 * (t : Int) + 1) = 4 * (t : Int) + 1 := IntWalk.i64_in _ (by omega)
      have k2 : IntKind.i64.wrap (4 * (t : Int) + 2) = 4 * (t : Int) + 2 := IntWalk.i64_in _ (by omega)
      have k3 : IntKind.i64.wrap (4 * (t : Int) + 3) = 4 * (t : Int) + 3 := IntWalk.i64_in _ (by omega)
      clear hz3 rd hnx b0 b1 b2 b3
      go_wp2_with fail
      go_still_tail 26, (by kernel_rfl)
      refine wpStill_step (fun K hK => ?_)
      go_simp
      refine ⟨_, HLO.out, hK _ ?_⟩
      clear hK K
      repeat still_step
      refine wpStill_nil ?_
      change wpList _ _ _ _ _ wr.drew
      have HS4 := hid hst.out.drew
      obtain ⟨w4, hw4⟩ : ∃ w4, wr.drew = w4 := ⟨_, rfl⟩
      have cw4 : w4.cell? ⟨xb, t, none⟩ = some (.int .u32 (zA (wA zs t) t)) := by rw [← hw4]; exact cw
      have fz4 : w4.frozen? ⟨xb, t, none⟩ = false := by rw [← hw4]; exact fz
      rw [hw4] at HS4 ⊢
      clear hw4 c0 c1 c2 c3 cw fz HLO
      go_wp2_with fail
      go_roundw
      case rel => exact ⟨t + 1, by omega, by go_num, hid (by have h := HS4.out.set (Nat.le_refl _) t (lowW y3 y2 y1 y0); rwa [HNX.out] at h)⟩
      case measure => simp [intOf]; omega
    · obtain rfl : t = 16 := by omega
      clear hlt
      rw [show ((16 : Nat) : Int) = 16 from rfl]
      go_wp2_with fail
      go_loopw [7] (fun i wr => ∃ t u : Nat, Hid (t = 16 + u) ∧ 16 ≤ t ∧ t ≤ 64 ∧ i = .int .i64 t ∧ Hid (StB w wr w.heap.size xb v (wB (wA zs 16) u))) (fun i _ => 64 - (intOf i).toNat)
      case atStart => exact ⟨16, 0, hid rfl, by omega, by omega, rfl, hst⟩
      case round =>
        clear hst
        obtain ⟨t, u, htu, ht6, ht, rfl, hst⟩ := hrel
        by_cases hlt : t < 64
        · have hnx : (wB (wA zs 16) u).set t (wN (wB (wA zs 16) u) t) = wB (wA zs 16) (u + 1) := by rw [htu.out]; rfl
          have HNX := hid hnx
          obtain ⟨cur, hcur⟩ : ∃ cur, wB (wA zs 16) u = cur := ⟨_, rfl⟩
          rw [hcur] at hst HNX
          have HC : Hid (∀ w', StB w w' w.heap.size xb v cur → w'.cell? ⟨xb, t - 16, none⟩ = some (.int .u32 (zA cur (t - 16))) ∧ w'.cell? ⟨xb, t - 15, none⟩ = some (.int .u32 (zA cur (t - 15))) ∧ w'.cell? ⟨xb, t - 7, none⟩ = some (.int .u32 (zA cur (t - 7))) ∧ w'.cell? ⟨xb, t - 2, none⟩ = some (.int .u32 (zA cur (t - 2))) ∧ w'.cell? ⟨xb, t, none⟩ = some (.int .u32 (zA cur t)) ∧ w'.frozen? ⟨xb, t, none⟩ = false) := hid (fun w' h => ⟨h.at _ (by omega), h.at _ (by omega), h.at _ (by omega), h.at _ (by omega), h.at _ (by omega), h.free t⟩)
          unfold wN sg0 sg1 at HNX
          generalize zA cur (t - 16) = x16 at HC HNX
          generalize zA cur (t - 15) = x15 at HC HNX
          generalize zA cur (t - 7) = x7 at HC HNX
          generalize zA cur (t - 2) = x2 at HC HNX
          generalize zA cur t = xt at HC
          obtain ⟨c16, c15, c7, c2, cw, fz⟩ := HC.out wr hst.out
          have k16 : IntKind.i64.wrap ((t : Int) - 16) = (t : Int) - 16 := IntWalk.i64_in _ (by omega)
          have k15 : IntKind.i64.wrap ((t : Int) - 15) = (t : Int) - 15 := IntWalk.i64_in _ (by omega)
          have k7 : IntKind.i64.wrap ((t : Int) - 7) = (t : Int) - 7 := IntWalk.i64_in _ (by omega)
          have k2 : IntKind.i64.wrap ((t : Int) - 2) = (t : Int) - 2 := IntWalk.i64_in _ (by omega)
          have n16 : ((t : Int) - 16).toNat = t - 16 := by omega
          have n15 : ((t : Int) - 15).toNat = t - 15 := by omega
          have n7 : ((t : Int) - 7).toNat = t - 7 := by omega
          have n2 : ((t : Int) - 2).toNat = t - 2 := by omega
          have a16 : (0 : Int) ≤ (t : Int) - 16 := by omega
          have a15 : (0 : Int) ≤ (t : Int) - 15 := by omega
          have a7 : (0 : Int) ≤ (t : Int) - 7 := by omega
          have a2 : (0 : Int) ≤ (t : Int) - 2 := by omega
          have b16 : (t : Int) - 16 < 64 := by omega
          have b15 : (t : Int) - 15 < 64 := by omega
          have b7 : (t : Int) - 7 < 64 := by omega
          have b2 : (t : Int) - 2 < 64 := by omega
          have s0 : (0 : Int) ≤ (t : Int) := by omega
          have s1 : (t : Int) < 64 := by omega
          clear hnx hcur
          go_wp2_with fail
          go_quiet ((go_at_call 129; refine Calls.quiet_of_same (right_all _ _ rfl _)))
          have HS5 := hid (hst.out.drewN nq)
          obtain ⟨w5, hw5⟩ : ∃ w5, wr.drewN nq = w5 := ⟨_, rfl⟩
          rw [hw5] at HS5 ⊢
          clear c16 c15 c7 c2 cw fz hw5 hst
          obtain ⟨c16, c15, c7, c2, cw, fz⟩ := HC.out w5 HS5.out
          go_wp2_with fail
          go_quiet ((go_at_call 129; refine Calls.quiet_of_same (right_all _ _ rfl _)))
          have HS6 := hid (HS5.out.drewN nq)
          obtain ⟨w6, hw6⟩ : ∃ w6, w5.drewN nq = w6 := ⟨_, rfl⟩
          rw [hw6] at HS6 ⊢
          clear c16 c15 c7 c2 cw fz hw6 HS5
          obtain ⟨c16, c15, c7, c2, cw, fz⟩ := HC.out w6 HS6.out
          go_wp2_with fail
          have q16 : (16 : Int) ≤ (t : Int) := by omega
          have q7 : (7 : Int) ≤ (t : Int) := by omega
          go_still_tail 15, (by kernel_rfl)
          change wpList _ _ _ _ _ w6.drew
          have HS7 := hid (HS6.out.drew)
          obtain ⟨w7, hw7⟩ : ∃ w7, w6.drew = w7 := ⟨_, rfl⟩
          rw [hw7] at HS7 ⊢
          clear c16 c15 c7 c2 cw fz hw7 HS6
          obtain ⟨_, _, _, _, cw, fz⟩ := HC.out w7 HS7.out
          go_wp2_with fail
          go_roundw
          case rel => exact ⟨t + 1, u + 1, hid (by have := htu.out; omega), by omega, by omega, by go_num, hid (by rw [← HNX.out]; exact HS7.out.set (Nat.le_refl _) t _)⟩
          case measure => simp [intOf]; omega
        · obtain rfl : t = 64 := by omega
          clear hlt
          obtain rfl : u = 48 := by have := htu.out; omega
          rw [show ((64 : Nat) : Int) = 64 from rfl]
          go_wp2_with fail
          have HH : Hid (∀ w', StB w w' w.heap.size xb v (wB (wA zs 16) 48) → w'.cell? ⟨w.heap.size, 0, none⟩ = some (.int .u32 v.a) ∧ w'.cell? ⟨w.heap.size, 1, none⟩ = some (.int .u32 v.b) ∧ w'.cell? ⟨w.heap.size, 2, none⟩ = some (.int .u32 v.c) ∧ w'.cell? ⟨w.heap.size, 3, none⟩ = some (.int .u32 v.d) ∧ w'.cell? ⟨w.heap.size, 4, none⟩ = some (.int .u32 v.e) ∧ w'.cell? ⟨w.heap.size, 5, none⟩ = some (.int .u32 v.f) ∧ w'.cell? ⟨w.heap.size, 6, none⟩ = some (.int .u32 v.g) ∧ w'.cell? ⟨w.heap.size, 7, none⟩ = some (.int .u32 v.h)) := hid (fun w' h => by
            refine ⟨?_, ?_, ?_, ?_, ?_, ?_, ?_, ?_⟩ <;> rw [cell_of_row w' _ _ _ _ _ h.h0] <;> rfl)
          obtain ⟨e0, e1, e2, e3, e4, e5, e6, e7⟩ := HH.out _ hst.out
          go_quiet (fail)
          have HS8 := hid (hst.out.drewN nq)
          obtain ⟨w8, hw8⟩ : ∃ w8, wr.drewN nq = w8 := ⟨_, rfl⟩
          rw [hw8] at HS8 ⊢
          clear e0 e1 e2 e3 e4 e5 e6 e7 hw8 hst
          go_wp2_with fail
          obtain ⟨ws, hws⟩ : ∃ ws, wB (wA zs 16) 48 = ws := ⟨_, rfl⟩
          rw [hws] at HS8 HH
          go_loopw [120, 10, 11, 12, 13, 14, 15, 16, 17] (fun i sa sb sc sd se sf sg sh wr => ∃ (t : Nat) (r : V8), t ≤ 64 ∧ i = .int .i64 t ∧ sa = .int .u32 r.a ∧ sb = .int .u32 r.b ∧ sc = .int .u32 r.c ∧ sd = .int .u32 r.d ∧ se = .int .u32 r.e ∧ sf = .int .u32 r.f ∧ sg = .int .u32 r.g ∧ sh = .int .u32 r.h ∧ Hid (rnds ws v t = r) ∧ Hid (StB w wr w.heap.size xb v ws)) (fun i _ _ _ _ _ _ _ _ _ => 64 - (intOf i).toNat)
          case atStart => exact ⟨0, v, by omega, rfl, rfl, rfl, rfl, rfl, rfl, rfl, rfl, rfl, hid rfl, HS8⟩
          case round =>
            clear HS8
            obtain ⟨t, r, ht, rfl, rfl, rfl, rfl, rfl, rfl, rfl, rfl, rfl, hr, hst⟩ := hrel
            by_cases hlt : t < 64
            · have cw := hst.out.at t (by omega)
              have cp := (HPR.out.kept hst.out.fr) t hlt
              have s0 : (0 : Int) ≤ (t : Int) := by omega
              have s1 : (t : Int) < 64 := by omega
              go_wp2_with fail
              go_quiet ((go_at_call 129; refine Calls.quiet_of_same (right_all _ _ rfl _)))
              have e1 : ((r.h + bits .xor .u32 (bits .xor .u32 (rorI r.e 6) (rorI r.e 11)) (rorI r.e 25) + bits .xor .u32 (bits .and .u32 r.e r.f) (bits .and .u32 (bits .xor .u32 (if IntKind.u32.signed = true then -1 else IntKind.u32.max) r.e) r.g) + zA PR t) % 4294967296 + zA ws t) % 4294967296 = t1F r (zA PR t) (zA ws t) := rfl
              rw [e1]
              obtain ⟨T1, hT1⟩ : ∃ T1, t1F r (zA PR t) (zA ws t) = T1 := ⟨_, rfl⟩
              rw [hT1]
              have HT1 := hid hT1
              clear e1 hT1
              have HS9 := hid (hst.out.drewN nq)
              obtain ⟨w9, hw9⟩ : ∃ w9, wr.drewN nq = w9 := ⟨_, rfl⟩
              rw [hw9] at HS9 ⊢
              clear hw9 cw cp hst
              generalize (if IntKind.u32.signed = true then (-1 : Int) else IntKind.u32.max) = MX
              go_wp2_with fail
              refine (right_all _ 2 rfl _).mono ?_
              rintro e w10 ⟨rfl, rfl⟩
              go_wp2_with fail
              refine (right_all _ 13 rfl _).mono ?_
              rintro e w10 ⟨rfl, rfl⟩
              go_wp2_with fail
              refine (right_all _ 22 rfl _).mono ?_
              rintro e w10 ⟨rfl, rfl⟩
              go_wp2_with fail
              go_roundw
              case rel =>
                refine ⟨t + 1, rnd r (zA PR t) (zA ws t), by omega, by go_num, ?_, rfl, rfl, rfl, ?_, rfl, rfl, rfl, hid (by rw [rnds, hr.out]), HS9⟩
                · rw [rnd, HT1.out]; rfl
                · rw [rnd, HT1.out]
              case measure => simp [intOf]; omega
            · obtain rfl : t = 64 := by omega
              clear hlt
              obtain ⟨e0, e1, e2, e3, e4, e5, e6, e7⟩ := HH.out _ hst.out
              have h1 := hst.out.h1
              have o0 : wr.cell? ⟨w.heap.size + 1, 0, none⟩ = some (.int .u32 0) := by rw [cell_of_row wr _ _ _ _ _ h1]; rfl
              have f0 : wr.frozen? ⟨w.heap.size + 1, 0, none⟩ = false := frozen_of_row wr _ 0 _ _ h1
              have o1 : wr.cell? ⟨w.heap.size + 1, 1, none⟩ = some (.int .u32 0) := by rw [cell_of_row wr _ _ _ _ _ h1]; rfl
              have f1 : wr.frozen? ⟨w.heap.size + 1, 1, none⟩ = false := frozen_of_row wr _ 1 _ _ h1
              have o2 : wr.cell? ⟨w.heap.size + 1, 2, none⟩ = some (.int .u32 0) := by rw [cell_of_row wr _ _ _ _ _ h1]; rfl
              have f2 : wr.frozen? ⟨w.heap.size + 1, 2, none⟩ = false := frozen_of_row wr _ 2 _ _ h1
              have o3 : wr.cell? ⟨w.heap.size + 1, 3, none⟩ = some (.int .u32 0) := by rw [cell_of_row wr _ _ _ _ _ h1]; rfl
              have f3 : wr.frozen? ⟨w.heap.size + 1, 3, none⟩ = false := frozen_of_row wr _ 3 _ _ h1
              have o4 : wr.cell? ⟨w.heap.size + 1, 4, none⟩ = some (.int .u32 0) := by rw [cell_of_row wr _ _ _ _ _ h1]; rfl
              have f4 : wr.frozen? ⟨w.heap.size + 1, 4, none⟩ = false := frozen_of_row wr _ 4 _ _ h1
              have o5 : wr.cell? ⟨w.heap.size + 1, 5, none⟩ = some (.int .u32 0) := by rw [cell_of_row wr _ _ _ _ _ h1]; rfl
              have f5 : wr.frozen? ⟨w.heap.size + 1, 5, none⟩ = false := frozen_of_row wr _ 5 _ _ h1
              have o6 : wr.cell? ⟨w.heap.size + 1, 6, none⟩ = some (.int .u32 0) := by rw [cell_of_row wr _ _ _ _ _ h1]; rfl
              have f6 : wr.frozen? ⟨w.heap.size + 1, 6, none⟩ = false := frozen_of_row wr _ 6 _ _ h1
              have o7 : wr.cell? ⟨w.heap.size + 1, 7, none⟩ = some (.int .u32 0) := by rw [cell_of_row wr _ _ _ _ _ h1]; rfl
              have f7 : wr.frozen? ⟨w.heap.size + 1, 7, none⟩ = false := frozen_of_row wr _ 7 _ _ h1
              have HF := hid hst.out.fr
              have HB1 := hid h1
              clear h1 hst
              go_wp2_with fail
              obtain ⟨wz, hwz⟩ : ∃ wz, (((((((wr.setCell ⟨w.heap.size + 1, 0, none⟩ (.int .u32 ((v.a + r.a) % 4294967296))).setCell ⟨w.heap.size + 1, 1, none⟩ (.int .u32 ((v.b + r.b) % 4294967296))).setCell ⟨w.heap.size + 1, 2, none⟩ (.int .u32 ((v.c + r.c) % 4294967296))).setCell ⟨w.heap.size + 1, 3, none⟩ (.int .u32 ((v.d + r.d) % 4294967296))).setCell ⟨w.heap.size + 1, 4, none⟩ (.int .u32 ((v.e + r.e) % 4294967296))).setCell ⟨w.heap.size + 1, 5, none⟩ (.int .u32 ((v.f + r.f) % 4294967296))).setCell ⟨w.heap.size + 1, 6, none⟩ (.int .u32 ((v.g + r.g) % 4294967296))).setCell ⟨w.heap.size + 1, 7, none⟩ (.int .u32 ((v.h + r.h) % 4294967296)) = wz := ⟨_, rfl⟩
              have hb : wr.heap[w.heap.size + 1]? = some (.cells #[.int .u32 0, .int .u32 0, .int .u32 0, .int .u32 0, .int .u32 0, .int .u32 0, .int .u32 0, .int .u32 0] 124 (0, 0)) := HB1.out
              have hb0 : ((wr.setCell ⟨w.heap.size + 1, 0, none⟩ (.int .u32 ((v.a + r.a) % 4294967296)))).heap[w.heap.size + 1]? = some (.cells #[.int .u32 ((v.a + r.a) % 4294967296), .int .u32 0, .int .u32 0, .int .u32 0, .int .u32 0, .int .u32 0, .int .u32 0, .int .u32 0] 124 (0, 0)) := by rw [heap_setCell_same _ _ 0 _ _ _ hb]; rfl
              have hb1 : (((wr.setCell ⟨w.heap.size + 1, 0, none⟩ (.int .u32 ((v.a + r.a) % 4294967296))).setCell ⟨w.heap.size + 1, 1, none⟩ (.int .u32 ((v.b + r.b) % 4294967296)))).heap[w.heap.size + 1]? = some (.cells #[.int .u32 ((v.a + r.a) % 4294967296), .int .u32 ((v.b + r.b) % 4294967296), .int .u32 0, .int .u32 0, .int .u32 0, .int .u32 0, .int .u32 0, .int .u32 0] 124 (0, 0)) := by rw [heap_setCell_same _ _ 1 _ _ _ hb0]; rfl
              have hb2 : ((((wr.setCell ⟨w.heap.size + 1, 0, none⟩ (.int .u32 ((v.a + r.a) % 4294967296))).setCell ⟨w.heap.size + 1, 1, none⟩ (.int .u32 ((v.b + r.b) % 4294967296))).setCell ⟨w.heap.size + 1, 2, none⟩ (.int .u32 ((v.c + r.c) % 4294967296)))).heap[w.heap.size + 1]? = some (.cells #[.int .u32 ((v.a + r.a) % 4294967296), .int .u32 ((v.b + r.b) % 4294967296), .int .u32 ((v.c + r.c) % 4294967296), .int .u32 0, .int .u32 0, .int .u32 0, .int .u32 0, .int .u32 0] 124 (0, 0)) := by rw [heap_setCell_same _ _ 2 _ _ _ hb1]; rfl
              have hb3 : (((((wr.setCell ⟨w.heap.size + 1, 0, none⟩ (.int .u32 ((v.a + r.a) % 4294967296))).setCell ⟨w.heap.size + 1, 1, none⟩ (.int .u32 ((v.b + r.b) % 4294967296))).setCell ⟨w.heap.size + 1, 2, none⟩ (.int .u32 ((v.c + r.c) % 4294967296))).setCell ⟨w.heap.size + 1, 3, none⟩ (.int .u32 ((v.d + r.d) % 4294967296)))).heap[w.heap.size + 1]? = some (.cells #[.int .u32 ((v.a + r.a) % 4294967296), .int .u32 ((v.b + r.b) % 4294967296), .int .u32 ((v.c + r.c) % 4294967296), .int .u32 ((v.d + r.d) % 4294967296), .int .u32 0, .int .u32 0, .int .u32 0, .int .u32 0] 124 (0, 0)) := by rw [heap_setCell_same _ _ 3 _ _ _ hb2]; rfl
              have hb4 : ((((((wr.setCell ⟨w.heap.size + 1, 0, none⟩ (.int .u32 ((v.a + r.a) % 4294967296))).setCell ⟨w.heap.size + 1, 1, none⟩ (.int .u32 ((v.b + r.b) % 4294967296))).setCell ⟨w.heap.size + 1, 2, none⟩ (.int .u32 ((v.c + r.c) % 4294967296))).setCell ⟨w.heap.size + 1, 3, none⟩ (.int .u32 ((v.d + r.d) % 4294967296))).setCell ⟨w.heap.size + 1, 4, none⟩ (.int .u32 ((v.e + r.e) % 4294967296)))).heap[w.heap.size + 1]? = some (.cells #[.int .u32 ((v.a + r.a) % 4294967296), .int .u32 ((v.b + r.b) % 4294967296), .int .u32 ((v.c + r.c) % 4294967296), .int .u32 ((v.d + r.d) % 4294967296), .int .u32 ((v.e + r.e) % 4294967296), .int .u32 0, .int .u32 0, .int .u32 0] 124 (0, 0)) := by rw [heap_setCell_same _ _ 4 _ _ _ hb3]; rfl
              have hb5 : (((((((wr.setCell ⟨w.heap.size + 1, 0, none⟩ (.int .u32 ((v.a + r.a) % 4294967296))).setCell ⟨w.heap.size + 1, 1, none⟩ (.int .u32 ((v.b + r.b) % 4294967296))).setCell ⟨w.heap.size + 1, 2, none⟩ (.int .u32 ((v.c + r.c) % 4294967296))).setCell ⟨w.heap.size + 1, 3, none⟩ (.int .u32 ((v.d + r.d) % 4294967296))).setCell ⟨w.heap.size + 1, 4, none⟩ (.int .u32 ((v.e + r.e) % 4294967296))).setCell ⟨w.heap.size + 1, 5, none⟩ (.int .u32 ((v.f + r.f) % 4294967296)))).heap[w.heap.size + 1]? = some (.cells #[.int .u32 ((v.a + r.a) % 4294967296), .int .u32 ((v.b + r.b) % 4294967296), .int .u32 ((v.c + r.c) % 4294967296), .int .u32 ((v.d + r.d) % 4294967296), .int .u32 ((v.e + r.e) % 4294967296), .int .u32 ((v.f + r.f) % 4294967296), .int .u32 0, .int .u32 0] 124 (0, 0)) := by rw [heap_setCell_same _ _ 5 _ _ _ hb4]; rfl
              have hb6 : ((((((((wr.setCell ⟨w.heap.size + 1, 0, none⟩ (.int .u32 ((v.a + r.a) % 4294967296))).setCell ⟨w.heap.size + 1, 1, none⟩ (.int .u32 ((v.b + r.b) % 4294967296))).setCell ⟨w.heap.size + 1, 2, none⟩ (.int .u32 ((v.c + r.c) % 4294967296))).setCell ⟨w.heap.size + 1, 3, none⟩ (.int .u32 ((v.d + r.d) % 4294967296))).setCell ⟨w.heap.size + 1, 4, none⟩ (.int .u32 ((v.e + r.e) % 4294967296))).setCell ⟨w.heap.size + 1, 5, none⟩ (.int .u32 ((v.f + r.f) % 4294967296))).setCell ⟨w.heap.size + 1, 6, none⟩ (.int .u32 ((v.g + r.g) % 4294967296)))).heap[w.heap.size + 1]? = some (.cells #[.int .u32 ((v.a + r.a) % 4294967296), .int .u32 ((v.b + r.b) % 4294967296), .int .u32 ((v.c + r.c) % 4294967296), .int .u32 ((v.d + r.d) % 4294967296), .int .u32 ((v.e + r.e) % 4294967296), .int .u32 ((v.f + r.f) % 4294967296), .int .u32 ((v.g + r.g) % 4294967296), .int .u32 0] 124 (0, 0)) := by rw [heap_setCell_same _ _ 6 _ _ _ hb5]; rfl
              have hb7 : (((((((((wr.setCell ⟨w.heap.size + 1, 0, none⟩ (.int .u32 ((v.a + r.a) % 4294967296))).setCell ⟨w.heap.size + 1, 1, none⟩ (.int .u32 ((v.b + r.b) % 4294967296))).setCell ⟨w.heap.size + 1, 2, none⟩ (.int .u32 ((v.c + r.c) % 4294967296))).setCell ⟨w.heap.size + 1, 3, none⟩ (.int .u32 ((v.d + r.d) % 4294967296))).setCell ⟨w.heap.size + 1, 4, none⟩ (.int .u32 ((v.e + r.e) % 4294967296))).setCell ⟨w.heap.size + 1, 5, none⟩ (.int .u32 ((v.f + r.f) % 4294967296))).setCell ⟨w.heap.size + 1, 6, none⟩ (.int .u32 ((v.g + r.g) % 4294967296))).setCell ⟨w.heap.size + 1, 7, none⟩ (.int .u32 ((v.h + r.h) % 4294967296)))).heap[w.heap.size + 1]? = some (.cells #[.int .u32 ((v.a + r.a) % 4294967296), .int .u32 ((v.b + r.b) % 4294967296), .int .u32 ((v.c + r.c) % 4294967296), .int .u32 ((v.d + r.d) % 4294967296), .int .u32 ((v.e + r.e) % 4294967296), .int .u32 ((v.f + r.f) % 4294967296), .int .u32 ((v.g + r.g) % 4294967296), .int .u32 ((v.h + r.h) % 4294967296)] 124 (0, 0)) := by rw [heap_setCell_same _ _ 7 _ _ _ hb6]; rfl
              rw [hwz] at hb7 ⊢
              have hfz : Frm [] w wz := by
                rw [← hwz]
                have h8 : Frm [w.heap.size + 1] wr ((((((((wr.setCell ⟨w.heap.size + 1, 0, none⟩ (.int .u32 ((v.a + r.a) % 4294967296))).setCell ⟨w.heap.size + 1, 1, none⟩ (.int .u32 ((v.b + r.b) % 4294967296))).setCell ⟨w.heap.size + 1, 2, none⟩ (.int .u32 ((v.c + r.c) % 4294967296))).setCell ⟨w.heap.size + 1, 3, none⟩ (.int .u32 ((v.d + r.d) % 4294967296))).setCell ⟨w.heap.size + 1, 4, none⟩ (.int .u32 ((v.e + r.e) % 4294967296))).setCell ⟨w.heap.size + 1, 5, none⟩ (.int .u32 ((v.f + r.f) % 4294967296))).setCell ⟨w.heap.size + 1, 6, none⟩ (.int .u32 ((v.g + r.g) % 4294967296))).setCell ⟨w.heap.size + 1, 7, none⟩ (.int .u32 ((v.h + r.h) % 4294967296))) := ((((((((Frm.refl _ wr).setCell _ _ (by simp)).setCell _ _ (by simp)).setCell _ _ (by simp)).setCell _ _ (by simp)).setCell _ _ (by simp)).setCell _ _ (by simp)).setCell _ _ (by simp)).setCell _ _ (by simp)
                exact HF.out.trans h8 (fun i hi hl => by simp at hi; omega)
              have g0 : wz.cell? ⟨w.heap.size + 1, 0, none⟩ = some (.int .u32 ((v.a + r.a) % 4294967296)) := by rw [cell_of_row wz _ _ _ _ _ hb7]; rfl
              have g1 : wz.cell? ⟨w.heap.size + 1, 1, none⟩ = some (.int .u32 ((v.b + r.b) % 4294967296)) := by rw [cell_of_row wz _ _ _ _ _ hb7]; rfl
              have g2 : wz.cell? ⟨w.heap.size + 1, 2, none⟩ = some (.int .u32 ((v.c + r.c) % 4294967296)) := by rw [cell_of_row wz _ _ _ _ _ hb7]; rfl
              have g3 : wz.cell? ⟨w.heap.size + 1, 3, none⟩ = some (.int .u32 ((v.d + r.d) % 4294967296)) := by rw [cell_of_row wz _ _ _ _ _ hb7]; rfl
              have g4 : wz.cell? ⟨w.heap.size + 1, 4, none⟩ = some (.int .u32 ((v.e + r.e) % 4294967296)) := by rw [cell_of_row wz _ _ _ _ _ hb7]; rfl
              have g5 : wz.cell? ⟨w.heap.size + 1, 5, none⟩ = some (.int .u32 ((v.f + r.f) % 4294967296)) := by rw [cell_of_row wz _ _ _ _ _ hb7]; rfl
              have g6 : wz.cell? ⟨w.heap.size + 1, 6, none⟩ = some (.int .u32 ((v.g + r.g) % 4294967296)) := by rw [cell_of_row wz _ _ _ _ _ hb7]; rfl
              have g7 : wz.cell? ⟨w.heap.size + 1, 7, none⟩ = some (.int .u32 ((v.h + r.h) % 4294967296)) := by rw [cell_of_row wz _ _ _ _ _ hb7]; rfl
              clear hwz hb hb0 hb1 hb2 hb3 hb4 hb5 hb6 hb7
              refine bodyPost_ret (v := .agg #[.int .u32 ((v.a + r.a) % 4294967296), .int .u32 ((v.b + r.b) % 4294967296), .int .u32 ((v.c + r.c) % 4294967296), .int .u32 ((v.d + r.d) % 4294967296), .int .u32 ((v.e + r.e) % 4294967296), .int .u32 ((v.f + r.f) % 4294967296), .int .u32 ((v.g + r.g) % 4294967296), .int .u32 ((v.h + r.h) % 4294967296)]) (by simp [results, Tryz.results122, go_sem, g0, g1, g2, g3, g4, g5, g6, g7]) rfl ⟨?_, hfz⟩
              have hrr := hr.out
              subst hrr
              rw [← hws]
              rfl
end
section
open Go.RowKit
set_option maxRecDepth 100000
structure S4 where
  a : Int
  b : Int
  c : Int
  d : Int
def S4.arr (s : S4) : Array Value := #[.int .u64 s.a, .int .u64 s.b, .int .u64 s.c, .int .u64 s.d]
theorem set4 {w : World} {b : Nat} {T : TypeId} {x0 x1 x2 x3 y0 y1 y2 y3 : Value} (h : w.heap[b]? = some (.cells #[x0, x1, x2, x3] T (0, 0))) :
    ((((w.setCell ⟨b, 0, none⟩ y0).setCell ⟨b, 1, none⟩ y1).setCell ⟨b, 2, none⟩ y2).setCell ⟨b, 3, none⟩ y3).heap[b]? = some (.cells #[y0, y1, y2, y3] T (0, 0)) ∧ Frm [b] w ((((w.setCell ⟨b, 0, none⟩ y0).setCell ⟨b, 1, none⟩ y1).setCell ⟨b, 2, none⟩ y2).setCell ⟨b, 3, none⟩ y3) := by
  refine ⟨?_, ((((Frm.refl _ w).setCell _ _ (by simp)).setCell _ _ (by simp)).setCell _ _ (by simp)).setCell _ _ (by simp)⟩
  have h0 : (w.setCell ⟨b, 0, none⟩ y0).heap[b]? = some (.cells #[y0, x1, x2, x3] T (0, 0)) := by rw [heap_setCell_same _ _ 0 _ _ _ h]; rfl
  have h1 : ((w.setCell ⟨b, 0, none⟩ y0).setCell ⟨b, 1, none⟩ y1).heap[b]? = some (.cells #[y0, y1, x2, x3] T (0, 0)) := by rw [heap_setCell_same _ _ 1 _ _ _ h0]; rfl
  have h2 : (((w.setCell ⟨b, 0, none⟩ y0).setCell ⟨b, 1, none⟩ y1).setCell ⟨b, 2, none⟩ y2).heap[b]? = some (.cells #[y0, y1, y2, x3] T (0, 0)) := by rw [heap_setCell_same _ _ 2 _ _ _ h1]; rfl
  have h3 : ((((w.setCell ⟨b, 0, none⟩ y0).setCell ⟨b, 1, none⟩ y1).setCell ⟨b, 2, none⟩ y2).setCell ⟨b, 3, none⟩ y3).heap[b]? = some (.cells #[y0, y1, y2, y3] T (0, 0)) := by rw [heap_setCell_same _ _ 3 _ _ _ h2]; rfl
  exact h3
theorem set8 {w : World} {b : Nat} {T : TypeId} {x0 x1 x2 x3 x4 x5 x6 x7 y0 y1 y2 y3 y4 y5 y6 y7 : Value} (h : w.heap[b]? = some (.cells #[x0, x1, x2, x3, x4, x5, x6, x7] T (0, 0))) :
    ((((((((w.setCell ⟨b, 0, none⟩ y0).setCell ⟨b, 1, none⟩ y1).setCell ⟨b, 2, none⟩ y2).setCell ⟨b, 3, none⟩ y3).setCell ⟨b, 4, none⟩ y4).setCell ⟨b, 5, none⟩ y5).setCell ⟨b, 6, none⟩ y6).setCell ⟨b, 7, none⟩ y7).heap[b]? = some (.cells #[y0, y1, y2, y3, y4, y5, y6, y7] T (0, 0)) ∧ Frm [b] w ((((((((w.setCell ⟨b, 0, none⟩ y0).setCell ⟨b, 1, none⟩ y1).setCell ⟨b, 2, none⟩ y2).setCell ⟨b, 3, none⟩ y3).setCell ⟨b, 4, none⟩ y4).setCell ⟨b, 5, none⟩ y5).setCell ⟨b, 6, none⟩ y6).setCell ⟨b, 7, none⟩ y7) := by
  refine ⟨?_, ((((((((Frm.refl _ w).setCell _ _ (by simp)).setCell _ _ (by simp)).setCell _ _ (by simp)).setCell _ _ (by simp)).setCell _ _ (by simp)).setCell _ _ (by simp)).setCell _ _ (by simp)).setCell _ _ (by simp)⟩
  have h0 : (w.setCell ⟨b, 0, none⟩ y0).heap[b]? = some (.cells #[y0, x1, x2, x3, x4, x5, x6, x7] T (0, 0)) := by rw [heap_setCell_same _ _ 0 _ _ _ h]; rfl
  have h1 : ((w.setCell ⟨b, 0, none⟩ y0).setCell ⟨b, 1, none⟩ y1).heap[b]? = some (.cells #[y0, y1, x2, x3, x4, x5, x6, x7] T (0, 0)) := by rw [heap_setCell_same _ _ 1 _ _ _ h0]; rfl
  have h2 : (((w.setCell ⟨b, 0, none⟩ y0).setCell ⟨b, 1, none⟩ y1).setCell ⟨b, 2, none⟩ y2).heap[b]? = some (.cells #[y0, y1, y2, x3, x4, x5, x6, x7] T (0, 0)) := by rw [heap_setCell_same _ _ 2 _ _ _ h1]; rfl
  have h3 : ((((w.setCell ⟨b, 0, none⟩ y0).setCell ⟨b, 1, none⟩ y1).setCell ⟨b, 2, none⟩ y2).setCell ⟨b, 3, none⟩ y3).heap[b]? = some (.cells #[y0, y1, y2, y3, x4, x5, x6, x7] T (0, 0)) := by rw [heap_setCell_same _ _ 3 _ _ _ h2]; rfl
  have h4 : (((((w.setCell ⟨b, 0, none⟩ y0).setCell ⟨b, 1, none⟩ y1).setCell ⟨b, 2, none⟩ y2).setCell ⟨b, 3, none⟩ y3).setCell ⟨b, 4, none⟩ y4).heap[b]? = some (.cells #[y0, y1, y2, y3, y4, x5, x6, x7] T (0, 0)) := by rw [heap_setCell_same _ _ 4 _ _ _ h3]; rfl
  have h5 : ((((((w.setCell ⟨b, 0, none⟩ y0).setCell ⟨b, 1, none⟩ y1).setCell ⟨b, 2, none⟩ y2).setCell ⟨b, 3, none⟩ y3).setCell ⟨b, 4, none⟩ y4).setCell ⟨b, 5, none⟩ y5).heap[b]? = some (.cells #[y0, y1, y2, y3, y4, y5, x6, x7] T (0, 0)) := by rw [heap_setCell_same _ _ 5 _ _ _ h4]; rfl
  have h6 : (((((((w.setCell ⟨b, 0, none⟩ y0).setCell ⟨b, 1, none⟩ y1).setCell ⟨b, 2, none⟩ y2).setCell ⟨b, 3, none⟩ y3).setCell ⟨b, 4, none⟩ y4).setCell ⟨b, 5, none⟩ y5).setCell ⟨b, 6, none⟩ y6).heap[b]? = some (.cells #[y0, y1, y2, y3, y4, y5, y6, x7] T (0, 0)) := by rw [heap_setCell_same _ _ 6 _ _ _ h5]; rfl
  have h7 : ((((((((w.setCell ⟨b, 0, none⟩ y0).setCell ⟨b, 1, none⟩ y1).setCell ⟨b, 2, none⟩ y2).setCell ⟨b, 3, none⟩ y3).setCell ⟨b, 4, none⟩ y4).setCell ⟨b, 5, none⟩ y5).setCell ⟨b, 6, none⟩ y6).setCell ⟨b, 7, none⟩ y7).heap[b]? = some (.cells #[y0, y1, y2, y3, y4, y5, y6, y7] T (0, 0)) := by rw [heap_setCell_same _ _ 7 _ _ _ h6]; rfl
  exact h7
def H0 : V8 := ⟨1779033703, 3144134277, 1013904242, 2773480762, 1359893119, 2600822924, 528734635, 1541459225⟩
theorem zero_tail (w : World) : (zeroValue 139).run Tryz.prog w = .ok (.agg (bv (List.replicate 128 0)).toArray) w := by
  have h : (Tryz.prog.info? 139).map (fun i => i.zero) = some (some (.agg (bv (List.replicate 128 0)).toArray)) := by kernel_rfl
  obtain ⟨i, hi, hz⟩ := Option.map_eq_some_iff.1 h
  simp [zeroValue, typeInfo, hi, hz]
def OkB (T : List Int) : Prop := ∀ z ∈ T, 0 ≤ z ∧ z < 256
theorem OkB.set {T : List Int} (h : OkB T) (i : Nat) {z : Int} (hz : 0 ≤ z ∧ z < 256) : OkB (T.set i z) := fun y hy => by
  rcases List.mem_or_eq_of_mem_set hy with hy | hy
  · exact h y hy
  · rw [hy]; exact hz
def V8.ok (v : V8) : Prop := (0 ≤ v.a ∧ v.a < 4294967296) ∧ (0 ≤ v.b ∧ v.b < 4294967296) ∧ (0 ≤ v.c ∧ v.c < 4294967296) ∧ (0 ≤ v.d ∧ v.d < 4294967296) ∧ (0 ≤ v.e ∧ v.e < 4294967296) ∧ (0 ≤ v.f ∧ v.f < 4294967296) ∧ (0 ≤ v.g ∧ v.g < 4294967296) ∧ (0 ≤ v.h ∧ v.h < 4294967296)
theorem blockV_ok (v : V8) (zs : List Int) : (blockV v zs).ok := by
  unfold blockV addV V8.ok
  refine ⟨?_, ?_, ?_, ?_, ?_, ?_, ?_, ?_⟩ <;> simp only <;> omega
def sumV (v : V8) : S4 := ⟨pairW v.a v.b, pairW v.c v.d, pairW v.e v.f, pairW v.g v.h⟩
theorem cut_tail (b : Nat) (W : World) : (Instr.sliceAt 139 (.pointer (some ⟨b, 0, none⟩)) (some (.int .i64 0)) (some (.int .i64 64)) none).run Tryz.prog W = .ok (.slice (some ⟨b, 0, none⟩) 64 128) W := by
  rw [run_sliceAt_array_lh W 139 _ (by kernel_rfl) .i64 .i64 0 64 (by omega) (by omega) (by rw [show Tryz.prog.arrayLen 139 = 128 from by kernel_rfl]; omega)]
  rw [show ∀ W : World, (sizeOf (Tryz.prog.elem 139)).run Tryz.prog W = .ok 1 W from fun W => by kernel_rfl]
  rw [show Tryz.prog.arrayLen 139 = 128 from by kernel_rfl]
  simp [Result.andThen_ok, slicedAt, Addr.add]
end
section
open Go.RowKit
set_option maxRecDepth 100000
def wordS (s : S4) (x : Int) : S4 := ⟨IntKind.u64.wrap (s.a + x), IntKind.u64.wrap (s.b + IntKind.u64.wrap (s.a + x)), IntKind.u64.wrap (s.c + IntKind.u64.wrap (s.b + IntKind.u64.wrap (s.a + x))), IntKind.u64.wrap (s.d + IntKind.u64.wrap (s.c + IntKind.u64.wrap (s.b + IntKind.u64.wrap (s.a + x))))⟩
theorem lowW_bd (a b c d : Int) : 0 ≤ lowW a b c d ∧ lowW a b c d < 4294967296 := by
  have h : ∀ n : Int, 0 ≤ IntKind.u32.wrap n ∧ IntKind.u32.wrap n < 4294967296 := fun n => by
    show 0 ≤ n % 4294967296 ∧ n % 4294967296 < 4294967296
    omega
  exact h _
theorem elem_of {P : Program} {t e : TypeId} (ht : P.underlying t = some (.slice e)) : P.underlying t = some (.slice (P.elem t)) := by simp [Program.elem, ht]
theorem slice_low {P : Program} {t e : TypeId} (ht : P.underlying t = some (.slice e)) (hI : (P.info? e).map (fun i => (i.zero, i.size, i.bytes)) = some (some (.int .u8 0), 1, 1)) (p : Option Addr) (zs : List Int) (n c lo : Nat) (hn : zs.length = n) (hlo : lo ≤ n) (hc : n ≤ c) (w : World) (hr : Rd w p zs) :
    ∃ pp, (∀ W : World, (Instr.slice t (.slice p n c) (some (.int .i64 (lo : Int))) none none).run P W = .ok (.slice pp (n - lo) (c - lo)) W) ∧ Rd w pp (zs.drop lo) := by
  obtain ⟨i, hi, hz, h1, h2⟩ := info_parts hI
  have he : P.elem t = e := by simp [Program.elem, ht]
  refine ⟨if c = lo then p else p.map (·.add lo), fun W => ?_, ?_⟩
  · rw [run_slice_l W t _ _ _ (elem_of ht) .i64 _ (by omega) (by omega), he]
    have hs : (sizeOf e).run P W = .ok 1 W := by simp [sizeOf, typeInfo, hi, h1, Result.andThen]
    rw [hs]
    simp [Result.andThen, sliced]
  · by_cases h : c = lo
    · rw [if_pos h, List.drop_eq_nil_of_le (by omega)]
      exact Rd.nil _ _
    · rw [if_neg h]
      rcases hr with hr | ⟨g, o, rfl, hr⟩
      · subst hr
        rw [List.drop_nil]
        exact Rd.nil _ _
      · have h2 := Rd.drop (Or.inr ⟨g, o, rfl, hr⟩ : Rd w (some ⟨g, o, none⟩) zs) lo
        by_cases h0 : lo = 0
        · simpa [Addr.add, h0] using h2
        · simpa [Addr.add, h0] using h2
end
section
open Go.RowKit
set_option maxRecDepth 100000
/-- A slice from a bound on, and where its bytes lie. -/
theorem slice_from (p : Option Addr) (zs : List Int) (n c lo : Nat) (hn : zs.length = n) (hlo : lo ≤ n) (hc : n ≤ c) (w : World) (hr : Rd w p zs) :
    ∃ pp, (∀ W : World, (Instr.sliceAt 24 (.slice p n c) (some (.int .i64 (lo : Int))) none none).run Tryz.prog W = .ok (.slice pp (n - lo) (c - lo)) W) ∧ Rd w pp (zs.drop lo) ∧ ∀ k ∈ blk pp, k ∈ blk p := by
  obtain ⟨pp, h1, h2⟩ := slice_low (P := Tryz.prog) Tryz.underlying24 infoB p zs n c lo hn hlo hc w hr
  have h3 : ∀ W : World, (Instr.sliceAt 24 (.slice p n c) (some (.int .i64 (lo : Int))) none none).run Tryz.prog W = .ok (.slice pp (n - lo) (c - lo)) W := fun W => by
    rw [run_sliceAt_slice (h := elem_of Tryz.underlying24)]
    exact h1 W
  refine ⟨pp, h3, h2, ?_⟩
  have h4 := (h1 w).symm.trans (by
    have hx : (Instr.slice 24 (.slice p n c) (some (.int .i64 (lo : Int))) none none).run Tryz.prog w = .ok (.slice (if c = lo then p else p.map (·.add lo)) (n - lo) (c - lo)) w := by
      have hI : (Tryz.prog.info? 5).map (fun i => (i.zero, i.size, i.bytes)) = some (some (.int .u8 0), 1, 1) := infoB
      obtain ⟨i, hi, hz, e1, e2⟩ := info_parts hI
      rw [run_slice_l w 24 _ _ _ (elem_of Tryz.underlying24) .i64 _ (by omega) (by omega), show Tryz.prog.elem 24 = 5 by simp [Program.elem, Tryz.underlying24]]
      have hs : (sizeOf 5).run Tryz.prog w = .ok 1 w := by simp [sizeOf, typeInfo, hi, e1, Result.andThen]
      rw [hs]
      simp [Result.andThen, sliced]
    exact hx)
  simp only [Result.ok.injEq, Value.slice.injEq, and_true] at h4
  rw [h4]
  intro k hk
  split at hk
  · exact hk
  · cases p with
    | none => simp [blk] at hk
    | some a => by_cases h0 : lo = 0 <;> simpa [blk, Addr.add, h0] using hk
/-- The sum behind so many words; bytes behind the end are noughts. -/
def flW (s : S4) (zs : List Int) : Nat → S4
  | 0 => s
  | k + 1 => wordS (flW s zs k) (lowW (zA zs (4 * k)) (zA zs (4 * k + 1)) (zA zs (4 * k + 2)) (zA zs (4 * k + 3)))
end
section
open Go.RowKit
set_option maxRecDepth 100000
def Z4 : S4 := ⟨0, 0, 0, 0⟩
/-- Fletcher's sum. -/
def fletch (zs : List Int) : S4 := if zs.length % 4 = 0 then flW Z4 zs (zs.length / 4) else wordS (flW Z4 zs (zs.length / 4)) (lowW (zA zs (4 * (zs.length / 4))) (zA zs (4 * (zs.length / 4) + 1)) (zA zs (4 * (zs.length / 4) + 2)) 0)
theorem zA_bd {zs : List Int} (hb : ∀ z ∈ zs, 0 ≤ z ∧ z < 256) (i : Nat) : 0 ≤ zA zs i ∧ zA zs i < 256 := by
  unfold zA
  rw [List.getD_eq_getElem?_getD]
  by_cases hi : i < zs.length
  · rw [List.getElem?_eq_getElem hi]
    exact hb _ (List.getElem_mem hi)
  · rw [List.getElem?_eq_none (by omega)]
    simp
end
end Go.Proofs.YtajfjkfnmmfhmaaGreatDoor
