/- Contracts of package sum: a block of SHA-256. Contracts of package sum: SHA-256 of few bytes. Contracts of package sum: Fletcher's sum, piece by piece. Contracts of package sum: Add to a fresh running sum. Contracts of package sum: Value, Of. Contracts of package ptr: what is laid down of a sum and of a pointer. Contracts of package ptr: a pointer's form. Contracts of package ptr: Check of a pointer, the program's and the document's. Contracts of package ptr: Encode of a pointer. Contracts of package ptr: an uberblock: Check, what is laid down. Contracts of package ptr: an uberblock's form; a body's sum behind it. -/
import Derived.Test.YtkolbijhekbelaaQac
import Derived.StillTailTactics
import Derived.BigRegion
import Derived.Deep.RegionHeld3
import Derived.Test.YtkolbijhekbelaaQab
import Derived.Lib.SlBytesConst
namespace Go.Proofs.Ytkolbijhekbelaa
section
open Go.RowKit
set_option maxRecDepth 100000

structure V8 where
  a : Int
  b : Int
  c : Int
  d : Int
  e : Int
  f : Int
  g : Int
  h : Int
def V8.arr (v : V8) : Array Value := #[.int .u32 v.a, .int .u32 v.b, .int .u32 v.c, .int .u32 v.d, .int .u32 v.e, .int .u32 v.f, .int .u32 v.g, .int .u32 v.h]
def zA (zs : List Int) (i : Nat) : Int := zs.getD i 0
def wA (zs : List Int) : Nat → List Int
  | 0 => List.replicate 64 0
  | t + 1 => (wA zs t).set t (lowW (zA zs (4 * t + 3)) (zA zs (4 * t + 2)) (zA zs (4 * t + 1)) (zA zs (4 * t)))
def sg0 (x : Int) : Int := bits .xor .u32 (bits .xor .u32 (rorI x 7) (rorI x 18)) (x / 8)
def sg1 (x : Int) : Int := bits .xor .u32 (bits .xor .u32 (rorI x 17) (rorI x 19)) (x / 1024)
def wN (c : List Int) (t : Nat) : Int := (zA c (t - 16) + sg0 (zA c (t - 15)) + zA c (t - 7) + sg1 (zA c (t - 2))) % 4294967296
def wB (c : List Int) : Nat → List Int
  | 0 => c
  | t + 1 => (wB c t).set (16 + t) (wN (wB c t) (16 + t))
def wv (l : List Int) : List Value := l.map (fun z => Value.int .u32 z)
theorem wA_length (zs : List Int) (t : Nat) : (wA zs t).length = 64 := by
  induction t with
  | zero => simp [wA]
  | succ t ih => simp [wA, ih]
def t1F (r : V8) (k w : Int) : Int := ((r.h + bits .xor .u32 (bits .xor .u32 (rorI r.e 6) (rorI r.e 11)) (rorI r.e 25) + bits .xor .u32 (bits .and .u32 r.e r.f) (bits .and .u32 (bits .xor .u32 (if IntKind.u32.signed = true then -1 else IntKind.u32.max) r.e) r.g) + k) % 4294967296 + w) % 4294967296
def t2F (r : V8) : Int := (bits .xor .u32 (bits .xor .u32 (rorI r.a 2) (rorI r.a 13)) (rorI r.a 22) + bits .xor .u32 (bits .xor .u32 (bits .and .u32 r.a r.b) (bits .and .u32 r.a r.c)) (bits .and .u32 r.b r.c)) % 4294967296
def rnd (r : V8) (k w : Int) : V8 := ⟨(t1F r k w + t2F r) % 4294967296, r.a, r.b, r.c, (r.d + t1F r k w) % 4294967296, r.e, r.f, r.g⟩
/-- The numbers of the rounds. -/
def PR : List Int := [1116352408, 1899447441, 3049323471, 3921009573, 961987163, 1508970993, 2453635748, 2870763221, 3624381080, 310598401, 607225278, 1426881987, 1925078388, 2162078206, 2614888103, 3248222580, 3835390401, 4022224774, 264347078, 604807628, 770255983, 1249150122, 1555081692, 1996064986, 2554220882, 2821834349, 2952996808, 3210313671, 3336571891, 3584528711, 113926993, 338241895, 666307205, 773529912, 1294757372, 1396182291, 1695183700, 1986661051, 2177026350, 2456956037, 2730485921, 2820302411, 3259730800, 3345764771, 3516065817, 3600352804, 4094571909, 275423344, 430227734, 506948616, 659060556, 883997877, 958139571, 1322822218, 1537002063, 1747873779, 1955562222, 2024104815, 2227730452, 2361852424, 2428436474, 2756734187, 3204031479, 3329325298]
def rnds (ws : List Int) (v : V8) : Nat → V8
  | 0 => v
  | t + 1 => rnd (rnds ws v t) (zA PR t) (zA ws t)
def addV (v r : V8) : V8 := ⟨(v.a + r.a) % 4294967296, (v.b + r.b) % 4294967296, (v.c + r.c) % 4294967296, (v.d + r.d) % 4294967296, (v.e + r.e) % 4294967296, (v.f + r.f) % 4294967296, (v.g + r.g) % 4294967296, (v.h + r.h) % 4294967296⟩
/-- What a block makes of the eight words. -/
def blockV (v : V8) (zs : List Int) : V8 := addV v (rnds (wB (wA zs 16) 48) v 64)
end
section
open Go.RowKit
set_option maxRecDepth 100000

structure S4 where
  a : Int
  b : Int
  c : Int
  d : Int
def S4.arr (s : S4) : Array Value := #[.int .u64 s.a, .int .u64 s.b, .int .u64 s.c, .int .u64 s.d]
theorem set4 {w : World} {b : Nat} {T : TypeId} {x0 x1 x2 x3 y0 y1 y2 y3 : Value} (h : w.heap[b]? = some (.cells #[x0, x1, x2, x3] T (0, 0))) :
    ((((w.setCell ⟨b, 0, none⟩ y0).setCell ⟨b, 1, none⟩ y1).setCell ⟨b, 2, none⟩ y2).setCell ⟨b, 3, none⟩ y3).heap[b]? = some (.cells #[y0, y1, y2, y3] T (0, 0)) ∧ Frm [b] w ((((w.setCell ⟨b, 0, none⟩ y0).setCell ⟨b, 1, none⟩ y1).setCell ⟨b, 2, none⟩ y2).setCell ⟨b, 3, none⟩ y3) := by
  refine ⟨?_, ((((Frm.refl _ w).setCell _ _ (by simp)).setCell _ _ (by simp)).setCell _ _ (by simp)).setCell _ _ (by simp)⟩
  have h0 : (w.setCell ⟨b, 0, none⟩ y0).heap[b]? = some (.cells #[y0, x1, x2, x3] T (0, 0)) := by rw [heap_setCell_same _ _ 0 _ _ _ h]; rfl
  have h1 : ((w.setCell ⟨b, 0, none⟩ y0).setCell ⟨b, 1, none⟩ y1).heap[b]? = some (.cells #[y0, y1, x2, x3] T (0, 0)) := by rw [heap_setCell_same _ _ 1 _ _ _ h0]; rfl
  have h2 : (((w.setCell ⟨b, 0, none⟩ y0).setCell ⟨b, 1, none⟩ y1).setCell ⟨b, 2, none⟩ y2).heap[b]? = some (.cells #[y0, y1, y2, x3] T (0, 0)) := by rw [heap_setCell_same _ _ 2 _ _ _ h1]; rfl
  have h3 : ((((w.setCell ⟨b, 0, none⟩ y0).setCell ⟨b, 1, none⟩ y1).setCell ⟨b, 2, none⟩ y2).setCell ⟨b, 3, none⟩ y3).heap[b]? = some (.cells #[y0, y1, y2, y3] T (0, 0)) := by rw [heap_setCell_same _ _ 3 _ _ _ h2]; rfl
  exact h3
theorem set8 {w : World} {b : Nat} {T : TypeId} {x0 x1 x2 x3 x4 x5 x6 x7 y0 y1 y2 y3 y4 y5 y6 y7 : Value} (h : w.heap[b]? = some (.cells #[x0, x1, x2, x3, x4, x5, x6, x7] T (0, 0))) :
    ((((((((w.setCell ⟨b, 0, none⟩ y0).setCell ⟨b, 1, none⟩ y1).setCell ⟨b, 2, none⟩ y2).setCell ⟨b, 3, none⟩ y3).setCell ⟨b, 4, none⟩ y4).setCell ⟨b, 5, none⟩ y5).setCell ⟨b, 6, none⟩ y6).setCell ⟨b, 7, none⟩ y7).heap[b]? = some (.cells #[y0, y1, y2, y3, y4, y5, y6, y7] T (0, 0)) ∧ Frm [b] w ((((((((w.setCell ⟨b, 0, none⟩ y0).setCell ⟨b, 1, none⟩ y1).setCell ⟨b, 2, none⟩ y2).setCell ⟨b, 3, none⟩ y3).setCell ⟨b, 4, none⟩ y4).setCell ⟨b, 5, none⟩ y5).setCell ⟨b, 6, none⟩ y6).setCell ⟨b, 7, none⟩ y7) := by
  refine ⟨?_, ((((((((Frm.refl _ w).setCell _ _ (by simp)).setCell _ _ (by simp)).setCell _ _ (by simp)).setCell _ _ (by simp)).setCell _ _ (by simp)).setCell _ _ (by simp)).setCell _ _ (by simp)).setCell _ _ (by simp)⟩
  have h0 : (w.setCell ⟨b, 0, none⟩ y0).heap[b]? = some (.cells #[y0, x1, x2, x3, x4, x5, x6, x7] T (0, 0)) := by rw [heap_setCell_same _ _ 0 _ _ _ h]; rfl
  have h1 : ((w.setCell ⟨b, 0, none⟩ y0).setCell ⟨b, 1, none⟩ y1).heap[b]? = some (.cells #[y0, y1, x2, x3, x4, x5, x6, x7] T (0, 0)) := by rw [heap_setCell_same _ _ 1 _ _ _ h0]; rfl
  have h2 : (((w.setCell ⟨b, 0, none⟩ y0).setCell ⟨b, 1, none⟩ y1).setCell ⟨b, 2, none⟩ y2).heap[b]? = some (.cells #[y0, y1, y2, x3, x4, x5, x6, x7] T (0, 0)) := by rw [heap_setCell_same _ _ 2 _ _ _ h1]; rfl
  have h3 : ((((w.setCell ⟨b, 0, none⟩ y0).setCell ⟨b, 1, none⟩ y1).setCell ⟨b, 2, none⟩ y2).setCell ⟨b, 3, none⟩ y3).heap[b]? = some (.cells #[y0, y1, y2, y3, x4, x5, x6, x7] T (0, 0)) := by rw [heap_setCell_same _ _ 3 _ _ _ h2]; rfl
  have h4 : (((((w.setCell ⟨b, 0, none⟩ y0).setCell ⟨b, 1, none⟩ y1).setCell ⟨b, 2, none⟩ y2).setCell ⟨b, 3, none⟩ y3).setCell ⟨b, 4, none⟩ y4).heap[b]? = some (.cells #[y0, y1, y2, y3, y4, x5, x6, x7] T (0, 0)) := by rw [heap_setCell_same _ _ 4 _ _ _ h3]; rfl
  have h5 : ((((((w.setCell ⟨b, 0, none⟩ y0).setCell ⟨b, 1, none⟩ y1).setCell ⟨b, 2, none⟩ y2).setCell ⟨b, 3, none⟩ y3).setCell ⟨b, 4, none⟩ y4).setCell ⟨b, 5, none⟩ y5).heap[b]? = some (.cells #[y0, y1, y2, y3, y4, y5, x6, x7] T (0, 0)) := by rw [heap_setCell_same _ _ 5 _ _ _ h4]; rfl
  have h6 : (((((((w.setCell ⟨b, 0, none⟩ y0).setCell ⟨b, 1, none⟩ y1).setCell ⟨b, 2, none⟩ y2).setCell ⟨b, 3, none⟩ y3).setCell ⟨b, 4, none⟩ y4).setCell ⟨b, 5, none⟩ y5).setCell ⟨b, 6, none⟩ y6).heap[b]? = some (.cells #[y0, y1, y2, y3, y4, y5, y6, x7] T (0, 0)) := by rw [heap_setCell_same _ _ 6 _ _ _ h5]; rfl
  have h7 : ((((((((w.setCell ⟨b, 0, none⟩ y0).setCell ⟨b, 1, none⟩ y1).setCell ⟨b, 2, none⟩ y2).setCell ⟨b, 3, none⟩ y3).setCell ⟨b, 4, none⟩ y4).setCell ⟨b, 5, none⟩ y5).setCell ⟨b, 6, none⟩ y6).setCell ⟨b, 7, none⟩ y7).heap[b]? = some (.cells #[y0, y1, y2, y3, y4, y5, y6, y7] T (0, 0)) := by rw [heap_setCell_same _ _ 7 _ _ _ h6]; rfl
  exact h7
def H0 : V8 := ⟨1779033703, 3144134277, 1013904242, 2773480762, 1359893119, 2600822924, 528734635, 1541459225⟩
def lenB (n i : Nat) : Int := (n : Int) * 8 / 2 ^ (8 * i) % 256
def tlF (n : Nat) (T : List Int) : Nat → List Int
  | 0 => T
  | i + 1 => (tlF n T i).set (63 - i) (lenB n i)
def OkB (T : List Int) : Prop := ∀ z ∈ T, 0 ≤ z ∧ z < 256
theorem OkB.set {T : List Int} (h : OkB T) (i : Nat) {z : Int} (hz : 0 ≤ z ∧ z < 256) : OkB (T.set i z) := fun y hy => by
  rcases List.mem_or_eq_of_mem_set hy with hy | hy
  · exact h y hy
  · rw [hy]; exact hz
theorem OkB.tl {T : List Int} (h : OkB T) (n i : Nat) : OkB (tlF n T i) := by
  induction i with
  | zero => exact h
  | succ i ih => exact ih.set _ (by unfold lenB; omega)
def V8.ok (v : V8) : Prop := (0 ≤ v.a ∧ v.a < 4294967296) ∧ (0 ≤ v.b ∧ v.b < 4294967296) ∧ (0 ≤ v.c ∧ v.c < 4294967296) ∧ (0 ≤ v.d ∧ v.d < 4294967296) ∧ (0 ≤ v.e ∧ v.e < 4294967296) ∧ (0 ≤ v.f ∧ v.f < 4294967296) ∧ (0 ≤ v.g ∧ v.g < 4294967296) ∧ (0 ≤ v.h ∧ v.h < 4294967296)
theorem blockV_ok (v : V8) (zs : List Int) : (blockV v zs).ok := by
  unfold blockV addV V8.ok
  refine ⟨?_, ?_, ?_, ?_, ?_, ?_, ?_, ?_⟩ <;> simp only <;> omega
def sumV (v : V8) : S4 := ⟨pairW v.a v.b, pairW v.c v.d, pairW v.e v.f, pairW v.g v.h⟩
/-- The bytes that are laid behind fewer than 56, with them. -/
def padS (zs : List Int) : List Int := (tlF zs.length ((zs ++ List.replicate (128 - zs.length) 0).set zs.length 128) 8).take 64
def shaS (zs : List Int) : S4 := sumV (blockV H0 (padS zs))
end
section
open Go.RowKit
set_option maxRecDepth 100000

def wordS (s : S4) (x : Int) : S4 := ⟨IntKind.u64.wrap (s.a + x), IntKind.u64.wrap (s.b + IntKind.u64.wrap (s.a + x)), IntKind.u64.wrap (s.c + IntKind.u64.wrap (s.b + IntKind.u64.wrap (s.a + x))), IntKind.u64.wrap (s.d + IntKind.u64.wrap (s.c + IntKind.u64.wrap (s.b + IntKind.u64.wrap (s.a + x))))⟩
theorem lowW_bd (a b c d : Int) : 0 ≤ lowW a b c d ∧ lowW a b c d < 4294967296 := by
  have h : ∀ n : Int, 0 ≤ IntKind.u32.wrap n ∧ IntKind.u32.wrap n < 4294967296 := fun n => by
    show 0 ≤ n % 4294967296 ∧ n % 4294967296 < 4294967296
    omega
  exact h _
theorem elem_of {P : Program} {t e : TypeId} (ht : P.underlying t = some (.slice e)) : P.underlying t = some (.slice (P.elem t)) := by simp [Program.elem, ht]
theorem slice_low {P : Program} {t e : TypeId} (ht : P.underlying t = some (.slice e)) (hI : (P.info? e).map (fun i => (i.zero, i.size, i.bytes)) = some (some (.int .u8 0), 1, 1)) (p : Option Addr) (zs : List Int) (n c lo : Nat) (hn : zs.length = n) (hlo : lo ≤ n) (hc : n ≤ c) (w : World) (hr : Rd w p zs) :
    ∃ pp, (∀ W : World, (Instr.slice t (.slice p n c) (some (.int .i64 (lo : Int))) none none).run P W = .ok (.slice pp (n - lo) (c - lo)) W) ∧ Rd w pp (zs.drop lo) := by
  obtain ⟨i, hi, hz, h1, h2⟩ := info_parts hI
  have he : P.elem t = e := by simp [Program.elem, ht]
  refine ⟨if c = lo then p else p.map (·.add lo), fun W => ?_, ?_⟩
  · rw [run_slice_l W t _ _ _ (elem_of ht) .i64 _ (by omega) (by omega), he]
    have hs : (sizeOf e).run P W = .ok 1 W := by simp [sizeOf, typeInfo, hi, h1, Result.andThen]
    rw [hs]
    simp [Result.andThen, sliced]
  · by_cases h : c = lo
    · rw [if_pos h, List.drop_eq_nil_of_le (by omega)]
      exact Rd.nil _ _
    · rw [if_neg h]
      rcases hr with hr | ⟨g, o, rfl, hr⟩
      · subst hr
        rw [List.drop_nil]
        exact Rd.nil _ _
      · have h2 := Rd.drop (Or.inr ⟨g, o, rfl, hr⟩ : Rd w (some ⟨g, o, none⟩) zs) lo
        by_cases h0 : lo = 0
        · simpa [Addr.add, h0] using h2
        · simpa [Addr.add, h0] using h2
end
section
open Go.RowKit
set_option maxRecDepth 100000

/-- A slice from a bound on, and where its bytes lie. -/
theorem slice_from (p : Option Addr) (zs : List Int) (n c lo : Nat) (hn : zs.length = n) (hlo : lo ≤ n) (hc : n ≤ c) (w : World) (hr : Rd w p zs) :
    ∃ pp, (∀ W : World, (Instr.sliceAt 22 (.slice p n c) (some (.int .i64 (lo : Int))) none none).run Try.prog W = .ok (.slice pp (n - lo) (c - lo)) W) ∧ Rd w pp (zs.drop lo) ∧ ∀ k ∈ blk pp, k ∈ blk p := by
  obtain ⟨pp, h1, h2⟩ := slice_low (P := Try.prog) Try.underlying22 infoB p zs n c lo hn hlo hc w hr
  have h3 : ∀ W : World, (Instr.sliceAt 22 (.slice p n c) (some (.int .i64 (lo : Int))) none none).run Try.prog W = .ok (.slice pp (n - lo) (c - lo)) W := fun W => by
    rw [run_sliceAt_slice (h := elem_of Try.underlying22)]
    exact h1 W
  refine ⟨pp, h3, h2, ?_⟩
  have h4 := (h1 w).symm.trans (by
    have hx : (Instr.slice 22 (.slice p n c) (some (.int .i64 (lo : Int))) none none).run Try.prog w = .ok (.slice (if c = lo then p else p.map (·.add lo)) (n - lo) (c - lo)) w := by
      have hI : (Try.prog.info? 5).map (fun i => (i.zero, i.size, i.bytes)) = some (some (.int .u8 0), 1, 1) := infoB
      obtain ⟨i, hi, hz, e1, e2⟩ := info_parts hI
      rw [run_slice_l w 22 _ _ _ (elem_of Try.underlying22) .i64 _ (by omega) (by omega), show Try.prog.elem 22 = 5 by simp [Program.elem, Try.underlying22]]
      have hs : (sizeOf 5).run Try.prog w = .ok 1 w := by simp [sizeOf, typeInfo, hi, e1, Result.andThen]
      rw [hs]
      simp [Result.andThen, sliced]
    exact hx)
  simp only [Result.ok.injEq, Value.slice.injEq, and_true] at h4
  rw [h4]
  intro k hk
  split at hk
  · exact hk
  · cases p with
    | none => simp [blk] at hk
    | some a => by_cases h0 : lo = 0 <;> simpa [blk, Addr.add, h0] using hk
/-- The sum behind so many words; bytes behind the end are noughts. -/
def flW (s : S4) (zs : List Int) : Nat → S4
  | 0 => s
  | k + 1 => wordS (flW s zs k) (lowW (zA zs (4 * k)) (zA zs (4 * k + 1)) (zA zs (4 * k + 2)) (zA zs (4 * k + 3)))
theorem zA_drop (zs : List Int) (a i : Nat) : (zs.drop a).getD i 0 = zA zs (a + i) := by
  unfold zA
  rw [List.getD_eq_getElem?_getD, List.getD_eq_getElem?_getD, List.getElem?_drop]
def lenV : Value → Nat
  | .slice _ n _ => n
  | _ => 0
def xi (zs : List Int) (a t i : Nat) : Int := if i < t then zA zs (a + i) else 0
end
section
open Go.RowKit
set_option maxRecDepth 100000

def Z4 : S4 := ⟨0, 0, 0, 0⟩
/-- Fletcher's sum. -/
def fletch (zs : List Int) : S4 := if zs.length % 4 = 0 then flW Z4 zs (zs.length / 4) else wordS (flW Z4 zs (zs.length / 4)) (lowW (zA zs (4 * (zs.length / 4))) (zA zs (4 * (zs.length / 4) + 1)) (zA zs (4 * (zs.length / 4) + 2)) 0)
theorem zA_bd {zs : List Int} (hb : ∀ z ∈ zs, 0 ≤ z ∧ z < 256) (i : Nat) : 0 ≤ zA zs i ∧ zA zs i < 256 := by
  unfold zA
  rw [List.getD_eq_getElem?_getD]
  by_cases hi : i < zs.length
  · rw [List.getElem?_eq_getElem hi]
    exact hb _ (List.getElem_mem hi)
  · rw [List.getElem?_eq_none (by omega)]
    simp
end
section
open Go.RowKit
set_option maxRecDepth 100000

theorem FreshW.alloc {w0 w : World} {b : Nat} {room : Int} {s : List Int × Int} {A : List Nat} (h : FreshW w0 w b room s A) (o : Obj) : FreshW w0 (w.alloc o) b room s (w.heap.size :: A) ∧ Keeps A w (w.alloc o) := by
  obtain ⟨fp, h1, h2, h3, h4⟩ := h
  have hf : Frm [] w (w.alloc o) := (Frm.refl _ _).alloc _
  refine ⟨⟨fp, h1.kept hf (by simp), h2.trans hf (by simp), h3, fun k hk => ?_⟩, hf.keeps (fun k hk => ⟨by simp, (h4 k hk).2⟩)⟩
  rcases List.mem_cons.1 hk with rfl | hk
  · exact ⟨fun hm => absurd (h1.lt _ hm) (Nat.lt_irrefl _), by simp⟩
  · exact ⟨(h4 k hk).1, Nat.lt_of_lt_of_le (h4 k hk).2 hf.size⟩
theorem FreshW.less {w0 w : World} {b : Nat} {room : Int} {s : List Int × Int} {A B : List Nat} (h : FreshW w0 w b room s A) (hB : ∀ k ∈ B, k ∈ A) : FreshW w0 w b room s B := by
  obtain ⟨fp, h1, h2, h3, h4⟩ := h
  exact ⟨fp, h1, h2, h3, fun k hk => h4 k (hB k hk)⟩
theorem Keeps.trans {A : List Nat} {u v w : World} (h : Keeps A u v) (k : Keeps A v w) : Keeps A u w := fun x hx => (k x hx).trans (h x hx)
theorem Keeps.less {A B : List Nat} {u v : World} (h : Keeps A u v) (hB : ∀ k ∈ B, k ∈ A) : Keeps B u v := fun x hx => h x (hB x hx)
/-- A number that fits is laid down. -/
theorem num_fit (w0 w : World) (b : Nat) (room : Int) (zs : List Int) (A : List Nat) (hw : FreshW w0 w b room (zs, 0) A) (hr1 : room ≤ 2147483647) (n : Int) (k : Nat) (hn : 0 ≤ n) (hk1 : 1 ≤ k) (hk8 : k ≤ 8) (hfit : n < 2 ^ (8 * k)) (hz : (zs.length : Int) + k ≤ room) :
    Calls Try.prog 63 #[.pointer (some ⟨b, 0, none⟩), .int .u64 n, .int .i64 (k : Int)] w fun e w' => e = .returned (.tuple #[]) ∧ FreshW w0 w' b room (zs ++ le n k, 0) A ∧ Keeps A w w' := by
  have h2 : (2 : Int) ^ (8 * k) ≤ 18446744073709551616 := by
    have hk : k = 1 ∨ k = 2 ∨ k = 3 ∨ k = 4 ∨ k = 5 ∨ k = 6 ∨ k = 7 ∨ k = 8 := by omega
    rcases hk with rfl | rfl | rfl | rfl | rfl | rfl | rfl | rfl <;> decide
  have h := numF_any w0 w b room (zs, 0) A hw (by omega) hr1 (by simp only; omega) n (k : Int) hn (by omega) (by omega) (by omega)
  have e : stepW room (zs, 0) (numF n (k : Int)) = (zs ++ le n k, 0) := by
    have h0 : n / 2 ^ (8 * k) = 0 := Int.ediv_eq_zero_of_lt hn hfit
    unfold numF
    rw [if_neg (by omega), Int.toNat_natCast, if_neg (by rw [h0]; simp)]
    unfold stepW
    simp only [ne_eq, not_true, if_false]
    rw [if_neg (by rw [le_length]; omega)]
  rw [e] at h
  exact h
def sumL (a b c d : Int) : List Int := le a 8 ++ le b 8 ++ le c 8 ++ le d 8
theorem sumL_length (a b c d : Int) : (sumL a b c d).length = 32 := by simp [sumL, le_length]
/-- What of a sum is laid down behind so many of its four numbers. -/
def sumT (vs : List Int) : Nat → List Int
  | 0 => []
  | t + 1 => sumT vs t ++ le (vs.getD t 0) 8
theorem sumT_length (vs : List Int) (t : Nat) : (sumT vs t).length = 8 * t := by
  induction t with
  | zero => rfl
  | succ t ih => rw [sumT, List.length_append, ih, le_length]; omega
theorem sumT_all (a b c d : Int) : sumT [a, b, c, d] 4 = sumL a b c d := by simp [sumT, sumL]
theorem ptr_at (s0 s1 s2 s3 : Int) (t : Nat) (h : t < 4) (W : World) : (Instr.index 107 (.agg #[.int .u64 s0, .int .u64 s1, .int .u64 s2, .int .u64 s3]) (.int .i64 (t : Int))).run Try.prog W = .ok (.int .u64 ([s0, s1, s2, s3].getD t 0)) W := by
  have h4 : t = 0 ∨ t = 1 ∨ t = 2 ∨ t = 3 := by omega
  rcases h4 with rfl | rfl | rfl | rfl <;> rfl
set_option maxHeartbeats 1600000 in
theorem putSum_any (w0 w : World) (b : Nat) (room : Int) (zs : List Int) (A : List Nat) (hw : FreshW w0 w b room (zs, 0) A) (hr1 : room ≤ 2147483647) (s0 s1 s2 s3 : Int) (h0 : 0 ≤ s0 ∧ s0 < 18446744073709551616) (h1 : 0 ≤ s1 ∧ s1 < 18446744073709551616) (h2 : 0 ≤ s2 ∧ s2 < 18446744073709551616) (h3 : 0 ≤ s3 ∧ s3 < 18446744073709551616) (hz : (zs.length : Int) + 32 ≤ room) :
    Calls Try.prog 64 #[.pointer (some ⟨b, 0, none⟩), .agg #[.int .u64 s0, .int .u64 s1, .int .u64 s2, .int .u64 s3]] w fun e w' => e = .returned (.tuple #[]) ∧ FreshW w0 w' b room (zs ++ sumL s0 s1 s2 s3, 0) A ∧ Keeps A w w' := by
  have hal := hw.alloc (.cells #[.int .u64 s0, .int .u64 s1, .int .u64 s2, .int .u64 s3] 38)
  have HW0 : Hid (FreshW w0 (w.alloc (.cells #[.int .u64 s0, .int .u64 s1, .int .u64 s2, .int .u64 s3] 38)) b room (zs ++ sumT [s0, s1, s2, s3] 0, 0) A) := hid (by simpa [sumT] using hal.1.less (fun k hk => List.mem_cons_of_mem _ hk))
  have HK0 := hid hal.2
  have HB : Hid (∀ t, t < 4 → 0 ≤ [s0, s1, s2, s3].getD t 0 ∧ [s0, s1, s2, s3].getD t 0 < 18446744073709551616) := hid (fun t ht => by
    have h4 : t = 0 ∨ t = 1 ∨ t = 2 ∨ t = 3 := by omega
    rcases h4 with rfl | rfl | rfl | rfl
    · exact h0
    · exact h1
    · exact h2
    · exact h3)
  clear hal hw h0 h1 h2 h3
  go_enter Try.func64, Try.ntmps64
  go_wp2_with fail
  go_loopw [15] (fun i wr => ∃ t : Nat, t ≤ 4 ∧ i = .int .i64 t ∧ Hid (FreshW w0 wr b room (zs ++ sumT [s0, s1, s2, s3] t, 0) A) ∧ Hid (Keeps A w wr)) (fun i _ => 4 - (intOf i).toNat)
  case atStart => exact ⟨0, by omega, rfl, HW0, HK0⟩
  case round =>
    clear HW0 HK0
    obtain ⟨t, ht, rfl, hw, hk⟩ := hrel
    by_cases hlt : t < 4
    · have hl : ((zs ++ sumT [s0, s1, s2, s3] t).length : Int) + 8 ≤ room := by rw [List.length_append, sumT_length]; omega
      have hix := ptr_at s0 s1 s2 s3 t hlt
      have hb := HB.out t hlt
      have hsu : sumT [s0, s1, s2, s3] (t + 1) = sumT [s0, s1, s2, s3] t ++ le ([s0, s1, s2, s3].getD t 0) 8 := rfl
      obtain ⟨v, hv⟩ : ∃ v, [s0, s1, s2, s3].getD t 0 = v := ⟨_, rfl⟩
      rw [hv] at hix hb hsu
      have HN := hid (num_fit w0 wr b room _ A hw.out hr1 v 8 hb.1 (by omega) (by omega) hb.2 hl)
      have HSU := hid hsu
      have t1 : (t : Int) < 4 := by omega
      clear hl hw hsu hv hb
      go_wp2_with fail
      refine HN.out.mono ?_
      rintro e w2 ⟨rfl, hw2, hk2⟩
      have HW2 := hid hw2
      have HK2 := hid (hk.out.trans hk2)
      clear hw2 hk2 hk HN
      go_wp2_with fail
      go_roundw
      case rel => exact ⟨t + 1, by omega, by go_num, hid (by have h := HW2.out; rw [List.append_assoc] at h; rw [HSU.out]; exact h), HK2⟩
      case measure => simp [intOf]; omega
    · obtain rfl : t = 4 := by omega
      clear hlt
      rw [sumT_all] at hw
      rw [show ((4 : Nat) : Int) = 4 from rfl]
      go_wp2_with fail
      go_returns
      exact ⟨rfl, hw.out, hk.out⟩
end
section
open Go.RowKit
set_option maxRecDepth 100000

/-- What a pointer's numbers must be to be laid down. -/
structure P9.fits (p : P9) : Prop where
  top : 0 ≤ p.top ∧ p.top < 256
  at_ : 0 ≤ p.at_ ∧ p.at_ < 4294967296
  bytes : 0 ≤ p.bytes ∧ p.bytes < 65536
  birth : 0 ≤ p.birth ∧ p.birth < 18446744073709551616
  kind : 0 ≤ p.kind ∧ p.kind < 256
  sa : 0 ≤ p.sa ∧ p.sa < 18446744073709551616
  sb : 0 ≤ p.sb ∧ p.sb < 18446744073709551616
  sc : 0 ≤ p.sc ∧ p.sc < 18446744073709551616
  sd : 0 ≤ p.sd ∧ p.sd < 18446744073709551616
/-- A pointer's 48 bytes. -/
def bodyP (p : P9) : List Int := le p.top 1 ++ le p.kind 1 ++ le p.bytes 2 ++ le p.at_ 4 ++ le p.birth 8 ++ sumL p.sa p.sb p.sc p.sd
theorem bodyP_length (p : P9) : (bodyP p).length = 48 := by simp [bodyP, le_length, sumL_length]
set_option maxHeartbeats 1600000 in
theorem putPtr_any (w0 w : World) (b : Nat) (room : Int) (zs : List Int) (A : List Nat) (hw : FreshW w0 w b room (zs, 0) A) (hr1 : room ≤ 2147483647) (p : P9) (hp : p.fits) (hz : (zs.length : Int) + 48 ≤ room) :
    Calls Try.prog 47 #[.pointer (some ⟨b, 0, none⟩), .agg p.arr] w fun e w' => e = .returned (.tuple #[]) ∧ FreshW w0 w' b room (zs ++ bodyP p, 0) A ∧ Keeps A w w' := by
  obtain ⟨a0, a1, a2, a3, a4, a5, a6, a7, a8⟩ := p
  obtain ⟨⟨t0, t1⟩, ⟨u0, u1⟩, ⟨v0, v1⟩, ⟨x0, x1⟩, ⟨y0, y1⟩, sa, sb, sc, sd⟩ := hp
  simp only at t0 t1 u0 u1 v0 v1 x0 x1 y0 y1 sa sb sc sd
  have hal := hw.alloc (.cells #[.int .i64 a0, .int .i64 a1, .int .i64 a2, .int .u64 a3, .int .i64 a4, .int .u64 a5, .int .u64 a6, .int .u64 a7, .int .u64 a8] 40)
  have hrow := heap_alloc_new w (.cells #[.int .i64 a0, .int .i64 a1, .int .i64 a2, .int .u64 a3, .int .i64 a4, .int .u64 a5, .int .u64 a6, .int .u64 a7, .int .u64 a8] 40)
  have HW0 := hid hal.1
  have HK0 := hid hal.2
  have HROW := hid hrow
  have HS := hid (And.intro sa (And.intro sb (And.intro sc sd)))
  have c0 : IntKind.u64.wrap a0 = a0 := IntWalk.u64_in _ (by omega)
  have c1 : IntKind.u64.wrap a4 = a4 := IntWalk.u64_in _ (by omega)
  have c2 : IntKind.u64.wrap a2 = a2 := IntWalk.u64_in _ (by omega)
  have c3 : IntKind.u64.wrap a1 = a1 := IntWalk.u64_in _ (by omega)
  unfold P9.arr
  clear hal hrow hw sa sb sc sd
  go_enter Try.func47, Try.ntmps47
  go_wp2_with fail
  obtain ⟨pb, hpb⟩ : ∃ pb, w.heap.size = pb := ⟨_, rfl⟩
  obtain ⟨w1, hw1⟩ : ∃ w1, w.alloc (.cells #[.int .i64 a0, .int .i64 a1, .int .i64 a2, .int .u64 a3, .int .i64 a4, .int .u64 a5, .int .u64 a6, .int .u64 a7, .int .u64 a8] 40) = w1 := ⟨_, rfl⟩
  rw [hpb, hw1] at HROW HW0
  rw [hw1] at HK0
  rw [hpb, hw1]
  clear hpb hw1
  refine (num_fit w0 w1 b room zs _ HW0.out hr1 a0 1 t0 (by omega) (by omega) t1 (by omega)).mono ?_
  rintro e w2 ⟨rfl, hw2, hk2⟩
  have HW2 := hid hw2
  have HK2 := hid hk2
  have h2 := (hk2 pb (by simp)).trans HROW.out
  have H2 := hid h2
  have k1 : w2.cell? ⟨pb, 4, none⟩ = some (.int .i64 a4) := by rw [cell_of_row w2 _ _ _ _ _ h2]; rfl
  clear hw2 hk2 h2 HW0
  go_wp2_with fail
  refine (num_fit w0 w2 b room _ _ HW2.out hr1 a4 1 y0 (by omega) (by omega) y1 (by simp only [List.length_append, le_length]; omega)).mono ?_
  rintro e w3 ⟨rfl, hw3, hk3⟩
  have HW3 := hid hw3
  have HK3 := hid (HK2.out.trans hk3)
  have h3 := (hk3 pb (by simp)).trans H2.out
  have H3 := hid h3
  have k2 : w3.cell? ⟨pb, 2, none⟩ = some (.int .i64 a2) := by rw [cell_of_row w3 _ _ _ _ _ h3]; rfl
  clear hw3 hk3 h3 HW2 H2 k1
  go_wp2_with fail
  refine (num_fit w0 w3 b room _ _ HW3.out hr1 a2 2 v0 (by omega) (by omega) v1 (by simp only [List.length_append, le_length]; omega)).mono ?_
  rintro e w4 ⟨rfl, hw4, hk4⟩
  have HW4 := hid hw4
  have HK4 := hid (HK3.out.trans hk4)
  have h4 := (hk4 pb (by simp)).trans H3.out
  have H4 := hid h4
  have k3 : w4.cell? ⟨pb, 1, none⟩ = some (.int .i64 a1) := by rw [cell_of_row w4 _ _ _ _ _ h4]; rfl
  clear hw4 hk4 h4 HW3 H3 k2
  go_wp2_with fail
  refine (num_fit w0 w4 b room _ _ HW4.out hr1 a1 4 u0 (by omega) (by omega) u1 (by simp only [List.length_append, le_length]; omega)).mono ?_
  rintro e w5 ⟨rfl, hw5, hk5⟩
  have HW5 := hid hw5
  have HK5 := hid (HK4.out.trans hk5)
  have h5 := (hk5 pb (by simp)).trans H4.out
  have H5 := hid h5
  have k4 : w5.cell? ⟨pb, 3, none⟩ = some (.int .u64 a3) := by rw [cell_of_row w5 _ _ _ _ _ h5]; rfl
  clear hw5 hk5 h5 HW4 H4 k3
  go_wp2_with fail
  refine (num_fit w0 w5 b room _ _ HW5.out hr1 a3 8 x0 (by omega) (by omega) x1 (by simp only [List.length_append, le_length]; omega)).mono ?_
  rintro e w6 ⟨rfl, hw6, hk6⟩
  have HW6 := hid hw6
  have HK6 := hid (HK5.out.trans hk6)
  have h6 := (hk6 pb (by simp)).trans H5.out
  have q5 : w6.cell? ⟨pb, 5, none⟩ = some (.int .u64 a5) := by rw [cell_of_row w6 _ _ _ _ _ h6]; rfl
  have q6 : w6.cell? ⟨pb, 6, none⟩ = some (.int .u64 a6) := by rw [cell_of_row w6 _ _ _ _ _ h6]; rfl
  have q7 : w6.cell? ⟨pb, 7, none⟩ = some (.int .u64 a7) := by rw [cell_of_row w6 _ _ _ _ _ h6]; rfl
  have q8 : w6.cell? ⟨pb, 8, none⟩ = some (.int .u64 a8) := by rw [cell_of_row w6 _ _ _ _ _ h6]; rfl
  clear hw6 hk6 h6 HW5 H5 k4
  go_wp2_with fail
  refine (putSum_any w0 w6 b room _ _ HW6.out hr1 a5 a6 a7 a8 HS.out.1 HS.out.2.1 HS.out.2.2.1 HS.out.2.2.2 (by simp only [List.length_append, le_length]; omega)).mono ?_
  rintro e w7 ⟨rfl, hw7, hk7⟩
  have HW7 : Hid (FreshW w0 w7 b room (zs ++ bodyP ⟨a0, a1, a2, a3, a4, a5, a6, a7, a8⟩, 0) A) := hid (by
    have h := hw7.less (B := A) (fun k hk => List.mem_cons_of_mem _ hk)
    unfold bodyP
    simpa only [List.append_assoc] using h)
  have HK7 : Hid (Keeps A w w7) := hid (HK0.out.trans ((HK6.out.trans hk7).less (fun k hk => List.mem_cons_of_mem _ hk)))
  clear hw7 hk7 HW6 q5 q6 q7 q8
  go_wp2_with fail
  go_returns
  exact ⟨rfl, HW7.out, HK7.out⟩
/-- A pointer's form. -/
def ptrB (p : P9) : List Int := bodyP p ++ List.replicate 16 0
theorem ptrB_length (p : P9) : (ptrB p).length = 64 := by simp [ptrB, bodyP_length]
theorem pad_fit (w0 w : World) (b : Nat) (room : Int) (zs : List Int) (A : List Nat) (hw : FreshW w0 w b room (zs, 0) A) (hr1 : room ≤ 2147483647) (to k : Nat) (hk : zs.length + k = to) (hz : (to : Int) ≤ room) :
    Calls Try.prog 61 #[.pointer (some ⟨b, 0, none⟩), .int .i64 (to : Int)] w fun e w' => e = .returned (.tuple #[]) ∧ FreshW w0 w' b room (zs ++ List.replicate k 0, 0) A ∧ Keeps A w w' := by
  have h := padF_any w0 w b room (zs, 0) A hw (by omega) hr1 (by simp only; omega) (to : Int)
  have e : stepW room (zs, 0) (padF room zs.length (to : Int)) = (zs ++ List.replicate k 0, 0) := by
    unfold padF
    rw [if_neg (by omega), if_neg (by omega), show ((to : Int) - (zs.length : Int)).toNat = k by omega]
    unfold stepW
    simp only [ne_eq, not_true, if_false, List.length_replicate]
    rw [if_neg (by omega)]
  rw [e] at h
  exact h
end
section
open Go.RowKit
set_option maxRecDepth 100000

set_option maxHeartbeats 6400000 in
theorem check9_any (p : P9) (w : World) :
    Calls Try.prog 46 #[.agg p.arr] w fun e w' => e = .returned (.int .i64 (checkP p)) ∧ Frm [] w w' := by
  obtain ⟨C, hC⟩ : ∃ C, checkP p = C := ⟨_, rfl⟩
  rw [hC]
  obtain ⟨a0, a1, a2, a3, a4, a5, a6, a7, a8⟩ := p
  have HC : Hid (((a0 = 0 ∧ a1 = 0 ∧ a2 = 0 ∧ a3 = 0 ∧ a4 = 0 ∧ a5 = 0 ∧ a6 = 0 ∧ a7 = 0 ∧ a8 = 0) ∧ C = 0) ∨ (¬ (a0 = 0 ∧ a1 = 0 ∧ a2 = 0 ∧ a3 = 0 ∧ a4 = 0 ∧ a5 = 0 ∧ a6 = 0 ∧ a7 = 0 ∧ a8 = 0) ∧ (0 ≤ a0 ∧ a0 < 4 ∧ 0 ≤ a1 ∧ a1 < 40960 ∧ 1 ≤ a2 ∧ a2 ≤ 1024 ∧ 1 ≤ a3 ∧ a3 ≤ 281474976710656 ∧ (a4 = 1 ∨ a4 = 2)) ∧ C = 0) ∨ (¬ (a0 = 0 ∧ a1 = 0 ∧ a2 = 0 ∧ a3 = 0 ∧ a4 = 0 ∧ a5 = 0 ∧ a6 = 0 ∧ a7 = 0 ∧ a8 = 0) ∧ ¬ (0 ≤ a0 ∧ a0 < 4 ∧ 0 ≤ a1 ∧ a1 < 40960 ∧ 1 ≤ a2 ∧ a2 ≤ 1024 ∧ 1 ≤ a3 ∧ a3 ≤ 281474976710656 ∧ (a4 = 1 ∨ a4 = 2)) ∧ C = 40)) := hid (by
    rw [← hC]
    exact checkP_cases ⟨a0, a1, a2, a3, a4, a5, a6, a7, a8⟩)
  unfold P9.arr
  clear hC
  go_enter Try.func46, Try.ntmps46
  go_wp2_with fail
  all_goals (go_returns; refine ⟨?_, (Frm.refl _ _).alloc _⟩; have h := HC.out; (try simp only [Bool.not_eq_true', Bool.not_eq_false', beq_iff_eq, beq_eq_false_iff_ne, ne_eq] at *); first | ((have hc : C = 0 := (by omega)); rw [hc]; rfl) | ((have hc : C = 40 := (by omega)); rw [hc]; rfl))
set_option maxHeartbeats 6400000 in
theorem refCheck9_any (p : P9) (w : World) :
    Calls Try.prog 34 #[.agg p.arr] w fun e w' => e = .returned (.int .i64 (checkP p)) ∧ Frm [] w w' := by
  obtain ⟨C, hC⟩ : ∃ C, checkP p = C := ⟨_, rfl⟩
  rw [hC]
  obtain ⟨a0, a1, a2, a3, a4, a5, a6, a7, a8⟩ := p
  have HC : Hid (((a0 = 0 ∧ a1 = 0 ∧ a2 = 0 ∧ a3 = 0 ∧ a4 = 0 ∧ a5 = 0 ∧ a6 = 0 ∧ a7 = 0 ∧ a8 = 0) ∧ C = 0) ∨ (¬ (a0 = 0 ∧ a1 = 0 ∧ a2 = 0 ∧ a3 = 0 ∧ a4 = 0 ∧ a5 = 0 ∧ a6 = 0 ∧ a7 = 0 ∧ a8 = 0) ∧ (0 ≤ a0 ∧ a0 < 4 ∧ 0 ≤ a1 ∧ a1 < 40960 ∧ 1 ≤ a2 ∧ a2 ≤ 1024 ∧ 1 ≤ a3 ∧ a3 ≤ 281474976710656 ∧ (a4 = 1 ∨ a4 = 2)) ∧ C = 0) ∨ (¬ (a0 = 0 ∧ a1 = 0 ∧ a2 = 0 ∧ a3 = 0 ∧ a4 = 0 ∧ a5 = 0 ∧ a6 = 0 ∧ a7 = 0 ∧ a8 = 0) ∧ ¬ (0 ≤ a0 ∧ a0 < 4 ∧ 0 ≤ a1 ∧ a1 < 40960 ∧ 1 ≤ a2 ∧ a2 ≤ 1024 ∧ 1 ≤ a3 ∧ a3 ≤ 281474976710656 ∧ (a4 = 1 ∨ a4 = 2)) ∧ C = 40)) := hid (by
    rw [← hC]
    exact checkP_cases ⟨a0, a1, a2, a3, a4, a5, a6, a7, a8⟩)
  unfold P9.arr
  clear hC
  go_enter Try.func34, Try.ntmps34
  go_wp2_with fail
  all_goals (go_returns; refine ⟨?_, (Frm.refl _ _).alloc _⟩; have h := HC.out; first | ((have hc : C = 0 := (by omega)); rw [hc]; rfl) | ((have hc : C = 40 := (by omega)); rw [hc]; rfl))
end
section
open Go.RowKit
set_option maxRecDepth 100000

theorem fits_of_check {p : P9} (ht : (0 ≤ p.birth ∧ p.birth < 18446744073709551616) ∧ (0 ≤ p.sa ∧ p.sa < 18446744073709551616) ∧ (0 ≤ p.sb ∧ p.sb < 18446744073709551616) ∧ (0 ≤ p.sc ∧ p.sc < 18446744073709551616) ∧ (0 ≤ p.sd ∧ p.sd < 18446744073709551616)) (h : checkP p = 0) : p.fits := by
  obtain ⟨h3, h5, h6, h7, h8⟩ := ht
  rcases checkP_cases p with ⟨hz, _⟩ | ⟨_, hg, _⟩ | ⟨_, _, h40⟩
  · obtain ⟨z0, z1, z2, z3, z4, _⟩ := hz
    exact ⟨by omega, by omega, by omega, h3, by omega, h5, h6, h7, h8⟩
  · obtain ⟨g0, g1, g2, g3, g4, g5, g6, g7, g8⟩ := hg
    exact ⟨by omega, by omega, by omega, h3, by omega, h5, h6, h7, h8⟩
  · omega
/-- The types' own bounds. -/
def P9.ok (p : P9) : Prop := (0 ≤ p.birth ∧ p.birth < 18446744073709551616) ∧ (0 ≤ p.sa ∧ p.sa < 18446744073709551616) ∧ (0 ≤ p.sb ∧ p.sb < 18446744073709551616) ∧ (0 ≤ p.sc ∧ p.sc < 18446744073709551616) ∧ (0 ≤ p.sd ∧ p.sd < 18446744073709551616)
/-- What an encoding answers: the error, or bytes of its own. -/
def EncA (w : World) (zs : List Int) (err : Int) (e : Ending) (w' : World) : Prop :=
  (err ≠ 0 ∧ e = .returned (.tuple #[.slice none 0 0, .int .i64 err]) ∧ Frm [] w w') ∨
  (err = 0 ∧ ∃ g, e = .returned (.tuple #[.slice (some ⟨g, 0, none⟩) zs.length zs.length, .int .i64 0]) ∧ w'.heap[g]? = some (.cells (bv zs).toArray 5 (0, 0)) ∧ Frm [] w w' ∧ w.heap.size ≤ g)
theorem EncA.pre {w w0 w' : World} {zs : List Int} {err : Int} {e : Ending} (h : EncA w0 zs err e w') (hf : Frm [] w w0) : EncA w zs err e w' := by
  rcases h with ⟨h1, h2, h3⟩ | ⟨h1, g, h2, h3, h4, h5⟩
  · exact Or.inl ⟨h1, h2, hf.trans h3 (by simp)⟩
  · exact Or.inr ⟨h1, g, h2, h3, hf.trans h4 (by simp), Nat.le_trans hf.size h5⟩
theorem ptr_cells {W : World} {pb : Nat} {p : P9} (h : W.heap[pb]? = some (.cells #[.int .i64 p.top, .int .i64 p.at_, .int .i64 p.bytes, .int .u64 p.birth, .int .i64 p.kind, .int .u64 p.sa, .int .u64 p.sb, .int .u64 p.sc, .int .u64 p.sd] 40 (0, 0))) :
    W.cell? ⟨pb, 0, none⟩ = some (.int .i64 p.top) ∧ W.cell? ⟨pb, 1, none⟩ = some (.int .i64 p.at_) ∧ W.cell? ⟨pb, 2, none⟩ = some (.int .i64 p.bytes) ∧ W.cell? ⟨pb, 3, none⟩ = some (.int .u64 p.birth) ∧ W.cell? ⟨pb, 4, none⟩ = some (.int .i64 p.kind) ∧ W.cell? ⟨pb, 5, none⟩ = some (.int .u64 p.sa) ∧ W.cell? ⟨pb, 6, none⟩ = some (.int .u64 p.sb) ∧ W.cell? ⟨pb, 7, none⟩ = some (.int .u64 p.sc) ∧ W.cell? ⟨pb, 8, none⟩ = some (.int .u64 p.sd) := by
  refine ⟨?_, ?_, ?_, ?_, ?_, ?_, ?_, ?_, ?_⟩ <;> (rw [cell_of_row W _ _ _ _ _ h]; rfl)
set_option maxHeartbeats 1600000 in
theorem layPtr_any (p : P9) (hp : p.ok) (w : World) :
    Calls Try.prog 45 #[.agg p.arr, .func (.func 46) #[] #[], .func (.func 47) #[] #[], .int .i64 64] w (EncA w (ptrB p) (checkP p)) := by
  have HP := hid hp
  have HCK := hid (fun W => check9_any p W)
  have HPT := hid (fun (b : Nat) (W : World) (hw : FreshW (w.alloc (.cells p.arr 40)) W b 64 ([], 0) []) (hf : p.fits) => putPtr_any _ W b 64 [] [] hw (by omega) p hf (by simp))
  obtain ⟨C, hC⟩ : ∃ C, checkP p = C := ⟨_, rfl⟩
  rw [hC] at HCK ⊢
  have HC := hid hC
  have hrow := heap_alloc_new w (.cells p.arr 40)
  have HFA : Hid (Frm [] w (w.alloc (.cells p.arr 40))) := hid ((Frm.refl _ _).alloc _)
  clear hp hC
  unfold P9.arr at HCK HPT hrow HFA ⊢
  have HROW := hid hrow
  have hcf1 := fun W => callable (P := Try.prog) Try.func46 (by kernel_rfl) (by kernel_rfl) #[.agg #[.int .i64 p.top, .int .i64 p.at_, .int .i64 p.bytes, .int .u64 p.birth, .int .i64 p.kind, .int .u64 p.sa, .int .u64 p.sb, .int .u64 p.sc, .int .u64 p.sd]] W
  clear hrow
  go_enter Try.func45, Try.ntmps45
  go_wp2_with fail
  obtain ⟨pb, hpb⟩ : ∃ pb, w.heap.size = pb := ⟨_, rfl⟩
  obtain ⟨wa, hwa⟩ : ∃ wa, w.alloc (.cells #[.int .i64 p.top, .int .i64 p.at_, .int .i64 p.bytes, .int .u64 p.birth, .int .i64 p.kind, .int .u64 p.sa, .int .u64 p.sb, .int .u64 p.sc, .int .u64 p.sd] 40) = wa := ⟨_, rfl⟩
  have HPB := hid hpb
  rw [hwa] at HPT HFA
  rw [hwa, hpb] at HROW
  rw [hwa, hpb]
  clear hwa hpb
  refine (HCK.out wa).mono ?_
  rintro e w1 ⟨rfl, hf1⟩
  have HF1 := hid hf1
  have hr1 := hf1.heap HROW.out (by simp)
  have HR1 := hid hr1
  clear hf1 hr1 HCK
  by_cases hC0 : C = 0
  · subst hC0
    have HFT : Hid p.fits := hid (fits_of_check HP.out HC.out)
    go_wp2_with fail
    refine (newWriter_any 64 w1).mono ?_
    rintro e w2 ⟨rfl, hw2, hf2, _⟩
    have hfr : FreshW wa w2 w1.heap.size 64 ([], 0) [] := FreshW.born hw2 (HF1.out.trans hf2 (by simp)) HF1.out.size
    have HR2 := hid (hf2.heap HR1.out (by simp))
    have HW2 := hid hfr
    have hq := ptr_cells HR2.out
    obtain ⟨q0, q1, q2, q3, q4, q5, q6, q7, q8⟩ := hq
    obtain ⟨b, hb⟩ : ∃ b, w1.heap.size = b := ⟨_, rfl⟩
    rw [hb] at HW2 ⊢
    clear hfr hw2 hf2 hb HR1
    go_wp2_with fail
    refine (HPT.out b w2 HW2.out HFT.out).mono ?_
    rintro e w3 ⟨rfl, hw3, _⟩
    have HW3 := hid hw3
    clear hw3 q0 q1 q2 q3 q4 q5 q6 q7 q8 HPT HW2
    go_wp2_with fail
    refine (pad_fit wa w3 b 64 _ [] HW3.out (by omega) 64 16 (by rw [List.nil_append, bodyP_length]) (by omega)).mono ?_
    rintro e w4 ⟨rfl, hw4, _⟩
    have HW4 : Hid (FreshW wa w4 b 64 (ptrB p, 0) []) := hid hw4
    clear hw4 HW3
    go_wp2_with fail
    obtain ⟨fp, g1, g2, g3, _⟩ := HW4.out
    refine (doneW_ok b fp 64 (ptrB p) w4 g1 (by omega) (by rw [ptrB_length]; omega)).mono ?_
    rintro e w5 ⟨g, rfl, h5, hf5, hg5⟩
    have HE : Hid (EncA w (ptrB p) 0 (.returned (.tuple #[.slice (some ⟨g, 0, none⟩) (ptrB p).length (ptrB p).length, .int .i64 0])) w5) := hid (Or.inr ⟨rfl, g, rfl, h5, (HFA.out.trans g2 (by simp)).trans hf5 (by simp), by have := HFA.out.size; have := g2.size; omega⟩)
    clear g1 g2 g3 h5 hf5 hg5 HW4
    go_wp2_with fail
    go_returns
    exact HE.out
  · have hb : (C != 0) = true := by simpa using hC0
    have HE : Hid (EncA w (ptrB p) C (.returned (.tuple #[.slice none 0 0, .int .i64 C])) w1) := hid (Or.inl ⟨hC0, rfl, HFA.out.trans HF1.out (by simp)⟩)
    go_wp2_with fail
    go_returns
    exact HE.out
set_option maxHeartbeats 1600000 in
theorem encode_any (p : P9) (hp : p.ok) (w : World) :
    Calls Try.prog 32 #[.agg p.arr] w (EncA w (ptrB p) (checkP p)) := by
  have HL := hid (fun W => layPtr_any p hp W)
  have HFA : Hid (Frm [] w (w.alloc (.cells p.arr 40))) := hid ((Frm.refl _ _).alloc _)
  unfold P9.arr at HL HFA ⊢
  clear hp
  go_enter Try.func32, Try.ntmps32
  go_wp2_with fail
  refine (HL.out _).mono ?_
  rintro e w1 h1
  have H1 := hid (h1.pre HFA.out)
  rcases h1 with ⟨hc, rfl, _⟩ | ⟨hc, g, rfl, _⟩
  · clear hc
    go_wp2_with fail
    go_returns
    exact H1.out
  · clear hc
    go_wp2_with fail
    go_returns
    exact H1.out
end
section
open Go.RowKit
set_option maxRecDepth 100000

/-- An uberblock's numbers. -/
structure U12 where
  pool : Int
  txg : Int
  note : Int
  root : P9
def U12.arr (u : U12) : Array Value := #[.int .u64 u.pool, .int .u64 u.txg, .int .u64 u.note, .int .i64 u.root.top, .int .i64 u.root.at_, .int .i64 u.root.bytes, .int .u64 u.root.birth, .int .i64 u.root.kind, .int .u64 u.root.sa, .int .u64 u.root.sb, .int .u64 u.root.sc, .int .u64 u.root.sd]
structure U12.ok (u : U12) : Prop where
  pool : 0 ≤ u.pool ∧ u.pool < 18446744073709551616
  txg : 0 ≤ u.txg ∧ u.txg < 18446744073709551616
  note : 0 ≤ u.note ∧ u.note < 18446744073709551616
  root : u.root.ok
/-- What CheckUber answers. -/
def checkU (u : U12) : Int := if 1 ≤ u.txg ∧ u.txg ≤ 281474976710656 ∧ checkP u.root = 0 ∧ u.root.birth ≤ u.txg then 0 else 44
theorem conv_const (W : World) (C : Array Value) (n c : Nat) : (convert 22 22 (.slice (some ⟨W.heap.size, 0, none⟩) n c)).run Try.prog (W.alloc (.cells C 5)) = .ok (.slice (some ⟨W.heap.size, 0, none⟩) n c) (W.alloc (.cells C 5 (C.size, C.size + 1))) :=
  Lib.run_convert_bytes_const (P := Try.prog) W 22 5 C n c Try.underlying22 Try.underlying5
theorem rd_markP {w : World} {zs : List Int} {E : TypeId} {fr : Nat × Nat} : Rd (w.alloc (.cells (bv zs).toArray E fr)) (some ⟨w.heap.size, 0, none⟩) zs := by
  refine Or.inr ⟨w.heap.size, 0, rfl, fun i hi => ?_⟩
  rw [Nat.zero_add, World.cell?_alloc_mark]
  simpa using bv_get hi
/-- An uberblock's 76 bytes. -/
def bodyU (u : U12) : List Int := [85, 67, 85, 66] ++ le u.pool 8 ++ le u.txg 8 ++ le u.note 8 ++ bodyP u.root
theorem bodyU_length (u : U12) : (bodyU u).length = 76 := by simp [bodyU, le_length, bodyP_length]
end
section
open Go.RowKit
set_option maxRecDepth 100000

/-- An uberblock's body. -/
def uberB (u : U12) : List Int := bodyU u ++ List.replicate 20 0
theorem uberB_length (u : U12) : (uberB u).length = 96 := by simp [uberB, bodyU_length]
theorem checkU_root {u : U12} (h : checkU u = 0) : checkP u.root = 0 := by
  unfold checkU at h
  split at h
  · rename_i hc; exact hc.2.2.1
  · cases h
/-- A body and its sum. -/
def sealB (zs : List Int) : List Int := zs ++ sumL (fletch zs).a (fletch zs).b (fletch zs).c (fletch zs).d
theorem sealB_length (zs : List Int) : (sealB zs).length = zs.length + 32 := by simp [sealB, sumL_length]
theorem fletch_ok (zs : List Int) : (0 ≤ (fletch zs).a ∧ (fletch zs).a < 18446744073709551616) ∧ (0 ≤ (fletch zs).b ∧ (fletch zs).b < 18446744073709551616) ∧ (0 ≤ (fletch zs).c ∧ (fletch zs).c < 18446744073709551616) ∧ (0 ≤ (fletch zs).d ∧ (fletch zs).d < 18446744073709551616) := by
  have hw : ∀ n : Int, 0 ≤ IntKind.u64.wrap n ∧ IntKind.u64.wrap n < 18446744073709551616 := fun n => by
    show 0 ≤ n % 18446744073709551616 ∧ n % 18446744073709551616 < 18446744073709551616
    omega
  have hk : ∀ k, (0 ≤ (flW Z4 zs k).a ∧ (flW Z4 zs k).a < 18446744073709551616) ∧ (0 ≤ (flW Z4 zs k).b ∧ (flW Z4 zs k).b < 18446744073709551616) ∧ (0 ≤ (flW Z4 zs k).c ∧ (flW Z4 zs k).c < 18446744073709551616) ∧ (0 ≤ (flW Z4 zs k).d ∧ (flW Z4 zs k).d < 18446744073709551616) := fun k => by
    cases k with
    | zero => simp [flW, Z4]
    | succ k => exact ⟨hw _, hw _, hw _, hw _⟩
  unfold fletch
  split
  · exact hk _
  · exact ⟨hw _, hw _, hw _, hw _⟩
theorem le_byte (n : Int) (k : Nat) : ∀ z ∈ le n k, 0 ≤ z ∧ z < 256 := by
  intro z hz
  simp only [le, List.mem_map] at hz
  obtain ⟨i, _, rfl⟩ := hz
  omega
theorem app_byte {a b : List Int} (ha : ∀ z ∈ a, 0 ≤ z ∧ z < 256) (hb : ∀ z ∈ b, 0 ≤ z ∧ z < 256) : ∀ z ∈ a ++ b, 0 ≤ z ∧ z < 256 := fun z hz => (List.mem_append.1 hz).elim (ha z) (hb z)
theorem rep_byte (n : Nat) : ∀ z ∈ List.replicate n (0 : Int), 0 ≤ z ∧ z < 256 := fun z hz => by rw [List.eq_of_mem_replicate hz]; omega
theorem sumL_byte (a b c d : Int) : ∀ z ∈ sumL a b c d, 0 ≤ z ∧ z < 256 := app_byte (app_byte (app_byte (le_byte _ _) (le_byte _ _)) (le_byte _ _)) (le_byte _ _)
theorem bodyP_byte (p : P9) : ∀ z ∈ bodyP p, 0 ≤ z ∧ z < 256 := app_byte (app_byte (app_byte (app_byte (app_byte (le_byte _ _) (le_byte _ _)) (le_byte _ _)) (le_byte _ _)) (le_byte _ _)) (sumL_byte _ _ _ _)
theorem uberB_byte (u : U12) : ∀ z ∈ uberB u, 0 ≤ z ∧ z < 256 := app_byte (app_byte (app_byte (app_byte (app_byte (by simp) (le_byte _ _)) (le_byte _ _)) (le_byte _ _)) (bodyP_byte _)) (rep_byte _)
end
end Go.Proofs.Ytkolbijhekbelaa
