/- Contracts of package sum: Add to a fresh running sum. Frames: a line: New, Left, Feed. Frames: Feed. -/
import Derived.Test.YtignoocdeghiaaaDoorQai
import Derived.Test.YtignoocdeghiaaaDoorQaf
import Derived.Test.YtignoocdeghiaaaDoorQag
import Derived.Test.YtignoocdeghiaaaDoorQac
import Derived.Deep.DeepCutAuto
namespace Go.Proofs.YtignoocdeghiaaaDoor
section
open Go.RowKit
set_option maxRecDepth 100000

/-- A slice from a bound on, and where its bytes lie. -/
theorem slice_from (p : Option Addr) (zs : List Int) (n c lo : Nat) (hn : zs.length = n) (hlo : lo ≤ n) (hc : n ≤ c) (w : World) (hr : Rd w p zs) :
    ∃ pp, (∀ W : World, (Instr.sliceAt 22 (.slice p n c) (some (.int .i64 (lo : Int))) none none).run Tryd.prog W = .ok (.slice pp (n - lo) (c - lo)) W) ∧ Rd w pp (zs.drop lo) ∧ ∀ k ∈ blk pp, k ∈ blk p := by
  obtain ⟨pp, h1, h2⟩ := slice_low (P := Tryd.prog) Tryd.underlying22 infoB p zs n c lo hn hlo hc w hr
  have h3 : ∀ W : World, (Instr.sliceAt 22 (.slice p n c) (some (.int .i64 (lo : Int))) none none).run Tryd.prog W = .ok (.slice pp (n - lo) (c - lo)) W := fun W => by
    rw [run_sliceAt_slice (h := elem_of Tryd.underlying22)]
    exact h1 W
  refine ⟨pp, h3, h2, ?_⟩
  have h4 := (h1 w).symm.trans (by
    have hx : (Instr.slice 22 (.slice p n c) (some (.int .i64 (lo : Int))) none none).run Tryd.prog w = .ok (.slice (if c = lo then p else p.map (·.add lo)) (n - lo) (c - lo)) w := by
      have hI : (Tryd.prog.info? 5).map (fun i => (i.zero, i.size, i.bytes)) = some (some (.int .u8 0), 1, 1) := infoB
      obtain ⟨i, hi, hz, e1, e2⟩ := info_parts hI
      rw [run_slice_l w 22 _ _ _ (elem_of Tryd.underlying22) .i64 _ (by omega) (by omega), show Tryd.prog.elem 22 = 5 by simp [Program.elem, Tryd.underlying22]]
      have hs : (sizeOf 5).run Tryd.prog w = .ok 1 w := by simp [sizeOf, typeInfo, hi, e1, Result.andThen]
      rw [hs]
      simp [Result.andThen, sliced]
    exact hx)
  simp only [Result.ok.injEq, Value.slice.injEq, and_true] at h4
  rw [h4]
  intro k hk
  split at hk
  · exact hk
  · cases p with
    | none => simp [blk] at hk
    | some a => by_cases h0 : lo = 0 <;> simpa [blk, Addr.add, h0] using hk
/-- The sum behind so many words; bytes behind the end are noughts. -/
def flW (s : S4) (zs : List Int) : Nat → S4
  | 0 => s
  | k + 1 => wordS (flW s zs k) (lowW (zA zs (4 * k)) (zA zs (4 * k + 1)) (zA zs (4 * k + 2)) (zA zs (4 * k + 3)))
theorem zA_drop (zs : List Int) (a i : Nat) : (zs.drop a).getD i 0 = zA zs (a + i) := by
  unfold zA
  rw [List.getD_eq_getElem?_getD, List.getD_eq_getElem?_getD, List.getElem?_drop]
/-- A running sum, the copy of its sum, the bytes that are left. -/
structure StA (w0 w : World) (r sb : Nat) (s : S4) (cur : S4) (zs : List Int) (p pk : Option Addr) (k : Nat) : Prop where
  row : RowR w r s 0 0 0 0 0
  cop : w.heap[sb]? = some (.cells cur.arr 68 (0, 0))
  rd : Rd w pk (zs.drop k)
  bk : ∀ j ∈ blk pk, j ∈ blk p
  fr : Frm [] w0 w
  hs : w0.heap.size ≤ sb
def lenV : Value → Nat
  | .slice _ n _ => n
  | _ => 0
def xi (zs : List Int) (a t i : Nat) : Int := if i < t then zA zs (a + i) else 0
set_option maxHeartbeats 6400000 in
theorem add_fresh (r : Nat) (s : S4) (p : Option Addr) (n c : Nat) (zs : List Int) (w : World) (hr : RowR w r s 0 0 0 0 0) (hn : zs.length = n) (hnc : n ≤ c) (_hnb : n ≤ 9223372036854775807) (hrd : Rd w p zs) (hb : ∀ z ∈ zs, 0 ≤ z ∧ z < 256) (hal : zs ≠ [] → r ∉ blk p) :
    Calls Tryd.prog 86 #[.pointer (some ⟨r, 0, none⟩), .slice p n c] w fun e w' => e = .returned (.tuple #[]) ∧ RowR w' r (flW s zs (n / 4)) (zA zs (4 * (n / 4))) (zA zs (4 * (n / 4) + 1)) (zA zs (4 * (n / 4) + 2)) 0 ((n % 4 : Nat) : Int) ∧ Frm [r] w w' := by
  have HR := hid hr
  have HRD := hid hrd
  have HZB := hid hb
  have HN := hid hn
  have HAL := hid hal
  have c8 : w.cell? ⟨r, 8, none⟩ = some (.int .i64 0) := by rw [cell_of_row w _ _ _ _ _ hr]; rfl
  have c0 : w.cell? ⟨r, 0, none⟩ = some (.int .u64 s.a) := by rw [cell_of_row w _ _ _ _ _ hr]; rfl
  have c1 : w.cell? ⟨r, 1, none⟩ = some (.int .u64 s.b) := by rw [cell_of_row w _ _ _ _ _ hr]; rfl
  have c2 : w.cell? ⟨r, 2, none⟩ = some (.int .u64 s.c) := by rw [cell_of_row w _ _ _ _ _ hr]; rfl
  have c3 : w.cell? ⟨r, 3, none⟩ = some (.int .u64 s.d) := by rw [cell_of_row w _ _ _ _ _ hr]; rfl
  clear hr hrd hb hn hal
  go_enter Tryd.func86, Tryd.ntmps86
  go_wp2_with fail
  go_loopw [1] (fun b wr => b = .slice p n c ∧ wr = w) (fun _ _ => 0)
  case atStart => exact ⟨rfl, rfl⟩
  case round =>
    obtain ⟨rfl, rfl⟩ := hrel
    have g0 : decide ((0 : Int) < 0) = false := by decide
    go_wp2_with fail
    obtain ⟨wo, rfl⟩ : ∃ wo : World, wo = wr := ⟨_, rfl⟩
    have hfa : Frm [] wo (wo.alloc (.cells #[.int .u64 s.a, .int .u64 s.b, .int .u64 s.c, .int .u64 s.d] 68)) := (Frm.refl _ _).alloc _
    have HS0 : Hid (StA wo (wo.alloc (.cells #[.int .u64 s.a, .int .u64 s.b, .int .u64 s.c, .int .u64 s.d] 68)) r wo.heap.size s (flW s zs 0) zs p p (4 * 0)) := hid ⟨hfa.heap HR.out (by simp), heap_alloc_new _ _, by simpa using HRD.out.kept hfa (by simp), fun j h => h, hfa, Nat.le_refl _⟩
    have hrs : r < wo.heap.size := lt_of_heap HR.out
    obtain ⟨sb, hsb⟩ : ∃ sb, wo.heap.size = sb := ⟨_, rfl⟩
    rw [hsb] at HS0 hrs ⊢
    have HSB := hid hsb
    clear hsb hfa c8 c0 c1 c2 c3
    go_loopw [1] (fun b wr => ∃ (k m d : Nat) (pk : Option Addr), Hid (4 * k + m = n) ∧ Hid (4 * k + d = c) ∧ b = .slice pk m d ∧ Hid (StA wo wr r sb s (flW s zs k) zs p pk (4 * k))) (fun b _ => lenV b)
    case atStart => exact ⟨0, n, c, p, hid (by omega), hid (by omega), rfl, HS0⟩
    case round =>
      clear HS0
      obtain ⟨k, m, d, pk, hm, hd, rfl, hst⟩ := hrel
      have hmn := hm.out
      have hdn := hd.out
      by_cases hlt : 4 ≤ m
      · obtain ⟨pp, hsl, hrd2, hbk2⟩ := slice_from pk (zs.drop (4 * k)) m d 4 (by rw [List.length_drop, HN.out]; omega) hlt (by omega) wr hst.out.rd
        have hsl' : ∀ W : World, (Instr.sliceAt 22 (.slice pk m d) (some (.int .i64 4)) none none).run Tryd.prog W = .ok (.slice pp (m - 4) (d - 4)) W := hsl
        have hby : ∀ i, i < 4 → 0 ≤ zA zs (4 * k + i) ∧ zA zs (4 * k + i) < 256 := fun i hi => HZB.out _ (by
          unfold zA
          rw [List.getD_eq_getElem?_getD, List.getElem?_eq_getElem (by rw [HN.out]; omega)]
          exact List.getElem_mem _)
        have rdb : ∀ i, i < 4 → ∃ g o, pk = some ⟨g, o, none⟩ ∧ wr.cell? ⟨g, o + i, none⟩ = some (.int .u8 (zA zs (4 * k + i))) := fun i hi => by
          obtain ⟨g, o, e1, e2⟩ := rd_byte (i := i) hst.out.rd (by rw [List.length_drop, HN.out]; omega)
          rw [zA_drop] at e2
          exact ⟨g, o, e1, e2⟩
        obtain ⟨g, o, rfl, k0⟩ := rdb 0 (by omega)
        obtain ⟨_, _, e1, k1⟩ := rdb 1 (by omega)
        obtain ⟨_, _, e2, k2⟩ := rdb 2 (by omega)
        obtain ⟨_, _, e3, k3⟩ := rdb 3 (by omega)
        simp only [Option.some.injEq, Addr.mk.injEq, and_true] at e1 e2 e3
        obtain ⟨rfl, rfl⟩ := e1
        obtain ⟨rfl, rfl⟩ := e2
        obtain ⟨rfl, rfl⟩ := e3
        rw [Nat.add_zero] at k0
        have HLO := hid (low_any _ _ _ _ wr.drew (hby 0 (by omega)) (hby 1 (by omega)) (hby 2 (by omega)) (hby 3 (by omega)))
        have hnx : wordS (flW s zs k) (lowW (zA zs (4 * k)) (zA zs (4 * k + 1)) (zA zs (4 * k + 2)) (zA zs (4 * k + 3))) = flW s zs (k + 1) := rfl
        obtain ⟨cur, hcur⟩ : ∃ cur, flW s zs k = cur := ⟨_, rfl⟩
        rw [hcur] at hst hnx
        rw [Nat.add_zero] at k0 HLO
        have hlb := lowW_bd (zA zs (4 * k)) (zA zs (4 * k + 1)) (zA zs (4 * k + 2)) (zA zs (4 * k + 3))
        obtain ⟨L, hL⟩ : ∃ L, lowW (zA zs (4 * k)) (zA zs (4 * k + 1)) (zA zs (4 * k + 2)) (zA zs (4 * k + 3)) = L := ⟨_, rfl⟩
        rw [hL] at HLO hnx hlb
        have hwo := fun w' => word_any cur L w' hlb
        unfold S4.arr at hwo
        have HWO := hid hwo
        have HNX := hid hnx
        generalize zA zs (4 * k) = y0 at k0 HLO
        generalize zA zs (4 * k + 1) = y1 at k1 HLO
        generalize zA zs (4 * k + 2) = y2 at k2 HLO
        generalize zA zs (4 * k + 3) = y3 at k3 HLO
        have hsz := hst.out.hs
        have b0 : (4 : Int) ≤ (m : Int) := by omega
        have b1 : (0 : Int) < (m : Int) := by omega
        have b2 : (1 : Int) < (m : Int) := by omega
        have b3 : (2 : Int) < (m : Int) := by omega
        have b4 : (3 : Int) < (m : Int) := by omega
        have m0 : 0 < m := by omega
        have m1 : 1 < m := by omega
        have m2 : 2 < m := by omega
        have m3 : 3 < m := by omega
        have q0 : wr.cell? ⟨sb, 0, none⟩ = some (.int .u64 cur.a) := by rw [cell_of_row wr _ _ _ _ _ hst.out.cop]; rfl
        have q1 : wr.cell? ⟨sb, 1, none⟩ = some (.int .u64 cur.b) := by rw [cell_of_row wr _ _ _ _ _ hst.out.cop]; rfl
        have q2 : wr.cell? ⟨sb, 2, none⟩ = some (.int .u64 cur.c) := by rw [cell_of_row wr _ _ _ _ _ hst.out.cop]; rfl
        have q3 : wr.cell? ⟨sb, 3, none⟩ = some (.int .u64 cur.d) := by rw [cell_of_row wr _ _ _ _ _ hst.out.cop]; rfl
        have HRD2 := hid hrd2
        have HBK2 := hid hbk2
        clear rdb hby hnx hcur hL hlb hwo hsl hrd2 hbk2
        go_wp2_with fail
        go_still_tail 14, (by kernel_rfl)
        refine wpStill_step (fun K hK => ?_)
        go_simp
        refine ⟨_, HLO.out, hK _ ?_⟩
        clear hK K
        repeat still_step
        refine wpStill_nil ?_
        change wpList _ _ _ _ _ wr.drew
        have hfd : Frm [] wr wr.drew := (Frm.refl _ _).drew
        obtain ⟨w5, hw5⟩ : ∃ w5, wr.drew = w5 := ⟨_, rfl⟩
        rw [hw5] at hfd ⊢
        clear hw5 q0 q1 q2 q3 k0 k1 k2 k3 HLO
        go_wp2_with fail
        refine (HWO.out w5).mono ?_
        rintro e w6 ⟨rfl, hf6⟩
        have hF6 := hfd.trans hf6 (by simp)
        have HF6 := hid hF6
        have hco := hF6.heap hst.out.cop (by simp)
        have q0 : w6.cell? ⟨sb, 0, none⟩ = some (.int .u64 cur.a) := by rw [cell_of_row w6 _ _ _ _ _ hco]; rfl
        have q1 : w6.cell? ⟨sb, 1, none⟩ = some (.int .u64 cur.b) := by rw [cell_of_row w6 _ _ _ _ _ hco]; rfl
        have q2 : w6.cell? ⟨sb, 2, none⟩ = some (.int .u64 cur.c) := by rw [cell_of_row w6 _ _ _ _ _ hco]; rfl
        have q3 : w6.cell? ⟨sb, 3, none⟩ = some (.int .u64 cur.d) := by rw [cell_of_row w6 _ _ _ _ _ hco]; rfl
        have z0 : w6.frozen? ⟨sb, 0, none⟩ = false := frozen_of_row w6 _ 0 _ _ hco
        have z1 : w6.frozen? ⟨sb, 1, none⟩ = false := frozen_of_row w6 _ 1 _ _ hco
        have z2 : w6.frozen? ⟨sb, 2, none⟩ = false := frozen_of_row w6 _ 2 _ _ hco
        have z3 : w6.frozen? ⟨sb, 3, none⟩ = false := frozen_of_row w6 _ 3 _ _ hco
        have HS4 := hid (set4 (y0 := .int .u64 (wordS cur L).a) (y1 := .int .u64 (wordS cur L).b) (y2 := .int .u64 (wordS cur L).c) (y3 := .int .u64 (wordS cur L).d) hco)
        clear hco hF6 hf6 hfd
        go_wp2_with fail
        go_roundw
        case rel =>
          obtain ⟨h4, f4⟩ := HS4.out
          refine ⟨k + 1, m - 4, d - 4, pp, hid (by omega), hid (by omega), rfl, hid ?_⟩
          rw [← HNX.out]
          have hf7 := (HF6.out.mono (T := [sb]) (by simp)).trans f4 (fun i hi hl => hi)
          have hne : r ≠ sb := by omega
          refine ⟨f4.heap (HF6.out.heap hst.out.row (by simp)) (by simpa using hne), h4, ?_, fun j hj => hst.out.bk j (HBK2.out j hj), hst.out.fr.trans hf7 (fun i hi hl => by simp at hi; omega), hsz⟩
          have hr2 := HRD2.out
          rw [List.drop_drop, show 4 * k + 4 = 4 * (k + 1) by omega] at hr2
          refine hr2.kept hf7 (fun j hj hjs => ?_)
          have hj2 := hst.out.bk j (HBK2.out j hj)
          have hzne : zs ≠ [] := fun h => by have := HN.out; rw [h] at this; simp at this; omega
          have := HRD.out.lows hzne j hj2
          simp at hjs
          omega
        case measure => simp [lenV]; omega
      · have hq : Hid (k = n / 4) := hid (by omega)
        have hmm : Hid (m = n % 4) := hid (by omega)
        obtain ⟨cur, hcur⟩ : ∃ cur, flW s zs k = cur := ⟨_, rfl⟩
        rw [hcur] at hst
        have hcu := hid hcur
        clear hcur
        have hb0 : ¬ (4 : Int) ≤ (m : Int) := by omega
        have q0 : wr.cell? ⟨sb, 0, none⟩ = some (.int .u64 cur.a) := by rw [cell_of_row wr _ _ _ _ _ hst.out.cop]; rfl
        have q1 : wr.cell? ⟨sb, 1, none⟩ = some (.int .u64 cur.b) := by rw [cell_of_row wr _ _ _ _ _ hst.out.cop]; rfl
        have q2 : wr.cell? ⟨sb, 2, none⟩ = some (.int .u64 cur.c) := by rw [cell_of_row wr _ _ _ _ _ hst.out.cop]; rfl
        have q3 : wr.cell? ⟨sb, 3, none⟩ = some (.int .u64 cur.d) := by rw [cell_of_row wr _ _ _ _ _ hst.out.cop]; rfl
        have e0 : wr.cell? ⟨r, 0, none⟩ = some (.int .u64 s.a) := by rw [cell_of_row wr _ _ _ _ _ hst.out.row]; rfl
        have e1 : wr.cell? ⟨r, 1, none⟩ = some (.int .u64 s.b) := by rw [cell_of_row wr _ _ _ _ _ hst.out.row]; rfl
        have e2 : wr.cell? ⟨r, 2, none⟩ = some (.int .u64 s.c) := by rw [cell_of_row wr _ _ _ _ _ hst.out.row]; rfl
        have e3 : wr.cell? ⟨r, 3, none⟩ = some (.int .u64 s.d) := by rw [cell_of_row wr _ _ _ _ _ hst.out.row]; rfl
        have z0 : wr.frozen? ⟨r, 0, none⟩ = false := frozen_of_row wr _ 0 _ _ hst.out.row
        have z1 : wr.frozen? ⟨r, 1, none⟩ = false := frozen_of_row wr _ 1 _ _ hst.out.row
        have z2 : wr.frozen? ⟨r, 2, none⟩ = false := frozen_of_row wr _ 2 _ _ hst.out.row
        have z3 : wr.frozen? ⟨r, 3, none⟩ = false := frozen_of_row wr _ 3 _ _ hst.out.row
        have h0 : (wr.setCell ⟨r, 0, none⟩ (.int .u64 cur.a)).heap[r]? = some (.cells #[.int .u64 cur.a, .int .u64 s.b, .int .u64 s.c, .int .u64 s.d, .int .u8 0, .int .u8 0, .int .u8 0, .int .u8 0, .int .i64 0] 131 (0, 0)) := by rw [heap_setCell_same _ _ 0 _ _ _ hst.out.row]; rfl
        have h1 : ((wr.setCell ⟨r, 0, none⟩ (.int .u64 cur.a)).setCell ⟨r, 1, none⟩ (.int .u64 cur.b)).heap[r]? = some (.cells #[.int .u64 cur.a, .int .u64 cur.b, .int .u64 s.c, .int .u64 s.d, .int .u8 0, .int .u8 0, .int .u8 0, .int .u8 0, .int .i64 0] 131 (0, 0)) := by rw [heap_setCell_same _ _ 1 _ _ _ h0]; rfl
        have h2 : (((wr.setCell ⟨r, 0, none⟩ (.int .u64 cur.a)).setCell ⟨r, 1, none⟩ (.int .u64 cur.b)).setCell ⟨r, 2, none⟩ (.int .u64 cur.c)).heap[r]? = some (.cells #[.int .u64 cur.a, .int .u64 cur.b, .int .u64 cur.c, .int .u64 s.d, .int .u8 0, .int .u8 0, .int .u8 0, .int .u8 0, .int .i64 0] 131 (0, 0)) := by rw [heap_setCell_same _ _ 2 _ _ _ h1]; rfl
        have h3 : ((((wr.setCell ⟨r, 0, none⟩ (.int .u64 cur.a)).setCell ⟨r, 1, none⟩ (.int .u64 cur.b)).setCell ⟨r, 2, none⟩ (.int .u64 cur.c)).setCell ⟨r, 3, none⟩ (.int .u64 cur.d)).heap[r]? = some (.cells #[.int .u64 cur.a, .int .u64 cur.b, .int .u64 cur.c, .int .u64 cur.d, .int .u8 0, .int .u8 0, .int .u8 0, .int .u8 0, .int .i64 0] 131 (0, 0)) := by rw [heap_setCell_same _ _ 3 _ _ _ h2]; rfl
        have hF4 : Frm [r] wr ((((wr.setCell ⟨r, 0, none⟩ (.int .u64 cur.a)).setCell ⟨r, 1, none⟩ (.int .u64 cur.b)).setCell ⟨r, 2, none⟩ (.int .u64 cur.c)).setCell ⟨r, 3, none⟩ (.int .u64 cur.d)) := ((((Frm.refl _ wr).setCell _ _ (by simp)).setCell _ _ (by simp)).setCell _ _ (by simp)).setCell _ _ (by simp)
        have HH3 : Hid (RowR ((((wr.setCell ⟨r, 0, none⟩ (.int .u64 cur.a)).setCell ⟨r, 1, none⟩ (.int .u64 cur.b)).setCell ⟨r, 2, none⟩ (.int .u64 cur.c)).setCell ⟨r, 3, none⟩ (.int .u64 cur.d)) r cur 0 0 0 0 0) := hid h3
        have HF4 := hid hF4
        clear h0 h1 h2 h3 hF4 hlt
        go_wp2_with fail
        obtain ⟨w8, hw8⟩ : ∃ w8, (((wr.setCell ⟨r, 0, none⟩ (.int .u64 cur.a)).setCell ⟨r, 1, none⟩ (.int .u64 cur.b)).setCell ⟨r, 2, none⟩ (.int .u64 cur.c)).setCell ⟨r, 3, none⟩ (.int .u64 cur.d) = w8 := ⟨_, rfl⟩
        rw [hw8] at HH3 HF4 ⊢
        have HRD8 : Hid (Rd w8 pk (zs.drop (4 * k))) := hid (by
          by_cases hz : zs = []
          · exact Or.inl (by rw [hz]; simp)
          · exact hst.out.rd.kept HF4.out (fun j hj hjs => by
              simp at hjs
              exact HAL.out hz (hjs ▸ hst.out.bk j hj)))
        have HF8 : Hid (Frm [r] wo w8) := hid ((hst.out.fr.mono (by simp)).trans HF4.out (fun i hi hl => hi))
        have HBK := hid hst.out.bk
        clear hw8 q0 q1 q2 q3 e0 e1 e2 e3 z0 z1 z2 z3 HF4
        have HX : Hid (∀ i, 0 ≤ zA zs i ∧ zA zs i < 256) := hid (fun i => by
          unfold zA
          rw [List.getD_eq_getElem?_getD]
          by_cases hi : i < zs.length
          · rw [List.getElem?_eq_getElem hi]
            exact HZB.out _ (List.getElem_mem hi)
          · rw [List.getElem?_eq_none (by omega)]
            simp)
        go_loopw [1] (fun b wr => ∃ (t m' d' : Nat) (pk' : Option Addr), Hid (t + m' = m) ∧ Hid (t + d' = d) ∧ b = .slice pk' m' d' ∧ Hid (RowR wr r cur (xi zs (4 * k) t 0) (xi zs (4 * k) t 1) (xi zs (4 * k) t 2) 0 ((t : Nat) : Int)) ∧ Hid (Rd wr pk' (zs.drop (4 * k + t))) ∧ Hid (∀ j ∈ blk pk', j ∈ blk p) ∧ Hid (Frm [r] wo wr)) (fun b _ => lenV b)
        case atStart => exact ⟨0, m, d, pk, hid (by omega), hid (by omega), rfl, hid (by simpa [xi] using HH3.out), hid (by simpa using HRD8.out), HBK, HF8⟩
        case round =>
          clear HH3 HRD8 HBK HF8
          obtain ⟨t, m', d', pk', ht, htd, rfl, hrow, hrd, hbk, hf⟩ := hrel
          have htt := ht.out
          have htd' := htd.out
          by_cases hlt : 0 < m'
          · obtain ⟨pp, hsl, hrd2, hbk2⟩ := slice_from pk' (zs.drop (4 * k + t)) m' d' 1 (by rw [List.length_drop, HN.out]; omega) hlt (by omega) wr hrd.out
            have hsl' : ∀ W : World, (Instr.sliceAt 22 (.slice pk' m' d') (some (.int .i64 1)) none none).run Tryd.prog W = .ok (.slice pp (m' - 1) (d' - 1)) W := hsl
            obtain ⟨g, o, rfl, k0⟩ := rd_byte (i := 0) hrd.out (by rw [List.length_drop, HN.out]; omega)
            rw [zA_drop, Nat.add_zero, Nat.add_zero] at k0
            have HDO : Hid (∀ w', RowR w' r cur (xi zs (4 * k) (t + 1) 0) (xi zs (4 * k) (t + 1) 1) (xi zs (4 * k) (t + 1) 2) 0 ((t + 1 : Nat) : Int) → Frm [r] wr w' → ∃ (t' m'' d'' : Nat) (pk'' : Option Addr), Hid (t' + m'' = m) ∧ Hid (t' + d'' = d) ∧ Value.slice pp (m' - 1) (d' - 1) = .slice pk'' m'' d'' ∧ Hid (RowR w' r cur (xi zs (4 * k) t' 0) (xi zs (4 * k) t' 1) (xi zs (4 * k) t' 2) 0 ((t' : Nat) : Int)) ∧ Hid (Rd w' pk'' (zs.drop (4 * k + t'))) ∧ Hid (∀ j ∈ blk pk'', j ∈ blk p) ∧ Hid (Frm [r] wo w')) := hid (fun w' h1 h2 => by
              refine ⟨t + 1, m' - 1, d' - 1, pp, hid (by omega), hid (by omega), rfl, hid h1, hid ?_, hid (fun j hj => hbk.out j (hbk2 j hj)), hid (hf.out.trans h2 (fun i hi hl => hi))⟩
              have hr2 := hrd2
              rw [List.drop_drop] at hr2
              exact hr2.kept h2 (fun j hj hjs => by
                simp at hjs
                exact HAL.out (fun hz => by have := HN.out; rw [hz] at this; simp at this; omega) (hjs ▸ hbk.out j (hbk2 j hj))))
            have b0 : (0 : Int) < (m' : Int) := by omega
            have hb9 : m' ≤ 9223372036854775807 := by omega
            clear hsl hrd2 hbk2
            have ht3 : t = 0 ∨ t = 1 ∨ t = 2 := by omega
            rcases ht3 with rfl | rfl | rfl
            · have HO := hid (one_0 r cur 0 0 0 0 g o m' d' (zA zs (4 * k + 0)) wr (by simpa [xi] using hrow.out) hlt hb9 k0 pp hsl')
              clear hrow k0
              go_wp2_with fail
              refine HO.out.mono ?_
              rintro e w9 ⟨rfl, hr9, hf9⟩
              have HRL := hid (HDO.out w9 (by simpa [xi] using hr9) hf9)
              clear hr9 hf9
              go_wp2_with fail
              go_roundw
              case rel => exact HRL.out
              case measure => simp [lenV]; omega
            · have HO := hid (one_1 r cur (zA zs (4 * k)) 0 0 0 g o m' d' (zA zs (4 * k + 1)) wr (by simpa [xi] using hrow.out) hlt hb9 k0 pp hsl')
              clear hrow k0
              go_wp2_with fail
              refine HO.out.mono ?_
              rintro e w9 ⟨rfl, hr9, hf9⟩
              have HRL := hid (HDO.out w9 (by simpa [xi] using hr9) hf9)
              clear hr9 hf9
              go_wp2_with fail
              go_roundw
              case rel => exact HRL.out
              case measure => simp [lenV]; omega
            · have HO := hid (one_2 r cur (zA zs (4 * k)) (zA zs (4 * k + 1)) 0 0 g o m' d' (zA zs (4 * k + 2)) wr (by simpa [xi] using hrow.out) hlt hb9 k0 pp hsl')
              clear hrow k0
              go_wp2_with fail
              refine HO.out.mono ?_
              rintro e w9 ⟨rfl, hr9, hf9⟩
              have HRL := hid (HDO.out w9 (by simpa [xi] using hr9) hf9)
              clear hr9 hf9
              go_wp2_with fail
              go_roundw
              case rel => exact HRL.out
              case measure => simp [lenV]; omega
          · obtain rfl : m' = 0 := by omega
            have hb1 : ¬ (0 : Int) < ((0 : Nat) : Int) := by omega
            go_wp2_with fail
            go_returns
            obtain rfl : t = m := by omega
            have hx : ∀ i, xi zs (4 * k) t i = zA zs (4 * k + i) := fun i => by
              unfold xi
              split
              · rfl
              · unfold zA
                rw [List.getD_eq_getElem?_getD, List.getElem?_eq_none (by rw [HN.out]; omega)]
                rfl
            have hr9 := hrow.out
            rw [hx, hx, hx, ← hcu.out, hq.out, hmm.out, Nat.add_zero] at hr9
            exact ⟨rfl, hr9, hf.out⟩
end
section
open Go.RowKit Go.Lib
set_option maxRecDepth 100000

theorem infoU8E : (Tryd.prog.info? 5).map (fun i => (i.zero, i.size, i.bytes)) = some (some (.int .u8 0), 1, 1) := by kernel_rfl
/-- What Feed makes of all that waits: frames, what is left, an error. -/
def feedR (a : List Int) : List (List Int) × List Int × Int :=
  if a.length < 4 then ([], a, 0)
  else if leV (a.take 4) < 9 ∨ 65532 < leV (a.take 4) then ([], [], 230)
  else if (a.length : Int) < 4 + leV (a.take 4) then ([], a, 0)
  else ((a.take (4 + (leV (a.take 4)).toNat)) :: (feedR (a.drop (4 + (leV (a.take 4)).toNat))).1, (feedR (a.drop (4 + (leV (a.take 4)).toNat))).2)
termination_by a.length
decreasing_by all_goals (rw [List.length_drop]; omega)
theorem feedR_short {a : List Int} (h : a.length < 4) : feedR a = ([], a, 0) := by rw [feedR, if_pos h]
theorem feedR_bad {a : List Int} (h : ¬ a.length < 4) (h2 : leV (a.take 4) < 9 ∨ 65532 < leV (a.take 4)) : feedR a = ([], [], 230) := by rw [feedR, if_neg h, if_pos h2]
theorem feedR_wait {a : List Int} (h : ¬ a.length < 4) (h2 : ¬ (leV (a.take 4) < 9 ∨ 65532 < leV (a.take 4))) (h3 : (a.length : Int) < 4 + leV (a.take 4)) : feedR a = ([], a, 0) := by rw [feedR, if_neg h, if_neg h2, if_pos h3]
theorem feedR_next {a : List Int} (h : ¬ a.length < 4) (h2 : ¬ (leV (a.take 4) < 9 ∨ 65532 < leV (a.take 4))) (h3 : ¬ (a.length : Int) < 4 + leV (a.take 4)) : feedR a = ((a.take (4 + (leV (a.take 4)).toNat)) :: (feedR (a.drop (4 + (leV (a.take 4)).toNat))).1, (feedR (a.drop (4 + (leV (a.take 4)).toNat))).2) := by rw [feedR, if_neg h, if_neg h2, if_neg h3]
/-- A line: its block, and what waits in it. -/
structure IsLn (w : World) (lb : Nat) (p : Option Addr) (n c : Nat) (zs : List Int) : Prop where
  row : w.heap[lb]? = some (.cells #[.slice p n c] 82 (0, 0))
  wt : Wt w p n c zs
  ap : lb ∉ ft p c
theorem IsLn.kept {w w' : World} {lb : Nat} {p : Option Addr} {n c : Nat} {zs : List Int} {S : List Nat} (h : IsLn w lb p n c zs) (hf : Frm S w w') (h1 : lb ∉ S) (h2 : ∀ k ∈ ft p c, k ∉ S) : IsLn w' lb p n c zs :=
  ⟨hf.heap h.row h1, h.wt.kept hf h2, h.ap⟩
theorem IsLn.k0 {w w' : World} {lb : Nat} {p : Option Addr} {n c : Nat} {zs : List Int} (h : IsLn w lb p n c zs) (hf : Frm [] w w') : IsLn w' lb p n c zs := h.kept hf (by simp) (by simp)
theorem newLine_any (w : World) : Calls Tryd.prog 21 #[] w fun e w' => ∃ lb, e = .returned (.pointer (some ⟨lb, 0, none⟩)) ∧ IsLn w' lb none 0 0 [] ∧ Frm [] w w' ∧ w.heap.size ≤ lb := by
  have HF := hid ((Frm.refl [] w).alloc (.cells #[.slice none 0 0] 82))
  have HR := hid (heap_alloc_new w (.cells #[.slice none 0 0] 82))
  go_enter Tryd.func21, Tryd.ntmps21
  go_wp2_with fail
  first | go_returns | skip
  exact ⟨_, rfl, ⟨HR.out, Wt.nil _, by simp [ft]⟩, HF.out, Nat.le_refl _⟩
theorem lineLeft_any (w : World) (lb : Nat) (p : Option Addr) (n c : Nat) (zs : List Int) (h : IsLn w lb p n c zs) : Calls Tryd.prog 25 #[.pointer (some ⟨lb, 0, none⟩)] w fun e w' => e = .returned (.int .i64 (n : Int)) ∧ w' = w := by
  have c0 : w.cell? ⟨lb, 0, none⟩ = some (.slice p n c) := by rw [cell_of_row _ _ _ _ _ _ h.row]; rfl
  clear h
  go_enter Tryd.func25, Tryd.ntmps25
  go_wp2_with fail
  first | go_returns | skip
  exact ⟨rfl, rfl⟩
def lnLen (w : World) (lb : Nat) : Nat := match w.cell? ⟨lb, 0, none⟩ with
  | some (.slice _ n _) => n
  | _ => 0
/-- While Feed goes on. -/
structure FdS (w0 wr : World) (lb : Nat) (qf : Option Addr) (t cf : Nat) (ls : List Bk) (p : Option Addr) (n c : Nat) (a : List Int) : Prop where
  fr : Frm [lb] w0 wr
  ow : OwnK wr qf t cf ls
  nw : NewK w0.heap.size qf ls
  ln : IsLn wr lb p n c a
  lo : lb < w0.heap.size
  lp : ∀ k ∈ ft p c, k < w0.heap.size
theorem FdS.k0 {w0 wr w' : World} {lb : Nat} {qf : Option Addr} {t cf : Nat} {ls : List Bk} {p : Option Addr} {n c : Nat} {a : List Int} (h : FdS w0 wr lb qf t cf ls p n c a) (hf : Frm [] wr w') : FdS w0 w' lb qf t cf ls p n c a :=
  ⟨h.fr.trans hf (by simp), h.ow.k0 hf, h.nw, h.ln.k0 hf, h.lo, h.lp⟩
/-- What waits is turned. -/
theorem FdS.put {w0 wr : World} {lb : Nat} {qf : Option Addr} {t cf : Nat} {ls : List Bk} {p p' : Option Addr} {n c n' c' : Nat} {a a' : List Int} (h : FdS w0 wr lb qf t cf ls p n c a) (h1 : Wt wr p' n' c' a') (h2 : ∀ k ∈ ft p' c', k ∈ ft p c) : FdS w0 (wr.setCell ⟨lb, 0, none⟩ (.slice p' n' c')) lb qf t cf ls p' n' c' a' := by
  have hf : Frm [lb] wr (wr.setCell ⟨lb, 0, none⟩ (.slice p' n' c')) := (Frm.refl _ _).setCell _ _ (by simp)
  have hlo := h.lo
  refine ⟨h.fr.trans hf (fun i hi _ => hi), h.ow.kept hf (fun k hk hm => ?_) (fun x hx k hk hm => ?_), h.nw, ⟨?_, h1.kept hf (fun k hk hm => ?_), fun hm => h.ln.ap (h2 _ hm)⟩, h.lo, fun k hk => h.lp k (h2 k hk)⟩
  · rw [List.mem_singleton] at hm; have := h.nw.1 k hk; omega
  · rw [List.mem_singleton] at hm; have := h.nw.2 x hx k hk; omega
  · rw [heap_setCell_same _ _ 0 _ _ _ h.ln.row]; rfl
  · rw [List.mem_singleton] at hm; subst hm; exact h.ln.ap (h2 _ hk)
/-- One frame more. -/
theorem FdS.next {w0 wr wx wa w' : World} {lb : Nat} {qf q' : Option Addr} {t cf cq' : Nat} {ls : List Bk} {x : Bk} {p : Option Addr} {n c : Nat} {a : List Int} (h : FdS w0 wr lb qf t cf ls p n c a) (hfx : Frm [] wr wx) (hA : Frm [] wx wa) (hx : BkOk wx x) (hxn : ∀ k ∈ blk x.p, wr.heap.size ≤ k) (ho : w'.ownsRow 0 22 1 (.slice q' (t + 1) cq') (t + 1) (rowsK ls ++ [x.v])) (hf : Frm (blk qf) wa w') (hb : ∀ k ∈ blk q', k ∈ blk qf ∨ wa.heap.size ≤ k) : FdS w0 w' lb q' (t + 1) cq' (ls ++ [x]) p n c a := by
  have hz1 := h.fr.size
  have hz2 := hfx.size
  have hz3 := hA.size
  have hlow := ownsRow_low h.ow.ow
  have hlo := h.lo
  refine ⟨((h.fr.trans hfx (by simp)).trans hA (by simp)).trans hf (fun i hi hl => by have := h.nw.1 i hi; omega), (h.ow.k0 hfx).app hx (fun i hi hq => by have := hxn i hi; have := hlow i hq; omega) (fun y hy i hi hq => by have := hxn i hi; have := (h.ow.it y hy).1.lo i hq; omega) hA ho hf hb, ⟨fun i hi => ?_, fun y hy i hi => ?_⟩, ((h.ln.k0 hfx).k0 hA).kept hf (fun hm => by have := h.nw.1 lb hm; omega) (fun k hk hm => by have := h.nw.1 k hm; have := h.lp k hk; omega), h.lo, h.lp⟩
  · rcases hb i hi with h4 | h4
    · exact h.nw.1 i h4
    · omega
  · rcases List.mem_append.1 hy with hy | hy
    · exact h.nw.2 y hy i hi
    · rw [List.mem_singleton] at hy; subst hy; have := hxn i hi; omega
end
section
open Go.RowKit Go.Lib
set_option maxRecDepth 100000

/-- Four bytes are read. -/
theorem numR4 (b g : Nat) (zs : List Int) (hl : zs.length = 4) (hb : ∀ z ∈ zs, 0 ≤ z ∧ z < 256) (w : World) (hw : IsR w b g zs 0 0) :
    Calls Tryd.prog 45 #[.pointer (some ⟨b, 0, none⟩), .int .i64 4] w fun e w' => e = .returned (.int .u64 (leV zs)) ∧ Frm [b] w w' := by
  refine (numR_any b g 0 zs hb 0 4 w hw (by omega) (by omega)).mono ?_
  rintro e w' ⟨rfl, _, h2⟩
  refine ⟨?_, h2⟩
  rw [readS_ok]
  unfold numT
  rw [if_neg (by omega), if_neg (by rw [List.drop_zero, hl]; omega)]
  simp [← hl]
/-- What Feed answers and leaves. -/
def FeedA (w : World) (lb : Nat) (p0 : Option Addr) (c0 : Nat) (all : List Int) (e : Ending) (w' : World) : Prop :=
  ∃ qf t cf ls p n c, e = .returned (.tuple #[.slice qf t cf, .int .i64 (feedR all).2.2]) ∧ OwnK w' qf t cf ls ∧ ls.map Bk.bs = (feedR all).1 ∧ NewK w.heap.size qf ls ∧ IsLn w' lb p n c (feedR all).2.1 ∧ Frm (lb :: ft p0 c0) w w' ∧ (∀ k ∈ ft p c, k ∈ ft p0 c0 ∨ w.heap.size ≤ k) ∧ (∀ x ∈ ls, ∀ k ∈ blk x.p, k ∉ ft p c) ∧ ∀ k ∈ blk qf, k ∉ ft p c
set_option maxHeartbeats 12800000 in
theorem feed_any (w : World) (lb : Nat) (p0 : Option Addr) (n0 c0 : Nat) (zs : List Int) (h : IsLn w lb p0 n0 c0 zs) (q : Option Addr) (m d : Nat) (bs : List Int) (hrd : Rd w q bs) (hm : bs.length = m) (hq : q = none → m = 0) (hz : ∀ z ∈ zs ++ bs, 0 ≤ z ∧ z < 256) (hmax : n0 + m ≤ 70368744177664) :
    Calls Tryd.prog 22 #[.pointer (some ⟨lb, 0, none⟩), .slice q m d] w (FeedA w lb p0 c0 (zs ++ bs)) := by
  obtain ⟨PO, hPO⟩ : ∃ PO : Ending → World → Prop, FeedA w lb p0 c0 (zs ++ bs) = PO := ⟨_, rfl⟩
  rw [hPO]
  have HP := hid (show ∀ e w', FeedA w lb p0 c0 (zs ++ bs) e w' → PO e w' from fun e w' h => by rw [← hPO]; exact h)
  have HLN := hid h
  have HRD := hid hrd
  have HM := hid hm
  have HQ := hid hq
  have HZ := hid hz
  have c00 : w.cell? ⟨lb, 0, none⟩ = some (.slice p0 n0 c0) := by rw [cell_of_row _ _ _ _ _ _ h.row]; rfl
  have HLB := hid (lt_of_heap h.row)
  clear h hrd hm hq hz hPO
  go_enter Tryd.func22, Tryd.ntmps22
  go_wp2_with (at_builtin; refine wpList_appT rfl _ _ 22 rfl 5 Tryd.underlying22 infoU8E p0 n0 c0 zs rfl HLN.out.wt q m d bs rfl HM.out HQ.out HRD.out (by omega) ?_)
  intro p1 c1 w1 hw1 hf1 hn1
  have hrow1 := hf1.out.heap HLN.out.row HLN.out.ap
  have hzf := frozen_of_row w1 lb 0 _ _ hrow1
  have hcl : w1.cell? ⟨lb, 0, none⟩ = some (.slice p0 n0 c0) := by rw [cell_of_row _ _ _ _ _ _ hrow1]; rfl
  obtain ⟨all, hall⟩ : ∃ z, zs ++ bs = z := ⟨_, rfl⟩
  rw [hall] at HP HZ hw1
  have hap1 : lb ∉ ft p1 c1 := fun hm => by
    rcases hn1.out lb hm with h | h
    · exact HLN.out.ap h
    · have := HLB.out; omega
  obtain ⟨N1, hN1⟩ : ∃ z, n0 + m = z := ⟨_, rfl⟩
  rw [hN1] at hw1 hmax ⊢
  obtain ⟨W0, hW0⟩ : ∃ z, w1.setCell ⟨lb, 0, none⟩ (.slice p1 N1 c1) = z := ⟨_, rfl⟩
  have hfs : Frm [lb] w1 W0 := by rw [← hW0]; exact (Frm.refl _ _).setCell _ _ (by simp)
  have hln1 : IsLn W0 lb p1 N1 c1 all := ⟨by rw [← hW0, heap_setCell_same _ _ 0 _ _ _ hrow1]; rfl, hw1.out.kept hfs (fun k hk hm => by rw [List.mem_singleton] at hm; subst hm; exact hap1 hk), hap1⟩
  have HF0 : Hid (Frm (lb :: ft p0 c0) w W0) := hid ((hf1.out.mono (fun i hi _ => List.mem_cons_of_mem _ hi)).trans hfs (fun i hi _ => by rw [List.mem_singleton] at hi; subst hi; exact List.mem_cons_self))
  have HN0 : Hid (∀ k ∈ ft p1 c1, k ∈ ft p0 c0 ∨ w.heap.size ≤ k) := hid hn1.out
  have HS0 : Hid (FdS W0 W0 lb none 0 0 [] p1 N1 c1 all) := hid ⟨Frm.refl _ _, OwnK.nil _, ⟨by simp [blk], by simp⟩, hln1, lt_of_heap hln1.row, fun k hk => hln1.wt.low k hk⟩
  have HEND : Hid (∀ wr qf t cf ls p n c rest fs E, FdS W0 wr lb qf t cf ls p n c rest → ls.map Bk.bs = fs → feedR all = (fs, rest, E) → (∀ k ∈ ft p c, k ∈ ft p1 c1) → PO (.returned (.tuple #[.slice qf t cf, .int .i64 E])) wr) := hid (fun wr qf t cf ls p n c rest fs E hs hb hfd hk => by
    refine HP.out _ _ ⟨qf, t, cf, ls, p, n, c, by rw [hfd], hs.ow, by rw [hfd]; exact hb, ⟨fun k hk => by have := hs.nw.1 k hk; have := HF0.out.size; omega, fun x hx k hk => by have := hs.nw.2 x hx k hk; have := HF0.out.size; omega⟩, by rw [hfd]; exact hs.ln, HF0.out.trans hs.fr (fun i hi _ => by rw [List.mem_singleton] at hi; subst hi; exact List.mem_cons_self), fun k h1 => HN0.out k (hk k h1), fun x hx k h1 h2 => by have := hs.nw.2 x hx k h1; have := hs.lp k h2; omega, fun k h1 h2 => by have := hs.nw.1 k h1; have := hs.lp k h2; omega⟩)
  have HW0 := hid hW0
  clear hw1 hf1 hn1 hrow1 hap1 hfs hln1 hall hW0 HP HF0 HN0 hN1 HLN HRD HM HQ c00
  go_wp2_with fail
  first | rw [HW0.out] | skip
  clear HW0 hzf hcl
  go_loopw [6] (fun s6 wr => ∃ (qf : Option Addr) (t cf : Nat) (ls : List Bk) (p : Option Addr) (n c : Nat) (a : List Int), s6 = .slice qf t cf ∧ t * 13 ≤ 70368744177664 ∧ Hid (FdS W0 wr lb qf t cf ls p n c a ∧ feedR all = (ls.map Bk.bs ++ (feedR a).1, (feedR a).2) ∧ (∀ k ∈ ft p c, k ∈ ft p1 c1) ∧ t * 13 + n ≤ N1 ∧ ∀ z ∈ a, 0 ≤ z ∧ z < 256)) (fun _ wr => lnLen wr lb)
  case atStart => exact ⟨none, 0, 0, [], p1, N1, c1, all, rfl, by omega, hid ⟨HS0.out, by simp, fun k hk => hk, by omega, HZ.out⟩⟩
  case round =>
    clear HS0 HZ
    obtain ⟨qf, t, cf, ls, p, n, c, a, rfl, ht9, hin⟩ := hrel
    have HIN := hid hin.out
    clear hin
    have q0 : wr.cell? ⟨lb, 0, none⟩ = some (.slice p n c) := by rw [cell_of_row _ _ _ _ _ _ HIN.out.1.ln.row]; rfl
    have HLEN := hid HIN.out.1.ln.wt.ln
    have hle := HIN.out.1.ln.wt.le
    have hcm := HIN.out.1.ln.wt.mx
    have hcm2 : c ≤ 9223372036854775807 := by unfold maxLen at hcm; omega
    have htn := HIN.out.2.2.2.1
    have hnn : n ≤ 70368744177664 := by omega
    by_cases h4 : 4 ≤ n
    case neg =>
      have HE : Hid (feedR all = (ls.map Bk.bs, a, 0)) := hid (by rw [HIN.out.2.1, feedR_short (by rw [HLEN.out]; omega)]; simp)
      have h4' : (n : Int) < 4 := by omega
      go_wp2_with fail
      first | go_returns | skip
      exact HEND.out wr qf t cf ls p n c a _ 0 HIN.out.1 rfl HE.out HIN.out.2.2.1
    have h4' : (4 : Int) ≤ (n : Int) := by omega
    have hsl1 := fun W => sl_h (P := Tryd.prog) Tryd.underlying22 infoU8E p n c 4 (by omega) W
    have hl4 : (a.take 4).length = 4 := by rw [List.length_take, HLEN.out]; omega
    have hnr := newReader_any p c (a.take 4) wr (HIN.out.1.ln.wt.rd.take 4) (by omega)
    rw [hl4] at hnr
    have HNR := hid hnr
    have HB4 : Hid (∀ z ∈ a.take 4, 0 ≤ z ∧ z < 256) := hid (fun z hz => HIN.out.2.2.2.2 z (List.mem_of_mem_take hz))
    have HL4 := hid hl4
    clear hnr hl4
    go_wp2_with fail
    refine HNR.out.mono ?_
    rintro e w5 ⟨rb, gr, rfl, hr5, hf5, hnb5, _⟩
    have HNM := hid (numR4 rb gr (a.take 4) HL4.out HB4.out w5 hr5)
    obtain ⟨NZ, hNZ⟩ : ∃ z, leV (a.take 4) = z := ⟨_, rfl⟩
    have hbd := leV_bd (a.take 4) HB4.out
    rw [HL4.out, hNZ] at hbd
    rw [hNZ] at HNM
    obtain ⟨NN, rfl⟩ := Int.eq_ofNat_of_zero_le hbd.1
    have hNB : NN < 4294967296 := by have := hbd.2; simp at this; omega
    have HNZ := hid hNZ
    have HF5 := hid hf5
    have HNB5 := hid hnb5
    clear hr5 hf5 hnb5 hNZ hbd HNR hsl1
    go_wp2_with fail
    refine HNM.out.mono ?_
    rintro e w6 ⟨rfl, hf6⟩
    have HF6 : Hid (Frm [] wr w6) := hid (HF5.out.trans hf6 (fun i hi hl => by rw [List.mem_singleton] at hi; subst hi; have := HNB5.out; omega))
    have HS6 := hid (HIN.out.1.k0 HF6.out)
    have q6 := (HF6.out.cell (World.block_lt_of_cell? _ _ q0) (by simp)).trans q0
    have hwn : IntKind.i64.wrap (NN : Int) = (NN : Int) := by rw [IntKind.wrap_i64]; omega
    have HN4 : Hid (¬ a.length < 4) := hid (by rw [HLEN.out]; omega)
    clear hf6 HNM q0 HF5 HNB5
    by_cases h9 : NN < 9
    · have d9 : decide ((NN : Int) < 9) = true := decide_eq_true (by omega)
      have e9 : (NN : Int) < 9 := by omega
      have HE : Hid (feedR all = (ls.map Bk.bs, [], 230)) := hid (by rw [HIN.out.2.1, feedR_bad HN4.out (Or.inl (by rw [HNZ.out]; exact e9))]; simp)
      have hzf := frozen_of_row w6 lb 0 _ _ HS6.out.ln.row
      have HP6 := hid (HS6.out.put (Wt.nil w6) (by simp [ft]))
      clear h9
      go_wp2_with fail
      first | go_returns | skip
      exact HEND.out _ qf t cf ls none 0 0 [] _ 230 HP6.out rfl HE.out (by simp [ft])
    by_cases hbig : 65532 < NN
    · have d9 : decide ((NN : Int) < 9) = false := decide_eq_false (by omega)
      have e9 : ¬ (NN : Int) < 9 := by omega
      have e8 : (65532 : Int) < (NN : Int) := by omega
      have HE : Hid (feedR all = (ls.map Bk.bs, [], 230)) := hid (by rw [HIN.out.2.1, feedR_bad HN4.out (Or.inr (by rw [HNZ.out]; exact e8))]; simp)
      have hzf := frozen_of_row w6 lb 0 _ _ HS6.out.ln.row
      have HP6 := hid (HS6.out.put (Wt.nil w6) (by simp [ft]))
      clear h9
      go_wp2_with fail
      first | go_returns | skip
      exact HEND.out _ qf t cf ls none 0 0 [] _ 230 HP6.out rfl HE.out (by simp [ft])
    have d9 : decide ((NN : Int) < 9) = false := decide_eq_false (by omega)
    have e9 : ¬ (NN : Int) < 9 := by omega
    have e8 : ¬ (65532 : Int) < (NN : Int) := by omega
    have d8 : decide ((65532 : Int) < (NN : Int)) = false := decide_eq_false e8
    have HNB2 : Hid (¬ (leV (a.take 4) < 9 ∨ 65532 < leV (a.take 4))) := hid (by rw [HNZ.out]; omega)
    have hws : wrap64 (4 + (NN : Int)) = 4 + (NN : Int) := by unfold wrap64; omega
    by_cases hsh : (n : Int) < 4 + (NN : Int)
    · have HE : Hid (feedR all = (ls.map Bk.bs, a, 0)) := hid (by rw [HIN.out.2.1, feedR_wait HN4.out HNB2.out (by rw [HNZ.out, HLEN.out]; exact hsh)]; simp)
      go_wp2_with fail
      first | go_returns | skip
      exact HEND.out _ qf t cf ls p n c a _ 0 HS6.out rfl HE.out HIN.out.2.2.1
    obtain ⟨E, hE⟩ : ∃ E, 4 + NN = E := ⟨_, rfl⟩
    have hEn : E ≤ n := by omega
    have hE13 : 13 ≤ E := by omega
    have hEB : E ≤ 65536 := by omega
    have HNX : Hid (feedR all = ((ls.map Bk.bs ++ [a.take E]) ++ (feedR (a.drop E)).1, (feedR (a.drop E)).2)) := hid (by
      have h := feedR_next HN4.out HNB2.out (by rw [HNZ.out, HLEN.out]; exact hsh)
      rw [HNZ.out, Int.toNat_natCast, hE] at h
      rw [HIN.out.2.1, h]
      simp)
    have hslh := fun W => sl_h (P := Tryd.prog) Tryd.underlying22 infoU8E p n c E (by omega) W
    have hsll := fun W => sl_l (P := Tryd.prog) (sz := 1) Tryd.underlying22 infoU8E p n c E hEn W
    obtain ⟨pd, hpd⟩ : ∃ z, partAt p c E 1 = z := ⟨_, rfl⟩
    rw [hpd] at hsll
    have hWD := HS6.out.ln.wt.drop E hEn
    have hFD := ft_drop p c E
    rw [show (if c = E then p else p.map (·.add E)) = pd by rw [← hpd]; unfold partAt; rw [Nat.mul_one]] at hWD hFD
    have HWD := hid hWD
    have HFD := hid hFD
    rw [show ((E : Nat) : Int) = 4 + (NN : Int) by omega] at hslh hsll
    have HTE : Hid ((a.take E).length = E) := hid (by rw [List.length_take, HLEN.out]; omega)
    have HRT := hid (HS6.out.ln.wt.rd.take E)
    have HTB : Hid ((t + 1) * 24 ≤ 140737488355328 ∧ (t + 1) * 13 ≤ 70368744177664) := hid (by omega)
    clear hWD hFD hpd hE
    have hE1 : 0 < E := by omega
    go_wp2_with (at_builtin; refine wpList_appB rfl _ _ 22 rfl 5 Tryd.underlying22 infoU8E none 0 0 [] rfl rfl (Own.nil _ _) p E c (a.take E) rfl HTE.out.symm (fun h0 _ => by have := HTE.out; rw [h0] at this; simp at this; omega) HRT.out (by rw [HTE.out]; simp; omega) ?_)
    intro xs p2 c2 w7 hxs ho7 hf7 hb7
    have HXS : Hid (xs = a.take E) := hid (by simpa using hxs.out)
    have hf7' : Frm [] w6 w7 := hf7.out.mono (by simp [blk])
    have HB7 : Hid (∀ i ∈ blk p2, w6.heap.size ≤ i) := hid (fun i hi => (hb7.out i hi).elim (fun h => by simp [blk] at h) (fun h => by first | omega | (simp at h; omega)))
    have HBK : Hid (BkOk w7 (⟨p2, c2, xs⟩ : Bk)) := hid (BkOk.of_own (x := ⟨p2, c2, xs⟩) ho7.out)
    have HF7 := hid hf7'
    have q7 := (hf7'.cell (World.block_lt_of_cell? _ _ q6) (by simp)).trans q6
    obtain ⟨kx, hkx⟩ : ∃ q, xs.length = q := ⟨_, rfl⟩
    have HKX := hid hkx
    rw [hkx]
    have HA := hid ((Frm.refl [] w7).alloc (.cells #[.slice p2 kx c2] 22))
    have HRV := hid (rv_block (heap_alloc_new w7 (.cells #[.slice p2 kx c2] 22)))
    have HOW := hid (ownsRow_kept HS6.out.ow.ow (hf7'.trans HA.out (by simp)) (by simp))
    have htb := HTB.out
    obtain ⟨htb1, htb2⟩ := htb
    clear hxs ho7 hf7 hb7 hf7' hkx q6
    go_wp2_with (at_builtin; refine wpList_appV rfl _ _ 46 rfl 22 1 24 _ Tryd.underlying46 infoK rfl (by decide) qf t cf (rowsK ls) rfl HOW.out (some ⟨w7.heap.size, 0, none⟩) 1 1 [.slice p2 kx c2] rfl rfl (by simp) HRV.out (by intro u hu; simp at hu; subst hu; rfl) (by unfold maxLen; omega) (by omega) ?_)
    intro q3 c3 w8 ho8 hf8 hb8
    have HS8 := hid (HS6.out.next (x := ⟨p2, c2, xs⟩) HF7.out HA.out HBK.out HB7.out (by have h := ho8.out; rw [← HKX.out] at h; simpa [Bk.v] using h) hf8.out (fun k hk => (hb8.out k hk).imp (fun h => h) (fun h => by first | exact h | (simp at h ⊢; omega))))
    have hrow8 := HS8.out.ln.row
    have q8 : w8.cell? ⟨lb, 0, none⟩ = some (.slice p n c) := by rw [cell_of_row _ _ _ _ _ _ hrow8]; rfl
    have hzf := frozen_of_row w8 lb 0 _ _ hrow8
    have HWD8 : Hid (Wt w8 pd (n - E) (c - E) (a.drop E)) := hid (((HWD.out.kept HF7.out (by simp)).kept HA.out (by simp)).kept hf8.out (fun k hk hm => by
      have h1 := HS6.out.nw.1 k hm
      have h2 := HS6.out.lp k (HFD.out k hk)
      omega))
    have HP8 := hid (HS8.out.put HWD8.out HFD.out)
    have HLL : Hid (lnLen (w8.setCell ⟨lb, 0, none⟩ (.slice pd (n - E) (c - E))) lb < lnLen wr lb) := hid (by
      have e1 : (w8.setCell ⟨lb, 0, none⟩ (.slice pd (n - E) (c - E))).cell? ⟨lb, 0, none⟩ = some (.slice pd (n - E) (c - E)) := by rw [cell_of_row _ _ _ _ _ _ HP8.out.ln.row]; rfl
      have e2 : wr.cell? ⟨lb, 0, none⟩ = some (.slice p n c) := by rw [cell_of_row _ _ _ _ _ _ HIN.out.1.ln.row]; rfl
      unfold lnLen
      rw [e1, e2]
      simp only
      omega)
    have HBZ : Hid ((t + 1) * 13 + (n - E) ≤ N1) := hid (by omega)
    have HNX2 : Hid (feedR all = ((ls ++ [(⟨p2, c2, xs⟩ : Bk)]).map Bk.bs ++ (feedR (a.drop E)).1, (feedR (a.drop E)).2)) := hid (by rw [HNX.out, List.map_append, List.map_singleton, HXS.out])
    clear ho8 hf8 hb8 HOW HRV HA hrow8 q7 hslh
    go_wp2_with fail
    go_roundw
    case rel => exact ⟨q3, t + 1, c3, _, pd, n - E, c - E, a.drop E, by go_num, by omega, hid ⟨HP8.out, HNX2.out, fun k hk => HIN.out.2.2.1 k (HFD.out k hk), HBZ.out, fun z hz => HIN.out.2.2.2.2 z (List.mem_of_mem_drop hz)⟩⟩
    case measure => exact HLL.out
end
end Go.Proofs.YtignoocdeghiaaaDoor
