/- Contracts of package sum: Add to a fresh running sum. Contracts of package sum: Value, Of. Contracts of package sum: Of by SHA-256 of few bytes, Check. -/
import Derived.Test.YtajfjkfnmmfhmaaDoorQaj
namespace Go.Proofs.YtajfjkfnmmfhmaaDoor
section
open Go.RowKit
set_option maxRecDepth 100000

/-- A slice from a bound on, and where its bytes lie. -/
theorem slice_from (p : Option Addr) (zs : List Int) (n c lo : Nat) (hn : zs.length = n) (hlo : lo ≤ n) (hc : n ≤ c) (w : World) (hr : Rd w p zs) :
    ∃ pp, (∀ W : World, (Instr.sliceAt 23 (.slice p n c) (some (.int .i64 (lo : Int))) none none).run Tryd.prog W = .ok (.slice pp (n - lo) (c - lo)) W) ∧ Rd w pp (zs.drop lo) ∧ ∀ k ∈ blk pp, k ∈ blk p := by
  obtain ⟨pp, h1, h2⟩ := slice_low (P := Tryd.prog) Tryd.underlying23 infoB p zs n c lo hn hlo hc w hr
  have h3 : ∀ W : World, (Instr.sliceAt 23 (.slice p n c) (some (.int .i64 (lo : Int))) none none).run Tryd.prog W = .ok (.slice pp (n - lo) (c - lo)) W := fun W => by
    rw [run_sliceAt_slice (h := elem_of Tryd.underlying23)]
    exact h1 W
  refine ⟨pp, h3, h2, ?_⟩
  have h4 := (h1 w).symm.trans (by
    have hx : (Instr.slice 23 (.slice p n c) (some (.int .i64 (lo : Int))) none none).run Tryd.prog w = .ok (.slice (if c = lo then p else p.map (·.add lo)) (n - lo) (c - lo)) w := by
      have hI : (Tryd.prog.info? 5).map (fun i => (i.zero, i.size, i.bytes)) = some (some (.int .u8 0), 1, 1) := infoB
      obtain ⟨i, hi, hz, e1, e2⟩ := info_parts hI
      rw [run_slice_l w 23 _ _ _ (elem_of Tryd.underlying23) .i64 _ (by omega) (by omega), show Tryd.prog.elem 23 = 5 by simp [Program.elem, Tryd.underlying23]]
      have hs : (sizeOf 5).run Tryd.prog w = .ok 1 w := by simp [sizeOf, typeInfo, hi, e1, Result.andThen]
      rw [hs]
      simp [Result.andThen, sliced]
    exact hx)
  simp only [Result.ok.injEq, Value.slice.injEq, and_true] at h4
  rw [h4]
  intro k hk
  split at hk
  · exact hk
  · cases p with
    | none => simp [blk] at hk
    | some a => by_cases h0 : lo = 0 <;> simpa [blk, Addr.add, h0] using hk
/-- The sum behind so many words; bytes behind the end are noughts. -/
def flW (s : S4) (zs : List Int) : Nat → S4
  | 0 => s
  | k + 1 => wordS (flW s zs k) (lowW (zA zs (4 * k)) (zA zs (4 * k + 1)) (zA zs (4 * k + 2)) (zA zs (4 * k + 3)))
theorem zA_drop (zs : List Int) (a i : Nat) : (zs.drop a).getD i 0 = zA zs (a + i) := by
  unfold zA
  rw [List.getD_eq_getElem?_getD, List.getD_eq_getElem?_getD, List.getElem?_drop]
/-- A running sum, the copy of its sum, the bytes that are left. -/
structure StA (w0 w : World) (r sb : Nat) (s : S4) (cur : S4) (zs : List Int) (p pk : Option Addr) (k : Nat) : Prop where
  row : RowR w r s 0 0 0 0 0
  cop : w.heap[sb]? = some (.cells cur.arr 39 (0, 0))
  rd : Rd w pk (zs.drop k)
  bk : ∀ j ∈ blk pk, j ∈ blk p
  fr : Frm [] w0 w
  hs : w0.heap.size ≤ sb
def lenV : Value → Nat
  | .slice _ n _ => n
  | _ => 0
def xi (zs : List Int) (a t i : Nat) : Int := if i < t then zA zs (a + i) else 0
set_option maxHeartbeats 6400000 in
theorem add_fresh (r : Nat) (s : S4) (p : Option Addr) (n c : Nat) (zs : List Int) (w : World) (hr : RowR w r s 0 0 0 0 0) (hn : zs.length = n) (hnc : n ≤ c) (_hnb : n ≤ 9223372036854775807) (hrd : Rd w p zs) (hb : ∀ z ∈ zs, 0 ≤ z ∧ z < 256) (hal : zs ≠ [] → r ∉ blk p) :
    Calls Tryd.prog 72 #[.pointer (some ⟨r, 0, none⟩), .slice p n c] w fun e w' => e = .returned (.tuple #[]) ∧ RowR w' r (flW s zs (n / 4)) (zA zs (4 * (n / 4))) (zA zs (4 * (n / 4) + 1)) (zA zs (4 * (n / 4) + 2)) 0 ((n % 4 : Nat) : Int) ∧ Frm [r] w w' := by
  have HR := hid hr
  have HRD := hid hrd
  have HZB := hid hb
  have HN := hid hn
  have HAL := hid hal
  have c8 : w.cell? ⟨r, 8, none⟩ = some (.int .i64 0) := by rw [cell_of_row w _ _ _ _ _ hr]; rfl
  have c0 : w.cell? ⟨r, 0, none⟩ = some (.int .u64 s.a) := by rw [cell_of_row w _ _ _ _ _ hr]; rfl
  have c1 : w.cell? ⟨r, 1, none⟩ = some (.int .u64 s.b) := by rw [cell_of_row w _ _ _ _ _ hr]; rfl
  have c2 : w.cell? ⟨r, 2, none⟩ = some (.int .u64 s.c) := by rw [cell_of_row w _ _ _ _ _ hr]; rfl
  have c3 : w.cell? ⟨r, 3, none⟩ = some (.int .u64 s.d) := by rw [cell_of_row w _ _ _ _ _ hr]; rfl
  clear hr hrd hb hn hal
  go_enter Tryd.func72, Tryd.ntmps72
  go_wp2_with fail
  go_loopw [1] (fun b wr => b = .slice p n c ∧ wr = w) (fun _ _ => 0)
  case atStart => exact ⟨rfl, rfl⟩
  case round =>
    obtain ⟨rfl, rfl⟩ := hrel
    have g0 : decide ((0 : Int) < 0) = false := by decide
    go_wp2_with fail
    obtain ⟨wo, rfl⟩ : ∃ wo : World, wo = wr := ⟨_, rfl⟩
    have hfa : Frm [] wo (wo.alloc (.cells #[.int .u64 s.a, .int .u64 s.b, .int .u64 s.c, .int .u64 s.d] 39)) := (Frm.refl _ _).alloc _
    have HS0 : Hid (StA wo (wo.alloc (.cells #[.int .u64 s.a, .int .u64 s.b, .int .u64 s.c, .int .u64 s.d] 39)) r wo.heap.size s (flW s zs 0) zs p p (4 * 0)) := hid ⟨hfa.heap HR.out (by simp), heap_alloc_new _ _, by simpa using HRD.out.kept hfa (by simp), fun j h => h, hfa, Nat.le_refl _⟩
    have hrs : r < wo.heap.size := lt_of_heap HR.out
    obtain ⟨sb, hsb⟩ : ∃ sb, wo.heap.size = sb := ⟨_, rfl⟩
    rw [hsb] at HS0 hrs ⊢
    have HSB := hid hsb
    clear hsb hfa c8 c0 c1 c2 c3
    go_loopw [1] (fun b wr => ∃ (k m d : Nat) (pk : Option Addr), Hid (4 * k + m = n) ∧ Hid (4 * k + d = c) ∧ b = .slice pk m d ∧ Hid (StA wo wr r sb s (flW s zs k) zs p pk (4 * k))) (fun b _ => lenV b)
    case atStart => exact ⟨0, n, c, p, hid (by omega), hid (by omega), rfl, HS0⟩
    case round =>
      clear HS0
      obtain ⟨k, m, d, pk, hm, hd, rfl, hst⟩ := hrel
      have hmn := hm.out
      have hdn := hd.out
      by_cases hlt : 4 ≤ m
      · obtain ⟨pp, hsl, hrd2, hbk2⟩ := slice_from pk (zs.drop (4 * k)) m d 4 (by rw [List.length_drop, HN.out]; omega) hlt (by omega) wr hst.out.rd
        have hsl' : ∀ W : World, (Instr.sliceAt 23 (.slice pk m d) (some (.int .i64 4)) none none).run Tryd.prog W = .ok (.slice pp (m - 4) (d - 4)) W := hsl
        have hby : ∀ i, i < 4 → 0 ≤ zA zs (4 * k + i) ∧ zA zs (4 * k + i) < 256 := fun i hi => HZB.out _ (by
          unfold zA
          rw [List.getD_eq_getElem?_getD, List.getElem?_eq_getElem (by rw [HN.out]; omega)]
          exact List.getElem_mem _)
        have rdb : ∀ i, i < 4 → ∃ g o, pk = some ⟨g, o, none⟩ ∧ wr.cell? ⟨g, o + i, none⟩ = some (.int .u8 (zA zs (4 * k + i))) := fun i hi => by
          obtain ⟨g, o, e1, e2⟩ := rd_byte (i := i) hst.out.rd (by rw [List.length_drop, HN.out]; omega)
          rw [zA_drop] at e2
          exact ⟨g, o, e1, e2⟩
        obtain ⟨g, o, rfl, k0⟩ := rdb 0 (by omega)
        obtain ⟨_, _, e1, k1⟩ := rdb 1 (by omega)
        obtain ⟨_, _, e2, k2⟩ := rdb 2 (by omega)
        obtain ⟨_, _, e3, k3⟩ := rdb 3 (by omega)
        simp only [Option.some.injEq, Addr.mk.injEq, and_true] at e1 e2 e3
        obtain ⟨rfl, rfl⟩ := e1
        obtain ⟨rfl, rfl⟩ := e2
        obtain ⟨rfl, rfl⟩ := e3
        rw [Nat.add_zero] at k0
        have HLO := hid (low_any _ _ _ _ wr.drew (hby 0 (by omega)) (hby 1 (by omega)) (hby 2 (by omega)) (hby 3 (by omega)))
        have hnx : wordS (flW s zs k) (lowW (zA zs (4 * k)) (zA zs (4 * k + 1)) (zA zs (4 * k + 2)) (zA zs (4 * k + 3))) = flW s zs (k + 1) := rfl
        obtain ⟨cur, hcur⟩ : ∃ cur, flW s zs k = cur := ⟨_, rfl⟩
        rw [hcur] at hst hnx
        rw [Nat.add_zero] at k0 HLO
        have hlb := lowW_bd (zA zs (4 * k)) (zA zs (4 * k + 1)) (zA zs (4 * k + 2)) (zA zs (4 * k + 3))
        obtain ⟨L, hL⟩ : ∃ L, lowW (zA zs (4 * k)) (zA zs (4 * k + 1)) (zA zs (4 * k + 2)) (zA zs (4 * k + 3)) = L := ⟨_, rfl⟩
        rw [hL] at HLO hnx hlb
        have hwo := fun w' => word_any cur L w' hlb
        unfold S4.arr at hwo
        have HWO := hid hwo
        have HNX := hid hnx
        generalize zA zs (4 * k) = y0 at k0 HLO
        generalize zA zs (4 * k + 1) = y1 at k1 HLO
        generalize zA zs (4 * k + 2) = y2 at k2 HLO
        generalize zA zs (4 * k + 3) = y3 at k3 HLO
        have hsz := hst.out.hs
        have b0 : (4 : Int) ≤ (m : Int) := by omega
        have b1 : (0 : Int) < (m : Int) := by omega
        have b2 : (1 : Int) < (m : Int) := by omega
        have b3 : (2 : Int) < (m : Int) := by omega
        have b4 : (3 : Int) < (m : Int) := by omega
        have m0 : 0 < m := by omega
        have m1 : 1 < m := by omega
        have m2 : 2 < m := by omega
        have m3 : 3 < m := by omega
        have q0 : wr.cell? ⟨sb, 0, none⟩ = some (.int .u64 cur.a) := by rw [cell_of_row wr _ _ _ _ _ hst.out.cop]; rfl
        have q1 : wr.cell? ⟨sb, 1, none⟩ = some (.int .u64 cur.b) := by rw [cell_of_row wr _ _ _ _ _ hst.out.cop]; rfl
        have q2 : wr.cell? ⟨sb, 2, none⟩ = some (.int .u64 cur.c) := by rw [cell_of_row wr _ _ _ _ _ hst.out.cop]; rfl
        have q3 : wr.cell? ⟨sb, 3, none⟩ = some (.int .u64 cur.d) := by rw [cell_of_row wr _ _ _ _ _ hst.out.cop]; rfl
        have HRD2 := hid hrd2
        have HBK2 := hid hbk2
        clear rdb hby hnx hcur hL hlb hwo hsl hrd2 hbk2
        go_wp2_with fail
        go_still_tail 14, (by kernel_rfl)
        refine wpStill_step (fun K hK => ?_)
        go_simp
        refine ⟨_, HLO.out, hK _ ?_⟩
        clear hK K
        repeat still_step
        refine wpStill_nil ?_
        change wpList _ _ _ _ _ wr.drew
        have hfd : Frm [] wr wr.drew := (Frm.refl _ _).drew
        obtain ⟨w5, hw5⟩ : ∃ w5, wr.drew = w5 := ⟨_, rfl⟩
        rw [hw5] at hfd ⊢
        clear hw5 q0 q1 q2 q3 k0 k1 k2 k3 HLO
        go_wp2_with fail
        refine (HWO.out w5).mono ?_
        rintro e w6 ⟨rfl, hf6⟩
        have hF6 := hfd.trans hf6 (by simp)
        have HF6 := hid hF6
        have hco := hF6.heap hst.out.cop (by simp)
        have q0 : w6.cell? ⟨sb, 0, none⟩ = some (.int .u64 cur.a) := by rw [cell_of_row w6 _ _ _ _ _ hco]; rfl
        have q1 : w6.cell? ⟨sb, 1, none⟩ = some (.int .u64 cur.b) := by rw [cell_of_row w6 _ _ _ _ _ hco]; rfl
        have q2 : w6.cell? ⟨sb, 2, none⟩ = some (.int .u64 cur.c) := by rw [cell_of_row w6 _ _ _ _ _ hco]; rfl
        have q3 : w6.cell? ⟨sb, 3, none⟩ = some (.int .u64 cur.d) := by rw [cell_of_row w6 _ _ _ _ _ hco]; rfl
        have z0 : w6.frozen? ⟨sb, 0, none⟩ = false := frozen_of_row w6 _ 0 _ _ hco
        have z1 : w6.frozen? ⟨sb, 1, none⟩ = false := frozen_of_row w6 _ 1 _ _ hco
        have z2 : w6.frozen? ⟨sb, 2, none⟩ = false := frozen_of_row w6 _ 2 _ _ hco
        have z3 : w6.frozen? ⟨sb, 3, none⟩ = false := frozen_of_row w6 _ 3 _ _ hco
        have HS4 := hid (set4 (y0 := .int .u64 (wordS cur L).a) (y1 := .int .u64 (wordS cur L).b) (y2 := .int .u64 (wordS cur L).c) (y3 := .int .u64 (wordS cur L).d) hco)
        clear hco hF6 hf6 hfd
        go_wp2_with fail
        go_roundw
        case rel =>
          obtain ⟨h4, f4⟩ := HS4.out
          refine ⟨k + 1, m - 4, d - 4, pp, hid (by omega), hid (by omega), rfl, hid ?_⟩
          rw [← HNX.out]
          have hf7 := (HF6.out.mono (T := [sb]) (by simp)).trans f4 (fun i hi hl => hi)
          have hne : r ≠ sb := by omega
          refine ⟨f4.heap (HF6.out.heap hst.out.row (by simp)) (by simpa using hne), h4, ?_, fun j hj => hst.out.bk j (HBK2.out j hj), hst.out.fr.trans hf7 (fun i hi hl => by simp at hi; omega), hsz⟩
          have hr2 := HRD2.out
          rw [List.drop_drop, show 4 * k + 4 = 4 * (k + 1) by omega] at hr2
          refine hr2.kept hf7 (fun j hj hjs => ?_)
          have hj2 := hst.out.bk j (HBK2.out j hj)
          have hzne : zs ≠ [] := fun h => by have := HN.out; rw [h] at this; simp at this; omega
          have := HRD.out.lows hzne j hj2
          simp at hjs
          omega
        case measure => simp [lenV]; omega
      · have hq : Hid (k = n / 4) := hid (by omega)
        have hmm : Hid (m = n % 4) := hid (by omega)
        obtain ⟨cur, hcur⟩ : ∃ cur, flW s zs k = cur := ⟨_, rfl⟩
        rw [hcur] at hst
        have hcu := hid hcur
        clear hcur
        have hb0 : ¬ (4 : Int) ≤ (m : Int) := by omega
        have q0 : wr.cell? ⟨sb, 0, none⟩ = some (.int .u64 cur.a) := by rw [cell_of_row wr _ _ _ _ _ hst.out.cop]; rfl
        have q1 : wr.cell? ⟨sb, 1, none⟩ = some (.int .u64 cur.b) := by rw [cell_of_row wr _ _ _ _ _ hst.out.cop]; rfl
        have q2 : wr.cell? ⟨sb, 2, none⟩ = some (.int .u64 cur.c) := by rw [cell_of_row wr _ _ _ _ _ hst.out.cop]; rfl
        have q3 : wr.cell? ⟨sb, 3, none⟩ = some (.int .u64 cur.d) := by rw [cell_of_row wr _ _ _ _ _ hst.out.cop]; rfl
        have e0 : wr.cell? ⟨r, 0, none⟩ = some (.int .u64 s.a) := by rw [cell_of_row wr _ _ _ _ _ hst.out.row]; rfl
        have e1 : wr.cell? ⟨r, 1, none⟩ = some (.int .u64 s.b) := by rw [cell_of_row wr _ _ _ _ _ hst.out.row]; rfl
        have e2 : wr.cell? ⟨r, 2, none⟩ = some (.int .u64 s.c) := by rw [cell_of_row wr _ _ _ _ _ hst.out.row]; rfl
        have e3 : wr.cell? ⟨r, 3, none⟩ = some (.int .u64 s.d) := by rw [cell_of_row wr _ _ _ _ _ hst.out.row]; rfl
        have z0 : wr.frozen? ⟨r, 0, none⟩ = false := frozen_of_row wr _ 0 _ _ hst.out.row
        have z1 : wr.frozen? ⟨r, 1, none⟩ = false := frozen_of_row wr _ 1 _ _ hst.out.row
        have z2 : wr.frozen? ⟨r, 2, none⟩ = false := frozen_of_row wr _ 2 _ _ hst.out.row
        have z3 : wr.frozen? ⟨r, 3, none⟩ = false := frozen_of_row wr _ 3 _ _ hst.out.row
        have h0 : (wr.setCell ⟨r, 0, none⟩ (.int .u64 cur.a)).heap[r]? = some (.cells #[.int .u64 cur.a, .int .u64 s.b, .int .u64 s.c, .int .u64 s.d, .int .u8 0, .int .u8 0, .int .u8 0, .int .u8 0, .int .i64 0] 98 (0, 0)) := by rw [heap_setCell_same _ _ 0 _ _ _ hst.out.row]; rfl
        have h1 : ((wr.setCell ⟨r, 0, none⟩ (.int .u64 cur.a)).setCell ⟨r, 1, none⟩ (.int .u64 cur.b)).heap[r]? = some (.cells #[.int .u64 cur.a, .int .u64 cur.b, .int .u64 s.c, .int .u64 s.d, .int .u8 0, .int .u8 0, .int .u8 0, .int .u8 0, .int .i64 0] 98 (0, 0)) := by rw [heap_setCell_same _ _ 1 _ _ _ h0]; rfl
        have h2 : (((wr.setCell ⟨r, 0, none⟩ (.int .u64 cur.a)).setCell ⟨r, 1, none⟩ (.int .u64 cur.b)).setCell ⟨r, 2, none⟩ (.int .u64 cur.c)).heap[r]? = some (.cells #[.int .u64 cur.a, .int .u64 cur.b, .int .u64 cur.c, .int .u64 s.d, .int .u8 0, .int .u8 0, .int .u8 0, .int .u8 0, .int .i64 0] 98 (0, 0)) := by rw [heap_setCell_same _ _ 2 _ _ _ h1]; rfl
        have h3 : ((((wr.setCell ⟨r, 0, none⟩ (.int .u64 cur.a)).setCell ⟨r, 1, none⟩ (.int .u64 cur.b)).setCell ⟨r, 2, none⟩ (.int .u64 cur.c)).setCell ⟨r, 3, none⟩ (.int .u64 cur.d)).heap[r]? = some (.cells #[.int .u64 cur.a, .int .u64 cur.b, .int .u64 cur.c, .int .u64 cur.d, .int .u8 0, .int .u8 0, .int .u8 0, .int .u8 0, .int .i64 0] 98 (0, 0)) := by rw [heap_setCell_same _ _ 3 _ _ _ h2]; rfl
        have hF4 : Frm [r] wr ((((wr.setCell ⟨r, 0, none⟩ (.int .u64 cur.a)).setCell ⟨r, 1, none⟩ (.int .u64 cur.b)).setCell ⟨r, 2, none⟩ (.int .u64 cur.c)).setCell ⟨r, 3, none⟩ (.int .u64 cur.d)) := ((((Frm.refl _ wr).setCell _ _ (by simp)).setCell _ _ (by simp)).setCell _ _ (by simp)).setCell _ _ (by simp)
        have HH3 : Hid (RowR ((((wr.setCell ⟨r, 0, none⟩ (.int .u64 cur.a)).setCell ⟨r, 1, none⟩ (.int .u64 cur.b)).setCell ⟨r, 2, none⟩ (.int .u64 cur.c)).setCell ⟨r, 3, none⟩ (.int .u64 cur.d)) r cur 0 0 0 0 0) := hid h3
        have HF4 := hid hF4
        clear h0 h1 h2 h3 hF4 hlt
        go_wp2_with fail
        obtain ⟨w8, hw8⟩ : ∃ w8, (((wr.setCell ⟨r, 0, none⟩ (.int .u64 cur.a)).setCell ⟨r, 1, none⟩ (.int .u64 cur.b)).setCell ⟨r, 2, none⟩ (.int .u64 cur.c)).setCell ⟨r, 3, none⟩ (.int .u64 cur.d) = w8 := ⟨_, rfl⟩
        rw [hw8] at HH3 HF4 ⊢
        have HRD8 : Hid (Rd w8 pk (zs.drop (4 * k))) := hid (by
          by_cases hz : zs = []
          · exact Or.inl (by rw [hz]; simp)
          · exact hst.out.rd.kept HF4.out (fun j hj hjs => by
              simp at hjs
              exact HAL.out hz (hjs ▸ hst.out.bk j hj)))
        have HF8 : Hid (Frm [r] wo w8) := hid ((hst.out.fr.mono (by simp)).trans HF4.out (fun i hi hl => hi))
        have HBK := hid hst.out.bk
        clear hw8 q0 q1 q2 q3 e0 e1 e2 e3 z0 z1 z2 z3 HF4
        have HX : Hid (∀ i, 0 ≤ zA zs i ∧ zA zs i < 256) := hid (fun i => by
          unfold zA
          rw [List.getD_eq_getElem?_getD]
          by_cases hi : i < zs.length
          · rw [List.getElem?_eq_getElem hi]
            exact HZB.out _ (List.getElem_mem hi)
          · rw [List.getElem?_eq_none (by omega)]
            simp)
        go_loopw [1] (fun b wr => ∃ (t m' d' : Nat) (pk' : Option Addr), Hid (t + m' = m) ∧ Hid (t + d' = d) ∧ b = .slice pk' m' d' ∧ Hid (RowR wr r cur (xi zs (4 * k) t 0) (xi zs (4 * k) t 1) (xi zs (4 * k) t 2) 0 ((t : Nat) : Int)) ∧ Hid (Rd wr pk' (zs.drop (4 * k + t))) ∧ Hid (∀ j ∈ blk pk', j ∈ blk p) ∧ Hid (Frm [r] wo wr)) (fun b _ => lenV b)
        case atStart => exact ⟨0, m, d, pk, hid (by omega), hid (by omega), rfl, hid (by simpa [xi] using HH3.out), hid (by simpa using HRD8.out), HBK, HF8⟩
        case round =>
          clear HH3 HRD8 HBK HF8
          obtain ⟨t, m', d', pk', ht, htd, rfl, hrow, hrd, hbk, hf⟩ := hrel
          have htt := ht.out
          have htd' := htd.out
          by_cases hlt : 0 < m'
          · obtain ⟨pp, hsl, hrd2, hbk2⟩ := slice_from pk' (zs.drop (4 * k + t)) m' d' 1 (by rw [List.length_drop, HN.out]; omega) hlt (by omega) wr hrd.out
            have hsl' : ∀ W : World, (Instr.sliceAt 23 (.slice pk' m' d') (some (.int .i64 1)) none none).run Tryd.prog W = .ok (.slice pp (m' - 1) (d' - 1)) W := hsl
            obtain ⟨g, o, rfl, k0⟩ := rd_byte (i := 0) hrd.out (by rw [List.length_drop, HN.out]; omega)
            rw [zA_drop, Nat.add_zero, Nat.add_zero] at k0
            have HDO : Hid (∀ w', RowR w' r cur (xi zs (4 * k) (t + 1) 0) (xi zs (4 * k) (t + 1) 1) (xi zs (4 * k) (t + 1) 2) 0 ((t + 1 : Nat) : Int) → Frm [r] wr w' → ∃ (t' m'' d'' : Nat) (pk'' : Option Addr), Hid (t' + m'' = m) ∧ Hid (t' + d'' = d) ∧ Value.slice pp (m' - 1) (d' - 1) = .slice pk'' m'' d'' ∧ Hid (RowR w' r cur (xi zs (4 * k) t' 0) (xi zs (4 * k) t' 1) (xi zs (4 * k) t' 2) 0 ((t' : Nat) : Int)) ∧ Hid (Rd w' pk'' (zs.drop (4 * k + t'))) ∧ Hid (∀ j ∈ blk pk'', j ∈ blk p) ∧ Hid (Frm [r] wo w')) := hid (fun w' h1 h2 => by
              refine ⟨t + 1, m' - 1, d' - 1, pp, hid (by omega), hid (by omega), rfl, hid h1, hid ?_, hid (fun j hj => hbk.out j (hbk2 j hj)), hid (hf.out.trans h2 (fun i hi hl => hi))⟩
              have hr2 := hrd2
              rw [List.drop_drop] at hr2
              exact hr2.kept h2 (fun j hj hjs => by
                simp at hjs
                exact HAL.out (fun hz => by have := HN.out; rw [hz] at this; simp at this; omega) (hjs ▸ hbk.out j (hbk2 j hj))))
            have b0 : (0 : Int) < (m' : Int) := by omega
            have hb9 : m' ≤ 9223372036854775807 := by omega
            clear hsl hrd2 hbk2
            have ht3 : t = 0 ∨ t = 1 ∨ t = 2 := by omega
            rcases ht3 with rfl | rfl | rfl
            · have HO := hid (one_0 r cur 0 0 0 0 g o m' d' (zA zs (4 * k + 0)) wr (by simpa [xi] using hrow.out) hlt hb9 k0 pp hsl')
              clear hrow k0
              go_wp2_with fail
              refine HO.out.mono ?_
              rintro e w9 ⟨rfl, hr9, hf9⟩
              have HRL := hid (HDO.out w9 (by simpa [xi] using hr9) hf9)
              clear hr9 hf9
              go_wp2_with fail
              go_roundw
              case rel => exact HRL.out
              case measure => simp [lenV]; omega
            · have HO := hid (one_1 r cur (zA zs (4 * k)) 0 0 0 g o m' d' (zA zs (4 * k + 1)) wr (by simpa [xi] using hrow.out) hlt hb9 k0 pp hsl')
              clear hrow k0
              go_wp2_with fail
              refine HO.out.mono ?_
              rintro e w9 ⟨rfl, hr9, hf9⟩
              have HRL := hid (HDO.out w9 (by simpa [xi] using hr9) hf9)
              clear hr9 hf9
              go_wp2_with fail
              go_roundw
              case rel => exact HRL.out
              case measure => simp [lenV]; omega
            · have HO := hid (one_2 r cur (zA zs (4 * k)) (zA zs (4 * k + 1)) 0 0 g o m' d' (zA zs (4 * k + 2)) wr (by simpa [xi] using hrow.out) hlt hb9 k0 pp hsl')
              clear hrow k0
              go_wp2_with fail
              refine HO.out.mono ?_
              rintro e w9 ⟨rfl, hr9, hf9⟩
              have HRL := hid (HDO.out w9 (by simpa [xi] using hr9) hf9)
              clear hr9 hf9
              go_wp2_with fail
              go_roundw
              case rel => exact HRL.out
              case measure => simp [lenV]; omega
          · obtain rfl : m' = 0 := by omega
            have hb1 : ¬ (0 : Int) < ((0 : Nat) : Int) := by omega
            go_wp2_with fail
            go_returns
            obtain rfl : t = m := by omega
            have hx : ∀ i, xi zs (4 * k) t i = zA zs (4 * k + i) := fun i => by
              unfold xi
              split
              · rfl
              · unfold zA
                rw [List.getD_eq_getElem?_getD, List.getElem?_eq_none (by rw [HN.out]; omega)]
                rfl
            have hr9 := hrow.out
            rw [hx, hx, hx, ← hcu.out, hq.out, hmm.out, Nat.add_zero] at hr9
            exact ⟨rfl, hr9, hf.out⟩
end
section
open Go.RowKit
set_option maxRecDepth 100000

def Z4 : S4 := ⟨0, 0, 0, 0⟩
set_option maxHeartbeats 800000 in
theorem value_0 (r : Nat) (s : S4) (x0 x1 x2 x3 : Int) (w : World) (hr : RowR w r s x0 x1 x2 x3 0) :
    Calls Tryd.prog 73 #[.pointer (some ⟨r, 0, none⟩)] w fun e w' => e = .returned (.agg s.arr) ∧ Frm [] w w' := by
  have hfa : Frm [] w (w.alloc (.cells #[.int .u64 0, .int .u64 0, .int .u64 0, .int .u64 0] 39)) := (Frm.refl _ _).alloc _
  have hra := hfa.heap hr (by simp)
  have q0 : (w.alloc (.cells #[.int .u64 0, .int .u64 0, .int .u64 0, .int .u64 0] 39)).cell? ⟨r, 0, none⟩ = some (.int .u64 s.a) := by rw [cell_of_row _ _ _ _ _ _ hra]; rfl
  have q1 : (w.alloc (.cells #[.int .u64 0, .int .u64 0, .int .u64 0, .int .u64 0] 39)).cell? ⟨r, 1, none⟩ = some (.int .u64 s.b) := by rw [cell_of_row _ _ _ _ _ _ hra]; rfl
  have q2 : (w.alloc (.cells #[.int .u64 0, .int .u64 0, .int .u64 0, .int .u64 0] 39)).cell? ⟨r, 2, none⟩ = some (.int .u64 s.c) := by rw [cell_of_row _ _ _ _ _ _ hra]; rfl
  have q3 : (w.alloc (.cells #[.int .u64 0, .int .u64 0, .int .u64 0, .int .u64 0] 39)).cell? ⟨r, 3, none⟩ = some (.int .u64 s.d) := by rw [cell_of_row _ _ _ _ _ _ hra]; rfl
  have q4 : (w.alloc (.cells #[.int .u64 0, .int .u64 0, .int .u64 0, .int .u64 0] 39)).cell? ⟨r, 4, none⟩ = some (.int .u8 x0) := by rw [cell_of_row _ _ _ _ _ _ hra]; rfl
  have q5 : (w.alloc (.cells #[.int .u64 0, .int .u64 0, .int .u64 0, .int .u64 0] 39)).cell? ⟨r, 5, none⟩ = some (.int .u8 x1) := by rw [cell_of_row _ _ _ _ _ _ hra]; rfl
  have q6 : (w.alloc (.cells #[.int .u64 0, .int .u64 0, .int .u64 0, .int .u64 0] 39)).cell? ⟨r, 6, none⟩ = some (.int .u8 x2) := by rw [cell_of_row _ _ _ _ _ _ hra]; rfl
  have q7 : (w.alloc (.cells #[.int .u64 0, .int .u64 0, .int .u64 0, .int .u64 0] 39)).cell? ⟨r, 7, none⟩ = some (.int .u8 x3) := by rw [cell_of_row _ _ _ _ _ _ hra]; rfl
  have q8 : (w.alloc (.cells #[.int .u64 0, .int .u64 0, .int .u64 0, .int .u64 0] 39)).cell? ⟨r, 8, none⟩ = some (.int .i64 0) := by rw [cell_of_row _ _ _ _ _ _ hra]; rfl
  unfold S4.arr
  clear hr hra hfa
  go_enter Tryd.func73, Tryd.ntmps73
  go_wp2_with fail
  go_returns
  exact ⟨rfl, (Frm.refl _ _).alloc _⟩
set_option maxHeartbeats 1600000 in
theorem value_m (r : Nat) (s : S4) (x0 x1 x2 x3 m : Int) (w : World) (hr : RowR w r s x0 x1 x2 x3 m) (hm : m ≠ 0) (h0 : 0 ≤ x0 ∧ x0 < 256) (h1 : 0 ≤ x1 ∧ x1 < 256) (h2 : 0 ≤ x2 ∧ x2 < 256) (h3 : 0 ≤ x3 ∧ x3 < 256) :
    Calls Tryd.prog 73 #[.pointer (some ⟨r, 0, none⟩)] w fun e w' => e = .returned (.agg (wordS s (lowW x0 x1 x2 x3)).arr) ∧ Frm [] w w' := by
  have hfa : Frm [] w (w.alloc (.cells #[.int .u64 0, .int .u64 0, .int .u64 0, .int .u64 0] 39)) := (Frm.refl _ _).alloc _
  have hra := hfa.heap hr (by simp)
  have q0 : (w.alloc (.cells #[.int .u64 0, .int .u64 0, .int .u64 0, .int .u64 0] 39)).cell? ⟨r, 0, none⟩ = some (.int .u64 s.a) := by rw [cell_of_row _ _ _ _ _ _ hra]; rfl
  have q1 : (w.alloc (.cells #[.int .u64 0, .int .u64 0, .int .u64 0, .int .u64 0] 39)).cell? ⟨r, 1, none⟩ = some (.int .u64 s.b) := by rw [cell_of_row _ _ _ _ _ _ hra]; rfl
  have q2 : (w.alloc (.cells #[.int .u64 0, .int .u64 0, .int .u64 0, .int .u64 0] 39)).cell? ⟨r, 2, none⟩ = some (.int .u64 s.c) := by rw [cell_of_row _ _ _ _ _ _ hra]; rfl
  have q3 : (w.alloc (.cells #[.int .u64 0, .int .u64 0, .int .u64 0, .int .u64 0] 39)).cell? ⟨r, 3, none⟩ = some (.int .u64 s.d) := by rw [cell_of_row _ _ _ _ _ _ hra]; rfl
  have q4 : (w.alloc (.cells #[.int .u64 0, .int .u64 0, .int .u64 0, .int .u64 0] 39)).cell? ⟨r, 4, none⟩ = some (.int .u8 x0) := by rw [cell_of_row _ _ _ _ _ _ hra]; rfl
  have q5 : (w.alloc (.cells #[.int .u64 0, .int .u64 0, .int .u64 0, .int .u64 0] 39)).cell? ⟨r, 5, none⟩ = some (.int .u8 x1) := by rw [cell_of_row _ _ _ _ _ _ hra]; rfl
  have q6 : (w.alloc (.cells #[.int .u64 0, .int .u64 0, .int .u64 0, .int .u64 0] 39)).cell? ⟨r, 6, none⟩ = some (.int .u8 x2) := by rw [cell_of_row _ _ _ _ _ _ hra]; rfl
  have q7 : (w.alloc (.cells #[.int .u64 0, .int .u64 0, .int .u64 0, .int .u64 0] 39)).cell? ⟨r, 7, none⟩ = some (.int .u8 x3) := by rw [cell_of_row _ _ _ _ _ _ hra]; rfl
  have q8 : (w.alloc (.cells #[.int .u64 0, .int .u64 0, .int .u64 0, .int .u64 0] 39)).cell? ⟨r, 8, none⟩ = some (.int .i64 m) := by rw [cell_of_row _ _ _ _ _ _ hra]; rfl
  have hmb : (m == 0) = false := by simp; omega
  have HA : Hid ((w.alloc (.cells #[.int .u64 0, .int .u64 0, .int .u64 0, .int .u64 0] 39)).heap[w.heap.size]? = some (.cells #[.int .u64 0, .int .u64 0, .int .u64 0, .int .u64 0] 39 (0, 0))) := hid (heap_alloc_new _ _)
  have HFA := hid hfa
  have HLO := hid (low_any x0 x1 x2 x3 (w.alloc (.cells #[.int .u64 0, .int .u64 0, .int .u64 0, .int .u64 0] 39)).drew h0 h1 h2 h3)
  have hwo := fun w' => word_any s (lowW x0 x1 x2 x3) w' (lowW_bd _ _ _ _)
  obtain ⟨L, hL⟩ : ∃ L, lowW x0 x1 x2 x3 = L := ⟨_, rfl⟩
  rw [hL] at hwo HLO ⊢
  unfold S4.arr at hwo ⊢
  have HWO := hid hwo
  clear hr hra hfa h0 h1 h2 h3 hwo hL
  go_enter Tryd.func73, Tryd.ntmps73
  go_wp2_with fail
  obtain ⟨wa, hwa⟩ : ∃ wa, w.alloc (.cells #[.int .u64 0, .int .u64 0, .int .u64 0, .int .u64 0] 39) = wa := ⟨_, rfl⟩
  rw [hwa] at q0 q1 q2 q3 q4 q5 q6 q7 q8 HLO HA HFA ⊢
  clear hwa
  go_still_tail 25, (by kernel_rfl)
  refine wpStill_step (fun K hK => ?_)
  go_simp
  refine ⟨_, HLO.out, hK _ ?_⟩
  clear hK K
  repeat still_step
  refine wpStill_nil ?_
  change wpList _ _ _ _ _ wa.drew
  have hfd : Frm [] w wa.drew := HFA.out.drew
  have ha5 : wa.drew.heap[w.heap.size]? = some (.cells #[.int .u64 0, .int .u64 0, .int .u64 0, .int .u64 0] 39 (0, 0)) := HA.out
  obtain ⟨w5, hw5⟩ : ∃ w5, wa.drew = w5 := ⟨_, rfl⟩
  rw [hw5] at hfd ha5 ⊢
  clear hw5 q0 q1 q2 q3 q4 q5 q6 q7 q8 HLO HA HFA
  go_wp2_with fail
  refine (HWO.out w5).mono ?_
  rintro e w6 ⟨rfl, hf6⟩
  have hF6 := hfd.trans hf6 (by simp)
  have hco := hf6.heap ha5 (by simp)
  obtain ⟨sb, hsb⟩ : ∃ sb, w.heap.size = sb := ⟨_, rfl⟩
  rw [hsb] at hco ⊢
  have e0 : w6.cell? ⟨sb, 0, none⟩ = some (.int .u64 0) := by rw [cell_of_row w6 _ _ _ _ _ hco]; rfl
  have e1 : w6.cell? ⟨sb, 1, none⟩ = some (.int .u64 0) := by rw [cell_of_row w6 _ _ _ _ _ hco]; rfl
  have e2 : w6.cell? ⟨sb, 2, none⟩ = some (.int .u64 0) := by rw [cell_of_row w6 _ _ _ _ _ hco]; rfl
  have e3 : w6.cell? ⟨sb, 3, none⟩ = some (.int .u64 0) := by rw [cell_of_row w6 _ _ _ _ _ hco]; rfl
  have z0 : w6.frozen? ⟨sb, 0, none⟩ = false := frozen_of_row w6 _ 0 _ _ hco
  have z1 : w6.frozen? ⟨sb, 1, none⟩ = false := frozen_of_row w6 _ 1 _ _ hco
  have z2 : w6.frozen? ⟨sb, 2, none⟩ = false := frozen_of_row w6 _ 2 _ _ hco
  have z3 : w6.frozen? ⟨sb, 3, none⟩ = false := frozen_of_row w6 _ 3 _ _ hco
  have HS4 := hid (set4 (y0 := .int .u64 (wordS s L).a) (y1 := .int .u64 (wordS s L).b) (y2 := .int .u64 (wordS s L).c) (y3 := .int .u64 (wordS s L).d) hco)
  have HF6 := hid hF6
  have HSB := hid hsb
  clear hco hF6 hf6 hfd ha5 hsb
  go_wp2_with fail
  obtain ⟨h4, f4⟩ := HS4.out
  obtain ⟨wz, hwz⟩ : ∃ wz, (((w6.setCell ⟨sb, 0, none⟩ (.int .u64 (wordS s L).a)).setCell ⟨sb, 1, none⟩ (.int .u64 (wordS s L).b)).setCell ⟨sb, 2, none⟩ (.int .u64 (wordS s L).c)).setCell ⟨sb, 3, none⟩ (.int .u64 (wordS s L).d) = wz := ⟨_, rfl⟩
  rw [hwz] at h4 f4 ⊢
  have g0 : wz.cell? ⟨sb, 0, none⟩ = some (.int .u64 (wordS s L).a) := by rw [cell_of_row wz _ _ _ _ _ h4]; rfl
  have g1 : wz.cell? ⟨sb, 1, none⟩ = some (.int .u64 (wordS s L).b) := by rw [cell_of_row wz _ _ _ _ _ h4]; rfl
  have g2 : wz.cell? ⟨sb, 2, none⟩ = some (.int .u64 (wordS s L).c) := by rw [cell_of_row wz _ _ _ _ _ h4]; rfl
  have g3 : wz.cell? ⟨sb, 3, none⟩ = some (.int .u64 (wordS s L).d) := by rw [cell_of_row wz _ _ _ _ _ h4]; rfl
  refine bodyPost_ret (v := .agg #[.int .u64 (wordS s L).a, .int .u64 (wordS s L).b, .int .u64 (wordS s L).c, .int .u64 (wordS s L).d]) (by simp [results, Tryd.results73, go_sem, g0, g1, g2, g3]) rfl ⟨rfl, HF6.out.trans f4 (fun i hi hl => by simp at hi; have := HSB.out; omega)⟩
/-- Fletcher's sum. -/
def fletch (zs : List Int) : S4 := if zs.length % 4 = 0 then flW Z4 zs (zs.length / 4) else wordS (flW Z4 zs (zs.length / 4)) (lowW (zA zs (4 * (zs.length / 4))) (zA zs (4 * (zs.length / 4) + 1)) (zA zs (4 * (zs.length / 4) + 2)) 0)
theorem zA_bd {zs : List Int} (hb : ∀ z ∈ zs, 0 ≤ z ∧ z < 256) (i : Nat) : 0 ≤ zA zs i ∧ zA zs i < 256 := by
  unfold zA
  rw [List.getD_eq_getElem?_getD]
  by_cases hi : i < zs.length
  · rw [List.getElem?_eq_getElem hi]
    exact hb _ (List.getElem_mem hi)
  · rw [List.getElem?_eq_none (by omega)]
    simp
set_option maxHeartbeats 1600000 in
theorem of_fl (p : Option Addr) (n c : Nat) (zs : List Int) (w : World) (hn : zs.length = n) (hnc : n ≤ c) (hnb : n ≤ 9223372036854775807) (hrd : Rd w p zs) (hb : ∀ z ∈ zs, 0 ≤ z ∧ z < 256) :
    Calls Tryd.prog 56 #[.int .i64 1, .slice p n c] w fun e w' => e = .returned (.tuple #[.agg (fletch zs).arr, .int .i64 0]) ∧ Frm [] w w' := by
  have HRD := hid hrd
  have HB := hid hb
  have HN := hid hn
  clear hrd hb hn
  go_enter Tryd.func56, Tryd.ntmps56
  go_wp2_with fail
  have hfa : Frm [] w (w.alloc (.cells #[.int .u64 0, .int .u64 0, .int .u64 0, .int .u64 0] 39)) := (Frm.refl _ _).alloc _
  have hfb : Frm [] (w.alloc (.cells #[.int .u64 0, .int .u64 0, .int .u64 0, .int .u64 0] 39)) ((w.alloc (.cells #[.int .u64 0, .int .u64 0, .int .u64 0, .int .u64 0] 39)).alloc (.cells #[.int .u64 0, .int .u64 0, .int .u64 0, .int .u64 0, .int .u8 0, .int .u8 0, .int .u8 0, .int .u8 0, .int .i64 0] 98)) := (Frm.refl _ _).alloc _
  have hrow : RowR ((w.alloc (.cells #[.int .u64 0, .int .u64 0, .int .u64 0, .int .u64 0] 39)).alloc (.cells #[.int .u64 0, .int .u64 0, .int .u64 0, .int .u64 0, .int .u8 0, .int .u8 0, .int .u8 0, .int .u8 0, .int .i64 0] 98)) (w.heap.size + 1) Z4 0 0 0 0 0 := heap_alloc_to _ _ (by simp)
  have hres := hfb.heap (heap_alloc_new w (.cells #[.int .u64 0, .int .u64 0, .int .u64 0, .int .u64 0] 39)) (by simp)
  have hab := hfa.trans hfb (by simp)
  obtain ⟨w2, hw2⟩ : ∃ w2, (w.alloc (.cells #[.int .u64 0, .int .u64 0, .int .u64 0, .int .u64 0] 39)).alloc (.cells #[.int .u64 0, .int .u64 0, .int .u64 0, .int .u64 0, .int .u8 0, .int .u8 0, .int .u8 0, .int .u8 0, .int .i64 0] 98) = w2 := ⟨_, rfl⟩
  rw [hw2] at hrow hres hab ⊢
  refine (add_fresh (w.heap.size + 1) Z4 p n c zs w2 hrow HN.out hnc hnb (HRD.out.kept hab (by simp)) HB.out (fun hz hk => by have := HRD.out.lows hz _ hk; omega)).mono ?_
  rintro e w3 ⟨rfl, hr3, hf3⟩
  have hF3 : Frm [] w w3 := hab.trans hf3 (fun i hi hl => by simp at hi; omega)
  have hco := hf3.heap hres (by simp)
  have HVAL : Hid (Calls Tryd.prog 73 #[.pointer (some ⟨w.heap.size + 1, 0, none⟩)] w3 fun e w' => e = .returned (.agg (fletch zs).arr) ∧ Frm [] w3 w') := hid (by
    unfold fletch
    rw [HN.out]
    by_cases hm : n % 4 = 0
    · rw [if_pos hm]
      rw [hm] at hr3
      exact value_0 _ _ _ _ _ _ w3 hr3
    · rw [if_neg hm]
      exact value_m _ _ _ _ _ _ _ w3 hr3 (by omega) (zA_bd HB.out _) (zA_bd HB.out _) (zA_bd HB.out _) (by omega))
  have HF3 := hid hF3
  have HCO := hid hco
  clear hfa hfb hw2 hrow hres hab hr3 hf3 hF3 hco
  go_wp2_with fail
  refine HVAL.out.mono ?_
  rintro e w6 ⟨rfl, hf6⟩
  have hco := hf6.heap HCO.out (by simp)
  obtain ⟨S, hS⟩ : ∃ S, fletch zs = S := ⟨_, rfl⟩
  rw [hS]
  have HS := hid hS
  unfold S4.arr
  obtain ⟨sb, hsb⟩ : ∃ sb, w.heap.size = sb := ⟨_, rfl⟩
  have HSB := hid hsb
  rw [hsb] at hco ⊢
  have e0 : w6.cell? ⟨sb, 0, none⟩ = some (.int .u64 0) := by rw [cell_of_row w6 _ _ _ _ _ hco]; rfl
  have z0 : w6.frozen? ⟨sb, 0, none⟩ = false := frozen_of_row w6 _ 0 _ _ hco
  have e1 : w6.cell? ⟨sb, 1, none⟩ = some (.int .u64 0) := by rw [cell_of_row w6 _ _ _ _ _ hco]; rfl
  have z1 : w6.frozen? ⟨sb, 1, none⟩ = false := frozen_of_row w6 _ 1 _ _ hco
  have e2 : w6.cell? ⟨sb, 2, none⟩ = some (.int .u64 0) := by rw [cell_of_row w6 _ _ _ _ _ hco]; rfl
  have z2 : w6.frozen? ⟨sb, 2, none⟩ = false := frozen_of_row w6 _ 2 _ _ hco
  have e3 : w6.cell? ⟨sb, 3, none⟩ = some (.int .u64 0) := by rw [cell_of_row w6 _ _ _ _ _ hco]; rfl
  have z3 : w6.frozen? ⟨sb, 3, none⟩ = false := frozen_of_row w6 _ 3 _ _ hco
  have HS4 := hid (set4 (y0 := .int .u64 S.a) (y1 := .int .u64 S.b) (y2 := .int .u64 S.c) (y3 := .int .u64 S.d) hco)
  have HF6 := hid hf6
  clear hco hf6 hS hsb
  go_wp2_with fail
  obtain ⟨h4, f4⟩ := HS4.out
  obtain ⟨wz, hwz⟩ : ∃ wz, (((w6.setCell ⟨sb, 0, none⟩ (.int .u64 S.a)).setCell ⟨sb, 1, none⟩ (.int .u64 S.b)).setCell ⟨sb, 2, none⟩ (.int .u64 S.c)).setCell ⟨sb, 3, none⟩ (.int .u64 S.d) = wz := ⟨_, rfl⟩
  rw [hwz] at h4 f4 ⊢
  have g0 : wz.cell? ⟨sb, 0, none⟩ = some (.int .u64 S.a) := by rw [cell_of_row wz _ _ _ _ _ h4]; rfl
  have g1 : wz.cell? ⟨sb, 1, none⟩ = some (.int .u64 S.b) := by rw [cell_of_row wz _ _ _ _ _ h4]; rfl
  have g2 : wz.cell? ⟨sb, 2, none⟩ = some (.int .u64 S.c) := by rw [cell_of_row wz _ _ _ _ _ h4]; rfl
  have g3 : wz.cell? ⟨sb, 3, none⟩ = some (.int .u64 S.d) := by rw [cell_of_row wz _ _ _ _ _ h4]; rfl
  refine bodyPost_ret (v := .tuple #[.agg #[.int .u64 S.a, .int .u64 S.b, .int .u64 S.c, .int .u64 S.d], .int .i64 0]) (by simp [results, Tryd.results56, go_sem, g0, g1, g2, g3]) rfl ⟨by rw [HS.out]; rfl, (HF3.out.trans HF6.out (by simp)).trans f4 (fun i hi hl => by simp at hi; have := HSB.out; omega)⟩
end
section
open Go.RowKit
set_option maxRecDepth 100000

set_option maxHeartbeats 1600000 in
theorem of_sha (p : Option Addr) (n c : Nat) (zs : List Int) (w : World) (hn : zs.length = n) (h55 : n ≤ 55) (hrd : Rd w p zs) (hb : ∀ z ∈ zs, 0 ≤ z ∧ z < 256) (hpr : Primes w) :
    Calls Tryd.prog 56 #[.int .i64 2, .slice p n c] w fun e w' => e = .returned (.tuple #[.agg (shaS zs).arr, .int .i64 0]) ∧ Frm [] w w' := by
  have hfa : Frm [] w (w.alloc (.cells #[.int .u64 0, .int .u64 0, .int .u64 0, .int .u64 0] 39)) := (Frm.refl _ _).alloc _
  have HA := hid (heap_alloc_new w (.cells #[.int .u64 0, .int .u64 0, .int .u64 0, .int .u64 0] 39))
  have HSH := hid (sha_short p n c zs (w.alloc (.cells #[.int .u64 0, .int .u64 0, .int .u64 0, .int .u64 0] 39)) hn h55 (hrd.kept hfa (by simp)) hb (hpr.kept hfa))
  have HFA := hid hfa
  clear hrd hb hn hpr hfa
  go_enter Tryd.func56, Tryd.ntmps56
  go_wp2_with fail
  refine HSH.out.mono ?_
  rintro e w6 ⟨rfl, hf6⟩
  have hco := hf6.heap HA.out (by simp)
  obtain ⟨S, hS⟩ : ∃ S, shaS zs = S := ⟨_, rfl⟩
  rw [hS]
  have HS := hid hS
  unfold S4.arr
  obtain ⟨sb, hsb⟩ : ∃ sb, w.heap.size = sb := ⟨_, rfl⟩
  have HSB := hid hsb
  rw [hsb] at hco ⊢
  have e0 : w6.cell? ⟨sb, 0, none⟩ = some (.int .u64 0) := by rw [cell_of_row w6 _ _ _ _ _ hco]; rfl
  have z0 : w6.frozen? ⟨sb, 0, none⟩ = false := frozen_of_row w6 _ 0 _ _ hco
  have e1 : w6.cell? ⟨sb, 1, none⟩ = some (.int .u64 0) := by rw [cell_of_row w6 _ _ _ _ _ hco]; rfl
  have z1 : w6.frozen? ⟨sb, 1, none⟩ = false := frozen_of_row w6 _ 1 _ _ hco
  have e2 : w6.cell? ⟨sb, 2, none⟩ = some (.int .u64 0) := by rw [cell_of_row w6 _ _ _ _ _ hco]; rfl
  have z2 : w6.frozen? ⟨sb, 2, none⟩ = false := frozen_of_row w6 _ 2 _ _ hco
  have e3 : w6.cell? ⟨sb, 3, none⟩ = some (.int .u64 0) := by rw [cell_of_row w6 _ _ _ _ _ hco]; rfl
  have z3 : w6.frozen? ⟨sb, 3, none⟩ = false := frozen_of_row w6 _ 3 _ _ hco
  have HS4 := hid (set4 (y0 := .int .u64 S.a) (y1 := .int .u64 S.b) (y2 := .int .u64 S.c) (y3 := .int .u64 S.d) hco)
  have HF6 := hid (HFA.out.trans hf6 (by simp))
  clear hco hf6 hS hsb HSH HA
  go_wp2_with fail
  obtain ⟨h4, f4⟩ := HS4.out
  obtain ⟨wz, hwz⟩ : ∃ wz, (((w6.setCell ⟨sb, 0, none⟩ (.int .u64 S.a)).setCell ⟨sb, 1, none⟩ (.int .u64 S.b)).setCell ⟨sb, 2, none⟩ (.int .u64 S.c)).setCell ⟨sb, 3, none⟩ (.int .u64 S.d) = wz := ⟨_, rfl⟩
  rw [hwz] at h4 f4 ⊢
  have g0 : wz.cell? ⟨sb, 0, none⟩ = some (.int .u64 S.a) := by rw [cell_of_row wz _ _ _ _ _ h4]; rfl
  have g1 : wz.cell? ⟨sb, 1, none⟩ = some (.int .u64 S.b) := by rw [cell_of_row wz _ _ _ _ _ h4]; rfl
  have g2 : wz.cell? ⟨sb, 2, none⟩ = some (.int .u64 S.c) := by rw [cell_of_row wz _ _ _ _ _ h4]; rfl
  have g3 : wz.cell? ⟨sb, 3, none⟩ = some (.int .u64 S.d) := by rw [cell_of_row wz _ _ _ _ _ h4]; rfl
  refine bodyPost_ret (v := .tuple #[.agg #[.int .u64 S.a, .int .u64 S.b, .int .u64 S.c, .int .u64 S.d], .int .i64 0]) (by simp [results, Tryd.results56, go_sem, g0, g1, g2, g3]) rfl ⟨by rw [HS.out]; rfl, HF6.out.trans f4 (fun i hi hl => by simp at hi; have := HSB.out; omega)⟩
def S4.eqB (a b : S4) : Bool := a.a == b.a && (a.b == b.b && (a.c == b.c && a.d == b.d))
end
end Go.Proofs.YtajfjkfnmmfhmaaDoor
