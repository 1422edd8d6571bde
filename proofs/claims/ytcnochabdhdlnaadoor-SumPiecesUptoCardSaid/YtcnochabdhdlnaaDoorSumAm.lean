/- Contracts of package sum: a running sum as the bytes that it has taken in: Add, Value, New, Clone. -/
import Derived.Test.YtcnochabdhdlnaaDoorSumE
import Derived.Test.YtcnochabdhdlnaaDoorSumL
namespace Go.Proofs.YtcnochabdhdlnaaDoor
open Go.RowKit
set_option maxRecDepth 100000

theorem zA_far {zs : List Int} {i : Nat} (h : zs.length ≤ i) : zA zs i = 0 := by
  unfold zA
  rw [List.getD_eq_getElem?_getD, List.getElem?_eq_none h]
  rfl
theorem flW_left (s : S4) (a b : List Int) (k : Nat) (h : 4 * k ≤ a.length) : flW s (a ++ b) k = flW s a k := by
  induction k with
  | zero => rfl
  | succ k ih =>
    rw [flW, flW, ih (by omega), zA_left (by omega), zA_left (by omega), zA_left (by omega), zA_left (by omega)]
theorem flW_join (s : S4) (a b : List Int) (q : Nat) (h : a.length = 4 * q) (k : Nat) : flW (flW s a q) b k = flW s (a ++ b) (q + k) := by
  induction k with
  | zero => rw [flW, Nat.add_zero, flW_left s a b q (by omega)]
  | succ k ih =>
    rw [flW, ih, ← Nat.add_assoc, flW]
    have e : ∀ i, zA (a ++ b) (4 * (q + k) + i) = zA b (4 * k + i) := fun i => by
      rw [show 4 * (q + k) + i = a.length + (4 * k + i) by omega, zA_right]
    have e0 := e 0
    rw [Nat.add_zero, Nat.add_zero] at e0
    rw [e0, e, e, e]
/-- A running sum at block r that has taken these bytes in. -/
def RunAt (w : World) (r : Nat) (all : List Int) : Prop :=
  RowR w r (flW Z4 all (all.length / 4)) (zA all (4 * (all.length / 4))) (zA all (4 * (all.length / 4) + 1)) (zA all (4 * (all.length / 4) + 2)) 0 ((all.length % 4 : Nat) : Int)
theorem RunAt.kept {w w' : World} {r : Nat} {all : List Int} {S : List Nat} (h : RunAt w r all) (hf : Frm S w w') (hr : r ∉ S) : RunAt w' r all := hf.heap h hr
theorem runAt_new {w : World} {r : Nat} (h : RowR w r Z4 0 0 0 0 0) : RunAt w r [] := h
/-- One byte more, by what the four steps answer. -/
theorem runAt_step {w : World} {r : Nat} {all : List Int} {q m : Nat} {z : Int} (hq : all.length = 4 * q + m) (hm : m < 4) (h : ∀ (_ : m < 3), RowR w r (flW Z4 all q) (if m = 0 then z else zA all (4 * q)) (if m = 1 then z else zA all (4 * q + 1)) (if m = 2 then z else zA all (4 * q + 2)) 0 ((m + 1 : Nat) : Int))
    (h3 : m = 3 → RowR w r (wordS (flW Z4 all q) (lowW (zA all (4 * q)) (zA all (4 * q + 1)) (zA all (4 * q + 2)) z)) 0 0 0 0 0) : RunAt w r (all ++ [z]) := by
  unfold RunAt
  have hl : (all ++ [z]).length = 4 * q + m + 1 := by rw [List.length_append, hq]; rfl
  have hz : zA (all ++ [z]) (4 * q + m) = z := by
    rw [show 4 * q + m = all.length + 0 by omega, zA_right]; rfl
  have hlow : ∀ i, i < m → zA (all ++ [z]) (4 * q + i) = zA all (4 * q + i) := fun i hi => zA_left (by omega)
  have hhi : ∀ i, m < i → zA (all ++ [z]) (4 * q + i) = 0 := fun i hi => zA_far (by omega)
  have hhi2 : ∀ i, m ≤ i → zA all (4 * q + i) = 0 := fun i hi => zA_far (by omega)
  rw [hl]
  have hm4 : m = 0 ∨ m = 1 ∨ m = 2 ∨ m = 3 := by omega
  rcases hm4 with rfl | rfl | rfl | rfl
  · have h1 := h (by omega)
    rw [if_pos rfl, if_neg (by omega), if_neg (by omega), hhi2 1 (by omega), hhi2 2 (by omega)] at h1
    rw [show (4 * q + 0 + 1) / 4 = q by omega, show (4 * q + 0 + 1) % 4 = 1 by omega, flW_left _ _ _ _ (by omega), hhi 1 (by omega), hhi 2 (by omega)]
    rw [Nat.add_zero] at hz
    rw [hz]
    exact h1
  · have h1 := h (by omega)
    rw [if_neg (by omega), if_pos rfl, if_neg (by omega), hhi2 2 (by omega)] at h1
    have h0 := hlow 0 (by omega)
    rw [Nat.add_zero] at h0
    rw [show (4 * q + 1 + 1) / 4 = q by omega, show (4 * q + 1 + 1) % 4 = 2 by omega, flW_left _ _ _ _ (by omega), h0, hz, hhi 2 (by omega)]
    exact h1
  · have h1 := h (by omega)
    rw [if_neg (by omega), if_neg (by omega), if_pos rfl] at h1
    have h0 := hlow 0 (by omega)
    rw [Nat.add_zero] at h0
    rw [show (4 * q + 2 + 1) / 4 = q by omega, show (4 * q + 2 + 1) % 4 = 3 by omega, flW_left _ _ _ _ (by omega), h0, hlow 1 (by omega), hz]
    exact h1
  · have h1 := h3 rfl
    have h0 := hlow 0 (by omega)
    rw [Nat.add_zero] at h0
    rw [show (4 * q + 3 + 1) / 4 = q + 1 by omega, show (4 * q + 3 + 1) % 4 = 0 by omega, flW, flW_left _ _ _ _ (by omega), h0, hlow 1 (by omega), hlow 2 (by omega), hz, zA_far (i := 4 * (q + 1)) (by omega), zA_far (i := 4 * (q + 1) + 1) (by omega), zA_far (i := 4 * (q + 1) + 2) (by omega)]
    exact h1
theorem one_any (r : Nat) (all : List Int) (hab : ∀ z ∈ all, 0 ≤ z ∧ z < 256) (g o n c : Nat) (z : Int) (hz0 : 0 ≤ z ∧ z < 256) (w : World) (hr : RunAt w r all) (hn : 0 < n) (hnb : n ≤ 9223372036854775807) (hz : w.cell? ⟨g, o, none⟩ = some (.int .u8 z)) (pp : Option Addr) (hsl : ∀ W : World, (Instr.sliceAt 22 (.slice (some ⟨g, o, none⟩) n c) (some (.int .i64 1)) none none).run Tryd.prog W = .ok (.slice pp (n - 1) (c - 1)) W) :
    Calls Tryd.prog 29 #[.pointer (some ⟨r, 0, none⟩), .slice (some ⟨g, o, none⟩) n c] w fun e w' => e = .returned (.slice pp (n - 1) (c - 1)) ∧ RunAt w' r (all ++ [z]) ∧ Frm [r] w w' := by
  obtain ⟨q, m, hq, hm⟩ : ∃ q m, all.length = 4 * q + m ∧ m < 4 := ⟨all.length / 4, all.length % 4, by omega, by omega⟩
  unfold RunAt at hr
  rw [show all.length / 4 = q by omega, show all.length % 4 = m by omega] at hr
  have hm4 : m = 0 ∨ m = 1 ∨ m = 2 ∨ m = 3 := by omega
  rcases hm4 with rfl | rfl | rfl | rfl
  · refine (one_0 r _ _ _ _ _ g o n c z w hr hn hnb hz pp hsl).mono ?_
    rintro e w' ⟨rfl, h1, h2⟩
    exact ⟨rfl, runAt_step hq hm (fun _ => h1) (fun h => by omega), h2⟩
  · refine (one_1 r _ _ _ _ _ g o n c z w hr hn hnb hz pp hsl).mono ?_
    rintro e w' ⟨rfl, h1, h2⟩
    exact ⟨rfl, runAt_step hq hm (fun _ => h1) (fun h => by omega), h2⟩
  · refine (one_2 r _ _ _ _ _ g o n c z w hr hn hnb hz pp hsl).mono ?_
    rintro e w' ⟨rfl, h1, h2⟩
    exact ⟨rfl, runAt_step hq hm (fun _ => h1) (fun h => by omega), h2⟩
  · refine (one_3 r _ _ _ _ _ g o n c z w hr hn hnb hz pp hsl (zA_bd hab _) (zA_bd hab _) (zA_bd hab _) hz0).mono ?_
    rintro e w' ⟨rfl, h1, h2⟩
    exact ⟨rfl, runAt_step hq hm (fun h => by omega) (fun _ => h1), h2⟩
theorem value_any2 (r : Nat) (all : List Int) (hab : ∀ z ∈ all, 0 ≤ z ∧ z < 256) (w : World) (hr : RunAt w r all) :
    Calls Tryd.prog 22 #[.pointer (some ⟨r, 0, none⟩)] w fun e w' => e = .returned (.agg (fletch all).arr) ∧ Frm [] w w' := by
  unfold fletch
  unfold RunAt at hr
  by_cases hm : all.length % 4 = 0
  · rw [if_pos hm]
    rw [hm] at hr
    exact value_0 _ _ _ _ _ _ w hr
  · rw [if_neg hm]
    exact value_m _ _ _ _ _ _ _ w hr (by omega) (zA_bd hab _) (zA_bd hab _) (zA_bd hab _) (by omega)
theorem runAt_join {w : World} {r : Nat} {a b : List Int} {q n : Nat} (h : a.length = 4 * q) (hn : b.length = n) (hr : RowR w r (flW (flW Z4 a q) b (n / 4)) (zA b (4 * (n / 4))) (zA b (4 * (n / 4) + 1)) (zA b (4 * (n / 4) + 2)) 0 ((n % 4 : Nat) : Int)) : RunAt w r (a ++ b) := by
  unfold RunAt
  have hl : (a ++ b).length = 4 * q + n := by rw [List.length_append, h, hn]
  have e : ∀ i, zA (a ++ b) (4 * (q + n / 4) + i) = zA b (4 * (n / 4) + i) := fun i => by
    rw [show 4 * (q + n / 4) + i = a.length + (4 * (n / 4) + i) by omega, zA_right]
  have e0 := e 0
  rw [Nat.add_zero, Nat.add_zero] at e0
  rw [hl, show (4 * q + n) / 4 = q + n / 4 by omega, show (4 * q + n) % 4 = n % 4 by omega, ← flW_join Z4 a b q h, e0, e, e]
  exact hr
set_option maxHeartbeats 6400000 in
theorem add_any (r : Nat) (all : List Int) (hab : ∀ z ∈ all, 0 ≤ z ∧ z < 256) (p0 : Option Addr) (n0 c0 : Nat) (zs0 : List Int) (w : World) (hr : RunAt w r all) (hn0 : zs0.length = n0) (hnc0 : n0 ≤ c0) (hnb0 : n0 ≤ 9223372036854775807) (hrd0 : Rd w p0 zs0) (hb0 : ∀ z ∈ zs0, 0 ≤ z ∧ z < 256) (hal0 : zs0 ≠ [] → r ∉ blk p0) :
    Calls Tryd.prog 21 #[.pointer (some ⟨r, 0, none⟩), .slice p0 n0 c0] w fun e w' => e = .returned (.tuple #[]) ∧ RunAt w' r (all ++ zs0) ∧ Frm [r] w w' := by
  have HR1 : Hid (RunAt w r (all ++ zs0.take 0)) := hid (by simpa using hr)
  have HRD0 : Hid (Rd w p0 (zs0.drop 0)) := hid (by simpa using hrd0)
  have HZB0 := hid hb0
  have HN0 := hid hn0
  have HAL0 := hid hal0
  have HAB := hid hab
  clear hr hrd0 hb0 hn0 hal0 hab
  go_enter Tryd.func21, Tryd.ntmps21
  go_wp2_with fail
  go_loopw [1] (fun b wr => ∃ (t n c : Nat) (p : Option Addr), Hid (t + n = n0) ∧ Hid (t + c = c0) ∧ b = .slice p n c ∧ Hid (RunAt wr r (all ++ zs0.take t)) ∧ Hid (Rd wr p (zs0.drop t)) ∧ Hid (∀ j ∈ blk p, j ∈ blk p0) ∧ Hid (Frm [r] w wr)) (fun b _ => lenV b)
  case atStart => exact ⟨0, n0, c0, p0, hid (by omega), hid (by omega), rfl, HR1, HRD0, hid (fun _ h => h), hid (Frm.refl _ _)⟩
  case round =>
    clear HR1 HRD0
    obtain ⟨t, n, c, p, ht, htc, rfl, hrun, hrd, hbk, hf0⟩ := hrel
    have ht' := ht.out
    have htc' := htc.out
    have htl : (zs0.take t).length = t := by rw [List.length_take, HN0.out]; omega
    have hab1 : ∀ z ∈ all ++ zs0.take t, 0 ≤ z ∧ z < 256 := fun z hz => by
      rcases List.mem_append.1 hz with h | h
      · exact HAB.out z h
      · exact HZB0.out z (List.mem_of_mem_take h)
    have hdl : (zs0.drop t).length = n := by rw [List.length_drop, HN0.out]; omega
    have hdb : ∀ z ∈ zs0.drop t, 0 ≤ z ∧ z < 256 := fun z hz => HZB0.out z (List.mem_of_mem_drop hz)
    have hjoin : all ++ zs0.take t ++ zs0.drop t = all ++ zs0 := by rw [List.append_assoc, List.take_append_drop]
    have hcells := RowR.cells hrun.out
    obtain ⟨M, hM⟩ : ∃ M, (all ++ zs0.take t).length % 4 = M := ⟨_, rfl⟩
    obtain ⟨q, hq⟩ : ∃ q, (all ++ zs0.take t).length / 4 = q := ⟨_, rfl⟩
    have hqm : (all ++ zs0.take t).length = 4 * q + M := by omega
    by_cases hM0 : M = 0
    · subst hM0
      obtain ⟨zs, hzs⟩ : ∃ zs, zs0.drop t = zs := ⟨_, rfl⟩
      obtain ⟨a1, ha1⟩ : ∃ a1, all ++ zs0.take t = a1 := ⟨_, rfl⟩
      rw [ha1] at hrun hab1 hjoin hcells hM hq hqm
      rw [hzs] at hrd hdl hdb hjoin
      have hrow : RowR wr r (flW Z4 a1 q) 0 0 0 0 0 := by
        have h := hrun.out
        unfold RunAt at h
        rw [hM, hq, zA_far (i := 4 * q) (by omega), zA_far (i := 4 * q + 1) (by omega), zA_far (i := 4 * q + 2) (by omega)] at h
        exact h
      have HEND : Hid (∀ W, RowR W r (flW (flW Z4 a1 q) zs (n / 4)) (zA zs (4 * (n / 4))) (zA zs (4 * (n / 4) + 1)) (zA zs (4 * (n / 4) + 2)) 0 ((n % 4 : Nat) : Int) → RunAt W r (all ++ zs0)) := hid (fun W h => by
        rw [← hjoin]
        exact runAt_join hqm hdl h)
      obtain ⟨s, hs⟩ : ∃ s, flW Z4 a1 q = s := ⟨_, rfl⟩
      rw [hs] at hrow HEND
      have HR := hid hrow
      have HRD := hrd
      have HZB := hid hdb
      have HN := hid hdl
      have HF0 := hf0
      have HAL : Hid (zs ≠ [] → r ∉ blk p) := hid (fun hz hk => HAL0.out (fun h0 => hz (by rw [← hzs, h0]; simp)) (hbk.out r hk))
      have hnc : n ≤ c := by omega
      have c8 : wr.cell? ⟨r, 8, none⟩ = some (.int .i64 0) := by rw [cell_of_row wr _ _ _ _ _ hrow]; rfl
      have c0 : wr.cell? ⟨r, 0, none⟩ = some (.int .u64 s.a) := by rw [cell_of_row wr _ _ _ _ _ hrow]; rfl
      have c1 : wr.cell? ⟨r, 1, none⟩ = some (.int .u64 s.b) := by rw [cell_of_row wr _ _ _ _ _ hrow]; rfl
      have c2 : wr.cell? ⟨r, 2, none⟩ = some (.int .u64 s.c) := by rw [cell_of_row wr _ _ _ _ _ hrow]; rfl
      have c3 : wr.cell? ⟨r, 3, none⟩ = some (.int .u64 s.d) := by rw [cell_of_row wr _ _ _ _ _ hrow]; rfl
      have g0 : decide ((0 : Int) < 0) = false := by decide
      clear hrow hs ha1 hzs hrun hcells hM hq hqm hjoin hdl hdb htl hab1 hbk hf0 hrd
      go_wp2_with fail
      obtain ⟨wo, rfl⟩ : ∃ wo : World, wo = wr := ⟨_, rfl⟩
      have hfa : Frm [] wo (wo.alloc (.cells #[.int .u64 s.a, .int .u64 s.b, .int .u64 s.c, .int .u64 s.d] 25)) := (Frm.refl _ _).alloc _
      have HS0 : Hid (StA wo (wo.alloc (.cells #[.int .u64 s.a, .int .u64 s.b, .int .u64 s.c, .int .u64 s.d] 25)) r wo.heap.size s (flW s zs 0) zs p p (4 * 0)) := hid ⟨hfa.heap HR.out (by simp), heap_alloc_new _ _, by simpa using HRD.out.kept hfa (by simp), fun j h => h, hfa, Nat.le_refl _⟩
      have hrs : r < wo.heap.size := lt_of_heap HR.out
      obtain ⟨sb, hsb⟩ : ∃ sb, wo.heap.size = sb := ⟨_, rfl⟩
      rw [hsb] at HS0 hrs ⊢
      have HSB := hid hsb
      clear hsb hfa c8 c0 c1 c2 c3
      go_loopw [1] (fun b wr => ∃ (k m d : Nat) (pk : Option Addr), Hid (4 * k + m = n) ∧ Hid (4 * k + d = c) ∧ b = .slice pk m d ∧ Hid (StA wo wr r sb s (flW s zs k) zs p pk (4 * k))) (fun b _ => lenV b)
      case atStart => exact ⟨0, n, c, p, hid (by omega), hid (by omega), rfl, HS0⟩
      case round =>
        clear HS0
        obtain ⟨k, m, d, pk, hm, hd, rfl, hst⟩ := hrel
        have hmn := hm.out
        have hdn := hd.out
        by_cases hlt : 4 ≤ m
        · obtain ⟨pp, hsl, hrd2, hbk2⟩ := slice_from pk (zs.drop (4 * k)) m d 4 (by rw [List.length_drop, HN.out]; omega) hlt (by omega) wr hst.out.rd
          have hsl' : ∀ W : World, (Instr.sliceAt 22 (.slice pk m d) (some (.int .i64 4)) none none).run Tryd.prog W = .ok (.slice pp (m - 4) (d - 4)) W := hsl
          have hby : ∀ i, i < 4 → 0 ≤ zA zs (4 * k + i) ∧ zA zs (4 * k + i) < 256 := fun i hi => HZB.out _ (by
            unfold zA
            rw [List.getD_eq_getElem?_getD, List.getElem?_eq_getElem (by rw [HN.out]; omega)]
            exact List.getElem_mem _)
          have rdb : ∀ i, i < 4 → ∃ g o, pk = some ⟨g, o, none⟩ ∧ wr.cell? ⟨g, o + i, none⟩ = some (.int .u8 (zA zs (4 * k + i))) := fun i hi => by
            obtain ⟨g, o, e1, e2⟩ := rd_byte (i := i) hst.out.rd (by rw [List.length_drop, HN.out]; omega)
            rw [zA_drop] at e2
            exact ⟨g, o, e1, e2⟩
          obtain ⟨g, o, rfl, k0⟩ := rdb 0 (by omega)
          obtain ⟨_, _, e1, k1⟩ := rdb 1 (by omega)
          obtain ⟨_, _, e2, k2⟩ := rdb 2 (by omega)
          obtain ⟨_, _, e3, k3⟩ := rdb 3 (by omega)
          simp only [Option.some.injEq, Addr.mk.injEq, and_true] at e1 e2 e3
          obtain ⟨rfl, rfl⟩ := e1
          obtain ⟨rfl, rfl⟩ := e2
          obtain ⟨rfl, rfl⟩ := e3
          rw [Nat.add_zero] at k0
          have HLO := hid (low_any _ _ _ _ wr.drew (hby 0 (by omega)) (hby 1 (by omega)) (hby 2 (by omega)) (hby 3 (by omega)))
          have hnx : wordS (flW s zs k) (lowW (zA zs (4 * k)) (zA zs (4 * k + 1)) (zA zs (4 * k + 2)) (zA zs (4 * k + 3))) = flW s zs (k + 1) := rfl
          obtain ⟨cur, hcur⟩ : ∃ cur, flW s zs k = cur := ⟨_, rfl⟩
          rw [hcur] at hst hnx
          rw [Nat.add_zero] at k0 HLO
          have hlb := lowW_bd (zA zs (4 * k)) (zA zs (4 * k + 1)) (zA zs (4 * k + 2)) (zA zs (4 * k + 3))
          obtain ⟨L, hL⟩ : ∃ L, lowW (zA zs (4 * k)) (zA zs (4 * k + 1)) (zA zs (4 * k + 2)) (zA zs (4 * k + 3)) = L := ⟨_, rfl⟩
          rw [hL] at HLO hnx hlb
          have hwo := fun w' => word_any cur L w' hlb
          unfold S4.arr at hwo
          have HWO := hid hwo
          have HNX := hid hnx
          generalize zA zs (4 * k) = y0 at k0 HLO
          generalize zA zs (4 * k + 1) = y1 at k1 HLO
          generalize zA zs (4 * k + 2) = y2 at k2 HLO
          generalize zA zs (4 * k + 3) = y3 at k3 HLO
          have hsz := hst.out.hs
          have b0 : (4 : Int) ≤ (m : Int) := by omega
          have b1 : (0 : Int) < (m : Int) := by omega
          have b2 : (1 : Int) < (m : Int) := by omega
          have b3 : (2 : Int) < (m : Int) := by omega
          have b4 : (3 : Int) < (m : Int) := by omega
          have m0 : 0 < m := by omega
          have m1 : 1 < m := by omega
          have m2 : 2 < m := by omega
          have m3 : 3 < m := by omega
          have q0 : wr.cell? ⟨sb, 0, none⟩ = some (.int .u64 cur.a) := by rw [cell_of_row wr _ _ _ _ _ hst.out.cop]; rfl
          have q1 : wr.cell? ⟨sb, 1, none⟩ = some (.int .u64 cur.b) := by rw [cell_of_row wr _ _ _ _ _ hst.out.cop]; rfl
          have q2 : wr.cell? ⟨sb, 2, none⟩ = some (.int .u64 cur.c) := by rw [cell_of_row wr _ _ _ _ _ hst.out.cop]; rfl
          have q3 : wr.cell? ⟨sb, 3, none⟩ = some (.int .u64 cur.d) := by rw [cell_of_row wr _ _ _ _ _ hst.out.cop]; rfl
          have HRD2 := hid hrd2
          have HBK2 := hid hbk2
          clear rdb hby hnx hcur hL hlb hwo hsl hrd2 hbk2
          go_wp2_with fail
          go_still_tail 14, (by kernel_rfl)
          refine wpStill_step (fun K hK => ?_)
          go_simp
          refine ⟨_, HLO.out, hK _ ?_⟩
          clear hK K
          repeat still_step
          refine wpStill_nil ?_
          change wpList _ _ _ _ _ wr.drew
          have hfd : Frm [] wr wr.drew := (Frm.refl _ _).drew
          obtain ⟨w5, hw5⟩ : ∃ w5, wr.drew = w5 := ⟨_, rfl⟩
          rw [hw5] at hfd ⊢
          clear hw5 q0 q1 q2 q3 k0 k1 k2 k3 HLO
          go_wp2_with fail
          refine (HWO.out w5).mono ?_
          rintro e w6 ⟨rfl, hf6⟩
          have hF6 := hfd.trans hf6 (by simp)
          have HF6 := hid hF6
          have hco := hF6.heap hst.out.cop (by simp)
          have q0 : w6.cell? ⟨sb, 0, none⟩ = some (.int .u64 cur.a) := by rw [cell_of_row w6 _ _ _ _ _ hco]; rfl
          have q1 : w6.cell? ⟨sb, 1, none⟩ = some (.int .u64 cur.b) := by rw [cell_of_row w6 _ _ _ _ _ hco]; rfl
          have q2 : w6.cell? ⟨sb, 2, none⟩ = some (.int .u64 cur.c) := by rw [cell_of_row w6 _ _ _ _ _ hco]; rfl
          have q3 : w6.cell? ⟨sb, 3, none⟩ = some (.int .u64 cur.d) := by rw [cell_of_row w6 _ _ _ _ _ hco]; rfl
          have z0 : w6.frozen? ⟨sb, 0, none⟩ = false := frozen_of_row w6 _ 0 _ _ hco
          have z1 : w6.frozen? ⟨sb, 1, none⟩ = false := frozen_of_row w6 _ 1 _ _ hco
          have z2 : w6.frozen? ⟨sb, 2, none⟩ = false := frozen_of_row w6 _ 2 _ _ hco
          have z3 : w6.frozen? ⟨sb, 3, none⟩ = false := frozen_of_row w6 _ 3 _ _ hco
          have HS4 := hid (set4 (y0 := .int .u64 (wordS cur L).a) (y1 := .int .u64 (wordS cur L).b) (y2 := .int .u64 (wordS cur L).c) (y3 := .int .u64 (wordS cur L).d) hco)
          clear hco hF6 hf6 hfd
          go_wp2_with fail
          go_roundw
          case rel =>
            obtain ⟨h4, f4⟩ := HS4.out
            refine ⟨k + 1, m - 4, d - 4, pp, hid (by omega), hid (by omega), rfl, hid ?_⟩
            rw [← HNX.out]
            have hf7 := (HF6.out.mono (T := [sb]) (by simp)).trans f4 (fun i hi hl => hi)
            have hne : r ≠ sb := by omega
            refine ⟨f4.heap (HF6.out.heap hst.out.row (by simp)) (by simpa using hne), h4, ?_, fun j hj => hst.out.bk j (HBK2.out j hj), hst.out.fr.trans hf7 (fun i hi hl => by simp at hi; omega), hsz⟩
            have hr2 := HRD2.out
            rw [List.drop_drop, show 4 * k + 4 = 4 * (k + 1) by omega] at hr2
            refine hr2.kept hf7 (fun j hj hjs => ?_)
            have hj2 := hst.out.bk j (HBK2.out j hj)
            have hzne : zs ≠ [] := fun h => by have := HN.out; rw [h] at this; simp at this; omega
            have := HRD.out.lows hzne j hj2
            simp at hjs
            omega
          case measure => simp [lenV]; omega
        · have hq : Hid (k = n / 4) := hid (by omega)
          have hmm : Hid (m = n % 4) := hid (by omega)
          obtain ⟨cur, hcur⟩ : ∃ cur, flW s zs k = cur := ⟨_, rfl⟩
          rw [hcur] at hst
          have hcu := hid hcur
          clear hcur
          have hb0 : ¬ (4 : Int) ≤ (m : Int) := by omega
          have q0 : wr.cell? ⟨sb, 0, none⟩ = some (.int .u64 cur.a) := by rw [cell_of_row wr _ _ _ _ _ hst.out.cop]; rfl
          have q1 : wr.cell? ⟨sb, 1, none⟩ = some (.int .u64 cur.b) := by rw [cell_of_row wr _ _ _ _ _ hst.out.cop]; rfl
          have q2 : wr.cell? ⟨sb, 2, none⟩ = some (.int .u64 cur.c) := by rw [cell_of_row wr _ _ _ _ _ hst.out.cop]; rfl
          have q3 : wr.cell? ⟨sb, 3, none⟩ = some (.int .u64 cur.d) := by rw [cell_of_row wr _ _ _ _ _ hst.out.cop]; rfl
          have e0 : wr.cell? ⟨r, 0, none⟩ = some (.int .u64 s.a) := by rw [cell_of_row wr _ _ _ _ _ hst.out.row]; rfl
          have e1 : wr.cell? ⟨r, 1, none⟩ = some (.int .u64 s.b) := by rw [cell_of_row wr _ _ _ _ _ hst.out.row]; rfl
          have e2 : wr.cell? ⟨r, 2, none⟩ = some (.int .u64 s.c) := by rw [cell_of_row wr _ _ _ _ _ hst.out.row]; rfl
          have e3 : wr.cell? ⟨r, 3, none⟩ = some (.int .u64 s.d) := by rw [cell_of_row wr _ _ _ _ _ hst.out.row]; rfl
          have z0 : wr.frozen? ⟨r, 0, none⟩ = false := frozen_of_row wr _ 0 _ _ hst.out.row
          have z1 : wr.frozen? ⟨r, 1, none⟩ = false := frozen_of_row wr _ 1 _ _ hst.out.row
          have z2 : wr.frozen? ⟨r, 2, none⟩ = false := frozen_of_row wr _ 2 _ _ hst.out.row
          have z3 : wr.frozen? ⟨r, 3, none⟩ = false := frozen_of_row wr _ 3 _ _ hst.out.row
          have h0 : (wr.setCell ⟨r, 0, none⟩ (.int .u64 cur.a)).heap[r]? = some (.cells #[.int .u64 cur.a, .int .u64 s.b, .int .u64 s.c, .int .u64 s.d, .int .u8 0, .int .u8 0, .int .u8 0, .int .u8 0, .int .i64 0] 51 (0, 0)) := by rw [heap_setCell_same _ _ 0 _ _ _ hst.out.row]; rfl
          have h1 : ((wr.setCell ⟨r, 0, none⟩ (.int .u64 cur.a)).setCell ⟨r, 1, none⟩ (.int .u64 cur.b)).heap[r]? = some (.cells #[.int .u64 cur.a, .int .u64 cur.b, .int .u64 s.c, .int .u64 s.d, .int .u8 0, .int .u8 0, .int .u8 0, .int .u8 0, .int .i64 0] 51 (0, 0)) := by rw [heap_setCell_same _ _ 1 _ _ _ h0]; rfl
          have h2 : (((wr.setCell ⟨r, 0, none⟩ (.int .u64 cur.a)).setCell ⟨r, 1, none⟩ (.int .u64 cur.b)).setCell ⟨r, 2, none⟩ (.int .u64 cur.c)).heap[r]? = some (.cells #[.int .u64 cur.a, .int .u64 cur.b, .int .u64 cur.c, .int .u64 s.d, .int .u8 0, .int .u8 0, .int .u8 0, .int .u8 0, .int .i64 0] 51 (0, 0)) := by rw [heap_setCell_same _ _ 2 _ _ _ h1]; rfl
          have h3 : ((((wr.setCell ⟨r, 0, none⟩ (.int .u64 cur.a)).setCell ⟨r, 1, none⟩ (.int .u64 cur.b)).setCell ⟨r, 2, none⟩ (.int .u64 cur.c)).setCell ⟨r, 3, none⟩ (.int .u64 cur.d)).heap[r]? = some (.cells #[.int .u64 cur.a, .int .u64 cur.b, .int .u64 cur.c, .int .u64 cur.d, .int .u8 0, .int .u8 0, .int .u8 0, .int .u8 0, .int .i64 0] 51 (0, 0)) := by rw [heap_setCell_same _ _ 3 _ _ _ h2]; rfl
          have hF4 : Frm [r] wr ((((wr.setCell ⟨r, 0, none⟩ (.int .u64 cur.a)).setCell ⟨r, 1, none⟩ (.int .u64 cur.b)).setCell ⟨r, 2, none⟩ (.int .u64 cur.c)).setCell ⟨r, 3, none⟩ (.int .u64 cur.d)) := ((((Frm.refl _ wr).setCell _ _ (by simp)).setCell _ _ (by simp)).setCell _ _ (by simp)).setCell _ _ (by simp)
          have HH3 : Hid (RowR ((((wr.setCell ⟨r, 0, none⟩ (.int .u64 cur.a)).setCell ⟨r, 1, none⟩ (.int .u64 cur.b)).setCell ⟨r, 2, none⟩ (.int .u64 cur.c)).setCell ⟨r, 3, none⟩ (.int .u64 cur.d)) r cur 0 0 0 0 0) := hid h3
          have HF4 := hid hF4
          clear h0 h1 h2 h3 hF4 hlt
          go_wp2_with fail
          obtain ⟨w8, hw8⟩ : ∃ w8, (((wr.setCell ⟨r, 0, none⟩ (.int .u64 cur.a)).setCell ⟨r, 1, none⟩ (.int .u64 cur.b)).setCell ⟨r, 2, none⟩ (.int .u64 cur.c)).setCell ⟨r, 3, none⟩ (.int .u64 cur.d) = w8 := ⟨_, rfl⟩
          rw [hw8] at HH3 HF4 ⊢
          have HRD8 : Hid (Rd w8 pk (zs.drop (4 * k))) := hid (by
            by_cases hz : zs = []
            · exact Or.inl (by rw [hz]; simp)
            · exact hst.out.rd.kept HF4.out (fun j hj hjs => by
                simp at hjs
                exact HAL.out hz (hjs ▸ hst.out.bk j hj)))
          have HF8 : Hid (Frm [r] wo w8) := hid ((hst.out.fr.mono (by simp)).trans HF4.out (fun i hi hl => hi))
          have HBK := hid hst.out.bk
          clear hw8 q0 q1 q2 q3 e0 e1 e2 e3 z0 z1 z2 z3 HF4
          have HX : Hid (∀ i, 0 ≤ zA zs i ∧ zA zs i < 256) := hid (fun i => by
            unfold zA
            rw [List.getD_eq_getElem?_getD]
            by_cases hi : i < zs.length
            · rw [List.getElem?_eq_getElem hi]
              exact HZB.out _ (List.getElem_mem hi)
            · rw [List.getElem?_eq_none (by omega)]
              simp)
          go_loopw [1] (fun b wr => ∃ (t m' d' : Nat) (pk' : Option Addr), Hid (t + m' = m) ∧ Hid (t + d' = d) ∧ b = .slice pk' m' d' ∧ Hid (RowR wr r cur (xi zs (4 * k) t 0) (xi zs (4 * k) t 1) (xi zs (4 * k) t 2) 0 ((t : Nat) : Int)) ∧ Hid (Rd wr pk' (zs.drop (4 * k + t))) ∧ Hid (∀ j ∈ blk pk', j ∈ blk p) ∧ Hid (Frm [r] wo wr)) (fun b _ => lenV b)
          case atStart => exact ⟨0, m, d, pk, hid (by omega), hid (by omega), rfl, hid (by simpa [xi] using HH3.out), hid (by simpa using HRD8.out), HBK, HF8⟩
          case round =>
            clear HH3 HRD8 HBK HF8
            obtain ⟨t, m', d', pk', ht, htd, rfl, hrow, hrd, hbk, hf⟩ := hrel
            have htt := ht.out
            have htd' := htd.out
            by_cases hlt : 0 < m'
            · obtain ⟨pp, hsl, hrd2, hbk2⟩ := slice_from pk' (zs.drop (4 * k + t)) m' d' 1 (by rw [List.length_drop, HN.out]; omega) hlt (by omega) wr hrd.out
              have hsl' : ∀ W : World, (Instr.sliceAt 22 (.slice pk' m' d') (some (.int .i64 1)) none none).run Tryd.prog W = .ok (.slice pp (m' - 1) (d' - 1)) W := hsl
              obtain ⟨g, o, rfl, k0⟩ := rd_byte (i := 0) hrd.out (by rw [List.length_drop, HN.out]; omega)
              rw [zA_drop, Nat.add_zero, Nat.add_zero] at k0
              have HDO : Hid (∀ w', RowR w' r cur (xi zs (4 * k) (t + 1) 0) (xi zs (4 * k) (t + 1) 1) (xi zs (4 * k) (t + 1) 2) 0 ((t + 1 : Nat) : Int) → Frm [r] wr w' → ∃ (t' m'' d'' : Nat) (pk'' : Option Addr), Hid (t' + m'' = m) ∧ Hid (t' + d'' = d) ∧ Value.slice pp (m' - 1) (d' - 1) = .slice pk'' m'' d'' ∧ Hid (RowR w' r cur (xi zs (4 * k) t' 0) (xi zs (4 * k) t' 1) (xi zs (4 * k) t' 2) 0 ((t' : Nat) : Int)) ∧ Hid (Rd w' pk'' (zs.drop (4 * k + t'))) ∧ Hid (∀ j ∈ blk pk'', j ∈ blk p) ∧ Hid (Frm [r] wo w')) := hid (fun w' h1 h2 => by
                refine ⟨t + 1, m' - 1, d' - 1, pp, hid (by omega), hid (by omega), rfl, hid h1, hid ?_, hid (fun j hj => hbk.out j (hbk2 j hj)), hid (hf.out.trans h2 (fun i hi hl => hi))⟩
                have hr2 := hrd2
                rw [List.drop_drop] at hr2
                exact hr2.kept h2 (fun j hj hjs => by
                  simp at hjs
                  exact HAL.out (fun hz => by have := HN.out; rw [hz] at this; simp at this; omega) (hjs ▸ hbk.out j (hbk2 j hj))))
              have b0 : (0 : Int) < (m' : Int) := by omega
              have hb9 : m' ≤ 9223372036854775807 := by omega
              clear hsl hrd2 hbk2
              have ht3 : t = 0 ∨ t = 1 ∨ t = 2 := by omega
              rcases ht3 with rfl | rfl | rfl
              · have HO := hid (one_0 r cur 0 0 0 0 g o m' d' (zA zs (4 * k + 0)) wr (by simpa [xi] using hrow.out) hlt hb9 k0 pp hsl')
                clear hrow k0
                go_wp2_with fail
                refine HO.out.mono ?_
                rintro e w9 ⟨rfl, hr9, hf9⟩
                have HRL := hid (HDO.out w9 (by simpa [xi] using hr9) hf9)
                clear hr9 hf9
                go_wp2_with fail
                go_roundw
                case rel => exact HRL.out
                case measure => simp [lenV]; omega
              · have HO := hid (one_1 r cur (zA zs (4 * k)) 0 0 0 g o m' d' (zA zs (4 * k + 1)) wr (by simpa [xi] using hrow.out) hlt hb9 k0 pp hsl')
                clear hrow k0
                go_wp2_with fail
                refine HO.out.mono ?_
                rintro e w9 ⟨rfl, hr9, hf9⟩
                have HRL := hid (HDO.out w9 (by simpa [xi] using hr9) hf9)
                clear hr9 hf9
                go_wp2_with fail
                go_roundw
                case rel => exact HRL.out
                case measure => simp [lenV]; omega
              · have HO := hid (one_2 r cur (zA zs (4 * k)) (zA zs (4 * k + 1)) 0 0 g o m' d' (zA zs (4 * k + 2)) wr (by simpa [xi] using hrow.out) hlt hb9 k0 pp hsl')
                clear hrow k0
                go_wp2_with fail
                refine HO.out.mono ?_
                rintro e w9 ⟨rfl, hr9, hf9⟩
                have HRL := hid (HDO.out w9 (by simpa [xi] using hr9) hf9)
                clear hr9 hf9
                go_wp2_with fail
                go_roundw
                case rel => exact HRL.out
                case measure => simp [lenV]; omega
            · obtain rfl : m' = 0 := by omega
              have hb1 : ¬ (0 : Int) < ((0 : Nat) : Int) := by omega
              go_wp2_with fail
              go_returns
              obtain rfl : t = m := by omega
              have hx : ∀ i, xi zs (4 * k) t i = zA zs (4 * k + i) := fun i => by
                unfold xi
                split
                · rfl
                · unfold zA
                  rw [List.getD_eq_getElem?_getD, List.getElem?_eq_none (by rw [HN.out]; omega)]
                  rfl
              have hr9 := hrow.out
              rw [hx, hx, hx, ← hcu.out, hq.out, hmm.out, Nat.add_zero] at hr9
              exact ⟨rfl, HEND.out _ hr9, HF0.out.trans hf.out (fun i hi _ => hi)⟩
    · have hrow := hrun.out
      unfold RunAt at hrow
      rw [hM, hq] at hrow
      obtain ⟨x0, hx0⟩ : ∃ x, zA (all ++ zs0.take t) (4 * q) = x := ⟨_, rfl⟩
      obtain ⟨x1, hx1⟩ : ∃ x, zA (all ++ zs0.take t) (4 * q + 1) = x := ⟨_, rfl⟩
      obtain ⟨x2, hx2⟩ : ∃ x, zA (all ++ zs0.take t) (4 * q + 2) = x := ⟨_, rfl⟩
      obtain ⟨s, hs⟩ : ∃ s, flW Z4 (all ++ zs0.take t) q = s := ⟨_, rfl⟩
      rw [hx0, hx1, hx2, hs] at hrow
      have c8 : wr.cell? ⟨r, 8, none⟩ = some (.int .i64 (M : Int)) := by rw [cell_of_row wr _ _ _ _ _ hrow]; rfl
      have gM : (0 : Int) < (M : Int) := by omega
      by_cases hn1 : 0 < n
      · have gn : (0 : Int) < (n : Int) := by omega
        obtain ⟨pp, hsl, hrd2, hbk2⟩ := slice_from p (zs0.drop t) n c 1 hdl (by omega) (by omega) wr hrd.out
        have hsl' : ∀ W : World, (Instr.sliceAt 22 (.slice p n c) (some (.int .i64 1)) none none).run Tryd.prog W = .ok (.slice pp (n - 1) (c - 1)) W := hsl
        obtain ⟨g, o, rfl, k0⟩ := rd_byte (i := 0) hrd.out (by omega)
        rw [zA_drop, Nat.add_zero, Nat.add_zero] at k0
        have htk : all ++ zs0.take t ++ [zA zs0 t] = all ++ zs0.take (t + 1) := by
          rw [List.append_assoc, List.take_add_one]
          congr 2
          unfold zA
          rw [List.getD_eq_getElem?_getD, List.getElem?_eq_getElem (by rw [HN0.out]; omega)]
          rfl
        have HO := hid (one_any r (all ++ zs0.take t) hab1 g o n c (zA zs0 t) (zA_bd HZB0.out _) wr hrun.out hn1 (by omega) k0 pp hsl')
        rw [htk] at HO
        have HRD2 := hid hrd2
        have HBK2 := hid (fun j hj => hbk.out j (hbk2 j hj))
        clear hrow hx0 hx1 hx2 hs hM hq hqm k0 hsl hsl' hrd2 hbk2 hjoin htk hcells hab1 hdb hrun
        go_wp2_with fail
        refine HO.out.mono ?_
        rintro e w9 ⟨rfl, hr9, hf9⟩
        have HR9 := hid hr9
        have HF9 := hid hf9
        clear hr9 hf9
        go_wp2_with fail
        go_roundw
        case rel =>
          refine ⟨t + 1, n - 1, c - 1, pp, hid (by omega), hid (by omega), rfl, HR9, hid ?_, HBK2, hid (hf0.out.trans HF9.out (fun i hi _ => hi))⟩
          have hr2 := HRD2.out
          rw [List.drop_drop] at hr2
          exact hr2.kept HF9.out (fun j hj hjs => by
            simp at hjs
            exact HAL0.out (fun hz => by have := HN0.out; rw [hz] at this; simp at this; omega) (hjs ▸ HBK2.out j hj))
        case measure => simp [lenV]; omega
      · obtain rfl : n = 0 := by omega
        have gn : decide ((0 : Int) < 0) = false := by decide
        have hend : RunAt wr r (all ++ zs0) := by
          have h := hrun.out
          rwa [show zs0.take t = zs0 from List.take_of_length_le (by rw [HN0.out]; omega)] at h
        have c0 : wr.cell? ⟨r, 0, none⟩ = some (.int .u64 s.a) := by rw [cell_of_row wr _ _ _ _ _ hrow]; rfl
        have c1 : wr.cell? ⟨r, 1, none⟩ = some (.int .u64 s.b) := by rw [cell_of_row wr _ _ _ _ _ hrow]; rfl
        have c2 : wr.cell? ⟨r, 2, none⟩ = some (.int .u64 s.c) := by rw [cell_of_row wr _ _ _ _ _ hrow]; rfl
        have c3 : wr.cell? ⟨r, 3, none⟩ = some (.int .u64 s.d) := by rw [cell_of_row wr _ _ _ _ _ hrow]; rfl
        have HEND := hid hend
        have HROW := hid hrow
        clear hx0 hx1 hx2 hs hM hq hqm hjoin hcells hab1 hdb hrun hend hrow
        go_wp2_with fail
        have hfa : Frm [] wr (wr.alloc (.cells #[.int .u64 s.a, .int .u64 s.b, .int .u64 s.c, .int .u64 s.d] 25)) := (Frm.refl _ _).alloc _
        have hcop := heap_alloc_new wr (.cells #[.int .u64 s.a, .int .u64 s.b, .int .u64 s.c, .int .u64 s.d] 25)
        have hrow2 := hfa.heap HROW.out (by simp)
        have HE2 := hid (HEND.out.kept hfa (by simp))
        have HF2 := hid (hf0.out.trans hfa (by simp))
        obtain ⟨sb, hsb⟩ : ∃ sb, wr.heap.size = sb := ⟨_, rfl⟩
        rw [hsb] at hcop ⊢
        obtain ⟨wa, hwa⟩ : ∃ wa, wr.alloc (.cells #[.int .u64 s.a, .int .u64 s.b, .int .u64 s.c, .int .u64 s.d] 25) = wa := ⟨_, rfl⟩
        rw [hwa] at hcop hrow2 HE2 HF2 ⊢
        have HROW2 := hid hrow2
        have HCOP := hid hcop
        clear hwa hfa hrow2 hcop c0 c1 c2 c3 c8 hsb HEND HROW hrd hf0
        have q0 : wa.cell? ⟨sb, 0, none⟩ = some (.int .u64 s.a) := by rw [cell_of_row _ _ _ _ _ _ HCOP.out]; rfl
        have q1 : wa.cell? ⟨sb, 1, none⟩ = some (.int .u64 s.b) := by rw [cell_of_row _ _ _ _ _ _ HCOP.out]; rfl
        have q2 : wa.cell? ⟨sb, 2, none⟩ = some (.int .u64 s.c) := by rw [cell_of_row _ _ _ _ _ _ HCOP.out]; rfl
        have q3 : wa.cell? ⟨sb, 3, none⟩ = some (.int .u64 s.d) := by rw [cell_of_row _ _ _ _ _ _ HCOP.out]; rfl
        obtain ⟨c0, c1, c2, c3, c4, c5, c6, c7, c8⟩ := RowR.cells HROW2.out
        have z0 := RowR.froz HROW2.out 0
        have z1 := RowR.froz HROW2.out 1
        have z2 := RowR.froz HROW2.out 2
        have z3 := RowR.froz HROW2.out 3
        go_loopw [1] (fun b wx => b = .slice p 0 c ∧ Hid (wx = wa)) (fun _ _ => 0)
        case atStart => exact ⟨rfl, hid rfl⟩
        case round =>
          obtain ⟨rfl, hwx⟩ := hrel
          obtain rfl := hwx.out
          go_wp2_with fail
          have k0 : (wr.setCell ⟨r, 0, none⟩ (.int .u64 s.a)).heap[r]? = some (.cells #[.int .u64 s.a, .int .u64 s.b, .int .u64 s.c, .int .u64 s.d, .int .u8 x0, .int .u8 x1, .int .u8 x2, .int .u8 0, .int .i64 (M : Int)] 51 (0, 0)) := by rw [heap_setCell_same _ _ 0 _ _ _ HROW2.out]; rfl
          have k1 : ((wr.setCell ⟨r, 0, none⟩ (.int .u64 s.a)).setCell ⟨r, 1, none⟩ (.int .u64 s.b)).heap[r]? = some (.cells #[.int .u64 s.a, .int .u64 s.b, .int .u64 s.c, .int .u64 s.d, .int .u8 x0, .int .u8 x1, .int .u8 x2, .int .u8 0, .int .i64 (M : Int)] 51 (0, 0)) := by rw [heap_setCell_same _ _ 1 _ _ _ k0]; rfl
          have k2 : (((wr.setCell ⟨r, 0, none⟩ (.int .u64 s.a)).setCell ⟨r, 1, none⟩ (.int .u64 s.b)).setCell ⟨r, 2, none⟩ (.int .u64 s.c)).heap[r]? = some (.cells #[.int .u64 s.a, .int .u64 s.b, .int .u64 s.c, .int .u64 s.d, .int .u8 x0, .int .u8 x1, .int .u8 x2, .int .u8 0, .int .i64 (M : Int)] 51 (0, 0)) := by rw [heap_setCell_same _ _ 2 _ _ _ k1]; rfl
          have k3 : ((((wr.setCell ⟨r, 0, none⟩ (.int .u64 s.a)).setCell ⟨r, 1, none⟩ (.int .u64 s.b)).setCell ⟨r, 2, none⟩ (.int .u64 s.c)).setCell ⟨r, 3, none⟩ (.int .u64 s.d)).heap[r]? = some (.cells #[.int .u64 s.a, .int .u64 s.b, .int .u64 s.c, .int .u64 s.d, .int .u8 x0, .int .u8 x1, .int .u8 x2, .int .u8 0, .int .i64 (M : Int)] 51 (0, 0)) := by rw [heap_setCell_same _ _ 3 _ _ _ k2]; rfl
          have hf4 : Frm [r] wr ((((wr.setCell ⟨r, 0, none⟩ (.int .u64 s.a)).setCell ⟨r, 1, none⟩ (.int .u64 s.b)).setCell ⟨r, 2, none⟩ (.int .u64 s.c)).setCell ⟨r, 3, none⟩ (.int .u64 s.d)) := (((((Frm.refl [r] wr).setCell _ _ (by simp)).setCell _ _ (by simp)).setCell _ _ (by simp)).setCell _ _ (by simp))
          obtain ⟨wz, hwz⟩ : ∃ wz, ((((wr.setCell ⟨r, 0, none⟩ (.int .u64 s.a)).setCell ⟨r, 1, none⟩ (.int .u64 s.b)).setCell ⟨r, 2, none⟩ (.int .u64 s.c)).setCell ⟨r, 3, none⟩ (.int .u64 s.d)) = wz := ⟨_, rfl⟩
          rw [hwz] at k3 hf4 ⊢
          have HEZ : Hid (RunAt wz r (all ++ zs0)) := hid (by
            have h := HE2.out
            unfold RunAt RowR at h ⊢
            rw [k3, ← HROW2.out]
            exact h)
          have HFZ := hid (HF2.out.trans hf4 (fun i hi _ => hi))
          clear k0 k1 k2 k3 hf4 hwz
          go_loopw [1] (fun b wx => b = .slice p 0 c ∧ Hid (RunAt wx r (all ++ zs0) ∧ Frm [r] w wx)) (fun _ _ => 0)
          case atStart => exact ⟨rfl, hid ⟨HEZ.out, HFZ.out⟩⟩
          case round =>
            obtain ⟨rfl, hwx⟩ := hrel
            go_wp2_with fail
            go_returns
            exact ⟨rfl, hwx.out.1, hwx.out.2⟩
end Go.Proofs.YtcnochabdhdlnaaDoor
