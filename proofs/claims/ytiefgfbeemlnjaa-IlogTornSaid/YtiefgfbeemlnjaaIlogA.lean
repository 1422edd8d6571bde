/- Contracts of package ilog: New, pieces, num, value, head, Room. -/
import Derived.Test.YtiefgfbeemlnjaaGen
import Derived.Laws.BitsAllLaws
namespace Go.Proofs.Ytiefgfbeemlnjaa
open Go.RowKit
set_option maxRecDepth 100000

/-- A log at block b. -/
def IsLog (w : World) (b : Nat) (base at_ next : Int) : Prop := w.heap[b]? = some (.cells #[.int .i64 base, .int .i64 at_, .int .i64 next] 120 (0, 0))
theorem IsLog.kept {w w' : World} {b : Nat} {base at_ next : Int} {S : List Nat} (h : IsLog w b base at_ next) (hf : Frm S w w') (hb : b ∉ S) : IsLog w' b base at_ next := hf.heap h hb
theorem IsLog.cells {w : World} {b : Nat} {base at_ next : Int} (h : IsLog w b base at_ next) : b < w.heap.size ∧ w.cell? ⟨b, 0, none⟩ = some (.int .i64 base) ∧ w.cell? ⟨b, 1, none⟩ = some (.int .i64 at_) ∧ w.cell? ⟨b, 2, none⟩ = some (.int .i64 next) ∧ w.frozen? ⟨b, 1, none⟩ = false ∧ w.frozen? ⟨b, 2, none⟩ = false :=
  ⟨lt_of_heap h, by rw [cell_of_row w _ _ _ _ _ h]; rfl, by rw [cell_of_row w _ _ _ _ _ h]; rfl, by rw [cell_of_row w _ _ _ _ _ h]; rfl, frozen_of_row w b 1 _ _ h, frozen_of_row w b 2 _ _ h⟩
set_option maxHeartbeats 400000 in
theorem logNew_bad (n : Int) (h : n < 0 ∨ 281474976710656 < n) (w : World) :
    Calls Try.prog 73 #[.int .i64 n] w fun e w' => e = .returned (.tuple #[.pointer none, .int .i64 1]) ∧ w = w' := by
  by_cases h1 : n < 0
  · clear h
    go_enter Try.func73, Try.ntmps73
    go_wp2_with fail
    go_returns
    exact ⟨rfl, rfl⟩
  · have h2 : 281474976710656 < n := by omega
    clear h
    go_enter Try.func73, Try.ntmps73
    go_wp2_with fail
    go_returns
    exact ⟨rfl, rfl⟩
set_option maxHeartbeats 400000 in
theorem logNew_ok (n : Int) (h1 : 0 ≤ n) (h2 : n ≤ 281474976710656) (w : World) :
    Calls Try.prog 73 #[.int .i64 n] w fun e w' => ∃ b, e = .returned (.tuple #[.pointer (some ⟨b, 0, none⟩), .int .i64 0]) ∧ IsLog w' b n 0 1 ∧ Frm [] w w' ∧ w.heap.size ≤ b := by
  go_enter Try.func73, Try.ntmps73
  go_wp2_with fail
  go_returns
  exact ⟨w.heap.size, rfl, heap_alloc_new _ _, (Frm.refl _ _).alloc _, Nat.le_refl _⟩
/-- How many pieces so many bytes have. -/
def pcs (n : Nat) : Nat := max 1 ((n + 67) / 68)
theorem pcs_pos (n : Nat) : 1 ≤ pcs n := by unfold pcs; omega
theorem pcs_le (n : Nat) (h : n ≤ 4096) : pcs n ≤ 61 := by unfold pcs; omega
set_option maxHeartbeats 400000 in
theorem pieces_any (n : Nat) (hn : n ≤ 4294967296) (w : World) :
    Calls Try.prog 75 #[.int .i64 n] w fun e w' => e = .returned (.int .i64 (pcs n)) ∧ w = w' := by
  by_cases h : n = 0
  · subst h
    go_enter Try.func75, Try.ntmps75
    go_wp2_with fail
    go_returns
    exact ⟨rfl, rfl⟩
  · have h1 : (1 : Int) ≤ ((n : Int) + 67) / 68 := by omega
    have h2 : (0 : Int) ≤ (n : Int) + 68 - 1 := by omega
    have h3 : (n : Int) + 68 - 1 = (n : Int) + 67 := by omega
    have e : (pcs n : Int) = ((n : Int) + 67) / 68 := by unfold pcs; omega
    rw [e]
    clear e h
    go_enter Try.func75, Try.ntmps75
    go_wp2_with fail
    all_goals
      go_returns
      exact ⟨intE (by omega), rfl⟩
-- a number's bytes, laid into a block
set_option maxHeartbeats 800000 in
theorem num_into (g o k c : Nat) (n : Nat) (T : TypeId) (zs : List Int) (hk : k ≤ 8) (_hn : n < 9223372036854775808) (ho : o + k ≤ zs.length) (w : World) (hg : w.heap[g]? = some (.cells (bv zs).toArray T (0, 0))) :
    Calls Try.prog 120 #[.slice (some ⟨g, o, none⟩) k c, .int .i64 n] w fun e w' => e = .returned (.tuple #[]) ∧ w'.heap[g]? = some (.cells (bv (splice zs o (le n k))).toArray T (0, 0)) ∧ Frm [g] w w' := by
  have HG := hid hg
  clear hg
  go_enter Try.func120, Try.ntmps120
  go_wp2_with fail
  go_loopw [7] (fun i wr => ∃ j : Nat, j ≤ k ∧ i = .int .i64 j ∧ Hid (wr.heap[g]? = some (.cells (bv (splice zs o (le n j))).toArray T (0, 0))) ∧ Hid (Frm [g] w wr)) (fun i _ => k - (intOf i).toNat)
  case atStart => exact ⟨0, Nat.zero_le _, rfl, by show _ = _; rw [show le (n : Int) 0 = [] from rfl, splice_nil]; exact HG.out, Frm.refl _ _⟩
  case round =>
    obtain ⟨j, hj, rfl, hcur, hfr⟩ := hrel
    by_cases hlt : j < k
    · have hsl : (splice zs o (le (n : Int) j)).length = zs.length := splice_length (by rw [le_length]; omega)
      have hc : wr.cell? ⟨g, o + j, none⟩ = some (.int .u8 ((splice zs o (le (n : Int) j)).getD (o + j) 0)) := by
        rw [cell_of_row _ _ _ _ _ (0, 0) hcur.out]
        simpa using bv_get (by rw [hsl]; omega)
      have hf := frozen_of_row wr g (o + j) _ _ hcur.out
      generalize (splice zs o (le (n : Int) j)).getD (o + j) 0 = x at hc
      go_wp2_with fail
      go_roundw
      case rel =>
        refine ⟨j + 1, by omega, by go_num, ?_, hfr.out.setCell _ _ (by simp)⟩
        show _ = _
        rw [heap_setCell_same wr g (o + j) _ _ _ hcur.out]
        congr 2
        apply Array.ext'
        have e1 : splice zs o (le (n : Int) (j + 1)) = (splice zs o (le (n : Int) j)).set (o + j) ((n : Int) / 2 ^ (8 * j) % 256) := by
          have e2 : (zs.take o ++ le (n : Int) j).length = o + j := by rw [List.length_append, le_length]; simp; omega
          obtain ⟨y, hy⟩ : ∃ y, zs.drop (o + j) = y :: zs.drop (o + (j + 1)) := ⟨zs[o + j]'(by omega), by rw [List.drop_eq_getElem_cons (by omega)]; rfl⟩
          unfold splice
          rw [le_length, le_length, hy, List.set_append_right _ _ (by omega), e2, Nat.sub_self, List.set_cons_zero, le_succ]
          simp
        rw [e1]
        simp [bv, List.map_set]
      case measure => simp [intOf]; omega
    · obtain rfl : j = k := by omega
      go_wp2_with fail
      go_returns
      exact ⟨rfl, hcur.out, hfr.out⟩
/-- The beginning of a piece. -/
def headB (base next i all bytes : Nat) : List Int := le base 8 ++ le next 4 ++ le i 2 ++ le all 2 ++ le bytes 4
theorem headB_length (base next i all bytes : Nat) : (headB base next i all bytes).length = 20 := by simp [headB, le_length]
set_option maxHeartbeats 1600000 in
theorem head_any (b g : Nat) (base at_ next i all bytes : Nat) (T : TypeId) (zs : List Int) (h1 : base < 9223372036854775808) (h2 : next < 9223372036854775808) (h3 : i < 9223372036854775808) (h4 : all < 9223372036854775808) (h5 : bytes < 9223372036854775808) (hl : zs.length = 88) (w : World) (hL : IsLog w b base at_ next) (hg : w.heap[g]? = some (.cells (bv zs).toArray T (0, 0))) (hbg : b ≠ g) :
    Calls Try.prog 80 #[.pointer (some ⟨b, 0, none⟩), .pointer (some ⟨g, 0, none⟩), .int .i64 i, .int .i64 all, .int .i64 bytes] w fun e w' => e = .returned (.tuple #[]) ∧ w'.heap[g]? = some (.cells (bv (splice zs 0 (headB base next i all bytes))).toArray T (0, 0)) ∧ Frm [g] w w' := by
  obtain ⟨lb, c0, c1, c2, _⟩ := hL.cells
  have HG := hid hg
  have hn1 : b ∉ [g] := by simpa using hbg
  have HN1 := hid (num_into g 0 8 8 base T zs (by omega) h1 (by omega) w.drew hg)
  clear hg hL
  go_enter Try.func80, Try.ntmps80
  go_wp2_with fail
  go_region_held3 (fun w' => w'.cell? ⟨b, 0, none⟩ = some (.int .i64 base)) (first | go_keep | (exact c0) | (exact (hf1.cell (p := ⟨b, 0, none⟩) lb hn1).trans c0)) (((with_reducible refine HN1.out.mono ?_); rintro e w1 ⟨rfl, hg1, hf1⟩))
  have E2 : splice (splice zs 0 (le base 8)) 8 (le next 4) = splice zs 0 (le base 8 ++ le next 4) := by
    have h := splice_splice (bs := zs) (zs := le (base : Int) 8) (ys := le (next : Int) 4) (i := 0) (by simp only [le_length]; omega)
    simpa only [le_length, Nat.zero_add] using h
  have hs1 : (splice zs 0 (le (base : Int) 8)).length = 88 := by rw [splice_length (by simp only [le_length]; omega), hl]
  have k2 := (hf1.cell (p := ⟨b, 2, none⟩) lb hn1).trans c2
  have lb1 := Nat.lt_of_lt_of_le lb hf1.size
  have HF1 : Hid (Frm [g] w w1) := ((Frm.refl [g] w).drew).trans hf1 (fun i hi _ => hi)
  have hN2 := num_into g 8 4 4 next T (splice zs 0 (le base 8)) (by omega) h2 (by omega) w1.drew hg1
  rw [E2] at hN2
  have HN2 := hid hN2
  clear E2 hs1 hg1 hf1 hN2 c0 c1 c2
  go_wp2_with fail
  go_region_held3 (fun w' => w'.cell? ⟨b, 2, none⟩ = some (.int .i64 next)) (first | go_keep | (exact k2) | (exact (hf2.cell (p := ⟨b, 2, none⟩) lb1 hn1).trans k2)) (((with_reducible refine HN2.out.mono ?_); rintro e w2 ⟨rfl, hg2, hf2⟩))
  have E3 : splice (splice zs 0 (le base 8 ++ le next 4)) 12 (le i 2) = splice zs 0 (le base 8 ++ le next 4 ++ le i 2) := by
    have h := splice_splice (bs := zs) (zs := le (base : Int) 8 ++ le (next : Int) 4) (ys := le (i : Int) 2) (i := 0) (by simp only [List.length_append, le_length]; omega)
    simpa only [List.length_append, le_length, Nat.zero_add] using h
  have HF2 : Hid (Frm [g] w w2) := (HF1.out.drew).trans hf2 (fun i hi _ => hi)
  have hN3 := num_into g 12 2 2 i T _ (by omega) h3 (by rw [splice_length (by simp only [List.length_append, le_length]; omega)]; omega) w2 hg2
  rw [E3] at hN3
  have HN3 := hid hN3
  clear E3 hg2 hf2 hN3 k2
  go_wp2_with fail
  refine HN3.out.mono ?_
  rintro e w3 ⟨rfl, hg3, hf3⟩
  have E4 : splice (splice zs 0 (le base 8 ++ le next 4 ++ le i 2)) 14 (le all 2) = splice zs 0 (le base 8 ++ le next 4 ++ le i 2 ++ le all 2) := by
    have h := splice_splice (bs := zs) (zs := le (base : Int) 8 ++ le (next : Int) 4 ++ le (i : Int) 2) (ys := le (all : Int) 2) (i := 0) (by simp only [List.length_append, le_length]; omega)
    simpa only [List.length_append, le_length, Nat.zero_add] using h
  have HF3 : Hid (Frm [g] w w3) := HF2.out.trans hf3 (fun i hi _ => hi)
  have hN4 := num_into g 14 2 2 all T _ (by omega) h4 (by rw [splice_length (by simp only [List.length_append, le_length]; omega)]; omega) w3 hg3
  rw [E4] at hN4
  have HN4 := hid hN4
  clear E4 hg3 hf3 hN4
  go_wp2_with fail
  refine HN4.out.mono ?_
  rintro e w4 ⟨rfl, hg4, hf4⟩
  have E5 : splice (splice zs 0 (le base 8 ++ le next 4 ++ le i 2 ++ le all 2)) 16 (le bytes 4) = splice zs 0 (headB base next i all bytes) := by
    have h := splice_splice (bs := zs) (zs := le (base : Int) 8 ++ le (next : Int) 4 ++ le (i : Int) 2 ++ le (all : Int) 2) (ys := le (bytes : Int) 4) (i := 0) (by simp only [List.length_append, le_length]; omega)
    unfold headB
    simpa only [List.length_append, le_length, Nat.zero_add] using h
  have HF4 : Hid (Frm [g] w w4) := HF3.out.trans hf4 (fun i hi _ => hi)
  have hN5 := num_into g 16 4 4 bytes T _ (by omega) h5 (by rw [splice_length (by simp only [List.length_append, le_length]; omega)]; omega) w4 hg4
  rw [E5] at hN5
  have HN5 := hid hN5
  clear E5 hg4 hf4 hN5
  go_wp2_with fail
  refine HN5.out.mono ?_
  rintro e w5 ⟨rfl, hg5, hf5⟩
  have HG5 := hid hg5
  have HF5 := hid hf5
  clear hg5 hf5
  go_wp2_with fail
  go_returns
  exact ⟨rfl, HG5.out, HF4.out.trans HF5.out (fun i hi _ => hi)⟩
/-- Has a record of so many bytes room? -/
def roomB (at_ : Nat) (many : Int) : Bool := decide (0 ≤ many) && decide (many ≤ 4096) && decide (at_ + pcs many.toNat * 88 ≤ 22528)
set_option maxHeartbeats 800000 in
theorem room_any (b : Nat) (base : Int) (at_ : Nat) (next many : Int) (w : World) (hat : at_ ≤ 22528) (hL : IsLog w b base at_ next) :
    Calls Try.prog 79 #[.pointer (some ⟨b, 0, none⟩), .int .i64 many] w fun e w' => e = .returned (.bool (roomB at_ many)) ∧ Frm [] w w' := by
  obtain ⟨lb, c0, c1, c2, _⟩ := hL.cells
  clear hL
  obtain ⟨r, hr⟩ : ∃ r, roomB at_ many = r := ⟨_, rfl⟩
  have HR := hid hr
  rw [hr]
  clear hr
  by_cases h1 : 0 ≤ many
  · by_cases h2 : many ≤ 4096
    · obtain ⟨k, rfl⟩ : ∃ k : Nat, many = k := ⟨many.toNat, by omega⟩
      have hb1 : decide (0 ≤ (k : Int)) = true := by simp
      have hb2 : decide ((k : Int) ≤ 4096) = true := by simp; omega
      have hp := pcs_le k (by omega)
      obtain ⟨m, hm⟩ : ∃ m, pcs k = m := ⟨_, rfl⟩
      have HM := hid hm
      have hpq : ∀ W : World, Calls Try.prog 75 #[.int .i64 k] W fun e w' => e = .returned (.int .i64 (m : Int)) ∧ w' = W := by
        intro W
        rw [← hm]
        exact (pieces_any k (by omega) W).mono fun e w' h => ⟨h.1, h.2.symm⟩
      have HPQ := hid hpq
      rw [hm] at hp
      clear hm hpq
      by_cases h3 : at_ + m * 88 ≤ 22528
      · have hb3 : decide ((at_ : Int) + (m : Int) * 88 ≤ 22528) = true := by simp; omega
        go_enter Try.func79, Try.ntmps79
        go_wp2_with fail
        go_quiet ((go_at_call 75; exact Calls.quiet_of_same (HPQ.out _)))
        go_wp2_with fail
        go_returns
        exact ⟨boolE (by rw [← HR.out]; unfold roomB; rw [Int.toNat_natCast, HM.out]; simp; omega), (Frm.refl _ _).drewN _⟩
      · have hb3 : decide ((at_ : Int) + (m : Int) * 88 ≤ 22528) = false := by simp; omega
        go_enter Try.func79, Try.ntmps79
        go_wp2_with fail
        go_quiet ((go_at_call 75; exact Calls.quiet_of_same (HPQ.out _)))
        go_wp2_with fail
        go_returns
        exact ⟨boolE (by rw [← HR.out]; unfold roomB; rw [Int.toNat_natCast, HM.out]; simp; omega), (Frm.refl _ _).drewN _⟩
    · have hb1 : decide (0 ≤ many) = true := by simpa using h1
      have hb2 : decide (many ≤ 4096) = false := by simpa using h2
      go_enter Try.func79, Try.ntmps79
      go_wp2_with fail
      go_quiet (fail)
      go_wp2_with fail
      go_returns
      exact ⟨boolE (by rw [← HR.out]; unfold roomB; simp; omega), (Frm.refl _ _).drewN _⟩
  · have hb1 : decide (0 ≤ many) = false := by simpa using h1
    go_enter Try.func79, Try.ntmps79
    go_wp2_with fail
    go_quiet (fail)
    go_wp2_with fail
    go_returns
    exact ⟨boolE (by rw [← HR.out]; unfold roomB; simp; omega), (Frm.refl _ _).drewN _⟩
end Go.Proofs.Ytiefgfbeemlnjaa
