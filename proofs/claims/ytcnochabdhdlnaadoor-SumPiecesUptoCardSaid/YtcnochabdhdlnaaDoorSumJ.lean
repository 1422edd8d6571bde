/- Contracts of package sum: Print. -/
import Derived.Test.YtcnochabdhdlnaaDoorSumI
namespace Go.Proofs.YtcnochabdhdlnaaDoor
open Go.RowKit
set_option maxRecDepth 100000

theorem run_make_cap {P : Program} (t e : TypeId) (ht : P.underlying t = some (.slice e)) (hI : (P.info? e).map (fun i => (i.zero, i.size, i.bytes)) = some (some (.int .u8 0), 1, 1)) (c : Nat) (hc : c ≤ 140737488355328) (w : World) :
    (Instr.makeSlice t (.int .i64 0) (.int .i64 (c : Int))).run P w = .ok (.slice (some ⟨w.heap.size, 0, none⟩) 0 c) (w.alloc (.cells (madeCells #[.int .u8 0] c) e)) := by
  obtain ⟨i, hi, hz, h1, h2⟩ := info_parts hI
  have hr := run_make (P := P) w t e i (.int .u8 0) ht hi hz .i64 .i64 0 c (Int.le_refl _) (by omega) (by rw [h2]; omega) (by omega)
  rw [h1, show (Value.int .u8 0).cells = #[Value.int .u8 0] from rfl] at hr
  simpa using hr
def dgt (v : Int) : Int := if v < 10 then 48 + v else 87 + v
def hexD (n : Int) (j : Nat) : List Int := (List.range j).map fun i => dgt (n / 2 ^ (60 - 4 * i) % 16)
theorem hexD_succ (n : Int) (j : Nat) : hexD n (j + 1) = hexD n j ++ [dgt (n / 2 ^ (60 - 4 * j) % 16)] := by simp [hexD, List.range_succ]
theorem hexD_length (n : Int) (j : Nat) : (hexD n j).length = j := by simp [hexD]
def S4.vals (s : S4) : List Int := [s.a, s.b, s.c, s.d]
def outL (s : S4) (t : Nat) : List Int := (s.vals.take t).flatMap (fun n => hexD n 16)
theorem outL_succ (s : S4) (t : Nat) (h : t < 4) : outL s (t + 1) = outL s t ++ hexD (s.vals.getD t 0) 16 := by
  unfold outL
  have hl : t < s.vals.length := by simpa [S4.vals] using h
  rw [List.take_succ_eq_append_getElem hl, List.flatMap_append, List.getD_eq_getElem?_getD, List.getElem?_eq_getElem hl]
  simp
def hexL (s : S4) : List Int := outL s 4
theorem and15 (x : Int) (h : 0 ≤ x ∧ x < 18446744073709551616) : bits .and .u64 x 15 = x % 16 := by
  rw [u64_and x 15 h.1 h.2 (by omega) (by omega)]
  rw [show (15 : Int).toNat = 2 ^ 4 - 1 from rfl, Nat.and_two_pow_sub_one_eq_mod]
  omega
def S4.ok (s : S4) : Prop := (0 ≤ s.a ∧ s.a < 18446744073709551616) ∧ (0 ≤ s.b ∧ s.b < 18446744073709551616) ∧ (0 ≤ s.c ∧ s.c < 18446744073709551616) ∧ (0 ≤ s.d ∧ s.d < 18446744073709551616)
theorem hex_dig (k : Nat) (hk : k < 16) (W : World) : (Instr.index 9 (.string ⟨#[48, 49, 50, 51, 52, 53, 54, 55, 56, 57, 97, 98, 99, 100, 101, 102]⟩) (.int .u64 (k : Int))).run Tryd.prog W = .ok (.int .u8 (dgt (k : Int))) W := by
  have h : k = 0 ∨ k = 1 ∨ k = 2 ∨ k = 3 ∨ k = 4 ∨ k = 5 ∨ k = 6 ∨ k = 7 ∨ k = 8 ∨ k = 9 ∨ k = 10 ∨ k = 11 ∨ k = 12 ∨ k = 13 ∨ k = 14 ∨ k = 15 := by omega
  rcases h with rfl | rfl | rfl | rfl | rfl | rfl | rfl | rfl | rfl | rfl | rfl | rfl | rfl | rfl | rfl | rfl <;> rfl
theorem val_at (s : S4) (t : Nat) (h : t < 4) (W : World) : (Instr.index 52 (.agg #[.int .u64 s.a, .int .u64 s.b, .int .u64 s.c, .int .u64 s.d]) (.int .i64 (t : Int))).run Tryd.prog W = .ok (.int .u64 (s.vals.getD t 0)) W := by
  have h4 : t = 0 ∨ t = 1 ∨ t = 2 ∨ t = 3 := by omega
  rcases h4 with rfl | rfl | rfl | rfl <;> rfl
theorem val_ok {s : S4} (hs : s.ok) (t : Nat) (h : t < 4) : 0 ≤ s.vals.getD t 0 ∧ s.vals.getD t 0 < 18446744073709551616 := by
  have h4 : t = 0 ∨ t = 1 ∨ t = 2 ∨ t = 3 := by omega
  obtain ⟨h0, h1, h2, h3⟩ := hs
  rcases h4 with rfl | rfl | rfl | rfl
  · exact h0
  · exact h1
  · exact h2
  · exact h3
set_option maxHeartbeats 3200000 in
theorem print_any (s : S4) (w : World) (hs : s.ok) :
    Calls Tryd.prog 15 #[.agg s.arr] w fun e w' => e = .returned (.string (strOfNums (hexL s))) ∧ Frm [] w w' := by
  have HS := hid hs
  unfold S4.arr
  clear hs
  go_enter Tryd.func15, Tryd.ntmps15
  have hmk : ∀ w : World, (Instr.makeSlice 22 (.int .i64 0) (.int .i64 64)).run Tryd.prog w = .ok (.slice (some ⟨w.heap.size, 0, none⟩) 0 64) (w.alloc (.cells (madeCells #[.int .u8 0] 64) 5)) := fun w => run_make_cap (P := Tryd.prog) 22 5 Tryd.underlying22 infoB 64 (by omega) w
  have hfa : Frm [] w (w.alloc (.cells #[.int .u64 s.a, .int .u64 s.b, .int .u64 s.c, .int .u64 s.d] 25)) := (Frm.refl _ _).alloc _
  have HO0 : Hid (Own ((w.alloc (.cells #[.int .u64 s.a, .int .u64 s.b, .int .u64 s.c, .int .u64 s.d] 25)).alloc (.cells (madeCells #[.int .u8 0] 64) 5)) 5 (.slice (some ⟨w.heap.size + 1, 0, none⟩) 0 64) []) := hid (by
    have h : ∀ W : World, Own (W.alloc (.cells (madeCells #[.int .u8 0] 64) 5)) 5 (.slice (some ⟨W.heap.size, 0, none⟩) 0 64) [] := fun W => World.ownsRow_made W _ 64 (Nat.zero_le _) (by unfold maxLen; omega) (by rw [size_madeCells])
    simpa using h (w.alloc (.cells #[.int .u64 s.a, .int .u64 s.b, .int .u64 s.c, .int .u64 s.d] 25)))
  have HF0 : Hid (Frm [] w ((w.alloc (.cells #[.int .u64 s.a, .int .u64 s.b, .int .u64 s.c, .int .u64 s.d] 25)).alloc (.cells (madeCells #[.int .u8 0] 64) 5))) := hid (hfa.alloc _)
  clear hfa
  go_wp2_with fail
  go_loopw [17, 3] (fun i v wr => ∃ (t m : Nat) (p : Option Addr) (c : Nat), t ≤ 4 ∧ i = .int .i64 t ∧ v = .slice p m c ∧ Hid (m = 16 * t) ∧ Hid ((outL s t).length = m) ∧ Hid (Own wr 5 (.slice p m c) (outL s t)) ∧ Hid (∀ k ∈ blk p, w.heap.size ≤ k) ∧ Hid (Frm [] w wr)) (fun i _ _ => 4 - (intOf i).toNat)
  case atStart => exact ⟨0, 0, some ⟨w.heap.size + 1, 0, none⟩, 64, by omega, rfl, rfl, hid (by omega), hid (by simp [outL]), hid (by simpa [outL] using HO0.out), hid (by intro k hk; simp [blk] at hk; omega), HF0⟩
  case round =>
    clear HO0 HF0
    obtain ⟨t, m, p, c, ht, rfl, rfl, hm, hlen, hown, hblk, hf⟩ := hrel
    by_cases hlt : t < 4
    · have hvt := val_at s t hlt
      have hvb := val_ok HS.out t hlt
      have hos := outL_succ s t hlt
      obtain ⟨X, hX⟩ : ∃ X, s.vals.getD t 0 = X := ⟨_, rfl⟩
      rw [hX] at hvt hvb hos
      have HOS := hid hos
      have HVB := hid hvb
      clear hX hos hvb
      have t0 : (0 : Int) ≤ (t : Int) := by omega
      have t1 : (t : Int) < 4 := by omega
      go_wp2_with fail
      obtain ⟨wo, rfl⟩ : ∃ wo : World, wo = wr := ⟨_, rfl⟩
      go_loopw [6, 3] (fun i v wr => ∃ (j mm : Nat) (p : Option Addr) (c : Nat), j ≤ 16 ∧ i = .int .i64 (60 - 4 * (j : Int)) ∧ v = .slice p mm c ∧ Hid (mm = m + j) ∧ Hid ((outL s t ++ hexD X j).length = mm) ∧ Hid (Own wr 5 (.slice p mm c) (outL s t ++ hexD X j)) ∧ Hid (∀ k ∈ blk p, w.heap.size ≤ k) ∧ Hid (Frm [] w wr)) (fun i _ _ => ((intOf i) + 4).toNat)
      case atStart => exact ⟨0, m, p, c, by omega, rfl, rfl, hid rfl, hid (by simpa [hexD] using hlen.out), hid (by simpa [hexD] using hown.out), hblk, hf⟩
      case round =>
        clear hown hblk hf
        obtain ⟨j, mm, p, c, hj, rfl, rfl, hmm, hln, hown, hblk, hf⟩ := hrel
        by_cases hlj : j < 16
        · have hq0 : (0 : Int) ≤ X / 2 ^ (60 - 4 * j) ∧ X / 2 ^ (60 - 4 * j) < 18446744073709551616 := by
            have h0 := HVB.out
            have hp : (1 : Int) ≤ 2 ^ (60 - 4 * j) := Int.le_of_lt_add_one (by have : (0 : Int) < 2 ^ (60 - 4 * j) := Int.pow_pos (by decide); omega)
            exact ⟨Int.ediv_nonneg h0.1 (by omega), Int.lt_of_le_of_lt (Int.ediv_le_self _ h0.1) h0.2⟩
          have hd := hexD_succ X j
          have h15 := and15 _ hq0
          have hkk : ∃ kk : Nat, kk < 16 ∧ X / 2 ^ (60 - 4 * j) % 16 = (kk : Int) := ⟨(X / 2 ^ (60 - 4 * j) % 16).toNat, by omega, by omega⟩
          obtain ⟨kk, hk16, hke⟩ := hkk
          rw [hke] at h15 hd
          have hdig := hex_dig kk hk16
          obtain ⟨D, hD⟩ : ∃ D, dgt (kk : Int) = D := ⟨_, rfl⟩
          rw [hD] at hdig hd
          have HD := hid hd
          have j0 : (0 : Int) ≤ 60 - 4 * (j : Int) := by omega
          have j1 : (60 - 4 * (j : Int)).toNat = 60 - 4 * j := by omega
          have j2 : IntKind.i64.wrap (60 - 4 * (j : Int) - 4) = 60 - 4 * (j : Int) - 4 := IntWalk.i64_in _ (by omega)
          have hmb := hmm.out
          have hmc := hm.out
          have hrz : Rd (wr.alloc (.cells #[.int .u8 D] 5)) (some ⟨wr.heap.size, 0, none⟩) [D] :=
            (own_of_block (E := 5) (zs := [D]) (heap_alloc_new wr _) (by simp [maxLen])).rd
          have HRZ := hid hrz
          have hfz1 : Frm [] wr (wr.alloc (.cells #[.int .u8 D] 5)) := (Frm.refl _ _).alloc _
          have HOA := hid (hown.out.kept hfz1 (by simp))
          have HFA := hid (hf.out.trans hfz1 (by simp))
          have HSZ := hid hf.out.size
          clear hq0 hke hk16 hD hd hrz hfz1 hown
          go_wp2_with (at_builtin; refine wpList_appB rfl _ _ 22 rfl 5 Tryd.underlying22 infoB p _ c (outL s t ++ hexD X j) rfl hln.out.symm (by rw [hln.out]; exact HOA.out) (some ⟨wr.heap.size, 0, none⟩) 1 1 [D] rfl rfl (by simp) HRZ.out (by rw [hln.out]; simp; omega) ?_)
          intro xs2 p2 c2 w2 hxs ho2 hf2 hfr2
          have hx2 : xs2 = outL s t ++ hexD X (j + 1) := by rw [hxs.out, HD.out]
          have hxl : xs2.length = mm + 1 := by
            have h1 := hln.out
            rw [hx2]
            simp only [List.length_append, hexD_length] at h1 ⊢
            omega
          have HLN2 : Hid ((outL s t ++ hexD X (j + 1)).length = mm + 1) := hid (by rw [← hx2, hxl])
          have HO2 : Hid (Own w2 5 (.slice p2 (mm + 1) c2) (outL s t ++ hexD X (j + 1))) := hid (by have h := ho2.out; rwa [hxl, hx2] at h)
          have HF2 : Hid (Frm [] w w2) := hid (HFA.out.trans hf2.out (fun i hi hlt => by have := hblk.out i hi; omega))
          have HK2 : Hid (∀ k ∈ blk p2, w.heap.size ≤ k) := hid (fun k hk2 => by
            rcases hfr2.out k hk2 with h | h
            · exact hblk.out k h
            · have := HSZ.out
              first | omega | (simp at h; omega))
          rw [hxl]
          clear hxs ho2 hf2 hfr2 hx2 hxl
          go_wp2_with fail
          go_roundw
          case rel => exact ⟨j + 1, mm + 1, p2, c2, by omega, congrArg (Value.int .i64) (by omega), rfl, hid (by omega), HLN2, HO2, HK2, HF2⟩
          case measure => simp [intOf]; omega
        · obtain rfl : j = 16 := by omega
          have j0 : ¬ (0 : Int) ≤ 60 - 4 * ((16 : Nat) : Int) := by omega
          go_wp2_with fail
          go_roundw
          case rel => exact ⟨t + 1, mm, p, c, by omega, by go_num, rfl, hid (by have := hmm.out; have := hm.out; omega), hid (by rw [HOS.out]; exact hln.out), hid (by rw [HOS.out]; exact hown.out), hblk, hf⟩
          case measure => simp [intOf]; omega
    · obtain rfl : t = 4 := by omega
      have hcv1 := cv_any (P := Tryd.prog) (w := wr) 22 5 9 Tryd.underlying22 Tryd.underlying5 Tryd.underlying9 hown.out.rd c hlen.out
      have hb1 : ¬ ((4 : Nat) : Int) < 4 := by omega
      go_wp2_with fail
      go_returns
      exact ⟨rfl, hf.out⟩
end Go.Proofs.YtcnochabdhdlnaaDoor
