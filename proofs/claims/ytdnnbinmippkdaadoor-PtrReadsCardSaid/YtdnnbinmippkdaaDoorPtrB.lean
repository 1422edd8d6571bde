/- Contracts of package ptr: what is laid down of a sum and of a pointer. -/
import Derived.Test.YtdnnbinmippkdaaDoorPtrA
import Derived.Test.YtdnnbinmippkdaaDoorLawC
import Derived.Test.YtdnnbinmippkdaaDoorSumG
namespace Go.Proofs.YtdnnbinmippkdaaDoor
open Go.RowKit
set_option maxRecDepth 100000

theorem FreshW.alloc {w0 w : World} {b : Nat} {room : Int} {s : List Int × Int} {A : List Nat} (h : FreshW w0 w b room s A) (o : Obj) : FreshW w0 (w.alloc o) b room s (w.heap.size :: A) ∧ Keeps A w (w.alloc o) := by
  obtain ⟨fp, h1, h2, h3, h4⟩ := h
  have hf : Frm [] w (w.alloc o) := (Frm.refl _ _).alloc _
  refine ⟨⟨fp, h1.kept hf (by simp), h2.trans hf (by simp), h3, fun k hk => ?_⟩, hf.keeps (fun k hk => ⟨by simp, (h4 k hk).2⟩)⟩
  rcases List.mem_cons.1 hk with rfl | hk
  · exact ⟨fun hm => absurd (h1.lt _ hm) (Nat.lt_irrefl _), by simp⟩
  · exact ⟨(h4 k hk).1, Nat.lt_of_lt_of_le (h4 k hk).2 hf.size⟩
theorem FreshW.less {w0 w : World} {b : Nat} {room : Int} {s : List Int × Int} {A B : List Nat} (h : FreshW w0 w b room s A) (hB : ∀ k ∈ B, k ∈ A) : FreshW w0 w b room s B := by
  obtain ⟨fp, h1, h2, h3, h4⟩ := h
  exact ⟨fp, h1, h2, h3, fun k hk => h4 k (hB k hk)⟩
theorem Keeps.trans {A : List Nat} {u v w : World} (h : Keeps A u v) (k : Keeps A v w) : Keeps A u w := fun x hx => (k x hx).trans (h x hx)
theorem Keeps.less {A B : List Nat} {u v : World} (h : Keeps A u v) (hB : ∀ k ∈ B, k ∈ A) : Keeps B u v := fun x hx => h x (hB x hx)
/-- A number that fits is laid down. -/
theorem num_fit (w0 w : World) (b : Nat) (room : Int) (zs : List Int) (A : List Nat) (hw : FreshW w0 w b room (zs, 0) A) (hr1 : room ≤ 2147483647) (n : Int) (k : Nat) (hn : 0 ≤ n) (hk1 : 1 ≤ k) (hk8 : k ≤ 8) (hfit : n < 2 ^ (8 * k)) (hz : (zs.length : Int) + k ≤ room) :
    Calls Tryd.prog 57 #[.pointer (some ⟨b, 0, none⟩), .int .u64 n, .int .i64 (k : Int)] w fun e w' => e = .returned (.tuple #[]) ∧ FreshW w0 w' b room (zs ++ le n k, 0) A ∧ Keeps A w w' := by
  have h2 : (2 : Int) ^ (8 * k) ≤ 18446744073709551616 := by
    have hk : k = 1 ∨ k = 2 ∨ k = 3 ∨ k = 4 ∨ k = 5 ∨ k = 6 ∨ k = 7 ∨ k = 8 := by omega
    rcases hk with rfl | rfl | rfl | rfl | rfl | rfl | rfl | rfl <;> decide
  have h := numF_any w0 w b room (zs, 0) A hw (by omega) hr1 (by simp only; omega) n (k : Int) hn (by omega) (by omega) (by omega)
  have e : stepW room (zs, 0) (numF n (k : Int)) = (zs ++ le n k, 0) := by
    have h0 : n / 2 ^ (8 * k) = 0 := Int.ediv_eq_zero_of_lt hn hfit
    unfold numF
    rw [if_neg (by omega), Int.toNat_natCast, if_neg (by rw [h0]; simp)]
    unfold stepW
    simp only [ne_eq, not_true, if_false]
    rw [if_neg (by rw [le_length]; omega)]
  rw [e] at h
  exact h
def sumL (a b c d : Int) : List Int := le a 8 ++ le b 8 ++ le c 8 ++ le d 8
theorem sumL_length (a b c d : Int) : (sumL a b c d).length = 32 := by simp [sumL, le_length]
/-- What of a sum is laid down behind so many of its four numbers. -/
def sumT (vs : List Int) : Nat → List Int
  | 0 => []
  | t + 1 => sumT vs t ++ le (vs.getD t 0) 8
theorem sumT_length (vs : List Int) (t : Nat) : (sumT vs t).length = 8 * t := by
  induction t with
  | zero => rfl
  | succ t ih => rw [sumT, List.length_append, ih, le_length]; omega
theorem sumT_all (a b c d : Int) : sumT [a, b, c, d] 4 = sumL a b c d := by simp [sumT, sumL]
theorem ptr_at (s0 s1 s2 s3 : Int) (t : Nat) (h : t < 4) (W : World) : (Instr.index 106 (.agg #[.int .u64 s0, .int .u64 s1, .int .u64 s2, .int .u64 s3]) (.int .i64 (t : Int))).run Tryd.prog W = .ok (.int .u64 ([s0, s1, s2, s3].getD t 0)) W := by
  have h4 : t = 0 ∨ t = 1 ∨ t = 2 ∨ t = 3 := by omega
  rcases h4 with rfl | rfl | rfl | rfl <;> rfl
set_option maxHeartbeats 1600000 in
theorem putSum_any (w0 w : World) (b : Nat) (room : Int) (zs : List Int) (A : List Nat) (hw : FreshW w0 w b room (zs, 0) A) (hr1 : room ≤ 2147483647) (s0 s1 s2 s3 : Int) (h0 : 0 ≤ s0 ∧ s0 < 18446744073709551616) (h1 : 0 ≤ s1 ∧ s1 < 18446744073709551616) (h2 : 0 ≤ s2 ∧ s2 < 18446744073709551616) (h3 : 0 ≤ s3 ∧ s3 < 18446744073709551616) (hz : (zs.length : Int) + 32 ≤ room) :
    Calls Tryd.prog 58 #[.pointer (some ⟨b, 0, none⟩), .agg #[.int .u64 s0, .int .u64 s1, .int .u64 s2, .int .u64 s3]] w fun e w' => e = .returned (.tuple #[]) ∧ FreshW w0 w' b room (zs ++ sumL s0 s1 s2 s3, 0) A ∧ Keeps A w w' := by
  have hal := hw.alloc (.cells #[.int .u64 s0, .int .u64 s1, .int .u64 s2, .int .u64 s3] 24)
  have HW0 : Hid (FreshW w0 (w.alloc (.cells #[.int .u64 s0, .int .u64 s1, .int .u64 s2, .int .u64 s3] 24)) b room (zs ++ sumT [s0, s1, s2, s3] 0, 0) A) := hid (by simpa [sumT] using hal.1.less (fun k hk => List.mem_cons_of_mem _ hk))
  have HK0 := hid hal.2
  have HB : Hid (∀ t, t < 4 → 0 ≤ [s0, s1, s2, s3].getD t 0 ∧ [s0, s1, s2, s3].getD t 0 < 18446744073709551616) := hid (fun t ht => by
    have h4 : t = 0 ∨ t = 1 ∨ t = 2 ∨ t = 3 := by omega
    rcases h4 with rfl | rfl | rfl | rfl
    · exact h0
    · exact h1
    · exact h2
    · exact h3)
  clear hal hw h0 h1 h2 h3
  go_enter Tryd.func58, Tryd.ntmps58
  go_wp2_with fail
  go_loopw [15] (fun i wr => ∃ t : Nat, t ≤ 4 ∧ i = .int .i64 t ∧ Hid (FreshW w0 wr b room (zs ++ sumT [s0, s1, s2, s3] t, 0) A) ∧ Hid (Keeps A w wr)) (fun i _ => 4 - (intOf i).toNat)
  case atStart => exact ⟨0, by omega, rfl, HW0, HK0⟩
  case round =>
    clear HW0 HK0
    obtain ⟨t, ht, rfl, hw, hk⟩ := hrel
    by_cases hlt : t < 4
    · have hl : ((zs ++ sumT [s0, s1, s2, s3] t).length : Int) + 8 ≤ room := by rw [List.length_append, sumT_length]; omega
      have hix := ptr_at s0 s1 s2 s3 t hlt
      have hb := HB.out t hlt
      have hsu : sumT [s0, s1, s2, s3] (t + 1) = sumT [s0, s1, s2, s3] t ++ le ([s0, s1, s2, s3].getD t 0) 8 := rfl
      obtain ⟨v, hv⟩ : ∃ v, [s0, s1, s2, s3].getD t 0 = v := ⟨_, rfl⟩
      rw [hv] at hix hb hsu
      have HN := hid (num_fit w0 wr b room _ A hw.out hr1 v 8 hb.1 (by omega) (by omega) hb.2 hl)
      have HSU := hid hsu
      have t1 : (t : Int) < 4 := by omega
      clear hl hw hsu hv hb
      go_wp2_with fail
      refine HN.out.mono ?_
      rintro e w2 ⟨rfl, hw2, hk2⟩
      have HW2 := hid hw2
      have HK2 := hid (hk.out.trans hk2)
      clear hw2 hk2 hk HN
      go_wp2_with fail
      go_roundw
      case rel => exact ⟨t + 1, by omega, by go_num, hid (by have h := HW2.out; rw [List.append_assoc] at h; rw [HSU.out]; exact h), HK2⟩
      case measure => simp [intOf]; omega
    · obtain rfl : t = 4 := by omega
      clear hlt
      rw [sumT_all] at hw
      rw [show ((4 : Nat) : Int) = 4 from rfl]
      go_wp2_with fail
      go_returns
      exact ⟨rfl, hw.out, hk.out⟩
end Go.Proofs.YtdnnbinmippkdaaDoor
