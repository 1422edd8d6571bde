/- Contracts of package ptr: a pointer's form. -/
import Derived.Test.YtdnnbinmippkdaaDoorPtrB
namespace Go.Proofs.YtdnnbinmippkdaaDoor
open Go.RowKit
set_option maxRecDepth 100000

/-- What a pointer's numbers must be to be laid down. -/
structure P9.fits (p : P9) : Prop where
  top : 0 ≤ p.top ∧ p.top < 256
  at_ : 0 ≤ p.at_ ∧ p.at_ < 4294967296
  bytes : 0 ≤ p.bytes ∧ p.bytes < 65536
  birth : 0 ≤ p.birth ∧ p.birth < 18446744073709551616
  kind : 0 ≤ p.kind ∧ p.kind < 256
  sa : 0 ≤ p.sa ∧ p.sa < 18446744073709551616
  sb : 0 ≤ p.sb ∧ p.sb < 18446744073709551616
  sc : 0 ≤ p.sc ∧ p.sc < 18446744073709551616
  sd : 0 ≤ p.sd ∧ p.sd < 18446744073709551616
/-- A pointer's 48 bytes. -/
def bodyP (p : P9) : List Int := le p.top 1 ++ le p.kind 1 ++ le p.bytes 2 ++ le p.at_ 4 ++ le p.birth 8 ++ sumL p.sa p.sb p.sc p.sd
theorem bodyP_length (p : P9) : (bodyP p).length = 48 := by simp [bodyP, le_length, sumL_length]
set_option maxHeartbeats 1600000 in
theorem putPtr_any (w0 w : World) (b : Nat) (room : Int) (zs : List Int) (A : List Nat) (hw : FreshW w0 w b room (zs, 0) A) (hr1 : room ≤ 2147483647) (p : P9) (hp : p.fits) (hz : (zs.length : Int) + 48 ≤ room) :
    Calls Tryd.prog 31 #[.pointer (some ⟨b, 0, none⟩), .agg p.arr] w fun e w' => e = .returned (.tuple #[]) ∧ FreshW w0 w' b room (zs ++ bodyP p, 0) A ∧ Keeps A w w' := by
  obtain ⟨a0, a1, a2, a3, a4, a5, a6, a7, a8⟩ := p
  obtain ⟨⟨t0, t1⟩, ⟨u0, u1⟩, ⟨v0, v1⟩, ⟨x0, x1⟩, ⟨y0, y1⟩, sa, sb, sc, sd⟩ := hp
  simp only at t0 t1 u0 u1 v0 v1 x0 x1 y0 y1 sa sb sc sd
  have hal := hw.alloc (.cells #[.int .i64 a0, .int .i64 a1, .int .i64 a2, .int .u64 a3, .int .i64 a4, .int .u64 a5, .int .u64 a6, .int .u64 a7, .int .u64 a8] 26)
  have hrow := heap_alloc_new w (.cells #[.int .i64 a0, .int .i64 a1, .int .i64 a2, .int .u64 a3, .int .i64 a4, .int .u64 a5, .int .u64 a6, .int .u64 a7, .int .u64 a8] 26)
  have HW0 := hid hal.1
  have HK0 := hid hal.2
  have HROW := hid hrow
  have HS := hid (And.intro sa (And.intro sb (And.intro sc sd)))
  have c0 : IntKind.u64.wrap a0 = a0 := IntWalk.u64_in _ (by omega)
  have c1 : IntKind.u64.wrap a4 = a4 := IntWalk.u64_in _ (by omega)
  have c2 : IntKind.u64.wrap a2 = a2 := IntWalk.u64_in _ (by omega)
  have c3 : IntKind.u64.wrap a1 = a1 := IntWalk.u64_in _ (by omega)
  unfold P9.arr
  clear hal hrow hw sa sb sc sd
  go_enter Tryd.func31, Tryd.ntmps31
  go_wp2_with fail
  obtain ⟨pb, hpb⟩ : ∃ pb, w.heap.size = pb := ⟨_, rfl⟩
  obtain ⟨w1, hw1⟩ : ∃ w1, w.alloc (.cells #[.int .i64 a0, .int .i64 a1, .int .i64 a2, .int .u64 a3, .int .i64 a4, .int .u64 a5, .int .u64 a6, .int .u64 a7, .int .u64 a8] 26) = w1 := ⟨_, rfl⟩
  rw [hpb, hw1] at HROW HW0
  rw [hw1] at HK0
  rw [hpb, hw1]
  clear hpb hw1
  refine (num_fit w0 w1 b room zs _ HW0.out hr1 a0 1 t0 (by omega) (by omega) t1 (by omega)).mono ?_
  rintro e w2 ⟨rfl, hw2, hk2⟩
  have HW2 := hid hw2
  have HK2 := hid hk2
  have h2 := (hk2 pb (by simp)).trans HROW.out
  have H2 := hid h2
  have k1 : w2.cell? ⟨pb, 4, none⟩ = some (.int .i64 a4) := by rw [cell_of_row w2 _ _ _ _ _ h2]; rfl
  clear hw2 hk2 h2 HW0
  go_wp2_with fail
  refine (num_fit w0 w2 b room _ _ HW2.out hr1 a4 1 y0 (by omega) (by omega) y1 (by simp only [List.length_append, le_length]; omega)).mono ?_
  rintro e w3 ⟨rfl, hw3, hk3⟩
  have HW3 := hid hw3
  have HK3 := hid (HK2.out.trans hk3)
  have h3 := (hk3 pb (by simp)).trans H2.out
  have H3 := hid h3
  have k2 : w3.cell? ⟨pb, 2, none⟩ = some (.int .i64 a2) := by rw [cell_of_row w3 _ _ _ _ _ h3]; rfl
  clear hw3 hk3 h3 HW2 H2 k1
  go_wp2_with fail
  refine (num_fit w0 w3 b room _ _ HW3.out hr1 a2 2 v0 (by omega) (by omega) v1 (by simp only [List.length_append, le_length]; omega)).mono ?_
  rintro e w4 ⟨rfl, hw4, hk4⟩
  have HW4 := hid hw4
  have HK4 := hid (HK3.out.trans hk4)
  have h4 := (hk4 pb (by simp)).trans H3.out
  have H4 := hid h4
  have k3 : w4.cell? ⟨pb, 1, none⟩ = some (.int .i64 a1) := by rw [cell_of_row w4 _ _ _ _ _ h4]; rfl
  clear hw4 hk4 h4 HW3 H3 k2
  go_wp2_with fail
  refine (num_fit w0 w4 b room _ _ HW4.out hr1 a1 4 u0 (by omega) (by omega) u1 (by simp only [List.length_append, le_length]; omega)).mono ?_
  rintro e w5 ⟨rfl, hw5, hk5⟩
  have HW5 := hid hw5
  have HK5 := hid (HK4.out.trans hk5)
  have h5 := (hk5 pb (by simp)).trans H4.out
  have H5 := hid h5
  have k4 : w5.cell? ⟨pb, 3, none⟩ = some (.int .u64 a3) := by rw [cell_of_row w5 _ _ _ _ _ h5]; rfl
  clear hw5 hk5 h5 HW4 H4 k3
  go_wp2_with fail
  refine (num_fit w0 w5 b room _ _ HW5.out hr1 a3 8 x0 (by omega) (by omega) x1 (by simp only [List.length_append, le_length]; omega)).mono ?_
  rintro e w6 ⟨rfl, hw6, hk6⟩
  have HW6 := hid hw6
  have HK6 := hid (HK5.out.trans hk6)
  have h6 := (hk6 pb (by simp)).trans H5.out
  have q5 : w6.cell? ⟨pb, 5, none⟩ = some (.int .u64 a5) := by rw [cell_of_row w6 _ _ _ _ _ h6]; rfl
  have q6 : w6.cell? ⟨pb, 6, none⟩ = some (.int .u64 a6) := by rw [cell_of_row w6 _ _ _ _ _ h6]; rfl
  have q7 : w6.cell? ⟨pb, 7, none⟩ = some (.int .u64 a7) := by rw [cell_of_row w6 _ _ _ _ _ h6]; rfl
  have q8 : w6.cell? ⟨pb, 8, none⟩ = some (.int .u64 a8) := by rw [cell_of_row w6 _ _ _ _ _ h6]; rfl
  clear hw6 hk6 h6 HW5 H5 k4
  go_wp2_with fail
  refine (putSum_any w0 w6 b room _ _ HW6.out hr1 a5 a6 a7 a8 HS.out.1 HS.out.2.1 HS.out.2.2.1 HS.out.2.2.2 (by simp only [List.length_append, le_length]; omega)).mono ?_
  rintro e w7 ⟨rfl, hw7, hk7⟩
  have HW7 : Hid (FreshW w0 w7 b room (zs ++ bodyP ⟨a0, a1, a2, a3, a4, a5, a6, a7, a8⟩, 0) A) := hid (by
    have h := hw7.less (B := A) (fun k hk => List.mem_cons_of_mem _ hk)
    unfold bodyP
    simpa only [List.append_assoc] using h)
  have HK7 : Hid (Keeps A w w7) := hid (HK0.out.trans ((HK6.out.trans hk7).less (fun k hk => List.mem_cons_of_mem _ hk)))
  clear hw7 hk7 HW6 q5 q6 q7 q8
  go_wp2_with fail
  go_returns
  exact ⟨rfl, HW7.out, HK7.out⟩
/-- A pointer's form. -/
def ptrB (p : P9) : List Int := bodyP p ++ List.replicate 16 0
theorem ptrB_length (p : P9) : (ptrB p).length = 64 := by simp [ptrB, bodyP_length]
theorem pad_fit (w0 w : World) (b : Nat) (room : Int) (zs : List Int) (A : List Nat) (hw : FreshW w0 w b room (zs, 0) A) (hr1 : room ≤ 2147483647) (to k : Nat) (hk : zs.length + k = to) (hz : (to : Int) ≤ room) :
    Calls Tryd.prog 55 #[.pointer (some ⟨b, 0, none⟩), .int .i64 (to : Int)] w fun e w' => e = .returned (.tuple #[]) ∧ FreshW w0 w' b room (zs ++ List.replicate k 0, 0) A ∧ Keeps A w w' := by
  have h := padF_any w0 w b room (zs, 0) A hw (by omega) hr1 (by simp only; omega) (to : Int)
  have e : stepW room (zs, 0) (padF room zs.length (to : Int)) = (zs ++ List.replicate k 0, 0) := by
    unfold padF
    rw [if_neg (by omega), if_neg (by omega), show ((to : Int) - (zs.length : Int)).toNat = k by omega]
    unfold stepW
    simp only [ne_eq, not_true, if_false, List.length_replicate]
    rw [if_neg (by omega)]
  rw [e] at h
  exact h
end Go.Proofs.YtdnnbinmippkdaaDoor
