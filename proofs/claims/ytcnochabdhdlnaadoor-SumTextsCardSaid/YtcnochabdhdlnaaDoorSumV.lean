/- SumTexts, walked. -/
import Derived.Test.YtcnochabdhdlnaaDoorSumU
namespace Go.Proofs.YtcnochabdhdlnaaDoor
open Go.RowKit
set_option maxRecDepth 100000

/-- What both Parses answer: one sum and one error. -/
noncomputable def PA (B : ByteArray) : S4 × Int := by
  classical exact if good B then (NS B, 0) else (Z4, 21)
theorem parse_one (B : ByteArray) (w : World) : Calls Tryd.prog 16 #[.string B] w fun e w' => e = .returned (.tuple #[.agg (PA B).1.arr, .int .i64 (PA B).2]) ∧ Frm [] w w' := by
  refine (parse_any B w).mono ?_
  rintro e w' ⟨hf, ⟨hg, rfl⟩ | ⟨hg, rfl⟩⟩
  · refine ⟨?_, hf⟩
    unfold PA
    rw [if_pos hg, (good_same hg).2]
  · refine ⟨?_, hf⟩
    unfold PA
    rw [if_neg hg]
theorem refParse_one (B : ByteArray) (w : World) : Calls Tryd.prog 17 #[.string B] w fun e w' => e = .returned (.tuple #[.agg (PA B).1.arr, .int .i64 (PA B).2]) ∧ Frm [] w w' := by
  have h : Calls Tryd.prog 17 #[.string B] w (PostRP B w) := by
    by_cases h64 : B.size = 64
    · exact refParse_any B w h64
    · exact refParse_short B w h64
  refine h.mono ?_
  rintro e w' ⟨hf, ⟨h64, heq, rfl⟩ | ⟨hne, rfl⟩⟩
  · refine ⟨?_, hf⟩
    unfold PA
    rw [if_pos (taken_good h64 heq)]
  · refine ⟨?_, hf⟩
    unfold PA
    rw [if_neg (fun hg => hne ⟨hg.1, (good_same hg).1⟩)]
theorem PA_print {s : S4} (hs : s.ok) : PA (strOfNums (hexL s)) = (s, 0) := by
  unfold PA
  rw [if_pos (print_back hs).1, (print_back hs).2]
set_option maxHeartbeats 6400000 in
theorem texts_any (s : S4) (hs : s.ok) (B : ByteArray) (w : World) (hpr : Primes w) :
    Calls Tryd.prog 4 #[.agg s.arr, .string B] w fun e w' => e = .returned (.bool true) ∧ Frm [] w w' := by
  have HPB := hid (fun W => print_any s W hs)
  have HRP := hid (fun W => refPrint_any s W hs)
  have hpk := fun W => parse_one (strOfNums (hexL s)) W
  rw [PA_print hs] at hpk
  obtain ⟨x, hx⟩ : ∃ x, PA B = x := ⟨_, rfl⟩
  obtain ⟨X, E⟩ := x
  have hp1 := fun W => parse_one B W
  have hp2 := fun W => refParse_one B W
  rw [hx] at hp1 hp2
  obtain ⟨T, hT⟩ : ∃ T, strOfNums (hexL s) = T := ⟨_, rfl⟩
  rw [hT] at HPB HRP hpk
  unfold S4.arr at HPB HRP hpk hp1 hp2 ⊢
  simp only at hpk hp1 hp2
  have HPK := hid hpk
  have HP1 := hid hp1
  have HP2 := hid hp2
  have hfa : Frm [] w (w.alloc (.cells #[.int .u64 s.a, .int .u64 s.b, .int .u64 s.c, .int .u64 s.d] 25)) := (Frm.refl _ _).alloc _
  have hrs := heap_alloc_new w (.cells #[.int .u64 s.a, .int .u64 s.b, .int .u64 s.c, .int .u64 s.d] 25)
  have HFA := hid hfa
  have HRS := hid hrs
  have HPR := hid (hpr.kept hfa)
  clear hpk hp1 hp2 hfa hrs hpr hT hx hs
  go_enter Tryd.func4, Tryd.ntmps4
  go_wp2_with fail
  refine (awake2_any _ HPR.out).mono ?_
  rintro e w1 ⟨rfl, hf1⟩
  have HF1 := hid (HFA.out.trans hf1 (by simp))
  have h1 := hf1.heap HRS.out (by simp)
  obtain ⟨bs, hbs⟩ : ∃ bs, w.heap.size = bs := ⟨_, rfl⟩
  rw [hbs] at h1 ⊢
  have H1 := hid h1
  have e0 : w1.cell? ⟨bs, 0, none⟩ = some (.int .u64 s.a) := by rw [cell_of_row w1 _ _ _ _ _ h1]; rfl
  have e1 : w1.cell? ⟨bs, 1, none⟩ = some (.int .u64 s.b) := by rw [cell_of_row w1 _ _ _ _ _ h1]; rfl
  have e2 : w1.cell? ⟨bs, 2, none⟩ = some (.int .u64 s.c) := by rw [cell_of_row w1 _ _ _ _ _ h1]; rfl
  have e3 : w1.cell? ⟨bs, 3, none⟩ = some (.int .u64 s.d) := by rw [cell_of_row w1 _ _ _ _ _ h1]; rfl
  clear h1 hf1 hbs HRS HPR
  go_wp2_with fail
  refine (HPB.out w1).mono ?_
  rintro e w2 ⟨rfl, hf2⟩
  have HF2 := hid (HF1.out.trans hf2 (by simp))
  have H2 := hid (hf2.heap H1.out (by simp))
  clear e0 e1 e2 e3 hf2
  go_wp2_with fail
  refine (HPK.out w2).mono ?_
  rintro e w3 ⟨rfl, hf3⟩
  have hfk : Frm [] w3 (w3.alloc (.cells #[.int .u64 s.a, .int .u64 s.b, .int .u64 s.c, .int .u64 s.d] 25)) := (Frm.refl _ _).alloc _
  have HF3 := hid ((HF2.out.trans hf3 (by simp)).trans hfk (by simp))
  have H3 := hid (hfk.heap (hf3.heap H2.out (by simp)) (by simp))
  have HK3 := hid (heap_alloc_new w3 (.cells #[.int .u64 s.a, .int .u64 s.b, .int .u64 s.c, .int .u64 s.d] 25))
  clear hf3 hfk
  go_wp2_with fail
  refine (HP1.out _).mono ?_
  rintro e w4 ⟨rfl, hf4⟩
  obtain ⟨bk, hbk⟩ : ∃ bk, w3.heap.size = bk := ⟨_, rfl⟩
  rw [hbk] at HK3 ⊢
  have hfx : Frm [] w4 (w4.alloc (.cells #[.int .u64 X.a, .int .u64 X.b, .int .u64 X.c, .int .u64 X.d] 25)) := (Frm.refl _ _).alloc _
  have HF4 := hid ((HF3.out.trans hf4 (by simp)).trans hfx (by simp))
  have H4 := hid (hfx.heap (hf4.heap H3.out (by simp)) (by simp))
  have HK4 := hid (hfx.heap (hf4.heap HK3.out (by simp)) (by simp))
  have HX4 := hid (heap_alloc_new w4 (.cells #[.int .u64 X.a, .int .u64 X.b, .int .u64 X.c, .int .u64 X.d] 25))
  clear hf4 hfx hbk
  go_wp2_with fail
  refine (HP2.out _).mono ?_
  rintro e w5 ⟨rfl, hf5⟩
  obtain ⟨bx, hbx⟩ : ∃ bx, w4.heap.size = bx := ⟨_, rfl⟩
  rw [hbx] at HX4 ⊢
  have HF5 := hid (HF4.out.trans hf5 (by simp))
  have h5 := hf5.heap H4.out (by simp)
  have hk5 := hf5.heap HK4.out (by simp)
  have hx5 := hf5.heap HX4.out (by simp)
  have l1 := lt_of_heap h5
  have l2 := lt_of_heap hk5
  have l3 := lt_of_heap hx5
  have H5 := hid h5
  have e0 : w5.cell? ⟨bs, 0, none⟩ = some (.int .u64 s.a) := by rw [cell_of_row w5 _ _ _ _ _ h5]; rfl
  have k0 : w5.cell? ⟨bk, 0, none⟩ = some (.int .u64 s.a) := by rw [cell_of_row w5 _ _ _ _ _ hk5]; rfl
  have x0 : w5.cell? ⟨bx, 0, none⟩ = some (.int .u64 X.a) := by rw [cell_of_row w5 _ _ _ _ _ hx5]; rfl
  have e1 : w5.cell? ⟨bs, 1, none⟩ = some (.int .u64 s.b) := by rw [cell_of_row w5 _ _ _ _ _ h5]; rfl
  have k1 : w5.cell? ⟨bk, 1, none⟩ = some (.int .u64 s.b) := by rw [cell_of_row w5 _ _ _ _ _ hk5]; rfl
  have x1 : w5.cell? ⟨bx, 1, none⟩ = some (.int .u64 X.b) := by rw [cell_of_row w5 _ _ _ _ _ hx5]; rfl
  have e2 : w5.cell? ⟨bs, 2, none⟩ = some (.int .u64 s.c) := by rw [cell_of_row w5 _ _ _ _ _ h5]; rfl
  have k2 : w5.cell? ⟨bk, 2, none⟩ = some (.int .u64 s.c) := by rw [cell_of_row w5 _ _ _ _ _ hk5]; rfl
  have x2 : w5.cell? ⟨bx, 2, none⟩ = some (.int .u64 X.c) := by rw [cell_of_row w5 _ _ _ _ _ hx5]; rfl
  have e3 : w5.cell? ⟨bs, 3, none⟩ = some (.int .u64 s.d) := by rw [cell_of_row w5 _ _ _ _ _ h5]; rfl
  have k3 : w5.cell? ⟨bk, 3, none⟩ = some (.int .u64 s.d) := by rw [cell_of_row w5 _ _ _ _ _ hk5]; rfl
  have x3 : w5.cell? ⟨bx, 3, none⟩ = some (.int .u64 X.d) := by rw [cell_of_row w5 _ _ _ _ _ hx5]; rfl
  have HK5 := hid hk5
  have HX5 := hid hx5
  clear hf5 h5 hk5 hx5 hbx
  go_wp2_with fail
  have hfy : Frm [] w5 (w5.alloc (.cells #[.int .u64 X.a, .int .u64 X.b, .int .u64 X.c, .int .u64 X.d] 25)) := (Frm.refl _ _).alloc _
  have hry := heap_alloc_new w5 (.cells #[.int .u64 X.a, .int .u64 X.b, .int .u64 X.c, .int .u64 X.d] 25)
  refine (HRP.out _).mono ?_
  rintro e w6 ⟨rfl, hf6⟩
  obtain ⟨by_, hby⟩ : ∃ by_, w5.heap.size = by_ := ⟨_, rfl⟩
  rw [hby] at hry ⊢
  have HF6 := hid ((HF5.out.trans hfy (by simp)).trans hf6 (by simp))
  have h6 := hf6.heap (hfy.heap H5.out (by simp)) (by simp)
  have hk6 := hf6.heap (hfy.heap HK5.out (by simp)) (by simp)
  have hx6 := hf6.heap (hfy.heap HX5.out (by simp)) (by simp)
  have hy6 := hf6.heap hry (by simp)
  clear e0 e1 e2 e3 k0 k1 k2 k3 x0 x1 x2 x3 l1 l2 l3
  have e0 : w6.cell? ⟨bs, 0, none⟩ = some (.int .u64 s.a) := by rw [cell_of_row w6 _ _ _ _ _ h6]; rfl
  have k0 : w6.cell? ⟨bk, 0, none⟩ = some (.int .u64 s.a) := by rw [cell_of_row w6 _ _ _ _ _ hk6]; rfl
  have x0 : w6.cell? ⟨bx, 0, none⟩ = some (.int .u64 X.a) := by rw [cell_of_row w6 _ _ _ _ _ hx6]; rfl
  have y0 : w6.cell? ⟨by_, 0, none⟩ = some (.int .u64 X.a) := by rw [cell_of_row w6 _ _ _ _ _ hy6]; rfl
  have e1 : w6.cell? ⟨bs, 1, none⟩ = some (.int .u64 s.b) := by rw [cell_of_row w6 _ _ _ _ _ h6]; rfl
  have k1 : w6.cell? ⟨bk, 1, none⟩ = some (.int .u64 s.b) := by rw [cell_of_row w6 _ _ _ _ _ hk6]; rfl
  have x1 : w6.cell? ⟨bx, 1, none⟩ = some (.int .u64 X.b) := by rw [cell_of_row w6 _ _ _ _ _ hx6]; rfl
  have y1 : w6.cell? ⟨by_, 1, none⟩ = some (.int .u64 X.b) := by rw [cell_of_row w6 _ _ _ _ _ hy6]; rfl
  have e2 : w6.cell? ⟨bs, 2, none⟩ = some (.int .u64 s.c) := by rw [cell_of_row w6 _ _ _ _ _ h6]; rfl
  have k2 : w6.cell? ⟨bk, 2, none⟩ = some (.int .u64 s.c) := by rw [cell_of_row w6 _ _ _ _ _ hk6]; rfl
  have x2 : w6.cell? ⟨bx, 2, none⟩ = some (.int .u64 X.c) := by rw [cell_of_row w6 _ _ _ _ _ hx6]; rfl
  have y2 : w6.cell? ⟨by_, 2, none⟩ = some (.int .u64 X.c) := by rw [cell_of_row w6 _ _ _ _ _ hy6]; rfl
  have e3 : w6.cell? ⟨bs, 3, none⟩ = some (.int .u64 s.d) := by rw [cell_of_row w6 _ _ _ _ _ h6]; rfl
  have k3 : w6.cell? ⟨bk, 3, none⟩ = some (.int .u64 s.d) := by rw [cell_of_row w6 _ _ _ _ _ hk6]; rfl
  have x3 : w6.cell? ⟨bx, 3, none⟩ = some (.int .u64 X.d) := by rw [cell_of_row w6 _ _ _ _ _ hx6]; rfl
  have y3 : w6.cell? ⟨by_, 3, none⟩ = some (.int .u64 X.d) := by rw [cell_of_row w6 _ _ _ _ _ hy6]; rfl
  have hTT : (T.toList == T.toList) = true := by simp
  clear h6 hk6 hx6 hy6 hf6 hfy hry hby
  go_wp2_with fail
  go_returns
  exact ⟨by first | rfl | simp, HF6.out⟩
end Go.Proofs.YtcnochabdhdlnaaDoor
