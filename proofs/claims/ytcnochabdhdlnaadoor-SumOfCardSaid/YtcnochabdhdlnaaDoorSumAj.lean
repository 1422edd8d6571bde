/- SumOf, walked. -/
import Derived.Test.YtcnochabdhdlnaaDoorSumAh
import Derived.Test.YtcnochabdhdlnaaDoorSumAi
namespace Go.Proofs.YtcnochabdhdlnaaDoor
open Go.RowKit
set_option maxRecDepth 100000

theorem S4.eqB_self (s : S4) : s.eqB s = true := by simp [S4.eqB]
set_option maxHeartbeats 6400000 in
theorem sumof_any (kind : Int) (p : Option Addr) (n c : Nat) (zs : List Int) (s : S4) (w : World) (hn : zs.length = n) (hnc : n ≤ c) (hp : zs = [] → p = none → c = 0) (hnb : n + 100 ≤ 140737488355328) (hrd : Rd w p zs) (hb : ∀ z ∈ zs, 0 ≤ z ∧ z < 256) (hpr : Primes w) (hv : Vars w) :
    Calls Tryd.prog 3 #[.int .i64 kind, .slice p n c, .agg s.arr] w fun e w' => e = .returned (.bool true) ∧ Frm [] w w' := by
  have HOF := hid (fun q d W (h1 : n ≤ d) (h2 : Rd W q zs) (h3 : Frm [] w W) => of_any kind q n d zs W hn h1 (by omega) h2 hb (hpr.kept h3))
  have HRO := hid (fun W (h3 : Frm [] w W) => refOf_any kind p n c zs W hn hp hnb (hrd.kept h3 (by simp)) hb (hv.kept h3))
  have HCK := hid (fun t q d W (h1 : n ≤ d) (h2 : Rd W q zs) (h3 : Frm [] w W) => check_any kind t q n d zs W hn h1 (by omega) h2 hb (hpr.kept h3))
  have HCB := hid (fun W (h3 : Frm [] w W) => check_any kind s p n c zs W hn hnc (by omega) (hrd.kept h3 (by simp)) hb (hpr.kept h3))
  have HRC := hid (fun W (h3 : Frm [] w W) => refCheck_any kind s p n c zs W hn hp hnb (hrd.kept h3 (by simp)) hb (hv.kept h3))
  have HLE := hid (fun W (h3 : Frm [] w W) => lent2_any p n c zs W hn hp (by omega) (hrd.kept h3 (by simp)))
  have HST := hid (fun g d W (hd : n + 2 ≤ d) (h2 : Rd W (some ⟨g, 0, none⟩) (zs ++ [77, 78])) (h3 : Frm [] w W) => still2_any g n d p c zs W hn (by omega) hd h2 (hrd.kept h3 (by simp)))
  have HAW := hid (fun W (h3 : Frm [] w W) => awake2_any W (hpr.kept h3))
  have hpre : ∀ (W : World) (g : Nat), Rd W (some ⟨g, 0, none⟩) (zs ++ [77, 78]) → Rd W (some ⟨g, 0, none⟩) zs := fun W g h => by
    have h2 := h.take n
    rwa [← hn, List.take_left] at h2
  have HPRE := hid hpre
  have hchk : chkB kind (ofS kind zs).1 zs = decide ((ofS kind zs).2 = 0) := by
    unfold chkB
    rw [S4.eqB_self, Bool.and_true]
  have HR0 : Hid (chkB kind s zs = chkB kind s zs) := hid rfl
  obtain ⟨R, hR⟩ : ∃ R, chkB kind s zs = R := ⟨_, rfl⟩
  obtain ⟨X, hX⟩ : ∃ X, ofS kind zs = X := ⟨_, rfl⟩
  rw [hX] at HOF HRO hchk
  obtain ⟨S, E⟩ := X
  simp only at HOF HRO hchk
  have HCHK := hid hchk
  have hfa : Frm [] w (w.alloc (.cells #[.int .u64 s.a, .int .u64 s.b, .int .u64 s.c, .int .u64 s.d] 25)) := (Frm.refl _ _).alloc _
  have HFA := hid hfa
  have HRS := hid (heap_alloc_new w (.cells #[.int .u64 s.a, .int .u64 s.b, .int .u64 s.c, .int .u64 s.d] 25))
  unfold S4.arr at HOF HRO HCK HCB HRC ⊢
  rw [hR] at HRC HCB
  clear hn hp hrd hb hpr hv hpre hchk hR hX hfa
  go_enter Tryd.func3, Tryd.ntmps3
  go_wp2_with fail
  refine (HAW.out _ HFA.out).mono ?_
  rintro e w1 ⟨rfl, hf1⟩
  have HF1 := hid (HFA.out.trans hf1 (by simp))
  have H1 := hid (hf1.heap HRS.out (by simp))
  obtain ⟨bs, hbs⟩ : ∃ bs, w.heap.size = bs := ⟨_, rfl⟩
  rw [hbs] at H1 ⊢
  clear hf1 hbs HRS
  go_wp2_with fail
  refine (HLE.out _ HF1.out).mono ?_
  rintro e w2 ⟨g, d, rfl, hd, ho, hf2, hg⟩
  have HD := hid hd
  have HO2 := hid ho.rd
  have HF2 := hid (HF1.out.trans hf2 (by simp))
  have H2 := hid (hf2.heap H1.out (by simp))
  clear hf2 hd ho hg
  go_wp2_with fail
  refine (HOF.out _ d _ (by have := HD.out; omega) (HPRE.out _ _ HO2.out) HF2.out).mono ?_
  rintro e w3 ⟨rfl, hf3⟩
  have hfx : Frm [] w3 (w3.alloc (.cells #[.int .u64 S.a, .int .u64 S.b, .int .u64 S.c, .int .u64 S.d] 25)) := (Frm.refl _ _).alloc _
  have hfy := hf3.trans hfx (by simp)
  have HF3 := hid (HF2.out.trans hfy (by simp))
  have H3 := hid (hfy.heap H2.out (by simp))
  have HX3 := hid (heap_alloc_new w3 (.cells #[.int .u64 S.a, .int .u64 S.b, .int .u64 S.c, .int .u64 S.d] 25))
  have HO3 := hid (HO2.out.kept hfy (by simp))
  clear hf3 hfx hfy
  go_wp2_with fail
  refine (HRO.out _ HF3.out).mono ?_
  rintro e w4 ⟨rfl, hf4⟩
  obtain ⟨bx, hbx⟩ : ∃ bx, w3.heap.size = bx := ⟨_, rfl⟩
  rw [hbx] at HX3 ⊢
  have hfx : Frm [] w4 (w4.alloc (.cells #[.int .u64 S.a, .int .u64 S.b, .int .u64 S.c, .int .u64 S.d] 25)) := (Frm.refl _ _).alloc _
  have hfy := hf4.trans hfx (by simp)
  have HF4 := hid (HF3.out.trans hfy (by simp))
  have H4 := hid (hfy.heap H3.out (by simp))
  have HX4 := hid (hfy.heap HX3.out (by simp))
  have HY4 := hid (heap_alloc_new w4 (.cells #[.int .u64 S.a, .int .u64 S.b, .int .u64 S.c, .int .u64 S.d] 25))
  have HO4 := hid (HO3.out.kept hfy (by simp))
  clear hf4 hfx hfy hbx
  go_wp2_with fail
  refine (HST.out g d _ HD.out HO4.out HF4.out).mono ?_
  rintro e w5 ⟨rfl, hf5⟩
  obtain ⟨by_, hby⟩ : ∃ by_, w4.heap.size = by_ := ⟨_, rfl⟩
  rw [hby] at HY4 ⊢
  have HF5 := hid (HF4.out.trans hf5 (by simp))
  have h5 := hf5.heap H4.out (by simp)
  have H5 := hid h5
  have HX5 := hid (hf5.heap HX4.out (by simp))
  have HY5 := hid (hf5.heap HY4.out (by simp))
  have HO5 := hid (HO4.out.kept hf5 (by simp))
  have e0 : w5.cell? ⟨bs, 0, none⟩ = some (.int .u64 s.a) := by rw [cell_of_row w5 _ _ _ _ _ h5]; rfl
  have e1 : w5.cell? ⟨bs, 1, none⟩ = some (.int .u64 s.b) := by rw [cell_of_row w5 _ _ _ _ _ h5]; rfl
  have e2 : w5.cell? ⟨bs, 2, none⟩ = some (.int .u64 s.c) := by rw [cell_of_row w5 _ _ _ _ _ h5]; rfl
  have e3 : w5.cell? ⟨bs, 3, none⟩ = some (.int .u64 s.d) := by rw [cell_of_row w5 _ _ _ _ _ h5]; rfl
  clear hf5 h5 hby
  go_wp2_with fail
  refine (HRC.out _ HF5.out).mono ?_
  rintro e w6 ⟨rfl, hf6⟩
  have HF6 := hid (HF5.out.trans hf6 (by simp))
  have H6 := hid (hf6.heap H5.out (by simp))
  have hx6 := hf6.heap HX5.out (by simp)
  have HX6 := hid hx6
  have HY6 := hid (hf6.heap HY5.out (by simp))
  have HO6 := hid (HO5.out.kept hf6 (by simp))
  clear e0 e1 e2 e3
  have e0 : w6.cell? ⟨bx, 0, none⟩ = some (.int .u64 S.a) := by rw [cell_of_row w6 _ _ _ _ _ hx6]; rfl
  have e1 : w6.cell? ⟨bx, 1, none⟩ = some (.int .u64 S.b) := by rw [cell_of_row w6 _ _ _ _ _ hx6]; rfl
  have e2 : w6.cell? ⟨bx, 2, none⟩ = some (.int .u64 S.c) := by rw [cell_of_row w6 _ _ _ _ _ hx6]; rfl
  have e3 : w6.cell? ⟨bx, 3, none⟩ = some (.int .u64 S.d) := by rw [cell_of_row w6 _ _ _ _ _ hx6]; rfl
  clear hf6 hx6
  go_wp2_with fail
  refine (HCK.out S _ d _ (by have := HD.out; omega) (HPRE.out _ _ HO6.out) HF6.out).mono ?_
  rintro e w7 ⟨rfl, hf7⟩
  rw [HCHK.out]
  have HF7 := hid (HF6.out.trans hf7 (by simp))
  have h7 := hf7.heap H6.out (by simp)
  have hx7 := hf7.heap HX6.out (by simp)
  have hy7 := hf7.heap HY6.out (by simp)
  have HO7 := hid (HO6.out.kept hf7 (by simp))
  clear e0 e1 e2 e3
  have l1 := lt_of_heap h7
  have l2 := lt_of_heap hx7
  have l3 := lt_of_heap hy7
  have e0 : w7.cell? ⟨bs, 0, none⟩ = some (.int .u64 s.a) := by rw [cell_of_row w7 _ _ _ _ _ h7]; rfl
  have e1 : w7.cell? ⟨bs, 1, none⟩ = some (.int .u64 s.b) := by rw [cell_of_row w7 _ _ _ _ _ h7]; rfl
  have e2 : w7.cell? ⟨bs, 2, none⟩ = some (.int .u64 s.c) := by rw [cell_of_row w7 _ _ _ _ _ h7]; rfl
  have e3 : w7.cell? ⟨bs, 3, none⟩ = some (.int .u64 s.d) := by rw [cell_of_row w7 _ _ _ _ _ h7]; rfl
  have x0 : w7.cell? ⟨bx, 0, none⟩ = some (.int .u64 S.a) := by rw [cell_of_row w7 _ _ _ _ _ hx7]; rfl
  have x1 : w7.cell? ⟨bx, 1, none⟩ = some (.int .u64 S.b) := by rw [cell_of_row w7 _ _ _ _ _ hx7]; rfl
  have x2 : w7.cell? ⟨bx, 2, none⟩ = some (.int .u64 S.c) := by rw [cell_of_row w7 _ _ _ _ _ hx7]; rfl
  have x3 : w7.cell? ⟨bx, 3, none⟩ = some (.int .u64 S.d) := by rw [cell_of_row w7 _ _ _ _ _ hx7]; rfl
  have y0 : w7.cell? ⟨by_, 0, none⟩ = some (.int .u64 S.a) := by rw [cell_of_row w7 _ _ _ _ _ hy7]; rfl
  have y1 : w7.cell? ⟨by_, 1, none⟩ = some (.int .u64 S.b) := by rw [cell_of_row w7 _ _ _ _ _ hy7]; rfl
  have y2 : w7.cell? ⟨by_, 2, none⟩ = some (.int .u64 S.c) := by rw [cell_of_row w7 _ _ _ _ _ hy7]; rfl
  have y3 : w7.cell? ⟨by_, 3, none⟩ = some (.int .u64 S.d) := by rw [cell_of_row w7 _ _ _ _ _ hy7]; rfl
  clear hf7 h7 hx7 hy7
  by_cases hE : E = 0
  · subst hE
    have hdt : decide ((0 : Int) = 0) = true := by decide
    rw [hdt]
    go_wp2_with fail
    refine (HCB.out _ HF7.out).mono ?_
    rintro e w8 ⟨rfl, hf8⟩
    have HF8 := hid (HF7.out.trans hf8 (by simp))
    clear hf8
    go_wp2_with fail
    go_returns
    exact ⟨by first | rfl | simp, HF8.out⟩
  · have hdt : decide (E = 0) = false := by simpa using hE
    rw [hdt]
    have hEb : (E == 0) = false := by simpa using hE
    go_wp2_with fail
    refine (HCB.out _ HF7.out).mono ?_
    rintro e w8 ⟨rfl, hf8⟩
    have HF8 := hid (HF7.out.trans hf8 (by simp))
    clear hf8
    go_wp2_with fail
    go_returns
    exact ⟨by first | rfl | simp, HF8.out⟩
end Go.Proofs.YtcnochabdhdlnaaDoor
