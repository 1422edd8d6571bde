/- Records, the document's side: numbers that rise. -/
import Derived.Test.YtajfjkfnmmfhmaaGreatDoorQcac
import Derived.Test.YtajfjkfnmmfhmaaGreatDoorQcab
import Derived.Test.YtajfjkfnmmfhmaaGreatDoorQcad
namespace Go.Proofs.YtajfjkfnmmfhmaaGreatDoor
set_option maxRecDepth 100000
set_option maxHeartbeats 25600000
section
open Go.RowKit Go.Lib
theorem refRising_any (p : Option Addr) (n c : Nat) (K : List Int) (lo hi : Int) (w : World) (hn : K.length = n) (hn9 : n ≤ 9223372036854775807) (hr : RdI w p K) :
  Calls Tryz.prog 34 #[.slice p n c, .int .i64 lo, .int .i64 hi] w fun e w' => e = .returned (.bool (decide (RiseL K lo hi ∧ n ≤ 240))) ∧ Frm [] w w' := by
 obtain ⟨PO, hPO⟩ : ∃ PO : Ending → World → Prop, (fun e w' => e = .returned (.bool (decide (RiseL K lo hi ∧ n ≤ 240))) ∧ Frm [] w w') = PO := ⟨_, rfl⟩
 rw [hPO]
 have HP : Hid (∀ x w', (x = true ↔ (RiseL K lo hi ∧ n ≤ 240)) → Frm [] w w' → PO (.returned (.bool x)) w') := hid (fun x w' h hf => by rw [← hPO]; exact ⟨by rw [bool_decR h], hf⟩)
 have HR := hid (fun W (hf : Frm [] w W) => hr.kept hf (by simp))
 have HN := hid hn
 clear hPO hr hn
 go_enter Tryz.func34, Tryz.ntmps34
 go_wp2_with fail
 go_loopw [6, 7] (fun r i wr => ∃ t : Nat, t ≤ n ∧ r = .bool false ∧ i = .int .i64 (t : Int) ∧ Hid (∀ j, j < t → (lo ≤ zA K j ∧ zA K j ≤ hi) ∧ (0 < j → zA K (j - 1) < zA K j)) ∧ Hid (Frm [] w wr)) (fun _ i _ => n - (intOf i).toNat)
 case atStart => exact ⟨0, Nat.zero_le _, rfl, rfl, hid (fun j hj => by omega), hid (Frm.refl _ _)⟩
 case round =>
  obtain ⟨t, ht, rfl, rfl, hok, hf⟩ := hrel
  have HOK := hid hok.out
  have HF := hid hf.out
  clear hok hf
  by_cases hlt : t < n
  case neg =>
   obtain rfl : t = n := by omega
   have HRI : Hid (RiseL K lo hi) := hid (fun i hi => HOK.out i (by rw [← HN.out]; exact hi))
   by_cases h2 : t ≤ 240
   ·have i2 : (t : Int) ≤ 240 := by omega
    have HX := hid (HP.out true wr (by simp only [true_iff]; exact ⟨HRI.out, h2⟩) HF.out)
    clear h2
    go_wp2_with fail
    try go_returns
    exact HX.out
   ·have i2 : ¬ (t : Int) ≤ 240 := by omega
    have HX := hid (HP.out false wr (by simp; intro _; omega) HF.out)
    clear h2
    go_wp2_with fail
    try go_returns
    exact HX.out
  have t1 : (t : Int) < (n : Int) := by omega
  obtain ⟨g, o, rfl, hc⟩ := (HR.out wr HF.out).at (i := t) (by rw [HN.out]; exact hlt)
  have z0 := hc t (by rw [HN.out]; exact hlt)
  have HBD : Hid (RiseL K lo hi → (lo ≤ zA K t ∧ zA K t ≤ hi) ∧ (0 < t → zA K (t - 1) < zA K t)) := hid (fun h => h t (by rw [HN.out]; exact hlt))
  have HNX : Hid ((lo ≤ zA K t ∧ zA K t ≤ hi) ∧ (0 < t → zA K (t - 1) < zA K t) → ∀ j, j < t + 1 → (lo ≤ zA K j ∧ zA K j ≤ hi) ∧ (0 < j → zA K (j - 1) < zA K j)) := hid (fun h j hj => by
   by_cases hj2 : j < t
   ·exact HOK.out j hj2
   ·obtain rfl : j = t := by omega
    exact h)
  have HNO : Hid (¬ RiseL K lo hi → ∀ W, Frm [] w W → PO (.returned (.bool false)) W) := hid (fun h W hf => HP.out false W (by simp; exact fun h2 => absurd h2 h) hf)
  by_cases h0 : t = 0
  case pos =>
   subst h0
   have HK2 : Hid ((lo ≤ zA K 0 ∧ zA K 0 ≤ hi) → ∀ j, j < 0 + 1 → (lo ≤ zA K j ∧ zA K j ≤ hi) ∧ (0 < j → zA K (j - 1) < zA K j)) := hid (fun h => HNX.out ⟨h, fun h => by omega⟩)
   obtain ⟨x, hx⟩ := eX (zA K 0)
   have HX := hid hx
   rw [hx] at z0
   have z7 : wr.cell? ⟨g, o, none⟩ = some (.int .i64 x) := by simpa using z0
   have z8 : wr.drew.cell? ⟨g, o, none⟩ = some (.int .i64 x) := z7
   have n0 : 0 < n := by omega
   clear hc HNX hx
   by_cases l1 : x < lo
   ·have HK : Hid (¬ RiseL K lo hi) := hid (fun h => by have := (HBD.out h).1; rw [HX.out] at this; omega)
    go_wp2_with fail
    refine wp_region_tail (S := fun W => (W.cell? ⟨g, o, none⟩ = some (.int .i64 x))) 29 30 rfl (by kernel_rfl) (by kernel_rfl) ?_
    refine hI (i := 0) (v := ?_) rfl ?_ z8 ?_
    rotate_left 1
    ·rintro W zz; (try simp only [lA, lZ]); go_simp; try with_reducible rfl
    try simp only [lA, lZ, Act.put, lI, lW, lX]
    refine hI (i := 1) (v := ?_) rfl ?_ z8 ?_
    rotate_left 1
    ·rintro W zz; (try simp only [lA, lS, lZ]); go_simp; try with_reducible rfl
    try simp only [lA, lS, lZ, Act.put, lI, lW, lX]
    refine hI (i := 2) (v := ?_) rfl ?_ z8 ?_
    rotate_left 1
    ·rintro W zz; (try simp only [lA, lS, lZ]); go_simp; try with_reducible rfl
    try simp only [lA, lS, lZ, Act.put, lI, lW, lX]
    refine hI (i := 3) (v := ?_) rfl ?_ z8 ?_
    rotate_left 1
    ·rintro W zz; (try simp only [lA, lS, lZ]); go_simp; try with_reducible rfl
    try simp only [lA, lS, lZ, Act.put, lI, lW, lX]
    refine hI (i := 4) (v := ?_) rfl ?_ z8 ?_
    rotate_left 1
    ·rintro W zz; (try simp only [lA, lS, lZ]); go_simp; try with_reducible rfl
    try simp only [lA, lS, lZ, Act.put, lI, lW, lX]
    refine hI (i := 5) (v := ?_) rfl ?_ z8 ?_
    rotate_left 1
    ·rintro W zz; (try simp only [lA, lS, lZ]); go_simp; try with_reducible rfl
    try simp only [lA, lS, lZ, Act.put, lI, lW, lX]
    refine hI (i := 6) (v := ?_) rfl ?_ z8 ?_
    rotate_left 1
    ·rintro W zz; (try simp only [lA, lS, lZ]); go_simp; try with_reducible rfl
    try simp only [lA, lS, lZ, Act.put, lI, lW, lX]
    refine hU (i := 7) rfl z8 ?_
    try simp only [lA, lS, lZ, Act.put, lI, lW, lX]
    refine hU (i := 8) rfl z8 ?_
    try simp only [lA, lS, lZ, Act.put, lI, lW, lX]
    refine hU (i := 9) rfl z8 ?_
    try simp only [lA, lS, lZ, Act.put, lI, lW, lX]
    refine hU (i := 10) rfl z8 ?_
    try simp only [lA, lS, lZ, Act.put, lI, lW, lX]
    refine hU (i := 11) rfl z8 ?_
    try simp only [lA, lS, lZ, Act.put, lI, lW, lX]
    refine hU (i := 12) rfl z8 ?_
    try simp only [lA, lS, lZ, Act.put, lI, lW, lX]
    refine hI (i := 13) (v := ?_) rfl ?_ z8 ?_
    rotate_left 1
    ·rintro W zz; (try simp only [lA, lS, lZ]); go_simp; try with_reducible rfl
    try simp only [lA, lS, lZ, Act.put, lI, lW, lX]
    refine hI (i := 14) (v := ?_) rfl ?_ z8 ?_
    rotate_left 1
    ·rintro W zz; (try simp only [lA, lS, lZ]); go_simp; try with_reducible rfl
    try simp only [lA, lS, lZ, Act.put, lI, lW, lX]
    refine hU (i := 15) rfl z8 ?_
    try simp only [lA, lS, lZ, Act.put, lI, lW, lX]
    refine hU (i := 16) rfl z8 ?_
    try simp only [lA, lS, lZ, Act.put, lI, lW, lX]
    refine hU (i := 17) rfl z8 ?_
    try simp only [lA, lS, lZ, Act.put, lI, lW, lX]
    refine hU (i := 18) rfl z8 ?_
    try simp only [lA, lS, lZ, Act.put, lI, lW, lX]
    refine hU (i := 19) rfl z8 ?_
    try simp only [lA, lS, lZ, Act.put, lI, lW, lX]
    refine hU (i := 20) rfl z8 ?_
    try simp only [lA, lS, lZ, Act.put, lI, lW, lX]
    refine hU (i := 21) rfl z8 ?_
    try simp only [lA, lS, lZ, Act.put, lI, lW, lX]
    refine hU (i := 22) rfl z8 ?_
    try simp only [lA, lS, lZ, Act.put, lI, lW, lX]
    refine hU (i := 23) rfl z8 ?_
    try simp only [lA, lS, lZ, Act.put, lI, lW, lX]
    refine hU (i := 24) rfl z8 ?_
    try simp only [lA, lS, lZ, Act.put, lI, lW, lX]
    refine hU (i := 25) rfl z8 ?_
    try simp only [lA, lS, lZ, Act.put, lI, lW, lX]
    refine hU (i := 26) rfl z8 ?_
    try simp only [lA, lS, lZ, Act.put, lI, lW, lX]
    refine hU (i := 27) rfl z8 ?_
    try simp only [lA, lS, lZ, Act.put, lI, lW, lX]
    refine hU (i := 28) rfl z8 ?_
    try simp only [lA, lS, lZ, Act.put, lI, lW, lX]
    refine wpAnyHT_end (by kernel_rfl) ?_
    simp only [List.drop_succ_cons, List.drop_zero]
    go_wp2_with fail
    try go_returns
    exact HNO.out HK.out _ HF.out.drew
   have d1 : decide (x < lo) = false := decide_eq_false l1
   have e1 : lo ≤ x := by omega
   by_cases l2 : hi < x
   ·have HK : Hid (¬ RiseL K lo hi) := hid (fun h => by have := (HBD.out h).1; rw [HX.out] at this; omega)
    go_wp2_with fail
    refine wp_region_tail (S := fun W => (W.cell? ⟨g, o, none⟩ = some (.int .i64 x))) 29 30 rfl (by kernel_rfl) (by kernel_rfl) ?_
    refine hI (i := 0) (v := ?_) rfl ?_ z8 ?_
    rotate_left 1
    ·rintro W zz; (try simp only [lA, lZ]); go_simp; try with_reducible rfl
    try simp only [lA, lZ, Act.put, lI, lW, lX]
    refine hI (i := 1) (v := ?_) rfl ?_ z8 ?_
    rotate_left 1
    ·rintro W zz; (try simp only [lA, lS, lZ]); go_simp; try with_reducible rfl
    try simp only [lA, lS, lZ, Act.put, lI, lW, lX]
    refine hI (i := 2) (v := ?_) rfl ?_ z8 ?_
    rotate_left 1
    ·rintro W zz; (try simp only [lA, lS, lZ]); go_simp; try with_reducible rfl
    try simp only [lA, lS, lZ, Act.put, lI, lW, lX]
    refine hI (i := 3) (v := ?_) rfl ?_ z8 ?_
    rotate_left 1
    ·rintro W zz; (try simp only [lA, lS, lZ]); go_simp; try with_reducible rfl
    try simp only [lA, lS, lZ, Act.put, lI, lW, lX]
    refine hI (i := 4) (v := ?_) rfl ?_ z8 ?_
    rotate_left 1
    ·rintro W zz; (try simp only [lA, lS, lZ]); go_simp; try with_reducible rfl
    try simp only [lA, lS, lZ, Act.put, lI, lW, lX]
    refine hI (i := 5) (v := ?_) rfl ?_ z8 ?_
    rotate_left 1
    ·rintro W zz; (try simp only [lA, lS, lZ]); go_simp; try with_reducible rfl
    try simp only [lA, lS, lZ, Act.put, lI, lW, lX]
    refine hI (i := 6) (v := ?_) rfl ?_ z8 ?_
    rotate_left 1
    ·rintro W zz; (try simp only [lA, lS, lZ]); go_simp; try with_reducible rfl
    try simp only [lA, lS, lZ, Act.put, lI, lW, lX]
    refine hI (i := 7) (v := ?_) rfl ?_ z8 ?_
    rotate_left 1
    ·rintro W zz; (try simp only [lA, lS, lZ]); go_simp; try with_reducible rfl
    try simp only [lA, lS, lZ, Act.put, lI, lW, lX]
    refine hI (i := 8) (v := ?_) rfl ?_ z8 ?_
    rotate_left 1
    ·rintro W zz; (try simp only [lA, lS, lZ]); go_simp; try with_reducible rfl
    try simp only [lA, lS, lZ, Act.put, lI, lW, lX]
    refine hI (i := 9) (v := ?_) rfl ?_ z8 ?_
    rotate_left 1
    ·rintro W zz; (try simp only [lA, lS, lZ]); go_simp; try with_reducible rfl
    try simp only [lA, lS, lZ, Act.put, lI, lW, lX]
    refine hI (i := 10) (v := ?_) rfl ?_ z8 ?_
    rotate_left 1
    ·rintro W zz; (try simp only [lA, lS, lZ]); go_simp; try with_reducible rfl
    try simp only [lA, lS, lZ, Act.put, lI, lW, lX]
    refine hI (i := 11) (v := ?_) rfl ?_ z8 ?_
    rotate_left 1
    ·rintro W zz; (try simp only [lA, lS, lZ]); go_simp; try with_reducible rfl
    try simp only [lA, lS, lZ, Act.put, lI, lW, lX]
    refine hI (i := 12) (v := ?_) rfl ?_ z8 ?_
    rotate_left 1
    ·rintro W zz; (try simp only [lA, lS, lZ]); go_simp; try with_reducible rfl
    try simp only [lA, lS, lZ, Act.put, lI, lW, lX]
    refine hI (i := 13) (v := ?_) rfl ?_ z8 ?_
    rotate_left 1
    ·rintro W zz; (try simp only [lA, lS, lZ]); go_simp; try with_reducible rfl
    try simp only [lA, lS, lZ, Act.put, lI, lW, lX]
    refine hI (i := 14) (v := ?_) rfl ?_ z8 ?_
    rotate_left 1
    ·rintro W zz; (try simp only [lA, lS, lZ]); go_simp; try with_reducible rfl
    try simp only [lA, lS, lZ, Act.put, lI, lW, lX]
    refine hU (i := 15) rfl z8 ?_
    try simp only [lA, lS, lZ, Act.put, lI, lW, lX]
    refine hU (i := 16) rfl z8 ?_
    try simp only [lA, lS, lZ, Act.put, lI, lW, lX]
    refine hU (i := 17) rfl z8 ?_
    try simp only [lA, lS, lZ, Act.put, lI, lW, lX]
    refine hU (i := 18) rfl z8 ?_
    try simp only [lA, lS, lZ, Act.put, lI, lW, lX]
    refine hU (i := 19) rfl z8 ?_
    try simp only [lA, lS, lZ, Act.put, lI, lW, lX]
    refine hU (i := 20) rfl z8 ?_
    try simp only [lA, lS, lZ, Act.put, lI, lW, lX]
    refine hU (i := 21) rfl z8 ?_
    try simp only [lA, lS, lZ, Act.put, lI, lW, lX]
    refine hU (i := 22) rfl z8 ?_
    try simp only [lA, lS, lZ, Act.put, lI, lW, lX]
    refine hU (i := 23) rfl z8 ?_
    try simp only [lA, lS, lZ, Act.put, lI, lW, lX]
    refine hU (i := 24) rfl z8 ?_
    try simp only [lA, lS, lZ, Act.put, lI, lW, lX]
    refine hU (i := 25) rfl z8 ?_
    try simp only [lA, lS, lZ, Act.put, lI, lW, lX]
    refine hU (i := 26) rfl z8 ?_
    try simp only [lA, lS, lZ, Act.put, lI, lW, lX]
    refine hU (i := 27) rfl z8 ?_
    try simp only [lA, lS, lZ, Act.put, lI, lW, lX]
    refine hU (i := 28) rfl z8 ?_
    try simp only [lA, lS, lZ, Act.put, lI, lW, lX]
    refine wpAnyHT_end (by kernel_rfl) ?_
    simp only [List.drop_succ_cons, List.drop_zero]
    go_wp2_with fail
    try go_returns
    exact HNO.out HK.out _ HF.out.drew
   have d2 : decide (hi < x) = false := decide_eq_false l2
   have e2 : x ≤ hi := by omega
   have HK := hid (HK2.out (by rw [HX.out]; omega))
   go_wp2_with fail
   refine wp_region_tail (S := fun W => (W.cell? ⟨g, o, none⟩ = some (.int .i64 x))) 29 30 rfl (by kernel_rfl) (by kernel_rfl) ?_
   refine hI (i := 0) (v := ?_) rfl ?_ z8 ?_
   rotate_left 1
   ·rintro W zz; (try simp only [lA, lZ]); go_simp; try with_reducible rfl
   try simp only [lA, lZ, Act.put, lI, lW, lX]
   refine hI (i := 1) (v := ?_) rfl ?_ z8 ?_
   rotate_left 1
   ·rintro W zz; (try simp only [lA, lS, lZ]); go_simp; try with_reducible rfl
   try simp only [lA, lS, lZ, Act.put, lI, lW, lX]
   refine hI (i := 2) (v := ?_) rfl ?_ z8 ?_
   rotate_left 1
   ·rintro W zz; (try simp only [lA, lS, lZ]); go_simp; try with_reducible rfl
   try simp only [lA, lS, lZ, Act.put, lI, lW, lX]
   refine hI (i := 3) (v := ?_) rfl ?_ z8 ?_
   rotate_left 1
   ·rintro W zz; (try simp only [lA, lS, lZ]); go_simp; try with_reducible rfl
   try simp only [lA, lS, lZ, Act.put, lI, lW, lX]
   refine hI (i := 4) (v := ?_) rfl ?_ z8 ?_
   rotate_left 1
   ·rintro W zz; (try simp only [lA, lS, lZ]); go_simp; try with_reducible rfl
   try simp only [lA, lS, lZ, Act.put, lI, lW, lX]
   refine hI (i := 5) (v := ?_) rfl ?_ z8 ?_
   rotate_left 1
   ·rintro W zz; (try simp only [lA, lS, lZ]); go_simp; try with_reducible rfl
   try simp only [lA, lS, lZ, Act.put, lI, lW, lX]
   refine hI (i := 6) (v := ?_) rfl ?_ z8 ?_
   rotate_left 1
   ·rintro W zz; (try simp only [lA, lS, lZ]); go_simp; try with_reducible rfl
   try simp only [lA, lS, lZ, Act.put, lI, lW, lX]
   refine hI (i := 7) (v := ?_) rfl ?_ z8 ?_
   rotate_left 1
   ·rintro W zz; (try simp only [lA, lS, lZ]); go_simp; try with_reducible rfl
   try simp only [lA, lS, lZ, Act.put, lI, lW, lX]
   refine hI (i := 8) (v := ?_) rfl ?_ z8 ?_
   rotate_left 1
   ·rintro W zz; (try simp only [lA, lS, lZ]); go_simp; try with_reducible rfl
   try simp only [lA, lS, lZ, Act.put, lI, lW, lX]
   refine hI (i := 9) (v := ?_) rfl ?_ z8 ?_
   rotate_left 1
   ·rintro W zz; (try simp only [lA, lS, lZ]); go_simp; try with_reducible rfl
   try simp only [lA, lS, lZ, Act.put, lI, lW, lX]
   refine hI (i := 10) (v := ?_) rfl ?_ z8 ?_
   rotate_left 1
   ·rintro W zz; (try simp only [lA, lS, lZ]); go_simp; try with_reducible rfl
   try simp only [lA, lS, lZ, Act.put, lI, lW, lX]
   refine hI (i := 11) (v := ?_) rfl ?_ z8 ?_
   rotate_left 1
   ·rintro W zz; (try simp only [lA, lS, lZ]); go_simp; try with_reducible rfl
   try simp only [lA, lS, lZ, Act.put, lI, lW, lX]
   refine hI (i := 12) (v := ?_) rfl ?_ z8 ?_
   rotate_left 1
   ·rintro W zz; (try simp only [lA, lS, lZ]); go_simp; try with_reducible rfl
   try simp only [lA, lS, lZ, Act.put, lI, lW, lX]
   refine hI (i := 13) (v := ?_) rfl ?_ z8 ?_
   rotate_left 1
   ·rintro W zz; (try simp only [lA, lS, lZ]); go_simp; try with_reducible rfl
   try simp only [lA, lS, lZ, Act.put, lI, lW, lX]
   refine hI (i := 14) (v := ?_) rfl ?_ z8 ?_
   rotate_left 1
   ·rintro W zz; (try simp only [lA, lS, lZ]); go_simp; try with_reducible rfl
   try simp only [lA, lS, lZ, Act.put, lI, lW, lX]
   refine hI (i := 15) (v := ?_) rfl ?_ z8 ?_
   rotate_left 1
   ·rintro W zz; (try simp only [lA, lS, lZ]); go_simp; try with_reducible rfl
   try simp only [lA, lS, lZ, Act.put, lI, lW, lX]
   refine hI (i := 16) (v := ?_) rfl ?_ z8 ?_
   rotate_left 1
   ·rintro W zz; (try simp only [lA, lS, lZ]); go_simp; try with_reducible rfl
   try simp only [lA, lS, lZ, Act.put, lI, lW, lX]
   refine hI (i := 17) (v := ?_) rfl ?_ z8 ?_
   rotate_left 1
   ·rintro W zz; (try simp only [lA, lS, lZ]); go_simp; try with_reducible rfl
   try simp only [lA, lS, lZ, Act.put, lI, lW, lX]
   refine hU (i := 18) rfl z8 ?_
   try simp only [lA, lS, lZ, Act.put, lI, lW, lX]
   refine hU (i := 19) rfl z8 ?_
   try simp only [lA, lS, lZ, Act.put, lI, lW, lX]
   refine hU (i := 20) rfl z8 ?_
   try simp only [lA, lS, lZ, Act.put, lI, lW, lX]
   refine hU (i := 21) rfl z8 ?_
   try simp only [lA, lS, lZ, Act.put, lI, lW, lX]
   refine hU (i := 22) rfl z8 ?_
   try simp only [lA, lS, lZ, Act.put, lI, lW, lX]
   refine hU (i := 23) rfl z8 ?_
   try simp only [lA, lS, lZ, Act.put, lI, lW, lX]
   refine hU (i := 24) rfl z8 ?_
   try simp only [lA, lS, lZ, Act.put, lI, lW, lX]
   refine hU (i := 25) rfl z8 ?_
   try simp only [lA, lS, lZ, Act.put, lI, lW, lX]
   refine hU (i := 26) rfl z8 ?_
   try simp only [lA, lS, lZ, Act.put, lI, lW, lX]
   refine hU (i := 27) rfl z8 ?_
   try simp only [lA, lS, lZ, Act.put, lI, lW, lX]
   refine hI (i := 28) (v := ?_) rfl ?_ z8 ?_
   rotate_left 1
   ·rintro W zz; (try simp only [lA, lS, lZ]); go_simp; try with_reducible rfl
   try simp only [lA, lS, lZ, Act.put, lI, lW, lX]
   refine wpAnyHT_end (by kernel_rfl) ?_
   simp only [List.drop_succ_cons, List.drop_zero]
   go_wp2_with fail
   go_roundw
   case rel => exact ⟨0 + 1, by omega, rfl, by go_num, HK, hid HF.out.drew⟩
   case measure => simp [intOf] <;> omega
  obtain ⟨u, rfl⟩ : ∃ u, t = u + 1 := ⟨t - 1, by omega⟩
  have z1 := hc u (by rw [HN.out]; omega)
  have uw : IntKind.i64.wrap ((u : Int) + 1 - 1) = (u : Int) := by rw [IntKind.wrap_i64]; omega
  have i0 : (0 : Int) < (u : Int) + 1 := by omega
  have i1 : (0 : Int) ≤ (u : Int) + 1 := by omega
  have u0 : (0 : Int) ≤ (u : Int) := by omega
  have un1 : u + 1 < n := by omega
  have un : u < n := by omega
  have u1 : (u : Int) < (n : Int) := by omega
  have t2 : (u : Int) + 1 < (n : Int) := by omega
  have uw2 : IntKind.i64.wrap (u : Int) = (u : Int) := by rw [IntKind.wrap_i64]; omega
  obtain ⟨x, hx⟩ := eX (zA K (u + 1))
  obtain ⟨y, hy⟩ := eX (zA K u)
  have HX := hid hx
  have HY := hid hy
  rw [hx] at z0
  rw [hy] at z1
  have z7 : wr.drew.cell? ⟨g, o + (u + 1), none⟩ = some (.int .i64 x) := z0
  have z6 : wr.drew.cell? ⟨g, o + u, none⟩ = some (.int .i64 y) := z1
  clear hc hx hy h0
  by_cases l1 : x < lo
  ·have HK : Hid (¬ RiseL K lo hi) := hid (fun h => by have := (HBD.out h).1; rw [HX.out] at this; omega)
   go_wp2_with fail
   refine wp_region_tail (S := fun W => (W.cell? ⟨g, o + (u + 1), none⟩ = some (.int .i64 x) ∧ W.cell? ⟨g, o + u, none⟩ = some (.int .i64 y))) 29 30 rfl (by kernel_rfl) (by kernel_rfl) ?_
   refine hI (i := 0) (v := ?_) rfl ?_ ⟨z7, z6⟩ ?_
   rotate_left 1
   ·rintro W ⟨zz, yy⟩; (try simp only [lA, lZ]); go_simp; try with_reducible rfl
   try simp only [lA, lZ, Act.put, lI, lW, lX]
   refine hI (i := 1) (v := ?_) rfl ?_ ⟨z7, z6⟩ ?_
   rotate_left 1
   ·rintro W ⟨zz, yy⟩; (try simp only [lA, lS, lZ]); go_simp; try with_reducible rfl
   try simp only [lA, lS, lZ, Act.put, lI, lW, lX]
   refine hI (i := 2) (v := ?_) rfl ?_ ⟨z7, z6⟩ ?_
   rotate_left 1
   ·rintro W ⟨zz, yy⟩; (try simp only [lA, lS, lZ]); go_simp; try with_reducible rfl
   try simp only [lA, lS, lZ, Act.put, lI, lW, lX]
   refine hI (i := 3) (v := ?_) rfl ?_ ⟨z7, z6⟩ ?_
   rotate_left 1
   ·rintro W ⟨zz, yy⟩; (try simp only [lA, lS, lZ]); go_simp; try with_reducible rfl
   try simp only [lA, lS, lZ, Act.put, lI, lW, lX]
   refine hI (i := 4) (v := ?_) rfl ?_ ⟨z7, z6⟩ ?_
   rotate_left 1
   ·rintro W ⟨zz, yy⟩; (try simp only [lA, lS, lZ]); go_simp; try with_reducible rfl
   try simp only [lA, lS, lZ, Act.put, lI, lW, lX]
   refine hI (i := 5) (v := ?_) rfl ?_ ⟨z7, z6⟩ ?_
   rotate_left 1
   ·rintro W ⟨zz, yy⟩; (try simp only [lA, lS, lZ]); go_simp; try with_reducible rfl
   try simp only [lA, lS, lZ, Act.put, lI, lW, lX]
   refine hI (i := 6) (v := ?_) rfl ?_ ⟨z7, z6⟩ ?_
   rotate_left 1
   ·rintro W ⟨zz, yy⟩; (try simp only [lA, lS, lZ]); go_simp; try with_reducible rfl
   try simp only [lA, lS, lZ, Act.put, lI, lW, lX]
   refine hU (i := 7) rfl ⟨z7, z6⟩ ?_
   try simp only [lA, lS, lZ, Act.put, lI, lW, lX]
   refine hU (i := 8) rfl ⟨z7, z6⟩ ?_
   try simp only [lA, lS, lZ, Act.put, lI, lW, lX]
   refine hU (i := 9) rfl ⟨z7, z6⟩ ?_
   try simp only [lA, lS, lZ, Act.put, lI, lW, lX]
   refine hU (i := 10) rfl ⟨z7, z6⟩ ?_
   try simp only [lA, lS, lZ, Act.put, lI, lW, lX]
   refine hU (i := 11) rfl ⟨z7, z6⟩ ?_
   try simp only [lA, lS, lZ, Act.put, lI, lW, lX]
   refine hU (i := 12) rfl ⟨z7, z6⟩ ?_
   try simp only [lA, lS, lZ, Act.put, lI, lW, lX]
   refine hI (i := 13) (v := ?_) rfl ?_ ⟨z7, z6⟩ ?_
   rotate_left 1
   ·rintro W ⟨zz, yy⟩; (try simp only [lA, lS, lZ]); go_simp; try with_reducible rfl
   try simp only [lA, lS, lZ, Act.put, lI, lW, lX]
   refine hI (i := 14) (v := ?_) rfl ?_ ⟨z7, z6⟩ ?_
   rotate_left 1
   ·rintro W ⟨zz, yy⟩; (try simp only [lA, lS, lZ]); go_simp; try with_reducible rfl
   try simp only [lA, lS, lZ, Act.put, lI, lW, lX]
   refine hU (i := 15) rfl ⟨z7, z6⟩ ?_
   try simp only [lA, lS, lZ, Act.put, lI, lW, lX]
   refine hU (i := 16) rfl ⟨z7, z6⟩ ?_
   try simp only [lA, lS, lZ, Act.put, lI, lW, lX]
   refine hU (i := 17) rfl ⟨z7, z6⟩ ?_
   try simp only [lA, lS, lZ, Act.put, lI, lW, lX]
   refine hU (i := 18) rfl ⟨z7, z6⟩ ?_
   try simp only [lA, lS, lZ, Act.put, lI, lW, lX]
   refine hU (i := 19) rfl ⟨z7, z6⟩ ?_
   try simp only [lA, lS, lZ, Act.put, lI, lW, lX]
   refine hU (i := 20) rfl ⟨z7, z6⟩ ?_
   try simp only [lA, lS, lZ, Act.put, lI, lW, lX]
   refine hU (i := 21) rfl ⟨z7, z6⟩ ?_
   try simp only [lA, lS, lZ, Act.put, lI, lW, lX]
   refine hU (i := 22) rfl ⟨z7, z6⟩ ?_
   try simp only [lA, lS, lZ, Act.put, lI, lW, lX]
   refine hU (i := 23) rfl ⟨z7, z6⟩ ?_
   try simp only [lA, lS, lZ, Act.put, lI, lW, lX]
   refine hU (i := 24) rfl ⟨z7, z6⟩ ?_
   try simp only [lA, lS, lZ, Act.put, lI, lW, lX]
   refine hU (i := 25) rfl ⟨z7, z6⟩ ?_
   try simp only [lA, lS, lZ, Act.put, lI, lW, lX]
   refine hU (i := 26) rfl ⟨z7, z6⟩ ?_
   try simp only [lA, lS, lZ, Act.put, lI, lW, lX]
   refine hU (i := 27) rfl ⟨z7, z6⟩ ?_
   try simp only [lA, lS, lZ, Act.put, lI, lW, lX]
   refine hU (i := 28) rfl ⟨z7, z6⟩ ?_
   try simp only [lA, lS, lZ, Act.put, lI, lW, lX]
   refine wpAnyHT_end (by kernel_rfl) ?_
   simp only [List.drop_succ_cons, List.drop_zero]
   go_wp2_with fail
   try go_returns
   exact HNO.out HK.out _ HF.out.drew
  have d1 : decide (x < lo) = false := decide_eq_false l1
  have e1 : lo ≤ x := by omega
  by_cases l2 : hi < x
  ·have HK : Hid (¬ RiseL K lo hi) := hid (fun h => by have := (HBD.out h).1; rw [HX.out] at this; omega)
   go_wp2_with fail
   refine wp_region_tail (S := fun W => (W.cell? ⟨g, o + (u + 1), none⟩ = some (.int .i64 x) ∧ W.cell? ⟨g, o + u, none⟩ = some (.int .i64 y))) 29 30 rfl (by kernel_rfl) (by kernel_rfl) ?_
   refine hI (i := 0) (v := ?_) rfl ?_ ⟨z7, z6⟩ ?_
   rotate_left 1
   ·rintro W ⟨zz, yy⟩; (try simp only [lA, lZ]); go_simp; try with_reducible rfl
   try simp only [lA, lZ, Act.put, lI, lW, lX]
   refine hI (i := 1) (v := ?_) rfl ?_ ⟨z7, z6⟩ ?_
   rotate_left 1
   ·rintro W ⟨zz, yy⟩; (try simp only [lA, lS, lZ]); go_simp; try with_reducible rfl
   try simp only [lA, lS, lZ, Act.put, lI, lW, lX]
   refine hI (i := 2) (v := ?_) rfl ?_ ⟨z7, z6⟩ ?_
   rotate_left 1
   ·rintro W ⟨zz, yy⟩; (try simp only [lA, lS, lZ]); go_simp; try with_reducible rfl
   try simp only [lA, lS, lZ, Act.put, lI, lW, lX]
   refine hI (i := 3) (v := ?_) rfl ?_ ⟨z7, z6⟩ ?_
   rotate_left 1
   ·rintro W ⟨zz, yy⟩; (try simp only [lA, lS, lZ]); go_simp; try with_reducible rfl
   try simp only [lA, lS, lZ, Act.put, lI, lW, lX]
   refine hI (i := 4) (v := ?_) rfl ?_ ⟨z7, z6⟩ ?_
   rotate_left 1
   ·rintro W ⟨zz, yy⟩; (try simp only [lA, lS, lZ]); go_simp; try with_reducible rfl
   try simp only [lA, lS, lZ, Act.put, lI, lW, lX]
   refine hI (i := 5) (v := ?_) rfl ?_ ⟨z7, z6⟩ ?_
   rotate_left 1
   ·rintro W ⟨zz, yy⟩; (try simp only [lA, lS, lZ]); go_simp; try with_reducible rfl
   try simp only [lA, lS, lZ, Act.put, lI, lW, lX]
   refine hI (i := 6) (v := ?_) rfl ?_ ⟨z7, z6⟩ ?_
   rotate_left 1
   ·rintro W ⟨zz, yy⟩; (try simp only [lA, lS, lZ]); go_simp; try with_reducible rfl
   try simp only [lA, lS, lZ, Act.put, lI, lW, lX]
   refine hI (i := 7) (v := ?_) rfl ?_ ⟨z7, z6⟩ ?_
   rotate_left 1
   ·rintro W ⟨zz, yy⟩; (try simp only [lA, lS, lZ]); go_simp; try with_reducible rfl
   try simp only [lA, lS, lZ, Act.put, lI, lW, lX]
   refine hI (i := 8) (v := ?_) rfl ?_ ⟨z7, z6⟩ ?_
   rotate_left 1
   ·rintro W ⟨zz, yy⟩; (try simp only [lA, lS, lZ]); go_simp; try with_reducible rfl
   try simp only [lA, lS, lZ, Act.put, lI, lW, lX]
   refine hI (i := 9) (v := ?_) rfl ?_ ⟨z7, z6⟩ ?_
   rotate_left 1
   ·rintro W ⟨zz, yy⟩; (try simp only [lA, lS, lZ]); go_simp; try with_reducible rfl
   try simp only [lA, lS, lZ, Act.put, lI, lW, lX]
   refine hI (i := 10) (v := ?_) rfl ?_ ⟨z7, z6⟩ ?_
   rotate_left 1
   ·rintro W ⟨zz, yy⟩; (try simp only [lA, lS, lZ]); go_simp; try with_reducible rfl
   try simp only [lA, lS, lZ, Act.put, lI, lW, lX]
   refine hI (i := 11) (v := ?_) rfl ?_ ⟨z7, z6⟩ ?_
   rotate_left 1
   ·rintro W ⟨zz, yy⟩; (try simp only [lA, lS, lZ]); go_simp; try with_reducible rfl
   try simp only [lA, lS, lZ, Act.put, lI, lW, lX]
   refine hI (i := 12) (v := ?_) rfl ?_ ⟨z7, z6⟩ ?_
   rotate_left 1
   ·rintro W ⟨zz, yy⟩; (try simp only [lA, lS, lZ]); go_simp; try with_reducible rfl
   try simp only [lA, lS, lZ, Act.put, lI, lW, lX]
   refine hI (i := 13) (v := ?_) rfl ?_ ⟨z7, z6⟩ ?_
   rotate_left 1
   ·rintro W ⟨zz, yy⟩; (try simp only [lA, lS, lZ]); go_simp; try with_reducible rfl
   try simp only [lA, lS, lZ, Act.put, lI, lW, lX]
   refine hI (i := 14) (v := ?_) rfl ?_ ⟨z7, z6⟩ ?_
   rotate_left 1
   ·rintro W ⟨zz, yy⟩; (try simp only [lA, lS, lZ]); go_simp; try with_reducible rfl
   try simp only [lA, lS, lZ, Act.put, lI, lW, lX]
   refine hU (i := 15) rfl ⟨z7, z6⟩ ?_
   try simp only [lA, lS, lZ, Act.put, lI, lW, lX]
   refine hU (i := 16) rfl ⟨z7, z6⟩ ?_
   try simp only [lA, lS, lZ, Act.put, lI, lW, lX]
   refine hU (i := 17) rfl ⟨z7, z6⟩ ?_
   try simp only [lA, lS, lZ, Act.put, lI, lW, lX]
   refine hU (i := 18) rfl ⟨z7, z6⟩ ?_
   try simp only [lA, lS, lZ, Act.put, lI, lW, lX]
   refine hU (i := 19) rfl ⟨z7, z6⟩ ?_
   try simp only [lA, lS, lZ, Act.put, lI, lW, lX]
   refine hU (i := 20) rfl ⟨z7, z6⟩ ?_
   try simp only [lA, lS, lZ, Act.put, lI, lW, lX]
   refine hU (i := 21) rfl ⟨z7, z6⟩ ?_
   try simp only [lA, lS, lZ, Act.put, lI, lW, lX]
   refine hU (i := 22) rfl ⟨z7, z6⟩ ?_
   try simp only [lA, lS, lZ, Act.put, lI, lW, lX]
   refine hU (i := 23) rfl ⟨z7, z6⟩ ?_
   try simp only [lA, lS, lZ, Act.put, lI, lW, lX]
   refine hU (i := 24) rfl ⟨z7, z6⟩ ?_
   try simp only [lA, lS, lZ, Act.put, lI, lW, lX]
   refine hU (i := 25) rfl ⟨z7, z6⟩ ?_
   try simp only [lA, lS, lZ, Act.put, lI, lW, lX]
   refine hU (i := 26) rfl ⟨z7, z6⟩ ?_
   try simp only [lA, lS, lZ, Act.put, lI, lW, lX]
   refine hU (i := 27) rfl ⟨z7, z6⟩ ?_
   try simp only [lA, lS, lZ, Act.put, lI, lW, lX]
   refine hU (i := 28) rfl ⟨z7, z6⟩ ?_
   try simp only [lA, lS, lZ, Act.put, lI, lW, lX]
   refine wpAnyHT_end (by kernel_rfl) ?_
   simp only [List.drop_succ_cons, List.drop_zero]
   go_wp2_with fail
   try go_returns
   exact HNO.out HK.out _ HF.out.drew
  have d2 : decide (hi < x) = false := decide_eq_false l2
  have e2 : x ≤ hi := by omega
  by_cases l3 : x ≤ y
  ·have HK : Hid (¬ RiseL K lo hi) := hid (fun h => by have := (HBD.out h).2 (by omega); rw [HX.out, show u + 1 - 1 = u by omega, HY.out] at this; omega)
   go_wp2_with fail
   refine wp_region_tail (S := fun W => (W.cell? ⟨g, o + (u + 1), none⟩ = some (.int .i64 x) ∧ W.cell? ⟨g, o + u, none⟩ = some (.int .i64 y))) 29 30 rfl (by kernel_rfl) (by kernel_rfl) ?_
   refine hI (i := 0) (v := ?_) rfl ?_ ⟨z7, z6⟩ ?_
   rotate_left 1
   ·rintro W ⟨zz, yy⟩; (try simp only [lA, lZ]); go_simp; try with_reducible rfl
   try simp only [lA, lZ, Act.put, lI, lW, lX]
   refine hI (i := 1) (v := ?_) rfl ?_ ⟨z7, z6⟩ ?_
   rotate_left 1
   ·rintro W ⟨zz, yy⟩; (try simp only [lA, lS, lZ]); go_simp; try with_reducible rfl
   try simp only [lA, lS, lZ, Act.put, lI, lW, lX]
   refine hI (i := 2) (v := ?_) rfl ?_ ⟨z7, z6⟩ ?_
   rotate_left 1
   ·rintro W ⟨zz, yy⟩; (try simp only [lA, lS, lZ]); go_simp; try with_reducible rfl
   try simp only [lA, lS, lZ, Act.put, lI, lW, lX]
   refine hI (i := 3) (v := ?_) rfl ?_ ⟨z7, z6⟩ ?_
   rotate_left 1
   ·rintro W ⟨zz, yy⟩; (try simp only [lA, lS, lZ]); go_simp; try with_reducible rfl
   try simp only [lA, lS, lZ, Act.put, lI, lW, lX]
   refine hI (i := 4) (v := ?_) rfl ?_ ⟨z7, z6⟩ ?_
   rotate_left 1
   ·rintro W ⟨zz, yy⟩; (try simp only [lA, lS, lZ]); go_simp; try with_reducible rfl
   try simp only [lA, lS, lZ, Act.put, lI, lW, lX]
   refine hI (i := 5) (v := ?_) rfl ?_ ⟨z7, z6⟩ ?_
   rotate_left 1
   ·rintro W ⟨zz, yy⟩; (try simp only [lA, lS, lZ]); go_simp; try with_reducible rfl
   try simp only [lA, lS, lZ, Act.put, lI, lW, lX]
   refine hI (i := 6) (v := ?_) rfl ?_ ⟨z7, z6⟩ ?_
   rotate_left 1
   ·rintro W ⟨zz, yy⟩; (try simp only [lA, lS, lZ]); go_simp; try with_reducible rfl
   try simp only [lA, lS, lZ, Act.put, lI, lW, lX]
   refine hI (i := 7) (v := ?_) rfl ?_ ⟨z7, z6⟩ ?_
   rotate_left 1
   ·rintro W ⟨zz, yy⟩; (try simp only [lA, lS, lZ]); go_simp; try with_reducible rfl
   try simp only [lA, lS, lZ, Act.put, lI, lW, lX]
   refine hI (i := 8) (v := ?_) rfl ?_ ⟨z7, z6⟩ ?_
   rotate_left 1
   ·rintro W ⟨zz, yy⟩; (try simp only [lA, lS, lZ]); go_simp; try with_reducible rfl
   try simp only [lA, lS, lZ, Act.put, lI, lW, lX]
   refine hI (i := 9) (v := ?_) rfl ?_ ⟨z7, z6⟩ ?_
   rotate_left 1
   ·rintro W ⟨zz, yy⟩; (try simp only [lA, lS, lZ]); go_simp; try with_reducible rfl
   try simp only [lA, lS, lZ, Act.put, lI, lW, lX]
   refine hI (i := 10) (v := ?_) rfl ?_ ⟨z7, z6⟩ ?_
   rotate_left 1
   ·rintro W ⟨zz, yy⟩; (try simp only [lA, lS, lZ]); go_simp; try with_reducible rfl
   try simp only [lA, lS, lZ, Act.put, lI, lW, lX]
   refine hI (i := 11) (v := ?_) rfl ?_ ⟨z7, z6⟩ ?_
   rotate_left 1
   ·rintro W ⟨zz, yy⟩; (try simp only [lA, lS, lZ]); go_simp; try with_reducible rfl
   try simp only [lA, lS, lZ, Act.put, lI, lW, lX]
   refine hI (i := 12) (v := ?_) rfl ?_ ⟨z7, z6⟩ ?_
   rotate_left 1
   ·rintro W ⟨zz, yy⟩; (try simp only [lA, lS, lZ]); go_simp; try with_reducible rfl
   try simp only [lA, lS, lZ, Act.put, lI, lW, lX]
   refine hI (i := 13) (v := ?_) rfl ?_ ⟨z7, z6⟩ ?_
   rotate_left 1
   ·rintro W ⟨zz, yy⟩; (try simp only [lA, lS, lZ]); go_simp; try with_reducible rfl
   try simp only [lA, lS, lZ, Act.put, lI, lW, lX]
   refine hI (i := 14) (v := ?_) rfl ?_ ⟨z7, z6⟩ ?_
   rotate_left 1
   ·rintro W ⟨zz, yy⟩; (try simp only [lA, lS, lZ]); go_simp; try with_reducible rfl
   try simp only [lA, lS, lZ, Act.put, lI, lW, lX]
   refine hI (i := 15) (v := ?_) rfl ?_ ⟨z7, z6⟩ ?_
   rotate_left 1
   ·rintro W ⟨zz, yy⟩; (try simp only [lA, lS, lZ]); go_simp; try with_reducible rfl
   try simp only [lA, lS, lZ, Act.put, lI, lW, lX]
   refine hI (i := 16) (v := ?_) rfl ?_ ⟨z7, z6⟩ ?_
   rotate_left 1
   ·rintro W ⟨zz, yy⟩; (try simp only [lA, lS, lZ]); go_simp; try with_reducible rfl
   try simp only [lA, lS, lZ, Act.put, lI, lW, lX]
   refine hI (i := 17) (v := ?_) rfl ?_ ⟨z7, z6⟩ ?_
   rotate_left 1
   ·rintro W ⟨zz, yy⟩; (try simp only [lA, lS, lZ]); go_simp; try with_reducible rfl
   try simp only [lA, lS, lZ, Act.put, lI, lW, lX]
   refine hI (i := 18) (v := ?_) rfl ?_ ⟨z7, z6⟩ ?_
   rotate_left 1
   ·rintro W ⟨zz, yy⟩; (try simp only [lA, lS, lZ]); go_simp; try with_reducible rfl
   try simp only [lA, lS, lZ, Act.put, lI, lW, lX]
   refine hI (i := 19) (v := ?_) rfl ?_ ⟨z7, z6⟩ ?_
   rotate_left 1
   ·rintro W ⟨zz, yy⟩; (try simp only [lA, lS, lZ]); go_simp; try with_reducible rfl
   try simp only [lA, lS, lZ, Act.put, lI, lW, lX]
   refine hI (i := 20) (v := ?_) rfl ?_ ⟨z7, z6⟩ ?_
   rotate_left 1
   ·rintro W ⟨zz, yy⟩; (try simp only [lA, lS, lZ]); go_simp; try with_reducible rfl
   try simp only [lA, lS, lZ, Act.put, lI, lW, lX]
   refine hI (i := 21) (v := ?_) rfl ?_ ⟨z7, z6⟩ ?_
   rotate_left 1
   ·rintro W ⟨zz, yy⟩; (try simp only [lA, lS, lZ]); go_simp; try with_reducible rfl
   try simp only [lA, lS, lZ, Act.put, lI, lW, lX]
   refine hI (i := 22) (v := ?_) rfl ?_ ⟨z7, z6⟩ ?_
   rotate_left 1
   ·rintro W ⟨zz, yy⟩; (try simp only [lA, lS, lZ]); go_simp; try with_reducible rfl
   try simp only [lA, lS, lZ, Act.put, lI, lW, lX]
   refine hI (i := 23) (v := ?_) rfl ?_ ⟨z7, z6⟩ ?_
   rotate_left 1
   ·rintro W ⟨zz, yy⟩; (try simp only [lA, lS, lZ]); go_simp; try with_reducible rfl
   try simp only [lA, lS, lZ, Act.put, lI, lW, lX]
   refine hI (i := 24) (v := ?_) rfl ?_ ⟨z7, z6⟩ ?_
   rotate_left 1
   ·rintro W ⟨zz, yy⟩; (try simp only [lA, lS, lZ]); go_simp; try with_reducible rfl
   try simp only [lA, lS, lZ, Act.put, lI, lW, lX]
   refine hI (i := 25) (v := ?_) rfl ?_ ⟨z7, z6⟩ ?_
   rotate_left 1
   ·rintro W ⟨zz, yy⟩; (try simp only [lA, lS, lZ]); go_simp; try with_reducible rfl
   try simp only [lA, lS, lZ, Act.put, lI, lW, lX]
   refine hI (i := 26) (v := ?_) rfl ?_ ⟨z7, z6⟩ ?_
   rotate_left 1
   ·rintro W ⟨zz, yy⟩; (try simp only [lA, lS, lZ]); go_simp; try with_reducible rfl
   try simp only [lA, lS, lZ, Act.put, lI, lW, lX]
   refine hI (i := 27) (v := ?_) rfl ?_ ⟨z7, z6⟩ ?_
   rotate_left 1
   ·rintro W ⟨zz, yy⟩; (try simp only [lA, lS, lZ]); go_simp; try with_reducible rfl
   try simp only [lA, lS, lZ, Act.put, lI, lW, lX]
   refine hI (i := 28) (v := ?_) rfl ?_ ⟨z7, z6⟩ ?_
   rotate_left 1
   ·rintro W ⟨zz, yy⟩; (try simp only [lA, lS, lZ]); go_simp; try with_reducible rfl
   try simp only [lA, lS, lZ, Act.put, lI, lW, lX]
   refine wpAnyHT_end (by kernel_rfl) ?_
   simp only [List.drop_succ_cons, List.drop_zero]
   go_wp2_with fail
   try go_returns
   exact HNO.out HK.out _ HF.out.drew
  have d3 : decide (x ≤ y) = false := decide_eq_false l3
  have e3 : y < x := by omega
  have HK := hid (HNX.out ⟨by rw [HX.out]; omega, fun _ => by rw [HX.out, show u + 1 - 1 = u by omega, HY.out]; omega⟩)
  go_wp2_with fail
  refine wp_region_tail (S := fun W => (W.cell? ⟨g, o + (u + 1), none⟩ = some (.int .i64 x) ∧ W.cell? ⟨g, o + u, none⟩ = some (.int .i64 y))) 29 30 rfl (by kernel_rfl) (by kernel_rfl) ?_
  refine hI (i := 0) (v := ?_) rfl ?_ ⟨z7, z6⟩ ?_
  rotate_left 1
  ·rintro W ⟨zz, yy⟩; (try simp only [lA, lZ]); go_simp; try with_reducible rfl
  try simp only [lA, lZ, Act.put, lI, lW, lX]
  refine hI (i := 1) (v := ?_) rfl ?_ ⟨z7, z6⟩ ?_
  rotate_left 1
  ·rintro W ⟨zz, yy⟩; (try simp only [lA, lS, lZ]); go_simp; try with_reducible rfl
  try simp only [lA, lS, lZ, Act.put, lI, lW, lX]
  refine hI (i := 2) (v := ?_) rfl ?_ ⟨z7, z6⟩ ?_
  rotate_left 1
  ·rintro W ⟨zz, yy⟩; (try simp only [lA, lS, lZ]); go_simp; try with_reducible rfl
  try simp only [lA, lS, lZ, Act.put, lI, lW, lX]
  refine hI (i := 3) (v := ?_) rfl ?_ ⟨z7, z6⟩ ?_
  rotate_left 1
  ·rintro W ⟨zz, yy⟩; (try simp only [lA, lS, lZ]); go_simp; try with_reducible rfl
  try simp only [lA, lS, lZ, Act.put, lI, lW, lX]
  refine hI (i := 4) (v := ?_) rfl ?_ ⟨z7, z6⟩ ?_
  rotate_left 1
  ·rintro W ⟨zz, yy⟩; (try simp only [lA, lS, lZ]); go_simp; try with_reducible rfl
  try simp only [lA, lS, lZ, Act.put, lI, lW, lX]
  refine hI (i := 5) (v := ?_) rfl ?_ ⟨z7, z6⟩ ?_
  rotate_left 1
  ·rintro W ⟨zz, yy⟩; (try simp only [lA, lS, lZ]); go_simp; try with_reducible rfl
  try simp only [lA, lS, lZ, Act.put, lI, lW, lX]
  refine hI (i := 6) (v := ?_) rfl ?_ ⟨z7, z6⟩ ?_
  rotate_left 1
  ·rintro W ⟨zz, yy⟩; (try simp only [lA, lS, lZ]); go_simp; try with_reducible rfl
  try simp only [lA, lS, lZ, Act.put, lI, lW, lX]
  refine hI (i := 7) (v := ?_) rfl ?_ ⟨z7, z6⟩ ?_
  rotate_left 1
  ·rintro W ⟨zz, yy⟩; (try simp only [lA, lS, lZ]); go_simp; try with_reducible rfl
  try simp only [lA, lS, lZ, Act.put, lI, lW, lX]
  refine hI (i := 8) (v := ?_) rfl ?_ ⟨z7, z6⟩ ?_
  rotate_left 1
  ·rintro W ⟨zz, yy⟩; (try simp only [lA, lS, lZ]); go_simp; try with_reducible rfl
  try simp only [lA, lS, lZ, Act.put, lI, lW, lX]
  refine hI (i := 9) (v := ?_) rfl ?_ ⟨z7, z6⟩ ?_
  rotate_left 1
  ·rintro W ⟨zz, yy⟩; (try simp only [lA, lS, lZ]); go_simp; try with_reducible rfl
  try simp only [lA, lS, lZ, Act.put, lI, lW, lX]
  refine hI (i := 10) (v := ?_) rfl ?_ ⟨z7, z6⟩ ?_
  rotate_left 1
  ·rintro W ⟨zz, yy⟩; (try simp only [lA, lS, lZ]); go_simp; try with_reducible rfl
  try simp only [lA, lS, lZ, Act.put, lI, lW, lX]
  refine hI (i := 11) (v := ?_) rfl ?_ ⟨z7, z6⟩ ?_
  rotate_left 1
  ·rintro W ⟨zz, yy⟩; (try simp only [lA, lS, lZ]); go_simp; try with_reducible rfl
  try simp only [lA, lS, lZ, Act.put, lI, lW, lX]
  refine hI (i := 12) (v := ?_) rfl ?_ ⟨z7, z6⟩ ?_
  rotate_left 1
  ·rintro W ⟨zz, yy⟩; (try simp only [lA, lS, lZ]); go_simp; try with_reducible rfl
  try simp only [lA, lS, lZ, Act.put, lI, lW, lX]
  refine hI (i := 13) (v := ?_) rfl ?_ ⟨z7, z6⟩ ?_
  rotate_left 1
  ·rintro W ⟨zz, yy⟩; (try simp only [lA, lS, lZ]); go_simp; try with_reducible rfl
  try simp only [lA, lS, lZ, Act.put, lI, lW, lX]
  refine hI (i := 14) (v := ?_) rfl ?_ ⟨z7, z6⟩ ?_
  rotate_left 1
  ·rintro W ⟨zz, yy⟩; (try simp only [lA, lS, lZ]); go_simp; try with_reducible rfl
  try simp only [lA, lS, lZ, Act.put, lI, lW, lX]
  refine hI (i := 15) (v := ?_) rfl ?_ ⟨z7, z6⟩ ?_
  rotate_left 1
  ·rintro W ⟨zz, yy⟩; (try simp only [lA, lS, lZ]); go_simp; try with_reducible rfl
  try simp only [lA, lS, lZ, Act.put, lI, lW, lX]
  refine hI (i := 16) (v := ?_) rfl ?_ ⟨z7, z6⟩ ?_
  rotate_left 1
  ·rintro W ⟨zz, yy⟩; (try simp only [lA, lS, lZ]); go_simp; try with_reducible rfl
  try simp only [lA, lS, lZ, Act.put, lI, lW, lX]
  refine hI (i := 17) (v := ?_) rfl ?_ ⟨z7, z6⟩ ?_
  rotate_left 1
  ·rintro W ⟨zz, yy⟩; (try simp only [lA, lS, lZ]); go_simp; try with_reducible rfl
  try simp only [lA, lS, lZ, Act.put, lI, lW, lX]
  refine hI (i := 18) (v := ?_) rfl ?_ ⟨z7, z6⟩ ?_
  rotate_left 1
  ·rintro W ⟨zz, yy⟩; (try simp only [lA, lS, lZ]); go_simp; try with_reducible rfl
  try simp only [lA, lS, lZ, Act.put, lI, lW, lX]
  refine hI (i := 19) (v := ?_) rfl ?_ ⟨z7, z6⟩ ?_
  rotate_left 1
  ·rintro W ⟨zz, yy⟩; (try simp only [lA, lS, lZ]); go_simp; try with_reducible rfl
  try simp only [lA, lS, lZ, Act.put, lI, lW, lX]
  refine hI (i := 20) (v := ?_) rfl ?_ ⟨z7, z6⟩ ?_
  rotate_left 1
  ·rintro W ⟨zz, yy⟩; (try simp only [lA, lS, lZ]); go_simp; try with_reducible rfl
  try simp only [lA, lS, lZ, Act.put, lI, lW, lX]
  refine hI (i := 21) (v := ?_) rfl ?_ ⟨z7, z6⟩ ?_
  rotate_left 1
  ·rintro W ⟨zz, yy⟩; (try simp only [lA, lS, lZ]); go_simp; try with_reducible rfl
  try simp only [lA, lS, lZ, Act.put, lI, lW, lX]
  refine hI (i := 22) (v := ?_) rfl ?_ ⟨z7, z6⟩ ?_
  rotate_left 1
  ·rintro W ⟨zz, yy⟩; (try simp only [lA, lS, lZ]); go_simp; try with_reducible rfl
  try simp only [lA, lS, lZ, Act.put, lI, lW, lX]
  refine hI (i := 23) (v := ?_) rfl ?_ ⟨z7, z6⟩ ?_
  rotate_left 1
  ·rintro W ⟨zz, yy⟩; (try simp only [lA, lS, lZ]); go_simp; try with_reducible rfl
  try simp only [lA, lS, lZ, Act.put, lI, lW, lX]
  refine hI (i := 24) (v := ?_) rfl ?_ ⟨z7, z6⟩ ?_
  rotate_left 1
  ·rintro W ⟨zz, yy⟩; (try simp only [lA, lS, lZ]); go_simp; try with_reducible rfl
  try simp only [lA, lS, lZ, Act.put, lI, lW, lX]
  refine hI (i := 25) (v := ?_) rfl ?_ ⟨z7, z6⟩ ?_
  rotate_left 1
  ·rintro W ⟨zz, yy⟩; (try simp only [lA, lS, lZ]); go_simp; try with_reducible rfl
  try simp only [lA, lS, lZ, Act.put, lI, lW, lX]
  refine hI (i := 26) (v := ?_) rfl ?_ ⟨z7, z6⟩ ?_
  rotate_left 1
  ·rintro W ⟨zz, yy⟩; (try simp only [lA, lS, lZ]); go_simp; try with_reducible rfl
  try simp only [lA, lS, lZ, Act.put, lI, lW, lX]
  refine hI (i := 27) (v := ?_) rfl ?_ ⟨z7, z6⟩ ?_
  rotate_left 1
  ·rintro W ⟨zz, yy⟩; (try simp only [lA, lS, lZ]); go_simp; try with_reducible rfl
  try simp only [lA, lS, lZ, Act.put, lI, lW, lX]
  refine hI (i := 28) (v := ?_) rfl ?_ ⟨z7, z6⟩ ?_
  rotate_left 1
  ·rintro W ⟨zz, yy⟩; (try simp only [lA, lS, lZ]); go_simp; try with_reducible rfl
  try simp only [lA, lS, lZ, Act.put, lI, lW, lX]
  refine wpAnyHT_end (by kernel_rfl) ?_
  simp only [List.drop_succ_cons, List.drop_zero]
  go_wp2_with fail
  go_roundw
  case rel => exact ⟨u + 1 + 1, by omega, rfl, by go_num, HK, hid HF.out.drew⟩
  case measure => simp [intOf] <;> omega
end
section
open Go.RowKit Go.Lib
theorem refPart0_any (B : ByteArray) (w : World) :
  Calls Tryz.prog 77 #[.string B] w fun e w' => e = .returned (.bool (decide (PartL (tx B)))) ∧ w' = w := by
 obtain ⟨PO, hPO⟩ : ∃ PO : Ending → World → Prop, (fun e w' => e = .returned (.bool (decide (PartL (tx B)))) ∧ w' = w) = PO := ⟨_, rfl⟩
 rw [hPO]
 have HP : Hid (∀ x, (x = true ↔ PartL (tx B)) → PO (.returned (.bool x)) w) := hid (fun x h => by rw [← hPO]; exact ⟨by rw [bool_decR h], rfl⟩)
 have HL : Hid ((tx B).length = B.size) := hid (tx_length B)
 have HG : Hid (∀ t (h : t < B.size), zA (tx B) t = (B[t].toNat : Int)) := hid (fun t h => tx_getR B t h)
 clear hPO
 go_enter Tryz.func77, Tryz.ntmps77
 by_cases h1 : B.size < 1
 case pos =>
  have i1 : (B.size : Int) < 1 := by omega
  go_wp2_with fail
  try go_returns
  exact HP.out _ (by simp; intro h; have := h.1.1; have := HL.out; omega)
 by_cases h2 : 24 < B.size
 case pos =>
  have i1 : ¬ (B.size : Int) < 1 := by omega
  have i2 : (24 : Int) < (B.size : Int) := by omega
  go_wp2_with fail
  try go_returns
  exact HP.out _ (by simp; intro h; have := h.1.2; have := HL.out; omega)
 have i1 : ¬ (B.size : Int) < 1 := by omega
 have i2 : ¬ (24 : Int) < (B.size : Int) := by omega
 go_wp2_with fail
 go_loop [2, 3] (fun r i => ∃ t : Nat, t ≤ B.size ∧ r = .bool false ∧ i = .int .i64 (t : Int) ∧ Hid (∀ j, j < t → okC j (zA (tx B) j))) (fun _ i => B.size - (intOf i).toNat)
 case atStart => exact ⟨0, Nat.zero_le _, rfl, rfl, hid (fun j hj => by omega)⟩
 case round =>
  obtain ⟨t, ht, rfl, rfl, hok⟩ := hrel
  have HOK := hid hok.out
  clear hok
  by_cases hlt : t < B.size
  case neg =>
   obtain rfl : t = B.size := by omega
   go_wp2_with fail
   try go_returns
   exact HP.out _ (by simp; exact ⟨by have := HL.out; omega, fun i hi => HOK.out i (by rw [← HL.out]; exact hi)⟩)
  have t1 : (t : Int) < (B.size : Int) := by omega
  have hb := B[t].toNat_lt
  have HNX : Hid (okC t (B[t].toNat : Int) → ∀ j, j < t + 1 → okC j (zA (tx B) j)) := hid (fun h j hj => by
   by_cases hj2 : j < t
   ·exact HOK.out j hj2
   ·obtain rfl : j = t := by omega
    rw [HG.out j hlt]; exact h)
  have HBD : Hid (PartL (tx B) → okC t (B[t].toNat : Int)) := hid (fun h => by rw [← HG.out t hlt]; exact h.2 t (by rw [HL.out]; exact hlt))
  clear HG HOK
  by_cases a1 : 97 ≤ B[t].toNat ∧ B[t].toNat ≤ 122
  case pos =>
   have i0 : (97 : Int) ≤ (B[t].toNat : Int) := by omega
   have i1 : (B[t].toNat : Int) ≤ 122 := by omega
   have HK : Hid (okC t (B[t].toNat : Int)) := hid (by unfold okC; omega)
   try clear a0
   try clear a5
   try clear a6
   go_wp2_with fail
   go_round
   case rel => exact ⟨t + 1, by omega, rfl, by go_num, hid (HNX.out HK.out)⟩
   case measure => simp [intOf] <;> omega
  by_cases a2 : 48 ≤ B[t].toNat ∧ B[t].toNat ≤ 57
  case pos =>
   have i0 : ¬ (97 : Int) ≤ (B[t].toNat : Int) := by omega
   have i1 : (48 : Int) ≤ (B[t].toNat : Int) := by omega
   have i2 : (B[t].toNat : Int) ≤ 57 := by omega
   have HK : Hid (okC t (B[t].toNat : Int)) := hid (by unfold okC; omega)
   try clear a0
   try clear a5
   try clear a6
   go_wp2_with fail
   go_round
   case rel => exact ⟨t + 1, by omega, rfl, by go_num, hid (HNX.out HK.out)⟩
   case measure => simp [intOf] <;> omega
  by_cases a3 : 122 < B[t].toNat
  case pos =>
   by_cases a0 : t = 0
   case pos =>
    have i0 : (97 : Int) ≤ (B[t].toNat : Int) := by omega
    have i1 : ¬ (B[t].toNat : Int) ≤ 122 := by omega
    have i2 : (48 : Int) ≤ (B[t].toNat : Int) := by omega
    have i3 : ¬ (B[t].toNat : Int) ≤ 57 := by omega
    have i4 : ((t : Int) == 0) = true := by simp; omega
    have HK : Hid (¬ okC t (B[t].toNat : Int)) := hid (by unfold okC; omega)
    try clear a0
    try clear a5
    try clear a6
    go_wp2_with fail
    try go_returns
    exact HP.out _ (by simp; exact fun h => HK.out (HBD.out h))
   have i0 : (97 : Int) ≤ (B[t].toNat : Int) := by omega
   have i1 : ¬ (B[t].toNat : Int) ≤ 122 := by omega
   have i2 : (48 : Int) ≤ (B[t].toNat : Int) := by omega
   have i3 : ¬ (B[t].toNat : Int) ≤ 57 := by omega
   have i4 : ((t : Int) == 0) = false := by simp; omega
   have i5 : ((B[t].toNat : Int) != 46) = true := by simp; omega
   have i6 : ((B[t].toNat : Int) != 95) = true := by simp; omega
   have i7 : ((B[t].toNat : Int) != 45) = true := by simp; omega
   have HK : Hid (¬ okC t (B[t].toNat : Int)) := hid (by unfold okC; omega)
   try clear a0
   try clear a5
   try clear a6
   go_wp2_with fail
   try go_returns
   exact HP.out _ (by simp; exact fun h => HK.out (HBD.out h))
  by_cases a4 : B[t].toNat < 48
  case pos =>
   by_cases a0 : t = 0
   case pos =>
    have i0 : ¬ (97 : Int) ≤ (B[t].toNat : Int) := by omega
    have i1 : ¬ (48 : Int) ≤ (B[t].toNat : Int) := by omega
    have i2 : ((t : Int) == 0) = true := by simp; omega
    have HK : Hid (¬ okC t (B[t].toNat : Int)) := hid (by unfold okC; omega)
    try clear a0
    try clear a5
    try clear a6
    go_wp2_with fail
    try go_returns
    exact HP.out _ (by simp; exact fun h => HK.out (HBD.out h))
   by_cases a5 : B[t].toNat = 46
   case pos =>
    have i0 : ¬ (97 : Int) ≤ (B[t].toNat : Int) := by omega
    have i1 : ¬ (48 : Int) ≤ (B[t].toNat : Int) := by omega
    have i2 : ((t : Int) == 0) = false := by simp; omega
    have i3 : ((B[t].toNat : Int) != 46) = false := by simp; omega
    have HK : Hid (okC t (B[t].toNat : Int)) := hid (by unfold okC; omega)
    try clear a0
    try clear a5
    try clear a6
    go_wp2_with fail
    go_round
    case rel => exact ⟨t + 1, by omega, rfl, by go_num, hid (HNX.out HK.out)⟩
    case measure => simp [intOf] <;> omega
   by_cases a6 : B[t].toNat = 45
   case pos =>
    have i0 : ¬ (97 : Int) ≤ (B[t].toNat : Int) := by omega
    have i1 : ¬ (48 : Int) ≤ (B[t].toNat : Int) := by omega
    have i2 : ((t : Int) == 0) = false := by simp; omega
    have i3 : ((B[t].toNat : Int) != 46) = true := by simp; omega
    have i4 : ((B[t].toNat : Int) != 95) = true := by simp; omega
    have i5 : ((B[t].toNat : Int) != 45) = false := by simp; omega
    have HK : Hid (okC t (B[t].toNat : Int)) := hid (by unfold okC; omega)
    try clear a0
    try clear a5
    try clear a6
    go_wp2_with fail
    go_round
    case rel => exact ⟨t + 1, by omega, rfl, by go_num, hid (HNX.out HK.out)⟩
    case measure => simp [intOf] <;> omega
   have i0 : ¬ (97 : Int) ≤ (B[t].toNat : Int) := by omega
   have i1 : ¬ (48 : Int) ≤ (B[t].toNat : Int) := by omega
   have i2 : ((t : Int) == 0) = false := by simp; omega
   have i3 : ((B[t].toNat : Int) != 46) = true := by simp; omega
   have i4 : ((B[t].toNat : Int) != 95) = true := by simp; omega
   have i5 : ((B[t].toNat : Int) != 45) = true := by simp; omega
   have HK : Hid (¬ okC t (B[t].toNat : Int)) := hid (by unfold okC; omega)
   try clear a0
   try clear a5
   try clear a6
   go_wp2_with fail
   try go_returns
   exact HP.out _ (by simp; exact fun h => HK.out (HBD.out h))
  by_cases a0 : t = 0
  case pos =>
   have i0 : ¬ (97 : Int) ≤ (B[t].toNat : Int) := by omega
   have i1 : (48 : Int) ≤ (B[t].toNat : Int) := by omega
   have i2 : ¬ (B[t].toNat : Int) ≤ 57 := by omega
   have i3 : ((t : Int) == 0) = true := by simp; omega
   have HK : Hid (¬ okC t (B[t].toNat : Int)) := hid (by unfold okC; omega)
   try clear a0
   try clear a5
   try clear a6
   go_wp2_with fail
   try go_returns
   exact HP.out _ (by simp; exact fun h => HK.out (HBD.out h))
  by_cases a6 : B[t].toNat = 95
  case pos =>
   have i0 : ¬ (97 : Int) ≤ (B[t].toNat : Int) := by omega
   have i1 : (48 : Int) ≤ (B[t].toNat : Int) := by omega
   have i2 : ¬ (B[t].toNat : Int) ≤ 57 := by omega
   have i3 : ((t : Int) == 0) = false := by simp; omega
   have i4 : ((B[t].toNat : Int) != 46) = true := by simp; omega
   have i5 : ((B[t].toNat : Int) != 95) = false := by simp; omega
   have HK : Hid (okC t (B[t].toNat : Int)) := hid (by unfold okC; omega)
   try clear a0
   try clear a5
   try clear a6
   go_wp2_with fail
   go_round
   case rel => exact ⟨t + 1, by omega, rfl, by go_num, hid (HNX.out HK.out)⟩
   case measure => simp [intOf] <;> omega
  have i0 : ¬ (97 : Int) ≤ (B[t].toNat : Int) := by omega
  have i1 : (48 : Int) ≤ (B[t].toNat : Int) := by omega
  have i2 : ¬ (B[t].toNat : Int) ≤ 57 := by omega
  have i3 : ((t : Int) == 0) = false := by simp; omega
  have i4 : ((B[t].toNat : Int) != 46) = true := by simp; omega
  have i5 : ((B[t].toNat : Int) != 95) = true := by simp; omega
  have i6 : ((B[t].toNat : Int) != 45) = true := by simp; omega
  have HK : Hid (¬ okC t (B[t].toNat : Int)) := hid (by unfold okC; omega)
  try clear a0
  try clear a5
  try clear a6
  go_wp2_with fail
  try go_returns
  exact HP.out _ (by simp; exact fun h => HK.out (HBD.out h))
theorem refPart_any (B : ByteArray) (w : World) :
  Calls Tryz.prog 32 #[.string B] w fun e w' => e = .returned (.bool (decide (PartL (tx B)))) ∧ w' = w := by
 have HC := hid (refPart0_any B w)
 go_enter Tryz.func32, Tryz.ntmps32
 go_wp2_with fail
 refine HC.out.mono ?_
 rintro e _ ⟨rfl, rfl⟩
 go_wp2_with fail
 try go_returns
 exact ⟨rfl, rfl⟩
end
section
open Go.RowKit Go.Lib
theorem splitU_cut : ∀ (l : List UInt8) (k : Nat), k < l.length → (∀ j, j < k → l[j]? ≠ some 47) → l[k]? = some 47 → splitU l = l.take k :: splitU (l.drop (k + 1))
 | [], k, h, _, _ => by simp at h
 | b :: l, 0, _, _, h => by
  simp at h
  subst h
  simp [splitU]
 | b :: l, k + 1, hk, hn, h => by
  have hb : b ≠ 47 := fun e => hn 0 (by omega) (by simp [e])
  have ih := splitU_cut l k (by simpa using hk) (fun j hj => by have := hn (j + 1) (by omega); simpa using this) (by simpa using h)
  rw [splitU, if_neg hb, ih]
  simp
theorem splitU_end (l : List UInt8) (h : ∀ j, j < l.length → l[j]? ≠ some 47) : splitU l = [l] := by
 apply splitU_none
 unfold Lib.countByte
 exact List.count_eq_zero.2 (fun hm => by
  obtain ⟨j, hj, e⟩ := List.getElem_of_mem hm
  exact h j hj (by rw [List.getElem?_eq_getElem hj, e]))
def NameU (l : List UInt8) : Prop := l.length ≤ 240 ∧ PartsU l 8
instance (l : List UInt8) : Decidable (NameU l) := by unfold NameU; infer_instance
theorem tx_extract (s : ByteArray) (f t : Nat) : tx (s.extract f t) = txU ((s.data.toList.drop f).take (t - f)) := by
 simp [tx, txU, List.take_drop, List.extract]
theorem refName_any (s : ByteArray) (w : World) :
  Calls Tryz.prog 78 #[.string s] w fun e w' => e = .returned (.bool (decide (NameU s.data.toList))) ∧ w' = w := by
 obtain ⟨PO, hPO⟩ : ∃ PO : Ending → World → Prop, (fun e w' => e = .returned (.bool (decide (NameU s.data.toList))) ∧ w' = w) = PO := ⟨_, rfl⟩
 rw [hPO]
 have HP : Hid (∀ x, (x = true ↔ NameU s.data.toList) → PO (.returned (.bool x)) w) := hid (fun x h => by rw [← hPO]; exact ⟨by rw [bool_decR h], rfl⟩)
 have HSZ : Hid (s.data.toList.length = s.size) := hid (by have h : s.data.size = s.size := rfl; rw [Array.length_toList]; exact h)
 have HG : Hid (∀ t (h : t < s.size), s.data.toList[t]? = some s[t]) := hid (fun t h => by
  have h2 : t < s.data.size := h
  rw [Array.getElem?_toList, Array.getElem?_eq_getElem h2]
  rfl)
 have HTX : Hid (∀ f t, tx (s.extract f t) = txU ((s.data.toList.drop f).take (t - f))) := hid (tx_extract s)
 have HCL := hid (fun B => refPart0_any B w)
 have HLE := hid (splitU_len s.data.toList)
 obtain ⟨l, hl⟩ := eX (s.data.toList)
 rw [hl] at HP HSZ HG HTX HLE
 clear hPO hl
 go_enter Tryz.func78, Tryz.ntmps78
 by_cases h1 : 240 < s.size
 case pos =>
  have i1 : (240 : Int) < (s.size : Int) := by omega
  go_wp2_with fail
  try go_returns
  exact HP.out _ (by simp; intro h; have := h.1; have := HSZ.out; omega)
 have i1 : ¬ (240 : Int) < (s.size : Int) := by omega
 go_wp2_with fail
 go_loop [2, 3, 4, 5] (fun r np fv iv => ∃ (f t d : Nat) (done : List (List UInt8)), t ≤ s.size ∧ f ≤ t ∧ d ≤ t ∧ r = .bool false ∧ np = .int .i64 ((d + 1 : Nat) : Int) ∧ fv = .int .i64 (f : Int) ∧ iv = .int .i64 (t : Int) ∧ Hid (done.length = d) ∧ Hid (splitU l = done ++ splitU (l.drop f)) ∧ Hid (∀ p ∈ done, PartL (txU p)) ∧ Hid (∀ j, f ≤ j → j < t → l[j]? ≠ some 47)) (fun _ _ _ i => s.size - (intOf i).toNat)
 case atStart => exact ⟨0, 0, 0, [], Nat.zero_le _, Nat.le_refl _, Nat.le_refl _, rfl, rfl, rfl, rfl, hid rfl, hid (by simp), hid (by simp), hid (fun j _ hj => by omega)⟩
 case round =>
  obtain ⟨f, t, d, done, ht, hft, hdt, rfl, rfl, rfl, rfl, hdl, hsp, hdn, hno⟩ := hrel
  have HDL := hid hdl.out
  have HSP := hid hsp.out
  have HDN := hid hdn.out
  have HNO := hid hno.out
  clear hdl hsp hdn hno
  by_cases hlt : t < s.size
  case neg =>
   obtain rfl : t = s.size := by omega
   have HEN : Hid (splitU l = done ++ [l.drop f]) := hid (by
    rw [HSP.out, splitU_end (l.drop f)]
    intro j hj
    rw [List.length_drop] at hj
    rw [List.getElem?_drop]
    exact HNO.out (f + j) (by omega) (by have := HSZ.out; omega))
   have HPA : Hid (PartsU l 8 ↔ d + 1 ≤ 8 ∧ PartL (txU (l.drop f))) := hid (by
    have hle := HLE.out
    have hdl := HDL.out
    unfold PartsU
    rw [HEN.out] at hle ⊢
    rw [List.length_append, List.length_singleton] at hle
    constructor
    ·rintro ⟨k1, k2⟩
     exact ⟨by omega, k2 _ (by simp)⟩
    ·rintro ⟨k1, k2⟩
     refine ⟨by omega, fun p hp => ?_⟩
     rcases List.mem_append.1 hp with h | h
     ·exact HDN.out p h
     ·rw [List.mem_singleton] at h; rw [h]; exact k2)
   have HNM : Hid (NameU l ↔ d + 1 ≤ 8 ∧ PartL (txU (l.drop f))) := hid (by
    unfold NameU
    rw [HPA.out]
    exact ⟨fun h => h.2, fun h => ⟨by have := HSZ.out; omega, h⟩⟩)
   by_cases h8 : d + 1 ≤ 8
   case neg =>
    have i2 : ¬ ((d + 1 : Nat) : Int) ≤ 8 := by omega
    have HX := hid (HP.out false (by rw [HNM.out]; simp; omega))
    clear h8
    go_wp2_with fail
    try go_returns
    exact HX.out
   have i2 : ((d + 1 : Nat) : Int) ≤ 8 := by omega
   have f0 : (0 : Int) ≤ (f : Int) := by omega
   have f1 : (f : Int) ≤ (s.size : Int) := by omega
   have hc := HCL.out (s.extract f s.size)
   rw [HTX.out, List.take_of_length_le (by rw [List.length_drop]; have := HSZ.out; omega)] at hc
   have HC := hid hc
   have HX := hid (HP.out (decide (PartL (txU (l.drop f)))) (by rw [HNM.out, decide_eq_true_eq]; exact ⟨fun h => ⟨h8, h⟩, fun h => h.2⟩))
   clear hc h8
   go_wp2_with fail
   refine HC.out.mono ?_
   rintro e _ ⟨rfl, rfl⟩
   go_wp2_with fail
   try go_returns
   exact HX.out
  have t1 : (t : Int) < (s.size : Int) := by omega
  have t0 : (0 : Int) ≤ (t : Int) := by omega
  have f0 : (0 : Int) ≤ (f : Int) := by omega
  have f1 : (f : Int) ≤ (t : Int) := by omega
  have f2 : (t : Int) ≤ (s.size : Int) := by omega
  have hg := HG.out t hlt
  have HG1 := hid hg
  clear hg
  by_cases h47 : s[t] = 47
  case neg =>
   have i2 : ((s[t].toNat : Int) == 47) = false := by
    have : s[t].toNat ≠ 47 := fun e => h47 (UInt8.toNat_inj.1 e)
    simp
    omega
   have HN2 : Hid (∀ j, f ≤ j → j < t + 1 → l[j]? ≠ some 47) := hid (fun j hj1 hj2 => by
    by_cases hj3 : j < t
    ·exact HNO.out j hj1 hj3
    ·obtain rfl : j = t := by omega
     rw [HG1.out]
     intro e
     exact h47 (Option.some.inj e))
   clear h47
   go_wp2_with fail
   go_round
   case rel => exact ⟨f, t + 1, d, done, by omega, by omega, by omega, rfl, rfl, rfl, by go_num, HDL, HSP, HDN, HN2⟩
   case measure => simp [intOf] <;> omega
  have i2 : ((s[t].toNat : Int) == 47) = true := by rw [h47]; rfl
  have HCU : Hid (splitU (l.drop f) = (l.drop f).take (t - f) :: splitU (l.drop (t + 1))) := hid (by
   have h := splitU_cut (l.drop f) (t - f) (by rw [List.length_drop]; have := HSZ.out; omega) (fun j hj => by rw [List.getElem?_drop]; exact HNO.out (f + j) (by omega) (by omega)) (by rw [List.getElem?_drop, show f + (t - f) = t by omega, HG1.out, h47])
   rw [List.drop_drop, show f + (t - f + 1) = t + 1 by omega] at h
   exact h)
  have hc := HCL.out (s.extract f t)
  rw [HTX.out] at hc
  have HMEM : Hid (PartsU l 8 → PartL (txU ((l.drop f).take (t - f)))) := hid (fun h => h.2 _ (by rw [HSP.out, HCU.out]; simp))
  clear h47
  by_cases hp : PartL (txU ((l.drop f).take (t - f)))
  case neg =>
   rw [decide_eq_false hp] at hc
   have HC := hid hc
   have HX := hid (HP.out false (by simp; exact fun h => hp (HMEM.out h.2)))
   clear hc hp
   go_wp2_with fail
   refine HC.out.mono ?_
   rintro e _ ⟨rfl, rfl⟩
   go_wp2_with fail
   try go_returns
   exact HX.out
  rw [decide_eq_true hp] at hc
  have HC := hid hc
  have HDL2 : Hid ((done ++ [(l.drop f).take (t - f)]).length = d + 1) := hid (by rw [List.length_append, HDL.out]; rfl)
  have HSP2 : Hid (splitU l = (done ++ [(l.drop f).take (t - f)]) ++ splitU (l.drop (t + 1))) := hid (by rw [HSP.out, HCU.out]; simp)
  have HDN2 : Hid (∀ p ∈ done ++ [(l.drop f).take (t - f)], PartL (txU p)) := hid (fun p hm => by
   rcases List.mem_append.1 hm with h | h
   ·exact HDN.out p h
   ·rw [List.mem_singleton] at h; rw [h]; exact hp)
  clear hc hp
  go_wp2_with fail
  refine HC.out.mono ?_
  rintro e _ ⟨rfl, rfl⟩
  go_wp2_with fail
  go_round
  case rel => exact ⟨t + 1, t + 1, d + 1, _, by omega, by omega, by omega, rfl, by go_num, by go_num, by go_num, HDL2, HSP2, HDN2, hid (fun j h1 h2 => by omega)⟩
  case measure => simp [intOf] <;> omega
end
section
open Go.RowKit Go.Lib
def fldB (r : Rc) : List Bool := [!r.name.toList.isEmpty, r.many != 0, r.typ != 0, r.frm != 0, r.guid != 0, r.origin != 0, !r.snap.toList.isEmpty, decide (0 < r.pn), r.obj != 0, r.at_ != 0, decide (0 < r.kn), decide (0 < r.dl)]
def sumB (bs : List Bool) : Nat → Nat
 | 0 => 0
 | t + 1 => sumB bs t + (if bs.getD t false then 2 ^ t else 0)
theorem sumB_lt (bs : List Bool) : ∀ t, sumB bs t < 2 ^ t
 | 0 => by simp [sumB]
 | t + 1 => by
  have h := sumB_lt bs t
  rw [sumB, Nat.pow_succ]
  split <;> omega
theorem refFields_any (r : Rc) (w : World) :
  Calls Tryz.prog 76 #[.agg r.arr] w fun e w' => e = .returned (.int .i64 (sumB (fldB r) 12 : Nat)) ∧ Frm [] w w' := by
 obtain ⟨PO, hPO⟩ : ∃ PO : Ending → World → Prop, (fun e w' => e = .returned (.int .i64 (sumB (fldB r) 12 : Nat)) ∧ Frm [] w w') = PO := ⟨_, rfl⟩
 rw [hPO]
 have HP : Hid (∀ w', Frm [] w w' → PO (.returned (.int .i64 (sumB (fldB r) 12 : Nat))) w') := hid (fun w' h => by rw [← hPO]; exact ⟨rfl, h⟩)
 have HBS : Hid (fldB r = [!r.name.toList.isEmpty, r.many != 0, r.typ != 0, r.frm != 0, r.guid != 0, r.origin != 0, !r.snap.toList.isEmpty, decide (0 < r.pn), r.obj != 0, r.at_ != 0, decide (0 < r.kn), decide (0 < r.dl)]) := hid rfl
 obtain ⟨bs, hbs⟩ := eX (fldB r)
 rw [hbs] at HP HBS
 have hrow := heap_alloc_new w (.cells r.arr 26)
 have hfa : Frm [] w (w.alloc (.cells r.arr 26)) := (Frm.refl _ _).alloc _
 obtain ⟨wa, hwa⟩ := eX (w.alloc (.cells r.arr 26))
 obtain ⟨ba, hba⟩ := eX (w.heap.size)
 rw [hwa, hba] at hrow
 rw [hwa] at hfa
 have HWA := hid hwa
 have HBA := hid hba
 have HROW := hid hrow
 have HFA := hid hfa
 clear hPO hrow hfa hwa hba hbs
 obtain ⟨kind, name, typ, frm, guid, origin, snap, pp, pn, pc, obj, at_, many, kp, kn, kc, dp, dl, dc⟩ := r
 unfold Rc.arr at HWA HROW ⊢
 simp only at HWA HROW HBS ⊢
 go_enter Tryz.func76, Tryz.ntmps76
 have z1 := cR 1 (.string name) HROW.out
 have z2 := cR 2 (.int .i64 typ) HROW.out
 have z3 := cR 3 (.int .i64 frm) HROW.out
 have z4 := cR 4 (.int .i64 guid) HROW.out
 have z5 := cR 5 (.int .i64 origin) HROW.out
 have z6 := cR 6 (.string snap) HROW.out
 have z7 := cR 7 (.slice pp pn pc) HROW.out
 have z8 := cR 8 (.int .i64 obj) HROW.out
 have z9 := cR 9 (.int .i64 at_) HROW.out
 have z10 := cR 10 (.int .i64 many) HROW.out
 have z11 := cR 11 (.slice kp kn kc) HROW.out
 have z12 := cR 12 (.slice dp dl dc) HROW.out
 go_upto_region 1 with fail
 try rw [HBA.out]
 try rw [HWA.out]
 go_upto_region 3 with fail
 obtain ⟨a, ha⟩ := eX ((#[.bool !name.toList.isEmpty, .bool (many != 0), .bool (typ != 0), .bool (frm != 0), .bool (guid != 0), .bool (origin != 0), .bool !snap.toList.isEmpty, .bool (decide (0 < pn)), .bool (obj != 0), .bool (at_ != 0), .bool (decide (0 < kn)), .bool (decide (0 < dl))] : Array Value))
 have hae : a = (bs.map Value.bool).toArray := by rw [← ha, HBS.out]; rfl
 have hbl : bs.length = 12 := by rw [HBS.out]; rfl
 have hrb := heap_alloc_new wa (.cells a 4)
 have hfb : Frm [] wa (wa.alloc (.cells a 4)) := (Frm.refl _ _).alloc _
 rw [ha]
 obtain ⟨wb, hwb⟩ := eX (wa.alloc (.cells a 4))
 obtain ⟨bb, hbb⟩ := eX (wa.heap.size)
 rw [hwb, hbb] at hrb
 rw [hwb] at hfb ⊢
 rw [hbb]
 have HFB : Hid (Frm [] w wb) := hid (HFA.out.trans hfb (by simp))
 have HEL : Hid (∀ t, t < 12 → wb.cell? ⟨bb, t, none⟩ = some (.bool (bs.getD t false))) := hid (fun t ht => by
  rw [cell_of_row _ _ _ _ _ _ hrb, hae, List.getElem?_toArray, List.getElem?_map, List.getD_eq_getElem?_getD, List.getElem?_eq_getElem (by omega)]
  rfl)
 clear ha hae hrb hfb hwb hbb z1 z2 z3 z4 z5 z6 z7 z8 z9 z10 z11 z12
 go_wp2_with fail
 go_loop [3, 5, 6] (fun n b i => ∃ t : Nat, t ≤ 12 ∧ n = .int .i64 (sumB bs t : Nat) ∧ b = .int .i64 (2 ^ t : Nat) ∧ i = .int .i64 (t : Int)) (fun _ _ i => 12 - (intOf i).toNat)
 case atStart => exact ⟨0, by omega, rfl, rfl, rfl⟩
 case round =>
  obtain ⟨t, ht, rfl, rfl, rfl⟩ := hrel
  by_cases hlt : t < 12
  case neg =>
   obtain rfl : t = 12 := by omega
   go_wp2_with fail
   try go_returns
   exact HP.out _ HFB.out
  have t1 : (t : Int) < 12 := by omega
  have z0 := HEL.out t hlt
  have hs := sumB_lt bs t
  have hp : 2 ^ t ≤ 2 ^ 11 := Nat.pow_le_pow_right (by omega) (by omega)
  have HST : Hid (sumB bs (t + 1) = sumB bs t + (if bs.getD t false then 2 ^ t else 0)) := hid rfl
  have HPT : Hid (2 ^ (t + 1) = 2 * 2 ^ t) := hid (by rw [Nat.pow_succ]; omega)
  obtain ⟨n, hn⟩ := eX (sumB bs t)
  obtain ⟨m, hm⟩ := eX (2 ^ t)
  rw [hn] at hs HST ⊢
  rw [hm] at hs hp HST HPT ⊢
  obtain ⟨q, hq⟩ := eX (bs.getD t false)
  rw [hq] at z0 HST
  clear hn hm hq
  cases q with
  | false =>
   go_wp2_with fail
   go_round
   case rel => exact ⟨t + 1, by omega, by rw [HST.out]; simp, by rw [HPT.out]; go_num, by go_num⟩
   case measure => simp [intOf] <;> omega
  | true =>
   go_wp2_with fail
   go_round
   case rel => exact ⟨t + 1, by omega, by rw [HST.out]; go_num, by rw [HPT.out]; go_num, by go_num⟩
   case measure => simp [intOf] <;> omega
end
section
open Go.RowKit Go.Lib
theorem i64_orR (a b : Nat) (ha : a < 9223372036854775808) (hb : b < 9223372036854775808) : bits .or .i64 (a : Int) (b : Int) = ((a ||| b : Nat) : Int) := by
 have hx : a ||| b < 2 ^ 63 := Nat.or_lt_two_pow (by omega) (by omega)
 show IntKind.i64.wrap ((BitVec.ofInt 64 (a : Int) ||| BitVec.ofInt 64 (b : Int)).toNat : Int) = _
 rw [BitVec.toNat_or, ofInt_u64 a (by omega), ofInt_u64 b (by omega)]
 exact IntWalk.i64_in _ (by omega)
theorem refOnly_any (r : Rc) (m : Nat) (hm : m < 4096) (w : World) :
  Calls Tryz.prog 31 #[.agg r.arr, .int .i64 (m : Nat)] w fun e w' => e = .returned (.bool (decide (sumB (fldB r) 12 ||| m = m))) ∧ Frm [] w w' := by
 obtain ⟨PO, hPO⟩ : ∃ PO : Ending → World → Prop, (fun e w' => e = .returned (.bool (decide (sumB (fldB r) 12 ||| m = m))) ∧ Frm [] w w') = PO := ⟨_, rfl⟩
 rw [hPO]
 have HP : Hid (∀ x w', (x = true ↔ sumB (fldB r) 12 ||| m = m) → Frm [] w w' → PO (.returned (.bool x)) w') := hid (fun x w' h h2 => by rw [← hPO]; exact ⟨by rw [bool_decR h], h2⟩)
 have hrow := heap_alloc_new w (.cells r.arr 26)
 have hfa : Frm [] w (w.alloc (.cells r.arr 26)) := (Frm.refl _ _).alloc _
 obtain ⟨wa, hwa⟩ := eX (w.alloc (.cells r.arr 26))
 obtain ⟨ba, hba⟩ := eX (w.heap.size)
 rw [hwa, hba] at hrow
 rw [hwa] at hfa
 have HWA := hid hwa
 have HBA := hid hba
 have HROW := hid hrow
 have HFA := hid hfa
 have HF := hid (refFields_any r wa)
 have HLT := hid (sumB_lt (fldB r) 12)
 obtain ⟨n, hn⟩ := eX (sumB (fldB r) 12)
 rw [hn] at HP HF HLT
 clear hPO hrow hfa hwa hba hn
 obtain ⟨kind, name, typ, frm, guid, origin, snap, pp, pn, pc, obj, at_, many, kp, kn, kc, dp, dl, dc⟩ := r
 unfold Rc.arr at HWA HROW HF ⊢
 simp only at HWA HROW HF ⊢
 go_enter Tryz.func31, Tryz.ntmps31
 have z0 := cR 0 (.int .i64 kind) HROW.out
 have z1 := cR 1 (.string name) HROW.out
 have z2 := cR 2 (.int .i64 typ) HROW.out
 have z3 := cR 3 (.int .i64 frm) HROW.out
 have z4 := cR 4 (.int .i64 guid) HROW.out
 have z5 := cR 5 (.int .i64 origin) HROW.out
 have z6 := cR 6 (.string snap) HROW.out
 have z7 := cR 7 (.slice pp pn pc) HROW.out
 have z8 := cR 8 (.int .i64 obj) HROW.out
 have z9 := cR 9 (.int .i64 at_) HROW.out
 have z10 := cR 10 (.int .i64 many) HROW.out
 have z11 := cR 11 (.slice kp kn kc) HROW.out
 have z12 := cR 12 (.slice dp dl dc) HROW.out
 go_upto_region 1 with fail
 try rw [HBA.out]
 try rw [HWA.out]
 go_wp2_with fail
 refine HF.out.mono ?_
 rintro e w1 ⟨rfl, hf1⟩
 have HF1 : Hid (Frm [] w w1) := hid (HFA.out.trans hf1 (by simp))
 clear hf1 z0 z1 z2 z3 z4 z5 z6 z7 z8 z9 z10 z11 z12
 go_wp2_with fail
 try go_returns
 refine HP.out _ _ ?_ HF1.out
 have hlt := HLT.out
 rw [i64_orR n m (by omega) (by omega), beq_iff_eq]
 exact Int.ofNat_inj
theorem only_3 : ∀ b0 b1 b2 b3 b4 b5 b6 b7 b8 b9 b10 b11 : Bool, decide (sumB [b0, b1, b2, b3, b4, b5, b6, b7, b8, b9, b10, b11] 12 ||| 3 = 3) = (!b2 && !b3 && !b4 && !b5 && !b6 && !b7 && !b8 && !b9 && !b10 && !b11) := by decide +kernel
theorem only_253 : ∀ b0 b1 b2 b3 b4 b5 b6 b7 b8 b9 b10 b11 : Bool, decide (sumB [b0, b1, b2, b3, b4, b5, b6, b7, b8, b9, b10, b11] 12 ||| 253 = 253) = (!b1 && !b8 && !b9 && !b10 && !b11) := by decide +kernel
theorem only_1024 : ∀ b0 b1 b2 b3 b4 b5 b6 b7 b8 b9 b10 b11 : Bool, decide (sumB [b0, b1, b2, b3, b4, b5, b6, b7, b8, b9, b10, b11] 12 ||| 1024 = 1024) = (!b0 && !b1 && !b2 && !b3 && !b4 && !b5 && !b6 && !b7 && !b8 && !b9 && !b11) := by decide +kernel
theorem only_1280 : ∀ b0 b1 b2 b3 b4 b5 b6 b7 b8 b9 b10 b11 : Bool, decide (sumB [b0, b1, b2, b3, b4, b5, b6, b7, b8, b9, b10, b11] 12 ||| 1280 = 1280) = (!b0 && !b1 && !b2 && !b3 && !b4 && !b5 && !b6 && !b7 && !b9 && !b11) := by decide +kernel
theorem only_2816 : ∀ b0 b1 b2 b3 b4 b5 b6 b7 b8 b9 b10 b11 : Bool, decide (sumB [b0, b1, b2, b3, b4, b5, b6, b7, b8, b9, b10, b11] 12 ||| 2816 = 2816) = (!b0 && !b1 && !b2 && !b3 && !b4 && !b5 && !b6 && !b7 && !b10) := by decide +kernel
theorem only_2 : ∀ b0 b1 b2 b3 b4 b5 b6 b7 b8 b9 b10 b11 : Bool, decide (sumB [b0, b1, b2, b3, b4, b5, b6, b7, b8, b9, b10, b11] 12 ||| 2 = 2) = (!b0 && !b2 && !b3 && !b4 && !b5 && !b6 && !b7 && !b8 && !b9 && !b10 && !b11) := by decide +kernel
end
section
open Go.RowKit Go.Lib
theorem splitU_sumX : ∀ l, ((splitU l).map fun p => p.length + 1).sum = l.length + 1
 | [] => rfl
 | b :: l => by
  have ih := splitU_sumX l
  have hl := splitU_len l
  rw [splitU]
  by_cases hb : b = 47
  ·rw [if_pos hb]; simp [ih]; omega
  ·rw [if_neg hb]
   cases hs : splitU l with
   | nil => rw [hs] at hl; simp at hl
   | cons p ps => rw [hs] at ih; simp at ih ⊢; omega
theorem sum_le25X : ∀ L : List (List UInt8), (∀ p ∈ L, p.length ≤ 24) → (L.map fun p => p.length + 1).sum ≤ 25 * L.length
 | [], _ => by simp
 | p :: L, h => by
  have ih := sum_le25X L (fun q hq => h q (by simp [hq]))
  have := h p (by simp)
  simp only [List.map_cons, List.sum_cons, List.length_cons]; omega
theorem splitU_x (m : List UInt8) : splitU (120 :: 47 :: m) = [120] :: splitU m := by
 rw [splitU, if_neg (by decide), splitU, if_pos rfl]
theorem part_x : PartL (txU [120]) := by decide
theorem nameU_root (l : List UInt8) : NmOk l ↔ l = [] ∨ (rootU l ∧ NameU (120 :: l)) := by
 unfold NmOk
 cases l with
 | nil => simp
 | cons b m =>
  by_cases hb : b = 47
  ·subst hb
   have h : NameU (120 :: 47 :: m) ↔ PartsU m 7 := by
    unfold NameU PartsU
    rw [splitU_x]
    have hc : Lib.countByte (120 :: 47 :: m) 47 = Lib.countByte m 47 + 1 := by
     unfold Lib.countByte
     rw [List.count_cons_of_ne (by decide), List.count_cons_self]
    rw [hc]
    constructor
    ·rintro ⟨_, h1, h2⟩
     exact ⟨by omega, fun p hp => h2 p (List.mem_cons_of_mem _ hp)⟩
    ·rintro ⟨h1, h2⟩
     refine ⟨?_, by omega, fun p hp => ?_⟩
     ·have h3 := splitU_sumX m
      have h4 := sum_le25X (splitU m) (fun p hp => by
       have := (h2 p hp).1.2
       unfold txU at this
       simpa using this)
      rw [splitU_len] at h4
      simp only [List.length_cons]
      omega
     ·rcases List.mem_cons.1 hp with h | h
      ·rw [h]; exact part_x
      ·exact h2 p h
   rw [h]
   rfl
  ·have : ¬ rootU (b :: m) := by unfold rootU; simpa using hb
   simp [this]
theorem ba_emp (s : ByteArray) : (!(!s.toList.isEmpty)) = true ↔ s = ⟨#[]⟩ := by
 rw [Bool.not_not, Lib.toList_data, List.isEmpty_iff]
 constructor
 ·intro h; rw [← str_txB s]; simp [tx, h, strOfNums]
 ·intro h; rw [h]
theorem int_emp (x : Int) : (!(x != 0)) = true ↔ x = 0 := by simp
theorem len_emp {α : Type} {L : List α} {n : Nat} (h : L.length = n) : (!decide (0 < n)) = true ↔ L = [] := by
 subst h
 cases L <;> simp
theorem onlyR_3 (r : Rc) (P : List Pr) (K D : List Int) (hp : P.length = r.pn) (hk : K.length = r.kn) (hd : D.length = r.dl) : sumB (fldB r) 12 ||| 3 = 3 ↔ SameR r r.onlyPackage P [] K [] D [] := by
 refine decide_eq_true_iff.symm.trans ?_
 unfold fldB SameR Rc.onlyPackage
 rw [only_3]
 simp only [Bool.and_eq_true, int_emp, ba_emp, len_emp hp, len_emp hk, len_emp hd]
 constructor
 ·intro h; simp [h]
 ·intro h; simp [h]
theorem onlyR_253 (r : Rc) (P : List Pr) (K D : List Int) (hk : K.length = r.kn) (hd : D.length = r.dl) : sumB (fldB r) 12 ||| 253 = 253 ↔ SameR r r.onlyBegin P P K [] D [] := by
 refine decide_eq_true_iff.symm.trans ?_
 unfold fldB SameR Rc.onlyBegin
 rw [only_253]
 simp only [Bool.and_eq_true, int_emp, len_emp hk, len_emp hd]
 constructor
 ·intro h; simp [h]
 ·intro h; simp [h]
theorem onlyR_1024 (r : Rc) (P : List Pr) (K D : List Int) (hp : P.length = r.pn) (hd : D.length = r.dl) : sumB (fldB r) 12 ||| 1024 = 1024 ↔ SameR r r.onlyLive P [] K K D [] := by
 refine decide_eq_true_iff.symm.trans ?_
 unfold fldB SameR Rc.onlyLive
 rw [only_1024]
 simp only [Bool.and_eq_true, int_emp, ba_emp, len_emp hp, len_emp hd]
 constructor
 ·intro h; simp [h]
 ·intro h; simp [h]
theorem onlyR_1280 (r : Rc) (P : List Pr) (K D : List Int) (hp : P.length = r.pn) (hd : D.length = r.dl) : sumB (fldB r) 12 ||| 1280 = 1280 ↔ SameR r r.onlyNode P [] K K D [] := by
 refine decide_eq_true_iff.symm.trans ?_
 unfold fldB SameR Rc.onlyNode
 rw [only_1280]
 simp only [Bool.and_eq_true, int_emp, ba_emp, len_emp hp, len_emp hd]
 constructor
 ·intro h; simp [h]
 ·intro h; simp [h]
theorem onlyR_2816 (r : Rc) (P : List Pr) (K D : List Int) (hp : P.length = r.pn) (hk : K.length = r.kn) : sumB (fldB r) 12 ||| 2816 = 2816 ↔ SameR r r.onlyWrite P [] K [] D D := by
 refine decide_eq_true_iff.symm.trans ?_
 unfold fldB SameR Rc.onlyWrite
 rw [only_2816]
 simp only [Bool.and_eq_true, int_emp, ba_emp, len_emp hp, len_emp hk]
 constructor
 ·intro h; simp [h]
 ·intro h; simp [h]
theorem onlyR_2 (r : Rc) (P : List Pr) (K D : List Int) (hp : P.length = r.pn) (hk : K.length = r.kn) (hd : D.length = r.dl) : sumB (fldB r) 12 ||| 2 = 2 ↔ SameR r r.onlyCount P [] K [] D [] := by
 refine decide_eq_true_iff.symm.trans ?_
 unfold fldB SameR Rc.onlyCount
 rw [only_2]
 simp only [Bool.and_eq_true, int_emp, ba_emp, len_emp hp, len_emp hk, len_emp hd]
 constructor
 ·intro h; simp [h]
 ·intro h; simp [h]
end
end Go.Proofs.YtajfjkfnmmfhmaaGreatDoor
