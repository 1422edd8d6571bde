/- Records, the document's side: numbers that rise. -/
import Derived.Test.YtajfjkfnmmfhmaaGreatDoorQwah
import Derived.Test.YtajfjkfnmmfhmaaGreatDoorQwai
namespace Go.Proofs.YtajfjkfnmmfhmaaGreatDoor
section
open Go.RowKit Go.Lib
set_option maxRecDepth 100000
set_option maxHeartbeats 6400000 in
theorem refRising_any (p : Option Addr) (n c : Nat) (K : List Int) (lo hi : Int) (w : World) (hn : K.length = n) (hn9 : n ≤ 9223372036854775807) (hr : RdI w p K) :
    Calls Tryz.prog 34 #[.slice p n c, .int .i64 lo, .int .i64 hi] w fun e w' => e = .returned (.bool (decide (RiseL K lo hi ∧ n ≤ 240))) ∧ Frm [] w w' := by
  obtain ⟨PO, hPO⟩ : ∃ PO : Ending → World → Prop, (fun e w' => e = .returned (.bool (decide (RiseL K lo hi ∧ n ≤ 240))) ∧ Frm [] w w') = PO := ⟨_, rfl⟩
  rw [hPO]
  have HP : Hid (∀ x w', (x = true ↔ (RiseL K lo hi ∧ n ≤ 240)) → Frm [] w w' → PO (.returned (.bool x)) w') := hid (fun x w' h hf => by rw [← hPO]; exact ⟨by rw [bool_decR h], hf⟩)
  have HR := hid (fun W (hf : Frm [] w W) => hr.kept hf (by simp))
  have HN := hid hn
  clear hPO hr hn
  go_enter Tryz.func34, Tryz.ntmps34
  go_wp2_with fail
  go_loopw [6, 7] (fun r i wr => ∃ t : Nat, t ≤ n ∧ r = .bool false ∧ i = .int .i64 (t : Int) ∧ Hid (∀ j, j < t → (lo ≤ zA K j ∧ zA K j ≤ hi) ∧ (0 < j → zA K (j - 1) < zA K j)) ∧ Hid (Frm [] w wr)) (fun _ i _ => n - (intOf i).toNat)
  case atStart => exact ⟨0, Nat.zero_le _, rfl, rfl, hid (fun j hj => by omega), hid (Frm.refl _ _)⟩
  case round =>
    obtain ⟨t, ht, rfl, rfl, hok, hf⟩ := hrel
    have HOK := hid hok.out
    have HF := hid hf.out
    clear hok hf
    by_cases hlt : t < n
    case neg =>
      obtain rfl : t = n := by omega
      have HRI : Hid (RiseL K lo hi) := hid (fun i hi => HOK.out i (by rw [← HN.out]; exact hi))
      by_cases h2 : t ≤ 240
      · have i2 : (t : Int) ≤ 240 := by omega
        have HX := hid (HP.out true wr (by simp only [true_iff]; exact ⟨HRI.out, h2⟩) HF.out)
        clear h2
        go_wp2_with fail
        first | go_returns | skip
        exact HX.out
      · have i2 : ¬ (t : Int) ≤ 240 := by omega
        have HX := hid (HP.out false wr (by simp; intro _; omega) HF.out)
        clear h2
        go_wp2_with fail
        first | go_returns | skip
        exact HX.out
    have t1 : (t : Int) < (n : Int) := by omega
    obtain ⟨g, o, rfl, hc⟩ := (HR.out wr HF.out).at (i := t) (by rw [HN.out]; exact hlt)
    have z0 := hc t (by rw [HN.out]; exact hlt)
    have HBD : Hid (RiseL K lo hi → (lo ≤ zA K t ∧ zA K t ≤ hi) ∧ (0 < t → zA K (t - 1) < zA K t)) := hid (fun h => h t (by rw [HN.out]; exact hlt))
    have HNX : Hid ((lo ≤ zA K t ∧ zA K t ≤ hi) ∧ (0 < t → zA K (t - 1) < zA K t) → ∀ j, j < t + 1 → (lo ≤ zA K j ∧ zA K j ≤ hi) ∧ (0 < j → zA K (j - 1) < zA K j)) := hid (fun h j hj => by
      by_cases hj2 : j < t
      · exact HOK.out j hj2
      · obtain rfl : j = t := by omega
        exact h)
    have HNO : Hid (¬ RiseL K lo hi → ∀ W, Frm [] w W → PO (.returned (.bool false)) W) := hid (fun h W hf => HP.out false W (by simp; exact fun h2 => absurd h2 h) hf)
    by_cases h0 : t = 0
    case pos =>
      subst h0
      have HK2 : Hid ((lo ≤ zA K 0 ∧ zA K 0 ≤ hi) → ∀ j, j < 0 + 1 → (lo ≤ zA K j ∧ zA K j ≤ hi) ∧ (0 < j → zA K (j - 1) < zA K j)) := hid (fun h => HNX.out ⟨h, fun h => by omega⟩)
      obtain ⟨x, hx⟩ : ∃ x, zA K 0 = x := ⟨_, rfl⟩
      have HX := hid hx
      rw [hx] at z0
      have z7 : wr.cell? ⟨g, o, none⟩ = some (.int .i64 x) := by simpa using z0
      have z8 : wr.drew.cell? ⟨g, o, none⟩ = some (.int .i64 x) := z7
      have n0 : 0 < n := by omega
      clear hc HNX hx
      by_cases l1 : x < lo
      · have HK : Hid (¬ RiseL K lo hi) := hid (fun h => by have := (HBD.out h).1; rw [HX.out] at this; omega)
        go_wp2_with fail
        refine wp_region_tail (S := fun W => (W.cell? ⟨g, o, none⟩ = some (.int .i64 x))) 29 30 rfl (by kernel_rfl) (by kernel_rfl) ?_
        refine htk (i := 0) (v := ?_) (by kernel_rfl) rfl (fun _ _ _ h => h) (Or.inl ⟨by rfl, ?_⟩) z8 ?_
        rotate_left 1
        · (intro W hSw; obtain zz := hSw; (try simp only [lA, lZ]); go_simp; try with_reducible rfl)
        try simp only [lA, lZ, Act.put, lI, lW, lX]
        refine htk (i := 1) (v := ?_) (by kernel_rfl) rfl (fun _ _ _ h => h) (Or.inl ⟨by rfl, ?_⟩) z8 ?_
        rotate_left 1
        · (intro W hSw; obtain zz := hSw; (try simp only [lA, lS, lZ]); go_simp; try with_reducible rfl)
        try simp only [lA, lS, lZ, Act.put, lI, lW, lX]
        refine htk (i := 2) (v := ?_) (by kernel_rfl) rfl (fun _ _ _ h => h) (Or.inl ⟨by rfl, ?_⟩) z8 ?_
        rotate_left 1
        · (intro W hSw; obtain zz := hSw; (try simp only [lA, lS, lZ]); go_simp; try with_reducible rfl)
        try simp only [lA, lS, lZ, Act.put, lI, lW, lX]
        refine htk (i := 3) (v := ?_) (by kernel_rfl) rfl (fun _ _ _ h => h) (Or.inl ⟨by rfl, ?_⟩) z8 ?_
        rotate_left 1
        · (intro W hSw; obtain zz := hSw; (try simp only [lA, lS, lZ]); go_simp; try with_reducible rfl)
        try simp only [lA, lS, lZ, Act.put, lI, lW, lX]
        refine htk (i := 4) (v := ?_) (by kernel_rfl) rfl (fun _ _ _ h => h) (Or.inl ⟨by rfl, ?_⟩) z8 ?_
        rotate_left 1
        · (intro W hSw; obtain zz := hSw; (try simp only [lA, lS, lZ]); go_simp; try with_reducible rfl)
        try simp only [lA, lS, lZ, Act.put, lI, lW, lX]
        refine htk (i := 5) (v := ?_) (by kernel_rfl) rfl (fun _ _ _ h => h) (Or.inl ⟨by rfl, ?_⟩) z8 ?_
        rotate_left 1
        · (intro W hSw; obtain zz := hSw; (try simp only [lA, lS, lZ]); go_simp; try with_reducible rfl)
        try simp only [lA, lS, lZ, Act.put, lI, lW, lX]
        refine htk (i := 6) (v := ?_) (by kernel_rfl) rfl (fun _ _ _ h => h) (Or.inl ⟨by rfl, ?_⟩) z8 ?_
        rotate_left 1
        · (intro W hSw; obtain zz := hSw; (try simp only [lA, lS, lZ]); go_simp; try with_reducible rfl)
        try simp only [lA, lS, lZ, Act.put, lI, lW, lX]
        refine htk (i := 7) (v := undef) (by kernel_rfl) rfl (fun _ _ _ h => h) (Or.inr ⟨by rfl, rfl⟩) z8 ?_
        try simp only [lA, lS, lZ, Act.put, lI, lW, lX]
        refine htk (i := 8) (v := undef) (by kernel_rfl) rfl (fun _ _ _ h => h) (Or.inr ⟨by rfl, rfl⟩) z8 ?_
        try simp only [lA, lS, lZ, Act.put, lI, lW, lX]
        refine htk (i := 9) (v := undef) (by kernel_rfl) rfl (fun _ _ _ h => h) (Or.inr ⟨by rfl, rfl⟩) z8 ?_
        try simp only [lA, lS, lZ, Act.put, lI, lW, lX]
        refine htk (i := 10) (v := undef) (by kernel_rfl) rfl (fun _ _ _ h => h) (Or.inr ⟨by rfl, rfl⟩) z8 ?_
        try simp only [lA, lS, lZ, Act.put, lI, lW, lX]
        refine htk (i := 11) (v := undef) (by kernel_rfl) rfl (fun _ _ _ h => h) (Or.inr ⟨by rfl, rfl⟩) z8 ?_
        try simp only [lA, lS, lZ, Act.put, lI, lW, lX]
        refine htk (i := 12) (v := undef) (by kernel_rfl) rfl (fun _ _ _ h => h) (Or.inr ⟨by rfl, rfl⟩) z8 ?_
        try simp only [lA, lS, lZ, Act.put, lI, lW, lX]
        refine htk (i := 13) (v := ?_) (by kernel_rfl) rfl (fun _ _ _ h => h) (Or.inl ⟨by rfl, ?_⟩) z8 ?_
        rotate_left 1
        · (intro W hSw; obtain zz := hSw; (try simp only [lA, lS, lZ]); go_simp; try with_reducible rfl)
        try simp only [lA, lS, lZ, Act.put, lI, lW, lX]
        refine htk (i := 14) (v := ?_) (by kernel_rfl) rfl (fun _ _ _ h => h) (Or.inl ⟨by rfl, ?_⟩) z8 ?_
        rotate_left 1
        · (intro W hSw; obtain zz := hSw; (try simp only [lA, lS, lZ]); go_simp; try with_reducible rfl)
        try simp only [lA, lS, lZ, Act.put, lI, lW, lX]
        refine htk (i := 15) (v := undef) (by kernel_rfl) rfl (fun _ _ _ h => h) (Or.inr ⟨by rfl, rfl⟩) z8 ?_
        try simp only [lA, lS, lZ, Act.put, lI, lW, lX]
        refine htk (i := 16) (v := undef) (by kernel_rfl) rfl (fun _ _ _ h => h) (Or.inr ⟨by rfl, rfl⟩) z8 ?_
        try simp only [lA, lS, lZ, Act.put, lI, lW, lX]
        refine htk (i := 17) (v := undef) (by kernel_rfl) rfl (fun _ _ _ h => h) (Or.inr ⟨by rfl, rfl⟩) z8 ?_
        try simp only [lA, lS, lZ, Act.put, lI, lW, lX]
        refine htk (i := 18) (v := undef) (by kernel_rfl) rfl (fun _ _ _ h => h) (Or.inr ⟨by rfl, rfl⟩) z8 ?_
        try simp only [lA, lS, lZ, Act.put, lI, lW, lX]
        refine htk (i := 19) (v := undef) (by kernel_rfl) rfl (fun _ _ _ h => h) (Or.inr ⟨by rfl, rfl⟩) z8 ?_
        try simp only [lA, lS, lZ, Act.put, lI, lW, lX]
        refine htk (i := 20) (v := undef) (by kernel_rfl) rfl (fun _ _ _ h => h) (Or.inr ⟨by rfl, rfl⟩) z8 ?_
        try simp only [lA, lS, lZ, Act.put, lI, lW, lX]
        refine htk (i := 21) (v := undef) (by kernel_rfl) rfl (fun _ _ _ h => h) (Or.inr ⟨by rfl, rfl⟩) z8 ?_
        try simp only [lA, lS, lZ, Act.put, lI, lW, lX]
        refine htk (i := 22) (v := undef) (by kernel_rfl) rfl (fun _ _ _ h => h) (Or.inr ⟨by rfl, rfl⟩) z8 ?_
        try simp only [lA, lS, lZ, Act.put, lI, lW, lX]
        refine htk (i := 23) (v := undef) (by kernel_rfl) rfl (fun _ _ _ h => h) (Or.inr ⟨by rfl, rfl⟩) z8 ?_
        try simp only [lA, lS, lZ, Act.put, lI, lW, lX]
        refine htk (i := 24) (v := undef) (by kernel_rfl) rfl (fun _ _ _ h => h) (Or.inr ⟨by rfl, rfl⟩) z8 ?_
        try simp only [lA, lS, lZ, Act.put, lI, lW, lX]
        refine htk (i := 25) (v := undef) (by kernel_rfl) rfl (fun _ _ _ h => h) (Or.inr ⟨by rfl, rfl⟩) z8 ?_
        try simp only [lA, lS, lZ, Act.put, lI, lW, lX]
        refine htk (i := 26) (v := undef) (by kernel_rfl) rfl (fun _ _ _ h => h) (Or.inr ⟨by rfl, rfl⟩) z8 ?_
        try simp only [lA, lS, lZ, Act.put, lI, lW, lX]
        refine htk (i := 27) (v := undef) (by kernel_rfl) rfl (fun _ _ _ h => h) (Or.inr ⟨by rfl, rfl⟩) z8 ?_
        try simp only [lA, lS, lZ, Act.put, lI, lW, lX]
        refine htk (i := 28) (v := undef) (by kernel_rfl) rfl (fun _ _ _ h => h) (Or.inr ⟨by rfl, rfl⟩) z8 ?_
        try simp only [lA, lS, lZ, Act.put, lI, lW, lX]
        refine wpAnyHT_end (by kernel_rfl) ?_
        simp only [List.drop_succ_cons, List.drop_zero]
        go_wp2_with fail
        first | go_returns | skip
        exact HNO.out HK.out _ HF.out.drew
      have d1 : decide (x < lo) = false := decide_eq_false l1
      have e1 : lo ≤ x := by omega
      by_cases l2 : hi < x
      · have HK : Hid (¬ RiseL K lo hi) := hid (fun h => by have := (HBD.out h).1; rw [HX.out] at this; omega)
        go_wp2_with fail
        refine wp_region_tail (S := fun W => (W.cell? ⟨g, o, none⟩ = some (.int .i64 x))) 29 30 rfl (by kernel_rfl) (by kernel_rfl) ?_
        refine htk (i := 0) (v := ?_) (by kernel_rfl) rfl (fun _ _ _ h => h) (Or.inl ⟨by rfl, ?_⟩) z8 ?_
        rotate_left 1
        · (intro W hSw; obtain zz := hSw; (try simp only [lA, lZ]); go_simp; try with_reducible rfl)
        try simp only [lA, lZ, Act.put, lI, lW, lX]
        refine htk (i := 1) (v := ?_) (by kernel_rfl) rfl (fun _ _ _ h => h) (Or.inl ⟨by rfl, ?_⟩) z8 ?_
        rotate_left 1
        · (intro W hSw; obtain zz := hSw; (try simp only [lA, lS, lZ]); go_simp; try with_reducible rfl)
        try simp only [lA, lS, lZ, Act.put, lI, lW, lX]
        refine htk (i := 2) (v := ?_) (by kernel_rfl) rfl (fun _ _ _ h => h) (Or.inl ⟨by rfl, ?_⟩) z8 ?_
        rotate_left 1
        · (intro W hSw; obtain zz := hSw; (try simp only [lA, lS, lZ]); go_simp; try with_reducible rfl)
        try simp only [lA, lS, lZ, Act.put, lI, lW, lX]
        refine htk (i := 3) (v := ?_) (by kernel_rfl) rfl (fun _ _ _ h => h) (Or.inl ⟨by rfl, ?_⟩) z8 ?_
        rotate_left 1
        · (intro W hSw; obtain zz := hSw; (try simp only [lA, lS, lZ]); go_simp; try with_reducible rfl)
        try simp only [lA, lS, lZ, Act.put, lI, lW, lX]
        refine htk (i := 4) (v := ?_) (by kernel_rfl) rfl (fun _ _ _ h => h) (Or.inl ⟨by rfl, ?_⟩) z8 ?_
        rotate_left 1
        · (intro W hSw; obtain zz := hSw; (try simp only [lA, lS, lZ]); go_simp; try with_reducible rfl)
        try simp only [lA, lS, lZ, Act.put, lI, lW, lX]
        refine htk (i := 5) (v := ?_) (by kernel_rfl) rfl (fun _ _ _ h => h) (Or.inl ⟨by rfl, ?_⟩) z8 ?_
        rotate_left 1
        · (intro W hSw; obtain zz := hSw; (try simp only [lA, lS, lZ]); go_simp; try with_reducible rfl)
        try simp only [lA, lS, lZ, Act.put, lI, lW, lX]
        refine htk (i := 6) (v := ?_) (by kernel_rfl) rfl (fun _ _ _ h => h) (Or.inl ⟨by rfl, ?_⟩) z8 ?_
        rotate_left 1
        · (intro W hSw; obtain zz := hSw; (try simp only [lA, lS, lZ]); go_simp; try with_reducible rfl)
        try simp only [lA, lS, lZ, Act.put, lI, lW, lX]
        refine htk (i := 7) (v := ?_) (by kernel_rfl) rfl (fun _ _ _ h => h) (Or.inl ⟨by rfl, ?_⟩) z8 ?_
        rotate_left 1
        · (intro W hSw; obtain zz := hSw; (try simp only [lA, lS, lZ]); go_simp; try with_reducible rfl)
        try simp only [lA, lS, lZ, Act.put, lI, lW, lX]
        refine htk (i := 8) (v := ?_) (by kernel_rfl) rfl (fun _ _ _ h => h) (Or.inl ⟨by rfl, ?_⟩) z8 ?_
        rotate_left 1
        · (intro W hSw; obtain zz := hSw; (try simp only [lA, lS, lZ]); go_simp; try with_reducible rfl)
        try simp only [lA, lS, lZ, Act.put, lI, lW, lX]
        refine htk (i := 9) (v := ?_) (by kernel_rfl) rfl (fun _ _ _ h => h) (Or.inl ⟨by rfl, ?_⟩) z8 ?_
        rotate_left 1
        · (intro W hSw; obtain zz := hSw; (try simp only [lA, lS, lZ]); go_simp; try with_reducible rfl)
        try simp only [lA, lS, lZ, Act.put, lI, lW, lX]
        refine htk (i := 10) (v := ?_) (by kernel_rfl) rfl (fun _ _ _ h => h) (Or.inl ⟨by rfl, ?_⟩) z8 ?_
        rotate_left 1
        · (intro W hSw; obtain zz := hSw; (try simp only [lA, lS, lZ]); go_simp; try with_reducible rfl)
        try simp only [lA, lS, lZ, Act.put, lI, lW, lX]
        refine htk (i := 11) (v := ?_) (by kernel_rfl) rfl (fun _ _ _ h => h) (Or.inl ⟨by rfl, ?_⟩) z8 ?_
        rotate_left 1
        · (intro W hSw; obtain zz := hSw; (try simp only [lA, lS, lZ]); go_simp; try with_reducible rfl)
        try simp only [lA, lS, lZ, Act.put, lI, lW, lX]
        refine htk (i := 12) (v := ?_) (by kernel_rfl) rfl (fun _ _ _ h => h) (Or.inl ⟨by rfl, ?_⟩) z8 ?_
        rotate_left 1
        · (intro W hSw; obtain zz := hSw; (try simp only [lA, lS, lZ]); go_simp; try with_reducible rfl)
        try simp only [lA, lS, lZ, Act.put, lI, lW, lX]
        refine htk (i := 13) (v := ?_) (by kernel_rfl) rfl (fun _ _ _ h => h) (Or.inl ⟨by rfl, ?_⟩) z8 ?_
        rotate_left 1
        · (intro W hSw; obtain zz := hSw; (try simp only [lA, lS, lZ]); go_simp; try with_reducible rfl)
        try simp only [lA, lS, lZ, Act.put, lI, lW, lX]
        refine htk (i := 14) (v := ?_) (by kernel_rfl) rfl (fun _ _ _ h => h) (Or.inl ⟨by rfl, ?_⟩) z8 ?_
        rotate_left 1
        · (intro W hSw; obtain zz := hSw; (try simp only [lA, lS, lZ]); go_simp; try with_reducible rfl)
        try simp only [lA, lS, lZ, Act.put, lI, lW, lX]
        refine htk (i := 15) (v := undef) (by kernel_rfl) rfl (fun _ _ _ h => h) (Or.inr ⟨by rfl, rfl⟩) z8 ?_
        try simp only [lA, lS, lZ, Act.put, lI, lW, lX]
        refine htk (i := 16) (v := undef) (by kernel_rfl) rfl (fun _ _ _ h => h) (Or.inr ⟨by rfl, rfl⟩) z8 ?_
        try simp only [lA, lS, lZ, Act.put, lI, lW, lX]
        refine htk (i := 17) (v := undef) (by kernel_rfl) rfl (fun _ _ _ h => h) (Or.inr ⟨by rfl, rfl⟩) z8 ?_
        try simp only [lA, lS, lZ, Act.put, lI, lW, lX]
        refine htk (i := 18) (v := undef) (by kernel_rfl) rfl (fun _ _ _ h => h) (Or.inr ⟨by rfl, rfl⟩) z8 ?_
        try simp only [lA, lS, lZ, Act.put, lI, lW, lX]
        refine htk (i := 19) (v := undef) (by kernel_rfl) rfl (fun _ _ _ h => h) (Or.inr ⟨by rfl, rfl⟩) z8 ?_
        try simp only [lA, lS, lZ, Act.put, lI, lW, lX]
        refine htk (i := 20) (v := undef) (by kernel_rfl) rfl (fun _ _ _ h => h) (Or.inr ⟨by rfl, rfl⟩) z8 ?_
        try simp only [lA, lS, lZ, Act.put, lI, lW, lX]
        refine htk (i := 21) (v := undef) (by kernel_rfl) rfl (fun _ _ _ h => h) (Or.inr ⟨by rfl, rfl⟩) z8 ?_
        try simp only [lA, lS, lZ, Act.put, lI, lW, lX]
        refine htk (i := 22) (v := undef) (by kernel_rfl) rfl (fun _ _ _ h => h) (Or.inr ⟨by rfl, rfl⟩) z8 ?_
        try simp only [lA, lS, lZ, Act.put, lI, lW, lX]
        refine htk (i := 23) (v := undef) (by kernel_rfl) rfl (fun _ _ _ h => h) (Or.inr ⟨by rfl, rfl⟩) z8 ?_
        try simp only [lA, lS, lZ, Act.put, lI, lW, lX]
        refine htk (i := 24) (v := undef) (by kernel_rfl) rfl (fun _ _ _ h => h) (Or.inr ⟨by rfl, rfl⟩) z8 ?_
        try simp only [lA, lS, lZ, Act.put, lI, lW, lX]
        refine htk (i := 25) (v := undef) (by kernel_rfl) rfl (fun _ _ _ h => h) (Or.inr ⟨by rfl, rfl⟩) z8 ?_
        try simp only [lA, lS, lZ, Act.put, lI, lW, lX]
        refine htk (i := 26) (v := undef) (by kernel_rfl) rfl (fun _ _ _ h => h) (Or.inr ⟨by rfl, rfl⟩) z8 ?_
        try simp only [lA, lS, lZ, Act.put, lI, lW, lX]
        refine htk (i := 27) (v := undef) (by kernel_rfl) rfl (fun _ _ _ h => h) (Or.inr ⟨by rfl, rfl⟩) z8 ?_
        try simp only [lA, lS, lZ, Act.put, lI, lW, lX]
        refine htk (i := 28) (v := undef) (by kernel_rfl) rfl (fun _ _ _ h => h) (Or.inr ⟨by rfl, rfl⟩) z8 ?_
        try simp only [lA, lS, lZ, Act.put, lI, lW, lX]
        refine wpAnyHT_end (by kernel_rfl) ?_
        simp only [List.drop_succ_cons, List.drop_zero]
        go_wp2_with fail
        first | go_returns | skip
        exact HNO.out HK.out _ HF.out.drew
      have d2 : decide (hi < x) = false := decide_eq_false l2
      have e2 : x ≤ hi := by omega
      have HK := hid (HK2.out (by rw [HX.out]; omega))
      go_wp2_with fail
      refine wp_region_tail (S := fun W => (W.cell? ⟨g, o, none⟩ = some (.int .i64 x))) 29 30 rfl (by kernel_rfl) (by kernel_rfl) ?_
      refine htk (i := 0) (v := ?_) (by kernel_rfl) rfl (fun _ _ _ h => h) (Or.inl ⟨by rfl, ?_⟩) z8 ?_
      rotate_left 1
      · (intro W hSw; obtain zz := hSw; (try simp only [lA, lZ]); go_simp; try with_reducible rfl)
      try simp only [lA, lZ, Act.put, lI, lW, lX]
      refine htk (i := 1) (v := ?_) (by kernel_rfl) rfl (fun _ _ _ h => h) (Or.inl ⟨by rfl, ?_⟩) z8 ?_
      rotate_left 1
      · (intro W hSw; obtain zz := hSw; (try simp only [lA, lS, lZ]); go_simp; try with_reducible rfl)
      try simp only [lA, lS, lZ, Act.put, lI, lW, lX]
      refine htk (i := 2) (v := ?_) (by kernel_rfl) rfl (fun _ _ _ h => h) (Or.inl ⟨by rfl, ?_⟩) z8 ?_
      rotate_left 1
      · (intro W hSw; obtain zz := hSw; (try simp only [lA, lS, lZ]); go_simp; try with_reducible rfl)
      try simp only [lA, lS, lZ, Act.put, lI, lW, lX]
      refine htk (i := 3) (v := ?_) (by kernel_rfl) rfl (fun _ _ _ h => h) (Or.inl ⟨by rfl, ?_⟩) z8 ?_
      rotate_left 1
      · (intro W hSw; obtain zz := hSw; (try simp only [lA, lS, lZ]); go_simp; try with_reducible rfl)
      try simp only [lA, lS, lZ, Act.put, lI, lW, lX]
      refine htk (i := 4) (v := ?_) (by kernel_rfl) rfl (fun _ _ _ h => h) (Or.inl ⟨by rfl, ?_⟩) z8 ?_
      rotate_left 1
      · (intro W hSw; obtain zz := hSw; (try simp only [lA, lS, lZ]); go_simp; try with_reducible rfl)
      try simp only [lA, lS, lZ, Act.put, lI, lW, lX]
      refine htk (i := 5) (v := ?_) (by kernel_rfl) rfl (fun _ _ _ h => h) (Or.inl ⟨by rfl, ?_⟩) z8 ?_
      rotate_left 1
      · (intro W hSw; obtain zz := hSw; (try simp only [lA, lS, lZ]); go_simp; try with_reducible rfl)
      try simp only [lA, lS, lZ, Act.put, lI, lW, lX]
      refine htk (i := 6) (v := ?_) (by kernel_rfl) rfl (fun _ _ _ h => h) (Or.inl ⟨by rfl, ?_⟩) z8 ?_
      rotate_left 1
      · (intro W hSw; obtain zz := hSw; (try simp only [lA, lS, lZ]); go_simp; try with_reducible rfl)
      try simp only [lA, lS, lZ, Act.put, lI, lW, lX]
      refine htk (i := 7) (v := ?_) (by kernel_rfl) rfl (fun _ _ _ h => h) (Or.inl ⟨by rfl, ?_⟩) z8 ?_
      rotate_left 1
      · (intro W hSw; obtain zz := hSw; (try simp only [lA, lS, lZ]); go_simp; try with_reducible rfl)
      try simp only [lA, lS, lZ, Act.put, lI, lW, lX]
      refine htk (i := 8) (v := ?_) (by kernel_rfl) rfl (fun _ _ _ h => h) (Or.inl ⟨by rfl, ?_⟩) z8 ?_
      rotate_left 1
      · (intro W hSw; obtain zz := hSw; (try simp only [lA, lS, lZ]); go_simp; try with_reducible rfl)
      try simp only [lA, lS, lZ, Act.put, lI, lW, lX]
      refine htk (i := 9) (v := ?_) (by kernel_rfl) rfl (fun _ _ _ h => h) (Or.inl ⟨by rfl, ?_⟩) z8 ?_
      rotate_left 1
      · (intro W hSw; obtain zz := hSw; (try simp only [lA, lS, lZ]); go_simp; try with_reducible rfl)
      try simp only [lA, lS, lZ, Act.put, lI, lW, lX]
      refine htk (i := 10) (v := ?_) (by kernel_rfl) rfl (fun _ _ _ h => h) (Or.inl ⟨by rfl, ?_⟩) z8 ?_
      rotate_left 1
      · (intro W hSw; obtain zz := hSw; (try simp only [lA, lS, lZ]); go_simp; try with_reducible rfl)
      try simp only [lA, lS, lZ, Act.put, lI, lW, lX]
      refine htk (i := 11) (v := ?_) (by kernel_rfl) rfl (fun _ _ _ h => h) (Or.inl ⟨by rfl, ?_⟩) z8 ?_
      rotate_left 1
      · (intro W hSw; obtain zz := hSw; (try simp only [lA, lS, lZ]); go_simp; try with_reducible rfl)
      try simp only [lA, lS, lZ, Act.put, lI, lW, lX]
      refine htk (i := 12) (v := ?_) (by kernel_rfl) rfl (fun _ _ _ h => h) (Or.inl ⟨by rfl, ?_⟩) z8 ?_
      rotate_left 1
      · (intro W hSw; obtain zz := hSw; (try simp only [lA, lS, lZ]); go_simp; try with_reducible rfl)
      try simp only [lA, lS, lZ, Act.put, lI, lW, lX]
      refine htk (i := 13) (v := ?_) (by kernel_rfl) rfl (fun _ _ _ h => h) (Or.inl ⟨by rfl, ?_⟩) z8 ?_
      rotate_left 1
      · (intro W hSw; obtain zz := hSw; (try simp only [lA, lS, lZ]); go_simp; try with_reducible rfl)
      try simp only [lA, lS, lZ, Act.put, lI, lW, lX]
      refine htk (i := 14) (v := ?_) (by kernel_rfl) rfl (fun _ _ _ h => h) (Or.inl ⟨by rfl, ?_⟩) z8 ?_
      rotate_left 1
      · (intro W hSw; obtain zz := hSw; (try simp only [lA, lS, lZ]); go_simp; try with_reducible rfl)
      try simp only [lA, lS, lZ, Act.put, lI, lW, lX]
      refine htk (i := 15) (v := ?_) (by kernel_rfl) rfl (fun _ _ _ h => h) (Or.inl ⟨by rfl, ?_⟩) z8 ?_
      rotate_left 1
      · (intro W hSw; obtain zz := hSw; (try simp only [lA, lS, lZ]); go_simp; try with_reducible rfl)
      try simp only [lA, lS, lZ, Act.put, lI, lW, lX]
      refine htk (i := 16) (v := ?_) (by kernel_rfl) rfl (fun _ _ _ h => h) (Or.inl ⟨by rfl, ?_⟩) z8 ?_
      rotate_left 1
      · (intro W hSw; obtain zz := hSw; (try simp only [lA, lS, lZ]); go_simp; try with_reducible rfl)
      try simp only [lA, lS, lZ, Act.put, lI, lW, lX]
      refine htk (i := 17) (v := ?_) (by kernel_rfl) rfl (fun _ _ _ h => h) (Or.inl ⟨by rfl, ?_⟩) z8 ?_
      rotate_left 1
      · (intro W hSw; obtain zz := hSw; (try simp only [lA, lS, lZ]); go_simp; try with_reducible rfl)
      try simp only [lA, lS, lZ, Act.put, lI, lW, lX]
      refine htk (i := 18) (v := undef) (by kernel_rfl) rfl (fun _ _ _ h => h) (Or.inr ⟨by rfl, rfl⟩) z8 ?_
      try simp only [lA, lS, lZ, Act.put, lI, lW, lX]
      refine htk (i := 19) (v := undef) (by kernel_rfl) rfl (fun _ _ _ h => h) (Or.inr ⟨by rfl, rfl⟩) z8 ?_
      try simp only [lA, lS, lZ, Act.put, lI, lW, lX]
      refine htk (i := 20) (v := undef) (by kernel_rfl) rfl (fun _ _ _ h => h) (Or.inr ⟨by rfl, rfl⟩) z8 ?_
      try simp only [lA, lS, lZ, Act.put, lI, lW, lX]
      refine htk (i := 21) (v := undef) (by kernel_rfl) rfl (fun _ _ _ h => h) (Or.inr ⟨by rfl, rfl⟩) z8 ?_
      try simp only [lA, lS, lZ, Act.put, lI, lW, lX]
      refine htk (i := 22) (v := undef) (by kernel_rfl) rfl (fun _ _ _ h => h) (Or.inr ⟨by rfl, rfl⟩) z8 ?_
      try simp only [lA, lS, lZ, Act.put, lI, lW, lX]
      refine htk (i := 23) (v := undef) (by kernel_rfl) rfl (fun _ _ _ h => h) (Or.inr ⟨by rfl, rfl⟩) z8 ?_
      try simp only [lA, lS, lZ, Act.put, lI, lW, lX]
      refine htk (i := 24) (v := undef) (by kernel_rfl) rfl (fun _ _ _ h => h) (Or.inr ⟨by rfl, rfl⟩) z8 ?_
      try simp only [lA, lS, lZ, Act.put, lI, lW, lX]
      refine htk (i := 25) (v := undef) (by kernel_rfl) rfl (fun _ _ _ h => h) (Or.inr ⟨by rfl, rfl⟩) z8 ?_
      try simp only [lA, lS, lZ, Act.put, lI, lW, lX]
      refine htk (i := 26) (v := undef) (by kernel_rfl) rfl (fun _ _ _ h => h) (Or.inr ⟨by rfl, rfl⟩) z8 ?_
      try simp only [lA, lS, lZ, Act.put, lI, lW, lX]
      refine htk (i := 27) (v := undef) (by kernel_rfl) rfl (fun _ _ _ h => h) (Or.inr ⟨by rfl, rfl⟩) z8 ?_
      try simp only [lA, lS, lZ, Act.put, lI, lW, lX]
      refine htk (i := 28) (v := ?_) (by kernel_rfl) rfl (fun _ _ _ h => h) (Or.inl ⟨by rfl, ?_⟩) z8 ?_
      rotate_left 1
      · (intro W hSw; obtain zz := hSw; (try simp only [lA, lS, lZ]); go_simp; try with_reducible rfl)
      try simp only [lA, lS, lZ, Act.put, lI, lW, lX]
      refine wpAnyHT_end (by kernel_rfl) ?_
      simp only [List.drop_succ_cons, List.drop_zero]
      go_wp2_with fail
      go_roundw
      case rel => exact ⟨0 + 1, by omega, rfl, by go_num, HK, hid HF.out.drew⟩
      case measure => first | (simp [intOf]; done) | (simp [intOf]; omega)
    obtain ⟨u, rfl⟩ : ∃ u, t = u + 1 := ⟨t - 1, by omega⟩
    have z1 := hc u (by rw [HN.out]; omega)
    have uw : IntKind.i64.wrap ((u : Int) + 1 - 1) = (u : Int) := by rw [IntKind.wrap_i64]; omega
    have i0 : (0 : Int) < (u : Int) + 1 := by omega
    have i1 : (0 : Int) ≤ (u : Int) + 1 := by omega
    have u0 : (0 : Int) ≤ (u : Int) := by omega
    have un1 : u + 1 < n := by omega
    have un : u < n := by omega
    have u1 : (u : Int) < (n : Int) := by omega
    have t2 : (u : Int) + 1 < (n : Int) := by omega
    have uw2 : IntKind.i64.wrap (u : Int) = (u : Int) := by rw [IntKind.wrap_i64]; omega
    obtain ⟨x, hx⟩ : ∃ x, zA K (u + 1) = x := ⟨_, rfl⟩
    obtain ⟨y, hy⟩ : ∃ y, zA K u = y := ⟨_, rfl⟩
    have HX := hid hx
    have HY := hid hy
    rw [hx] at z0
    rw [hy] at z1
    have z7 : wr.drew.cell? ⟨g, o + (u + 1), none⟩ = some (.int .i64 x) := z0
    have z6 : wr.drew.cell? ⟨g, o + u, none⟩ = some (.int .i64 y) := z1
    clear hc hx hy h0
    by_cases l1 : x < lo
    · have HK : Hid (¬ RiseL K lo hi) := hid (fun h => by have := (HBD.out h).1; rw [HX.out] at this; omega)
      go_wp2_with fail
      refine wp_region_tail (S := fun W => (W.cell? ⟨g, o + (u + 1), none⟩ = some (.int .i64 x) ∧ W.cell? ⟨g, o + u, none⟩ = some (.int .i64 y))) 29 30 rfl (by kernel_rfl) (by kernel_rfl) ?_
      refine htk (i := 0) (v := ?_) (by kernel_rfl) rfl (fun _ _ _ h => h) (Or.inl ⟨by rfl, ?_⟩) ⟨z7, z6⟩ ?_
      rotate_left 1
      · (intro W hSw; obtain ⟨zz, yy⟩ := hSw; (try simp only [lA, lZ]); go_simp; try with_reducible rfl)
      try simp only [lA, lZ, Act.put, lI, lW, lX]
      refine htk (i := 1) (v := ?_) (by kernel_rfl) rfl (fun _ _ _ h => h) (Or.inl ⟨by rfl, ?_⟩) ⟨z7, z6⟩ ?_
      rotate_left 1
      · (intro W hSw; obtain ⟨zz, yy⟩ := hSw; (try simp only [lA, lS, lZ]); go_simp; try with_reducible rfl)
      try simp only [lA, lS, lZ, Act.put, lI, lW, lX]
      refine htk (i := 2) (v := ?_) (by kernel_rfl) rfl (fun _ _ _ h => h) (Or.inl ⟨by rfl, ?_⟩) ⟨z7, z6⟩ ?_
      rotate_left 1
      · (intro W hSw; obtain ⟨zz, yy⟩ := hSw; (try simp only [lA, lS, lZ]); go_simp; try with_reducible rfl)
      try simp only [lA, lS, lZ, Act.put, lI, lW, lX]
      refine htk (i := 3) (v := ?_) (by kernel_rfl) rfl (fun _ _ _ h => h) (Or.inl ⟨by rfl, ?_⟩) ⟨z7, z6⟩ ?_
      rotate_left 1
      · (intro W hSw; obtain ⟨zz, yy⟩ := hSw; (try simp only [lA, lS, lZ]); go_simp; try with_reducible rfl)
      try simp only [lA, lS, lZ, Act.put, lI, lW, lX]
      refine htk (i := 4) (v := ?_) (by kernel_rfl) rfl (fun _ _ _ h => h) (Or.inl ⟨by rfl, ?_⟩) ⟨z7, z6⟩ ?_
      rotate_left 1
      · (intro W hSw; obtain ⟨zz, yy⟩ := hSw; (try simp only [lA, lS, lZ]); go_simp; try with_reducible rfl)
      try simp only [lA, lS, lZ, Act.put, lI, lW, lX]
      refine htk (i := 5) (v := ?_) (by kernel_rfl) rfl (fun _ _ _ h => h) (Or.inl ⟨by rfl, ?_⟩) ⟨z7, z6⟩ ?_
      rotate_left 1
      · (intro W hSw; obtain ⟨zz, yy⟩ := hSw; (try simp only [lA, lS, lZ]); go_simp; try with_reducible rfl)
      try simp only [lA, lS, lZ, Act.put, lI, lW, lX]
      refine htk (i := 6) (v := ?_) (by kernel_rfl) rfl (fun _ _ _ h => h) (Or.inl ⟨by rfl, ?_⟩) ⟨z7, z6⟩ ?_
      rotate_left 1
      · (intro W hSw; obtain ⟨zz, yy⟩ := hSw; (try simp only [lA, lS, lZ]); go_simp; try with_reducible rfl)
      try simp only [lA, lS, lZ, Act.put, lI, lW, lX]
      refine htk (i := 7) (v := undef) (by kernel_rfl) rfl (fun _ _ _ h => h) (Or.inr ⟨by rfl, rfl⟩) ⟨z7, z6⟩ ?_
      try simp only [lA, lS, lZ, Act.put, lI, lW, lX]
      refine htk (i := 8) (v := undef) (by kernel_rfl) rfl (fun _ _ _ h => h) (Or.inr ⟨by rfl, rfl⟩) ⟨z7, z6⟩ ?_
      try simp only [lA, lS, lZ, Act.put, lI, lW, lX]
      refine htk (i := 9) (v := undef) (by kernel_rfl) rfl (fun _ _ _ h => h) (Or.inr ⟨by rfl, rfl⟩) ⟨z7, z6⟩ ?_
      try simp only [lA, lS, lZ, Act.put, lI, lW, lX]
      refine htk (i := 10) (v := undef) (by kernel_rfl) rfl (fun _ _ _ h => h) (Or.inr ⟨by rfl, rfl⟩) ⟨z7, z6⟩ ?_
      try simp only [lA, lS, lZ, Act.put, lI, lW, lX]
      refine htk (i := 11) (v := undef) (by kernel_rfl) rfl (fun _ _ _ h => h) (Or.inr ⟨by rfl, rfl⟩) ⟨z7, z6⟩ ?_
      try simp only [lA, lS, lZ, Act.put, lI, lW, lX]
      refine htk (i := 12) (v := undef) (by kernel_rfl) rfl (fun _ _ _ h => h) (Or.inr ⟨by rfl, rfl⟩) ⟨z7, z6⟩ ?_
      try simp only [lA, lS, lZ, Act.put, lI, lW, lX]
      refine htk (i := 13) (v := ?_) (by kernel_rfl) rfl (fun _ _ _ h => h) (Or.inl ⟨by rfl, ?_⟩) ⟨z7, z6⟩ ?_
      rotate_left 1
      · (intro W hSw; obtain ⟨zz, yy⟩ := hSw; (try simp only [lA, lS, lZ]); go_simp; try with_reducible rfl)
      try simp only [lA, lS, lZ, Act.put, lI, lW, lX]
      refine htk (i := 14) (v := ?_) (by kernel_rfl) rfl (fun _ _ _ h => h) (Or.inl ⟨by rfl, ?_⟩) ⟨z7, z6⟩ ?_
      rotate_left 1
      · (intro W hSw; obtain ⟨zz, yy⟩ := hSw; (try simp only [lA, lS, lZ]); go_simp; try with_reducible rfl)
      try simp only [lA, lS, lZ, Act.put, lI, lW, lX]
      refine htk (i := 15) (v := undef) (by kernel_rfl) rfl (fun _ _ _ h => h) (Or.inr ⟨by rfl, rfl⟩) ⟨z7, z6⟩ ?_
      try simp only [lA, lS, lZ, Act.put, lI, lW, lX]
      refine htk (i := 16) (v := undef) (by kernel_rfl) rfl (fun _ _ _ h => h) (Or.inr ⟨by rfl, rfl⟩) ⟨z7, z6⟩ ?_
      try simp only [lA, lS, lZ, Act.put, lI, lW, lX]
      refine htk (i := 17) (v := undef) (by kernel_rfl) rfl (fun _ _ _ h => h) (Or.inr ⟨by rfl, rfl⟩) ⟨z7, z6⟩ ?_
      try simp only [lA, lS, lZ, Act.put, lI, lW, lX]
      refine htk (i := 18) (v := undef) (by kernel_rfl) rfl (fun _ _ _ h => h) (Or.inr ⟨by rfl, rfl⟩) ⟨z7, z6⟩ ?_
      try simp only [lA, lS, lZ, Act.put, lI, lW, lX]
      refine htk (i := 19) (v := undef) (by kernel_rfl) rfl (fun _ _ _ h => h) (Or.inr ⟨by rfl, rfl⟩) ⟨z7, z6⟩ ?_
      try simp only [lA, lS, lZ, Act.put, lI, lW, lX]
      refine htk (i := 20) (v := undef) (by kernel_rfl) rfl (fun _ _ _ h => h) (Or.inr ⟨by rfl, rfl⟩) ⟨z7, z6⟩ ?_
      try simp only [lA, lS, lZ, Act.put, lI, lW, lX]
      refine htk (i := 21) (v := undef) (by kernel_rfl) rfl (fun _ _ _ h => h) (Or.inr ⟨by rfl, rfl⟩) ⟨z7, z6⟩ ?_
      try simp only [lA, lS, lZ, Act.put, lI, lW, lX]
      refine htk (i := 22) (v := undef) (by kernel_rfl) rfl (fun _ _ _ h => h) (Or.inr ⟨by rfl, rfl⟩) ⟨z7, z6⟩ ?_
      try simp only [lA, lS, lZ, Act.put, lI, lW, lX]
      refine htk (i := 23) (v := undef) (by kernel_rfl) rfl (fun _ _ _ h => h) (Or.inr ⟨by rfl, rfl⟩) ⟨z7, z6⟩ ?_
      try simp only [lA, lS, lZ, Act.put, lI, lW, lX]
      refine htk (i := 24) (v := undef) (by kernel_rfl) rfl (fun _ _ _ h => h) (Or.inr ⟨by rfl, rfl⟩) ⟨z7, z6⟩ ?_
      try simp only [lA, lS, lZ, Act.put, lI, lW, lX]
      refine htk (i := 25) (v := undef) (by kernel_rfl) rfl (fun _ _ _ h => h) (Or.inr ⟨by rfl, rfl⟩) ⟨z7, z6⟩ ?_
      try simp only [lA, lS, lZ, Act.put, lI, lW, lX]
      refine htk (i := 26) (v := undef) (by kernel_rfl) rfl (fun _ _ _ h => h) (Or.inr ⟨by rfl, rfl⟩) ⟨z7, z6⟩ ?_
      try simp only [lA, lS, lZ, Act.put, lI, lW, lX]
      refine htk (i := 27) (v := undef) (by kernel_rfl) rfl (fun _ _ _ h => h) (Or.inr ⟨by rfl, rfl⟩) ⟨z7, z6⟩ ?_
      try simp only [lA, lS, lZ, Act.put, lI, lW, lX]
      refine htk (i := 28) (v := undef) (by kernel_rfl) rfl (fun _ _ _ h => h) (Or.inr ⟨by rfl, rfl⟩) ⟨z7, z6⟩ ?_
      try simp only [lA, lS, lZ, Act.put, lI, lW, lX]
      refine wpAnyHT_end (by kernel_rfl) ?_
      simp only [List.drop_succ_cons, List.drop_zero]
      go_wp2_with fail
      first | go_returns | skip
      exact HNO.out HK.out _ HF.out.drew
    have d1 : decide (x < lo) = false := decide_eq_false l1
    have e1 : lo ≤ x := by omega
    by_cases l2 : hi < x
    · have HK : Hid (¬ RiseL K lo hi) := hid (fun h => by have := (HBD.out h).1; rw [HX.out] at this; omega)
      go_wp2_with fail
      refine wp_region_tail (S := fun W => (W.cell? ⟨g, o + (u + 1), none⟩ = some (.int .i64 x) ∧ W.cell? ⟨g, o + u, none⟩ = some (.int .i64 y))) 29 30 rfl (by kernel_rfl) (by kernel_rfl) ?_
      refine htk (i := 0) (v := ?_) (by kernel_rfl) rfl (fun _ _ _ h => h) (Or.inl ⟨by rfl, ?_⟩) ⟨z7, z6⟩ ?_
      rotate_left 1
      · (intro W hSw; obtain ⟨zz, yy⟩ := hSw; (try simp only [lA, lZ]); go_simp; try with_reducible rfl)
      try simp only [lA, lZ, Act.put, lI, lW, lX]
      refine htk (i := 1) (v := ?_) (by kernel_rfl) rfl (fun _ _ _ h => h) (Or.inl ⟨by rfl, ?_⟩) ⟨z7, z6⟩ ?_
      rotate_left 1
      · (intro W hSw; obtain ⟨zz, yy⟩ := hSw; (try simp only [lA, lS, lZ]); go_simp; try with_reducible rfl)
      try simp only [lA, lS, lZ, Act.put, lI, lW, lX]
      refine htk (i := 2) (v := ?_) (by kernel_rfl) rfl (fun _ _ _ h => h) (Or.inl ⟨by rfl, ?_⟩) ⟨z7, z6⟩ ?_
      rotate_left 1
      · (intro W hSw; obtain ⟨zz, yy⟩ := hSw; (try simp only [lA, lS, lZ]); go_simp; try with_reducible rfl)
      try simp only [lA, lS, lZ, Act.put, lI, lW, lX]
      refine htk (i := 3) (v := ?_) (by kernel_rfl) rfl (fun _ _ _ h => h) (Or.inl ⟨by rfl, ?_⟩) ⟨z7, z6⟩ ?_
      rotate_left 1
      · (intro W hSw; obtain ⟨zz, yy⟩ := hSw; (try simp only [lA, lS, lZ]); go_simp; try with_reducible rfl)
      try simp only [lA, lS, lZ, Act.put, lI, lW, lX]
      refine htk (i := 4) (v := ?_) (by kernel_rfl) rfl (fun _ _ _ h => h) (Or.inl ⟨by rfl, ?_⟩) ⟨z7, z6⟩ ?_
      rotate_left 1
      · (intro W hSw; obtain ⟨zz, yy⟩ := hSw; (try simp only [lA, lS, lZ]); go_simp; try with_reducible rfl)
      try simp only [lA, lS, lZ, Act.put, lI, lW, lX]
      refine htk (i := 5) (v := ?_) (by kernel_rfl) rfl (fun _ _ _ h => h) (Or.inl ⟨by rfl, ?_⟩) ⟨z7, z6⟩ ?_
      rotate_left 1
      · (intro W hSw; obtain ⟨zz, yy⟩ := hSw; (try simp only [lA, lS, lZ]); go_simp; try with_reducible rfl)
      try simp only [lA, lS, lZ, Act.put, lI, lW, lX]
      refine htk (i := 6) (v := ?_) (by kernel_rfl) rfl (fun _ _ _ h => h) (Or.inl ⟨by rfl, ?_⟩) ⟨z7, z6⟩ ?_
      rotate_left 1
      · (intro W hSw; obtain ⟨zz, yy⟩ := hSw; (try simp only [lA, lS, lZ]); go_simp; try with_reducible rfl)
      try simp only [lA, lS, lZ, Act.put, lI, lW, lX]
      refine htk (i := 7) (v := ?_) (by kernel_rfl) rfl (fun _ _ _ h => h) (Or.inl ⟨by rfl, ?_⟩) ⟨z7, z6⟩ ?_
      rotate_left 1
      · (intro W hSw; obtain ⟨zz, yy⟩ := hSw; (try simp only [lA, lS, lZ]); go_simp; try with_reducible rfl)
      try simp only [lA, lS, lZ, Act.put, lI, lW, lX]
      refine htk (i := 8) (v := ?_) (by kernel_rfl) rfl (fun _ _ _ h => h) (Or.inl ⟨by rfl, ?_⟩) ⟨z7, z6⟩ ?_
      rotate_left 1
      · (intro W hSw; obtain ⟨zz, yy⟩ := hSw; (try simp only [lA, lS, lZ]); go_simp; try with_reducible rfl)
      try simp only [lA, lS, lZ, Act.put, lI, lW, lX]
      refine htk (i := 9) (v := ?_) (by kernel_rfl) rfl (fun _ _ _ h => h) (Or.inl ⟨by rfl, ?_⟩) ⟨z7, z6⟩ ?_
      rotate_left 1
      · (intro W hSw; obtain ⟨zz, yy⟩ := hSw; (try simp only [lA, lS, lZ]); go_simp; try with_reducible rfl)
      try simp only [lA, lS, lZ, Act.put, lI, lW, lX]
      refine htk (i := 10) (v := ?_) (by kernel_rfl) rfl (fun _ _ _ h => h) (Or.inl ⟨by rfl, ?_⟩) ⟨z7, z6⟩ ?_
      rotate_left 1
      · (intro W hSw; obtain ⟨zz, yy⟩ := hSw; (try simp only [lA, lS, lZ]); go_simp; try with_reducible rfl)
      try simp only [lA, lS, lZ, Act.put, lI, lW, lX]
      refine htk (i := 11) (v := ?_) (by kernel_rfl) rfl (fun _ _ _ h => h) (Or.inl ⟨by rfl, ?_⟩) ⟨z7, z6⟩ ?_
      rotate_left 1
      · (intro W hSw; obtain ⟨zz, yy⟩ := hSw; (try simp only [lA, lS, lZ]); go_simp; try with_reducible rfl)
      try simp only [lA, lS, lZ, Act.put, lI, lW, lX]
      refine htk (i := 12) (v := ?_) (by kernel_rfl) rfl (fun _ _ _ h => h) (Or.inl ⟨by rfl, ?_⟩) ⟨z7, z6⟩ ?_
      rotate_left 1
      · (intro W hSw; obtain ⟨zz, yy⟩ := hSw; (try simp only [lA, lS, lZ]); go_simp; try with_reducible rfl)
      try simp only [lA, lS, lZ, Act.put, lI, lW, lX]
      refine htk (i := 13) (v := ?_) (by kernel_rfl) rfl (fun _ _ _ h => h) (Or.inl ⟨by rfl, ?_⟩) ⟨z7, z6⟩ ?_
      rotate_left 1
      · (intro W hSw; obtain ⟨zz, yy⟩ := hSw; (try simp only [lA, lS, lZ]); go_simp; try with_reducible rfl)
      try simp only [lA, lS, lZ, Act.put, lI, lW, lX]
      refine htk (i := 14) (v := ?_) (by kernel_rfl) rfl (fun _ _ _ h => h) (Or.inl ⟨by rfl, ?_⟩) ⟨z7, z6⟩ ?_
      rotate_left 1
      · (intro W hSw; obtain ⟨zz, yy⟩ := hSw; (try simp only [lA, lS, lZ]); go_simp; try with_reducible rfl)
      try simp only [lA, lS, lZ, Act.put, lI, lW, lX]
      refine htk (i := 15) (v := undef) (by kernel_rfl) rfl (fun _ _ _ h => h) (Or.inr ⟨by rfl, rfl⟩) ⟨z7, z6⟩ ?_
      try simp only [lA, lS, lZ, Act.put, lI, lW, lX]
      refine htk (i := 16) (v := undef) (by kernel_rfl) rfl (fun _ _ _ h => h) (Or.inr ⟨by rfl, rfl⟩) ⟨z7, z6⟩ ?_
      try simp only [lA, lS, lZ, Act.put, lI, lW, lX]
      refine htk (i := 17) (v := undef) (by kernel_rfl) rfl (fun _ _ _ h => h) (Or.inr ⟨by rfl, rfl⟩) ⟨z7, z6⟩ ?_
      try simp only [lA, lS, lZ, Act.put, lI, lW, lX]
      refine htk (i := 18) (v := undef) (by kernel_rfl) rfl (fun _ _ _ h => h) (Or.inr ⟨by rfl, rfl⟩) ⟨z7, z6⟩ ?_
      try simp only [lA, lS, lZ, Act.put, lI, lW, lX]
      refine htk (i := 19) (v := undef) (by kernel_rfl) rfl (fun _ _ _ h => h) (Or.inr ⟨by rfl, rfl⟩) ⟨z7, z6⟩ ?_
      try simp only [lA, lS, lZ, Act.put, lI, lW, lX]
      refine htk (i := 20) (v := undef) (by kernel_rfl) rfl (fun _ _ _ h => h) (Or.inr ⟨by rfl, rfl⟩) ⟨z7, z6⟩ ?_
      try simp only [lA, lS, lZ, Act.put, lI, lW, lX]
      refine htk (i := 21) (v := undef) (by kernel_rfl) rfl (fun _ _ _ h => h) (Or.inr ⟨by rfl, rfl⟩) ⟨z7, z6⟩ ?_
      try simp only [lA, lS, lZ, Act.put, lI, lW, lX]
      refine htk (i := 22) (v := undef) (by kernel_rfl) rfl (fun _ _ _ h => h) (Or.inr ⟨by rfl, rfl⟩) ⟨z7, z6⟩ ?_
      try simp only [lA, lS, lZ, Act.put, lI, lW, lX]
      refine htk (i := 23) (v := undef) (by kernel_rfl) rfl (fun _ _ _ h => h) (Or.inr ⟨by rfl, rfl⟩) ⟨z7, z6⟩ ?_
      try simp only [lA, lS, lZ, Act.put, lI, lW, lX]
      refine htk (i := 24) (v := undef) (by kernel_rfl) rfl (fun _ _ _ h => h) (Or.inr ⟨by rfl, rfl⟩) ⟨z7, z6⟩ ?_
      try simp only [lA, lS, lZ, Act.put, lI, lW, lX]
      refine htk (i := 25) (v := undef) (by kernel_rfl) rfl (fun _ _ _ h => h) (Or.inr ⟨by rfl, rfl⟩) ⟨z7, z6⟩ ?_
      try simp only [lA, lS, lZ, Act.put, lI, lW, lX]
      refine htk (i := 26) (v := undef) (by kernel_rfl) rfl (fun _ _ _ h => h) (Or.inr ⟨by rfl, rfl⟩) ⟨z7, z6⟩ ?_
      try simp only [lA, lS, lZ, Act.put, lI, lW, lX]
      refine htk (i := 27) (v := undef) (by kernel_rfl) rfl (fun _ _ _ h => h) (Or.inr ⟨by rfl, rfl⟩) ⟨z7, z6⟩ ?_
      try simp only [lA, lS, lZ, Act.put, lI, lW, lX]
      refine htk (i := 28) (v := undef) (by kernel_rfl) rfl (fun _ _ _ h => h) (Or.inr ⟨by rfl, rfl⟩) ⟨z7, z6⟩ ?_
      try simp only [lA, lS, lZ, Act.put, lI, lW, lX]
      refine wpAnyHT_end (by kernel_rfl) ?_
      simp only [List.drop_succ_cons, List.drop_zero]
      go_wp2_with fail
      first | go_returns | skip
      exact HNO.out HK.out _ HF.out.drew
    have d2 : decide (hi < x) = false := decide_eq_false l2
    have e2 : x ≤ hi := by omega
    by_cases l3 : x ≤ y
    · have HK : Hid (¬ RiseL K lo hi) := hid (fun h => by have := (HBD.out h).2 (by omega); rw [HX.out, show u + 1 - 1 = u by omega, HY.out] at this; omega)
      go_wp2_with fail
      refine wp_region_tail (S := fun W => (W.cell? ⟨g, o + (u + 1), none⟩ = some (.int .i64 x) ∧ W.cell? ⟨g, o + u, none⟩ = some (.int .i64 y))) 29 30 rfl (by kernel_rfl) (by kernel_rfl) ?_
      refine htk (i := 0) (v := ?_) (by kernel_rfl) rfl (fun _ _ _ h => h) (Or.inl ⟨by rfl, ?_⟩) ⟨z7, z6⟩ ?_
      rotate_left 1
      · (intro W hSw; obtain ⟨zz, yy⟩ := hSw; (try simp only [lA, lZ]); go_simp; try with_reducible rfl)
      try simp only [lA, lZ, Act.put, lI, lW, lX]
      refine htk (i := 1) (v := ?_) (by kernel_rfl) rfl (fun _ _ _ h => h) (Or.inl ⟨by rfl, ?_⟩) ⟨z7, z6⟩ ?_
      rotate_left 1
      · (intro W hSw; obtain ⟨zz, yy⟩ := hSw; (try simp only [lA, lS, lZ]); go_simp; try with_reducible rfl)
      try simp only [lA, lS, lZ, Act.put, lI, lW, lX]
      refine htk (i := 2) (v := ?_) (by kernel_rfl) rfl (fun _ _ _ h => h) (Or.inl ⟨by rfl, ?_⟩) ⟨z7, z6⟩ ?_
      rotate_left 1
      · (intro W hSw; obtain ⟨zz, yy⟩ := hSw; (try simp only [lA, lS, lZ]); go_simp; try with_reducible rfl)
      try simp only [lA, lS, lZ, Act.put, lI, lW, lX]
      refine htk (i := 3) (v := ?_) (by kernel_rfl) rfl (fun _ _ _ h => h) (Or.inl ⟨by rfl, ?_⟩) ⟨z7, z6⟩ ?_
      rotate_left 1
      · (intro W hSw; obtain ⟨zz, yy⟩ := hSw; (try simp only [lA, lS, lZ]); go_simp; try with_reducible rfl)
      try simp only [lA, lS, lZ, Act.put, lI, lW, lX]
      refine htk (i := 4) (v := ?_) (by kernel_rfl) rfl (fun _ _ _ h => h) (Or.inl ⟨by rfl, ?_⟩) ⟨z7, z6⟩ ?_
      rotate_left 1
      · (intro W hSw; obtain ⟨zz, yy⟩ := hSw; (try simp only [lA, lS, lZ]); go_simp; try with_reducible rfl)
      try simp only [lA, lS, lZ, Act.put, lI, lW, lX]
      refine htk (i := 5) (v := ?_) (by kernel_rfl) rfl (fun _ _ _ h => h) (Or.inl ⟨by rfl, ?_⟩) ⟨z7, z6⟩ ?_
      rotate_left 1
      · (intro W hSw; obtain ⟨zz, yy⟩ := hSw; (try simp only [lA, lS, lZ]); go_simp; try with_reducible rfl)
      try simp only [lA, lS, lZ, Act.put, lI, lW, lX]
      refine htk (i := 6) (v := ?_) (by kernel_rfl) rfl (fun _ _ _ h => h) (Or.inl ⟨by rfl, ?_⟩) ⟨z7, z6⟩ ?_
      rotate_left 1
      · (intro W hSw; obtain ⟨zz, yy⟩ := hSw; (try simp only [lA, lS, lZ]); go_simp; try with_reducible rfl)
      try simp only [lA, lS, lZ, Act.put, lI, lW, lX]
      refine htk (i := 7) (v := ?_) (by kernel_rfl) rfl (fun _ _ _ h => h) (Or.inl ⟨by rfl, ?_⟩) ⟨z7, z6⟩ ?_
      rotate_left 1
      · (intro W hSw; obtain ⟨zz, yy⟩ := hSw; (try simp only [lA, lS, lZ]); go_simp; try with_reducible rfl)
      try simp only [lA, lS, lZ, Act.put, lI, lW, lX]
      refine htk (i := 8) (v := ?_) (by kernel_rfl) rfl (fun _ _ _ h => h) (Or.inl ⟨by rfl, ?_⟩) ⟨z7, z6⟩ ?_
      rotate_left 1
      · (intro W hSw; obtain ⟨zz, yy⟩ := hSw; (try simp only [lA, lS, lZ]); go_simp; try with_reducible rfl)
      try simp only [lA, lS, lZ, Act.put, lI, lW, lX]
      refine htk (i := 9) (v := ?_) (by kernel_rfl) rfl (fun _ _ _ h => h) (Or.inl ⟨by rfl, ?_⟩) ⟨z7, z6⟩ ?_
      rotate_left 1
      · (intro W hSw; obtain ⟨zz, yy⟩ := hSw; (try simp only [lA, lS, lZ]); go_simp; try with_reducible rfl)
      try simp only [lA, lS, lZ, Act.put, lI, lW, lX]
      refine htk (i := 10) (v := ?_) (by kernel_rfl) rfl (fun _ _ _ h => h) (Or.inl ⟨by rfl, ?_⟩) ⟨z7, z6⟩ ?_
      rotate_left 1
      · (intro W hSw; obtain ⟨zz, yy⟩ := hSw; (try simp only [lA, lS, lZ]); go_simp; try with_reducible rfl)
      try simp only [lA, lS, lZ, Act.put, lI, lW, lX]
      refine htk (i := 11) (v := ?_) (by kernel_rfl) rfl (fun _ _ _ h => h) (Or.inl ⟨by rfl, ?_⟩) ⟨z7, z6⟩ ?_
      rotate_left 1
      · (intro W hSw; obtain ⟨zz, yy⟩ := hSw; (try simp only [lA, lS, lZ]); go_simp; try with_reducible rfl)
      try simp only [lA, lS, lZ, Act.put, lI, lW, lX]
      refine htk (i := 12) (v := ?_) (by kernel_rfl) rfl (fun _ _ _ h => h) (Or.inl ⟨by rfl, ?_⟩) ⟨z7, z6⟩ ?_
      rotate_left 1
      · (intro W hSw; obtain ⟨zz, yy⟩ := hSw; (try simp only [lA, lS, lZ]); go_simp; try with_reducible rfl)
      try simp only [lA, lS, lZ, Act.put, lI, lW, lX]
      refine htk (i := 13) (v := ?_) (by kernel_rfl) rfl (fun _ _ _ h => h) (Or.inl ⟨by rfl, ?_⟩) ⟨z7, z6⟩ ?_
      rotate_left 1
      · (intro W hSw; obtain ⟨zz, yy⟩ := hSw; (try simp only [lA, lS, lZ]); go_simp; try with_reducible rfl)
      try simp only [lA, lS, lZ, Act.put, lI, lW, lX]
      refine htk (i := 14) (v := ?_) (by kernel_rfl) rfl (fun _ _ _ h => h) (Or.inl ⟨by rfl, ?_⟩) ⟨z7, z6⟩ ?_
      rotate_left 1
      · (intro W hSw; obtain ⟨zz, yy⟩ := hSw; (try simp only [lA, lS, lZ]); go_simp; try with_reducible rfl)
      try simp only [lA, lS, lZ, Act.put, lI, lW, lX]
      refine htk (i := 15) (v := ?_) (by kernel_rfl) rfl (fun _ _ _ h => h) (Or.inl ⟨by rfl, ?_⟩) ⟨z7, z6⟩ ?_
      rotate_left 1
      · (intro W hSw; obtain ⟨zz, yy⟩ := hSw; (try simp only [lA, lS, lZ]); go_simp; try with_reducible rfl)
      try simp only [lA, lS, lZ, Act.put, lI, lW, lX]
      refine htk (i := 16) (v := ?_) (by kernel_rfl) rfl (fun _ _ _ h => h) (Or.inl ⟨by rfl, ?_⟩) ⟨z7, z6⟩ ?_
      rotate_left 1
      · (intro W hSw; obtain ⟨zz, yy⟩ := hSw; (try simp only [lA, lS, lZ]); go_simp; try with_reducible rfl)
      try simp only [lA, lS, lZ, Act.put, lI, lW, lX]
      refine htk (i := 17) (v := ?_) (by kernel_rfl) rfl (fun _ _ _ h => h) (Or.inl ⟨by rfl, ?_⟩) ⟨z7, z6⟩ ?_
      rotate_left 1
      · (intro W hSw; obtain ⟨zz, yy⟩ := hSw; (try simp only [lA, lS, lZ]); go_simp; try with_reducible rfl)
      try simp only [lA, lS, lZ, Act.put, lI, lW, lX]
      refine htk (i := 18) (v := ?_) (by kernel_rfl) rfl (fun _ _ _ h => h) (Or.inl ⟨by rfl, ?_⟩) ⟨z7, z6⟩ ?_
      rotate_left 1
      · (intro W hSw; obtain ⟨zz, yy⟩ := hSw; (try simp only [lA, lS, lZ]); go_simp; try with_reducible rfl)
      try simp only [lA, lS, lZ, Act.put, lI, lW, lX]
      refine htk (i := 19) (v := ?_) (by kernel_rfl) rfl (fun _ _ _ h => h) (Or.inl ⟨by rfl, ?_⟩) ⟨z7, z6⟩ ?_
      rotate_left 1
      · (intro W hSw; obtain ⟨zz, yy⟩ := hSw; (try simp only [lA, lS, lZ]); go_simp; try with_reducible rfl)
      try simp only [lA, lS, lZ, Act.put, lI, lW, lX]
      refine htk (i := 20) (v := ?_) (by kernel_rfl) rfl (fun _ _ _ h => h) (Or.inl ⟨by rfl, ?_⟩) ⟨z7, z6⟩ ?_
      rotate_left 1
      · (intro W hSw; obtain ⟨zz, yy⟩ := hSw; (try simp only [lA, lS, lZ]); go_simp; try with_reducible rfl)
      try simp only [lA, lS, lZ, Act.put, lI, lW, lX]
      refine htk (i := 21) (v := ?_) (by kernel_rfl) rfl (fun _ _ _ h => h) (Or.inl ⟨by rfl, ?_⟩) ⟨z7, z6⟩ ?_
      rotate_left 1
      · (intro W hSw; obtain ⟨zz, yy⟩ := hSw; (try simp only [lA, lS, lZ]); go_simp; try with_reducible rfl)
      try simp only [lA, lS, lZ, Act.put, lI, lW, lX]
      refine htk (i := 22) (v := ?_) (by kernel_rfl) rfl (fun _ _ _ h => h) (Or.inl ⟨by rfl, ?_⟩) ⟨z7, z6⟩ ?_
      rotate_left 1
      · (intro W hSw; obtain ⟨zz, yy⟩ := hSw; (try simp only [lA, lS, lZ]); go_simp; try with_reducible rfl)
      try simp only [lA, lS, lZ, Act.put, lI, lW, lX]
      refine htk (i := 23) (v := ?_) (by kernel_rfl) rfl (fun _ _ _ h => h) (Or.inl ⟨by rfl, ?_⟩) ⟨z7, z6⟩ ?_
      rotate_left 1
      · (intro W hSw; obtain ⟨zz, yy⟩ := hSw; (try simp only [lA, lS, lZ]); go_simp; try with_reducible rfl)
      try simp only [lA, lS, lZ, Act.put, lI, lW, lX]
      refine htk (i := 24) (v := ?_) (by kernel_rfl) rfl (fun _ _ _ h => h) (Or.inl ⟨by rfl, ?_⟩) ⟨z7, z6⟩ ?_
      rotate_left 1
      · (intro W hSw; obtain ⟨zz, yy⟩ := hSw; (try simp only [lA, lS, lZ]); go_simp; try with_reducible rfl)
      try simp only [lA, lS, lZ, Act.put, lI, lW, lX]
      refine htk (i := 25) (v := ?_) (by kernel_rfl) rfl (fun _ _ _ h => h) (Or.inl ⟨by rfl, ?_⟩) ⟨z7, z6⟩ ?_
      rotate_left 1
      · (intro W hSw; obtain ⟨zz, yy⟩ := hSw; (try simp only [lA, lS, lZ]); go_simp; try with_reducible rfl)
      try simp only [lA, lS, lZ, Act.put, lI, lW, lX]
      refine htk (i := 26) (v := ?_) (by kernel_rfl) rfl (fun _ _ _ h => h) (Or.inl ⟨by rfl, ?_⟩) ⟨z7, z6⟩ ?_
      rotate_left 1
      · (intro W hSw; obtain ⟨zz, yy⟩ := hSw; (try simp only [lA, lS, lZ]); go_simp; try with_reducible rfl)
      try simp only [lA, lS, lZ, Act.put, lI, lW, lX]
      refine htk (i := 27) (v := ?_) (by kernel_rfl) rfl (fun _ _ _ h => h) (Or.inl ⟨by rfl, ?_⟩) ⟨z7, z6⟩ ?_
      rotate_left 1
      · (intro W hSw; obtain ⟨zz, yy⟩ := hSw; (try simp only [lA, lS, lZ]); go_simp; try with_reducible rfl)
      try simp only [lA, lS, lZ, Act.put, lI, lW, lX]
      refine htk (i := 28) (v := ?_) (by kernel_rfl) rfl (fun _ _ _ h => h) (Or.inl ⟨by rfl, ?_⟩) ⟨z7, z6⟩ ?_
      rotate_left 1
      · (intro W hSw; obtain ⟨zz, yy⟩ := hSw; (try simp only [lA, lS, lZ]); go_simp; try with_reducible rfl)
      try simp only [lA, lS, lZ, Act.put, lI, lW, lX]
      refine wpAnyHT_end (by kernel_rfl) ?_
      simp only [List.drop_succ_cons, List.drop_zero]
      go_wp2_with fail
      first | go_returns | skip
      exact HNO.out HK.out _ HF.out.drew
    have d3 : decide (x ≤ y) = false := decide_eq_false l3
    have e3 : y < x := by omega
    have HK := hid (HNX.out ⟨by rw [HX.out]; omega, fun _ => by rw [HX.out, show u + 1 - 1 = u by omega, HY.out]; omega⟩)
    go_wp2_with fail
    refine wp_region_tail (S := fun W => (W.cell? ⟨g, o + (u + 1), none⟩ = some (.int .i64 x) ∧ W.cell? ⟨g, o + u, none⟩ = some (.int .i64 y))) 29 30 rfl (by kernel_rfl) (by kernel_rfl) ?_
    refine htk (i := 0) (v := ?_) (by kernel_rfl) rfl (fun _ _ _ h => h) (Or.inl ⟨by rfl, ?_⟩) ⟨z7, z6⟩ ?_
    rotate_left 1
    · (intro W hSw; obtain ⟨zz, yy⟩ := hSw; (try simp only [lA, lZ]); go_simp; try with_reducible rfl)
    try simp only [lA, lZ, Act.put, lI, lW, lX]
    refine htk (i := 1) (v := ?_) (by kernel_rfl) rfl (fun _ _ _ h => h) (Or.inl ⟨by rfl, ?_⟩) ⟨z7, z6⟩ ?_
    rotate_left 1
    · (intro W hSw; obtain ⟨zz, yy⟩ := hSw; (try simp only [lA, lS, lZ]); go_simp; try with_reducible rfl)
    try simp only [lA, lS, lZ, Act.put, lI, lW, lX]
    refine htk (i := 2) (v := ?_) (by kernel_rfl) rfl (fun _ _ _ h => h) (Or.inl ⟨by rfl, ?_⟩) ⟨z7, z6⟩ ?_
    rotate_left 1
    · (intro W hSw; obtain ⟨zz, yy⟩ := hSw; (try simp only [lA, lS, lZ]); go_simp; try with_reducible rfl)
    try simp only [lA, lS, lZ, Act.put, lI, lW, lX]
    refine htk (i := 3) (v := ?_) (by kernel_rfl) rfl (fun _ _ _ h => h) (Or.inl ⟨by rfl, ?_⟩) ⟨z7, z6⟩ ?_
    rotate_left 1
    · (intro W hSw; obtain ⟨zz, yy⟩ := hSw; (try simp only [lA, lS, lZ]); go_simp; try with_reducible rfl)
    try simp only [lA, lS, lZ, Act.put, lI, lW, lX]
    refine htk (i := 4) (v := ?_) (by kernel_rfl) rfl (fun _ _ _ h => h) (Or.inl ⟨by rfl, ?_⟩) ⟨z7, z6⟩ ?_
    rotate_left 1
    · (intro W hSw; obtain ⟨zz, yy⟩ := hSw; (try simp only [lA, lS, lZ]); go_simp; try with_reducible rfl)
    try simp only [lA, lS, lZ, Act.put, lI, lW, lX]
    refine htk (i := 5) (v := ?_) (by kernel_rfl) rfl (fun _ _ _ h => h) (Or.inl ⟨by rfl, ?_⟩) ⟨z7, z6⟩ ?_
    rotate_left 1
    · (intro W hSw; obtain ⟨zz, yy⟩ := hSw; (try simp only [lA, lS, lZ]); go_simp; try with_reducible rfl)
    try simp only [lA, lS, lZ, Act.put, lI, lW, lX]
    refine htk (i := 6) (v := ?_) (by kernel_rfl) rfl (fun _ _ _ h => h) (Or.inl ⟨by rfl, ?_⟩) ⟨z7, z6⟩ ?_
    rotate_left 1
    · (intro W hSw; obtain ⟨zz, yy⟩ := hSw; (try simp only [lA, lS, lZ]); go_simp; try with_reducible rfl)
    try simp only [lA, lS, lZ, Act.put, lI, lW, lX]
    refine htk (i := 7) (v := ?_) (by kernel_rfl) rfl (fun _ _ _ h => h) (Or.inl ⟨by rfl, ?_⟩) ⟨z7, z6⟩ ?_
    rotate_left 1
    · (intro W hSw; obtain ⟨zz, yy⟩ := hSw; (try simp only [lA, lS, lZ]); go_simp; try with_reducible rfl)
    try simp only [lA, lS, lZ, Act.put, lI, lW, lX]
    refine htk (i := 8) (v := ?_) (by kernel_rfl) rfl (fun _ _ _ h => h) (Or.inl ⟨by rfl, ?_⟩) ⟨z7, z6⟩ ?_
    rotate_left 1
    · (intro W hSw; obtain ⟨zz, yy⟩ := hSw; (try simp only [lA, lS, lZ]); go_simp; try with_reducible rfl)
    try simp only [lA, lS, lZ, Act.put, lI, lW, lX]
    refine htk (i := 9) (v := ?_) (by kernel_rfl) rfl (fun _ _ _ h => h) (Or.inl ⟨by rfl, ?_⟩) ⟨z7, z6⟩ ?_
    rotate_left 1
    · (intro W hSw; obtain ⟨zz, yy⟩ := hSw; (try simp only [lA, lS, lZ]); go_simp; try with_reducible rfl)
    try simp only [lA, lS, lZ, Act.put, lI, lW, lX]
    refine htk (i := 10) (v := ?_) (by kernel_rfl) rfl (fun _ _ _ h => h) (Or.inl ⟨by rfl, ?_⟩) ⟨z7, z6⟩ ?_
    rotate_left 1
    · (intro W hSw; obtain ⟨zz, yy⟩ := hSw; (try simp only [lA, lS, lZ]); go_simp; try with_reducible rfl)
    try simp only [lA, lS, lZ, Act.put, lI, lW, lX]
    refine htk (i := 11) (v := ?_) (by kernel_rfl) rfl (fun _ _ _ h => h) (Or.inl ⟨by rfl, ?_⟩) ⟨z7, z6⟩ ?_
    rotate_left 1
    · (intro W hSw; obtain ⟨zz, yy⟩ := hSw; (try simp only [lA, lS, lZ]); go_simp; try with_reducible rfl)
    try simp only [lA, lS, lZ, Act.put, lI, lW, lX]
    refine htk (i := 12) (v := ?_) (by kernel_rfl) rfl (fun _ _ _ h => h) (Or.inl ⟨by rfl, ?_⟩) ⟨z7, z6⟩ ?_
    rotate_left 1
    · (intro W hSw; obtain ⟨zz, yy⟩ := hSw; (try simp only [lA, lS, lZ]); go_simp; try with_reducible rfl)
    try simp only [lA, lS, lZ, Act.put, lI, lW, lX]
    refine htk (i := 13) (v := ?_) (by kernel_rfl) rfl (fun _ _ _ h => h) (Or.inl ⟨by rfl, ?_⟩) ⟨z7, z6⟩ ?_
    rotate_left 1
    · (intro W hSw; obtain ⟨zz, yy⟩ := hSw; (try simp only [lA, lS, lZ]); go_simp; try with_reducible rfl)
    try simp only [lA, lS, lZ, Act.put, lI, lW, lX]
    refine htk (i := 14) (v := ?_) (by kernel_rfl) rfl (fun _ _ _ h => h) (Or.inl ⟨by rfl, ?_⟩) ⟨z7, z6⟩ ?_
    rotate_left 1
    · (intro W hSw; obtain ⟨zz, yy⟩ := hSw; (try simp only [lA, lS, lZ]); go_simp; try with_reducible rfl)
    try simp only [lA, lS, lZ, Act.put, lI, lW, lX]
    refine htk (i := 15) (v := ?_) (by kernel_rfl) rfl (fun _ _ _ h => h) (Or.inl ⟨by rfl, ?_⟩) ⟨z7, z6⟩ ?_
    rotate_left 1
    · (intro W hSw; obtain ⟨zz, yy⟩ := hSw; (try simp only [lA, lS, lZ]); go_simp; try with_reducible rfl)
    try simp only [lA, lS, lZ, Act.put, lI, lW, lX]
    refine htk (i := 16) (v := ?_) (by kernel_rfl) rfl (fun _ _ _ h => h) (Or.inl ⟨by rfl, ?_⟩) ⟨z7, z6⟩ ?_
    rotate_left 1
    · (intro W hSw; obtain ⟨zz, yy⟩ := hSw; (try simp only [lA, lS, lZ]); go_simp; try with_reducible rfl)
    try simp only [lA, lS, lZ, Act.put, lI, lW, lX]
    refine htk (i := 17) (v := ?_) (by kernel_rfl) rfl (fun _ _ _ h => h) (Or.inl ⟨by rfl, ?_⟩) ⟨z7, z6⟩ ?_
    rotate_left 1
    · (intro W hSw; obtain ⟨zz, yy⟩ := hSw; (try simp only [lA, lS, lZ]); go_simp; try with_reducible rfl)
    try simp only [lA, lS, lZ, Act.put, lI, lW, lX]
    refine htk (i := 18) (v := ?_) (by kernel_rfl) rfl (fun _ _ _ h => h) (Or.inl ⟨by rfl, ?_⟩) ⟨z7, z6⟩ ?_
    rotate_left 1
    · (intro W hSw; obtain ⟨zz, yy⟩ := hSw; (try simp only [lA, lS, lZ]); go_simp; try with_reducible rfl)
    try simp only [lA, lS, lZ, Act.put, lI, lW, lX]
    refine htk (i := 19) (v := ?_) (by kernel_rfl) rfl (fun _ _ _ h => h) (Or.inl ⟨by rfl, ?_⟩) ⟨z7, z6⟩ ?_
    rotate_left 1
    · (intro W hSw; obtain ⟨zz, yy⟩ := hSw; (try simp only [lA, lS, lZ]); go_simp; try with_reducible rfl)
    try simp only [lA, lS, lZ, Act.put, lI, lW, lX]
    refine htk (i := 20) (v := ?_) (by kernel_rfl) rfl (fun _ _ _ h => h) (Or.inl ⟨by rfl, ?_⟩) ⟨z7, z6⟩ ?_
    rotate_left 1
    · (intro W hSw; obtain ⟨zz, yy⟩ := hSw; (try simp only [lA, lS, lZ]); go_simp; try with_reducible rfl)
    try simp only [lA, lS, lZ, Act.put, lI, lW, lX]
    refine htk (i := 21) (v := ?_) (by kernel_rfl) rfl (fun _ _ _ h => h) (Or.inl ⟨by rfl, ?_⟩) ⟨z7, z6⟩ ?_
    rotate_left 1
    · (intro W hSw; obtain ⟨zz, yy⟩ := hSw; (try simp only [lA, lS, lZ]); go_simp; try with_reducible rfl)
    try simp only [lA, lS, lZ, Act.put, lI, lW, lX]
    refine htk (i := 22) (v := ?_) (by kernel_rfl) rfl (fun _ _ _ h => h) (Or.inl ⟨by rfl, ?_⟩) ⟨z7, z6⟩ ?_
    rotate_left 1
    · (intro W hSw; obtain ⟨zz, yy⟩ := hSw; (try simp only [lA, lS, lZ]); go_simp; try with_reducible rfl)
    try simp only [lA, lS, lZ, Act.put, lI, lW, lX]
    refine htk (i := 23) (v := ?_) (by kernel_rfl) rfl (fun _ _ _ h => h) (Or.inl ⟨by rfl, ?_⟩) ⟨z7, z6⟩ ?_
    rotate_left 1
    · (intro W hSw; obtain ⟨zz, yy⟩ := hSw; (try simp only [lA, lS, lZ]); go_simp; try with_reducible rfl)
    try simp only [lA, lS, lZ, Act.put, lI, lW, lX]
    refine htk (i := 24) (v := ?_) (by kernel_rfl) rfl (fun _ _ _ h => h) (Or.inl ⟨by rfl, ?_⟩) ⟨z7, z6⟩ ?_
    rotate_left 1
    · (intro W hSw; obtain ⟨zz, yy⟩ := hSw; (try simp only [lA, lS, lZ]); go_simp; try with_reducible rfl)
    try simp only [lA, lS, lZ, Act.put, lI, lW, lX]
    refine htk (i := 25) (v := ?_) (by kernel_rfl) rfl (fun _ _ _ h => h) (Or.inl ⟨by rfl, ?_⟩) ⟨z7, z6⟩ ?_
    rotate_left 1
    · (intro W hSw; obtain ⟨zz, yy⟩ := hSw; (try simp only [lA, lS, lZ]); go_simp; try with_reducible rfl)
    try simp only [lA, lS, lZ, Act.put, lI, lW, lX]
    refine htk (i := 26) (v := ?_) (by kernel_rfl) rfl (fun _ _ _ h => h) (Or.inl ⟨by rfl, ?_⟩) ⟨z7, z6⟩ ?_
    rotate_left 1
    · (intro W hSw; obtain ⟨zz, yy⟩ := hSw; (try simp only [lA, lS, lZ]); go_simp; try with_reducible rfl)
    try simp only [lA, lS, lZ, Act.put, lI, lW, lX]
    refine htk (i := 27) (v := ?_) (by kernel_rfl) rfl (fun _ _ _ h => h) (Or.inl ⟨by rfl, ?_⟩) ⟨z7, z6⟩ ?_
    rotate_left 1
    · (intro W hSw; obtain ⟨zz, yy⟩ := hSw; (try simp only [lA, lS, lZ]); go_simp; try with_reducible rfl)
    try simp only [lA, lS, lZ, Act.put, lI, lW, lX]
    refine htk (i := 28) (v := ?_) (by kernel_rfl) rfl (fun _ _ _ h => h) (Or.inl ⟨by rfl, ?_⟩) ⟨z7, z6⟩ ?_
    rotate_left 1
    · (intro W hSw; obtain ⟨zz, yy⟩ := hSw; (try simp only [lA, lS, lZ]); go_simp; try with_reducible rfl)
    try simp only [lA, lS, lZ, Act.put, lI, lW, lX]
    refine wpAnyHT_end (by kernel_rfl) ?_
    simp only [List.drop_succ_cons, List.drop_zero]
    go_wp2_with fail
    go_roundw
    case rel => exact ⟨u + 1 + 1, by omega, rfl, by go_num, HK, hid HF.out.drew⟩
    case measure => first | (simp [intOf]; done) | (simp [intOf]; omega)
end
end Go.Proofs.YtajfjkfnmmfhmaaGreatDoor
