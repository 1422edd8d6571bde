/- IlogBack: the walk. -/
import Derived.Test.YtiefgfbeemlnjaaIlogX
namespace Go.Proofs.Ytiefgfbeemlnjaa
open Go.RowKit
set_option maxRecDepth 100000

theorem zerosN (n : Nat) : (madeCells #[Value.int .u8 0] n) = (bv (List.replicate n 0)).toArray := Array.ext' (by simp [toList_madeCells_one, bv])
theorem zeros22 : (madeCells #[Value.int .u8 0] 22528) = (bv (List.replicate 22528 0)).toArray := zerosN 22528
theorem recsB_byte (base next : Nat) {bs : List (List Int)} (h : ∀ x ∈ bs, ∀ z ∈ x, 0 ≤ z ∧ z < 256) : ∀ z ∈ recsB base next bs, 0 ≤ z ∧ z < 256 := by
  induction bs generalizing next with
  | nil => simp [recsB]
  | cons b bs ih =>
    intro z hz
    rcases List.mem_append.1 hz with h1 | h1
    · exact recT_byte _ _ _ _ (h b (by simp)) z h1
    · exact ih (next + 1) (fun x hx => h x (List.mem_cons_of_mem _ hx)) z h1
/-- A region of noughts, with records at its beginning. -/
def regA (an : Nat) (l1 : List (List Int)) : List Int := recsB an 1 l1 ++ (List.replicate 22528 0).drop (recsB an 1 l1).length
/-- And others over it. -/
def regB (an : Nat) (l1 l2 : List (List Int)) : List Int := recsB (an + 1) 1 l2 ++ (regA an l1).drop (recsB (an + 1) 1 l2).length
theorem regA_length (an : Nat) (l1 : List (List Int)) (h : (recsB an 1 l1).length ≤ 22528) : (regA an l1).length = 22528 := by
  unfold regA; rw [List.length_append, List.length_drop, List.length_replicate]; omega
theorem regB_length (an : Nat) (l1 l2 : List (List Int)) (h1 : (recsB an 1 l1).length ≤ 22528) (h2 : (recsB (an + 1) 1 l2).length ≤ 22528) : (regB an l1 l2).length = 22528 := by
  unfold regB; rw [List.length_append, List.length_drop, regA_length an l1 h1]; omega
theorem regA_byte (an : Nat) {l1 : List (List Int)} (h : ∀ x ∈ l1, ∀ z ∈ x, 0 ≤ z ∧ z < 256) : ∀ z ∈ regA an l1, 0 ≤ z ∧ z < 256 := by
  intro z hz
  rcases List.mem_append.1 hz with h1 | h1
  · exact recsB_byte _ _ h z h1
  · rw [List.eq_of_mem_replicate (List.mem_of_mem_drop h1)]; exact ⟨by decide, by decide⟩
theorem regB_byte (an : Nat) {l1 l2 : List (List Int)} (h : ∀ x ∈ l1, ∀ z ∈ x, 0 ≤ z ∧ z < 256) (h2 : ∀ x ∈ l2, ∀ z ∈ x, 0 ≤ z ∧ z < 256) : ∀ z ∈ regB an l1 l2, 0 ≤ z ∧ z < 256 := by
  intro z hz
  rcases List.mem_append.1 hz with h1 | h1
  · exact recsB_byte _ _ h2 z h1
  · exact regA_byte an h z (List.mem_of_mem_drop h1)
theorem regA_heads (an : Nat) (l1 : List (List Int)) : HeadsOf (fun v => v = an ∨ v = 0) (regA an l1) := by
  obtain ⟨m, hm⟩ := recsB_mod an 1 l1
  refine HeadsOf.append hm ((heads_recsB an 1 l1).mono fun v h => Or.inl h) ?_
  rw [List.drop_replicate]
  exact (heads_zero _).mono fun v h => Or.inr h
theorem regB_heads (an : Nat) (l1 l2 : List (List Int)) : HeadsOf (fun v => v = an + 1 ∨ v = an ∨ v = 0) (regB an l1 l2) := by
  obtain ⟨m, hm⟩ := recsB_mod (an + 1) 1 l2
  refine HeadsOf.append hm ((heads_recsB (an + 1) 1 l2).mono fun v h => Or.inl h) ?_
  rw [hm]
  exact ((regA_heads an l1).drop m).mono fun v h => Or.inr h
theorem regB_told (an : Nat) (han : an < 2000) (l1 l2 : List (List Int)) (hs : ∀ x ∈ l2, x.length ≤ 4096) : Told (an + 1) 1 (regB an l1 l2) l2 := by
  refine ⟨List.prefix_append _ _, hs, ?_⟩
  unfold regB
  rw [List.drop_left]
  obtain ⟨m, hm⟩ := recsB_mod (an + 1) 1 l2
  rw [hm]
  exact noRec_heads ((regA_heads an l1).drop m) (fun v h => by rcases h with h | h <;> omega) (by omega)
theorem regB_none (an : Nat) (han : an < 2000) (l1 l2 : List (List Int)) : Told (an + 2) 1 (regB an l1 l2) [] := by
  refine ⟨List.nil_prefix, by simp, ?_⟩
  simp only [recsB, List.length_nil, List.drop_zero, Nat.add_zero]
  exact noRec_heads (regB_heads an l1 l2) (fun v h => by rcases h with h | h | h <;> omega) (by omega)
set_option maxHeartbeats 3200000 in
theorem back16_any (base : Int) (hb1 : -9223372036854775808 ≤ base) (hb2 : base ≤ 9223372036854775807) (p1 p2 : Option Addr) (n1 c1 n2 c2 : Nat) (W : World) (hC : CameB W p1 n1 c1) (hD : CameB W p2 n2 c2) :
    Calls Try.prog 4 #[.int .i64 base, .slice p1 n1 c1, .slice p2 n2 c2] W fun e w' => e = .returned (.bool true) ∧ Frm [] W w' := by
  have HC := hid hC
  have HD := hid hD
  have hmk := run_make_row' (P := Try.prog) 22 5 (.int .u8 0) 1 Try.underlying22 infoB rfl .i64 .i64 22528 (by omega) (by omega)
  rw [show ((22528 : Nat) : Int) = 22528 from rfl, zeros22] at hmk
  clear hC hD
  go_enter Try.func4, Try.ntmps4
  go_wp2_with fail
  refine (awake16_any _).mono ?_
  rintro e w1 ⟨rfl, hf1⟩
  have HF1 := hid hf1
  clear hf1
  go_wp2_with fail
  refine (pick16_any base 1000 hb1 hb2 (by omega) (by omega) _).mono ?_
  rintro e w2 ⟨rfl, rfl⟩
  obtain ⟨pk0, pk1⟩ := pickI_bd (c := base) (n := 1000) (by omega)
  obtain ⟨an, han⟩ : ∃ an : Nat, pickI base 1000 = an := ⟨(pickI base 1000).toNat, by omega⟩
  rw [han] at pk0 pk1 ⊢
  have ha1 : an < 1000 := by omega
  clear han pk0 pk1
  have hfa : Frm [] w1 (w1.alloc (.cells (bv (List.replicate 22528 0)).toArray 5)) := (Frm.refl _ _).alloc _
  have HFA := hid (HF1.out.trans hfa (by simp))
  have HGA : Hid ((w1.alloc (.cells (bv (List.replicate 22528 0)).toArray 5)).heap[w1.heap.size]? = some (.cells (bv (List.replicate 22528 0)).toArray 5 (0, 0))) := hid (heap_alloc_new _ _)
  have hgW := HF1.out.size
  obtain ⟨Z0, hZ0⟩ : ∃ Z0, List.replicate 22528 (0 : Int) = Z0 := ⟨_, rfl⟩
  rw [hZ0] at hmk HFA HGA
  have HZ0 := hid hZ0
  have HZL : Hid (Z0.length = 22528) := hid (by rw [← hZ0, List.length_replicate])
  clear hfa hZ0
  go_wp2_with fail
  obtain ⟨wa, hwa⟩ : ∃ wa, w1.alloc (.cells (bv Z0).toArray 5) = wa := ⟨_, rfl⟩
  obtain ⟨G, hG⟩ : ∃ G, w1.heap.size = G := ⟨_, rfl⟩
  rw [hwa] at HFA HGA ⊢
  rw [hG] at HGA hgW ⊢
  clear hwa hG hmk
  refine (written_any W an G (by omega) p1 n1 c1 Z0 HZL.out HC.out hgW wa HFA.out HGA.out).mono ?_
  rintro e w3 ⟨q3, k3, d3, vs3, ls1, rfl, hl3, hA3, hsm3, hby3, hg3, hf3⟩
  have HF3 := hid (HFA.out.trans hf3 (fun i hi hlt => by simp at hi; omega))
  have hreg : recsB an 1 ls1 ++ Z0.drop (recsB an 1 ls1).length = regA an ls1 := by unfold regA; rw [HZ0.out]
  rw [hreg] at hg3
  have HG3 := hid hg3
  have HA3 := hid hA3
  have HBY3 := hid hby3
  have hnn := hl3.lenB
  have hn256 : k3 ≤ 256 := by have := recsB_length_ge an 1 ls1; omega
  have HW2 := written_any W (an + 1) G (by omega) p2 n2 c2 (regA an ls1) (regA_length an ls1 hA3) HD.out hgW w3 HF3.out hg3
  rw [show ((an + 1 : Nat) : Int) = (an : Int) + 1 by omega] at HW2
  have HW2' := hid HW2
  obtain ⟨X1, hX1⟩ : ∃ X1, (recsB an 1 ls1.dropLast).length = X1 := ⟨_, rfl⟩
  obtain ⟨X2, hX2⟩ : ∃ X2, (recsB an 1 ls1).length = X2 := ⟨_, rfl⟩
  rw [hX1, hX2]
  clear hl3 hA3 hsm3 hby3 hg3 hf3 hreg hnn hX1 hX2 HW2
  go_wp2_with fail
  refine HW2'.out.mono ?_
  rintro e w4 ⟨q4, k4, d4, vs4, ls2, rfl, hl4, hA4, hsm4, hby4, hg4, hf4⟩
  have HF4 := hid (HF3.out.trans hf4 (fun i hi hlt => by simp at hi; omega))
  have hreg : recsB (an + 1) 1 ls2 ++ (regA an ls1).drop (recsB (an + 1) 1 ls2).length = regB an ls1 ls2 := rfl
  rw [hreg] at hg4
  have HG4 := hid hg4
  have hrl := regB_length an ls1 ls2 HA3.out hA4
  have HRL := hid hrl
  have HRB := hid (regB_byte an HBY3.out hby4)
  have HT1 := hid (regB_told an (by omega) ls1 ls2 hsm4)
  have HT2 := hid (regB_none an (by omega) ls1 ls2)
  have HL4 := hid (hl4.rd HF4.out)
  have HLB := hid hl4.lenB
  have hn4 : k4 ≤ 256 := by have := recsB_length_ge (an + 1) 1 ls2; have := hl4.lenB; omega
  have HRR := hid ((own_of_block (E := 5) hg4 (by rw [hrl]; unfold maxLen; omega)).rd)
  obtain ⟨Y1, hY1⟩ : ∃ Y1, (recsB (an + 1) 1 ls2.dropLast).length = Y1 := ⟨_, rfl⟩
  obtain ⟨Y2, hY2⟩ : ∃ Y2, (recsB (an + 1) 1 ls2).length = Y2 := ⟨_, rfl⟩
  have HY2 := hid hY2
  rw [hY2] at hA4
  rw [hY1, hY2]
  have HS1 := scan_ok (an + 1) (by omega) (some ⟨G, 0, none⟩) (regB an ls1 ls2) 22528 hrl (by omega) HRB.out w4 HRR.out
  rw [show ((an + 1 : Nat) : Int) = (an : Int) + 1 by omega] at HS1
  have HS1' := hid HS1
  clear hl4 hsm4 hby4 hg4 hf4 hreg hrl hY1 hY2 HS1
  go_wp2_with fail
  refine HS1'.out.mono ?_
  rintro e w5 ⟨b, q5, k5, d5, vs5, bs5, rfl, ht5, hl5, hi5, hf5, hb5⟩
  obtain rfl := told_one HT1.out ht5
  have hkk : k5 = k4 := by rw [← hl5.lenB, HLB.out]
  subst hkk
  have HF5 := hid (HF4.out.trans hf5 (by simp))
  have HL5 := hid (HL4.out.kept hf5)
  have HM5 := hid hl5.rd
  have HRR5 := hid (HRR.out.kept hf5 (by simp))
  rw [HY2.out, HLB.out] at hi5
  have HI5 := hid hi5
  clear ht5 hl5 hi5 hf5 hb5
  go_wp2_with fail
  refine (same_true ls2 q4 q5 k5 d4 d5 HLB.out (by omega) _ HL5.out HM5.out).mono ?_
  rintro e w6 ⟨rfl, hf6⟩
  have HF6 := hid (HF5.out.trans hf6 (by simp))
  have HI6 := hid (HI5.out.kept hf6 (by simp))
  have HRR6 := hid (HRR5.out.kept hf6 (by simp))
  have HS2 := scan_ok (an + 2) (by omega) (some ⟨G, 0, none⟩) (regB an ls1 ls2) 22528 HRL.out (by omega) HRB.out w6 HRR6.out
  rw [show ((an + 2 : Nat) : Int) = (an : Int) + 2 by omega] at HS2
  have HS2' := hid HS2
  clear hf6 HS2
  go_wp2_with fail
  refine HS2'.out.mono ?_
  rintro e w7 ⟨b7, q7, k7, d7, vs7, bs7, rfl, ht7, hl7, hi7, hf7, hb7⟩
  obtain rfl := told_one HT2.out ht7
  have hk7 : k7 = 0 := by rw [← hl7.lenB]; rfl
  subst hk7
  have HF7 := hid (HF6.out.trans hf7 (by simp))
  have HI7 := hid (HI6.out.kept hf7 (by simp))
  clear ht7 hl7 hi7 hf7 hb7
  go_wp2_with (first | ((with_reducible refine (at_any b _ _ _ _ HI7.out).mono ?_); rintro e x ⟨rfl, rfl⟩) | ((with_reducible refine (next_any b _ _ _ _ HI7.out).mono ?_); rintro e x ⟨rfl, rfl⟩) | ((with_reducible refine (base_any b _ _ _ _ HI7.out).mono ?_); rintro e x ⟨rfl, rfl⟩))
  go_returns
  exact ⟨boolE (by simp), HF7.out⟩
end Go.Proofs.Ytiefgfbeemlnjaa
