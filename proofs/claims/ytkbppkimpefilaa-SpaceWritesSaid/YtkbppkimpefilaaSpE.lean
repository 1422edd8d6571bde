/- Space maps: entries and bytes, there and back; the law's awake. -/
import Derived.Test.YtkbppkimpefilaaSpD
namespace Go.Proofs.Ytkbppkimpefilaa
open Go.RowKit Go.Lib
set_option maxRecDepth 100000

theorem leV10 (zs : List Int) (h : ∀ z ∈ zs, 0 ≤ z ∧ z < 256) : le (leV zs) zs.length = zs := by
  induction zs with
  | nil => rfl
  | cons z zs ih =>
    have hz := h z (by simp)
    have ih := ih (fun y hy => h y (by simp [hy]))
    have hb := leV_bd zs (fun y hy => h y (by simp [hy]))
    rw [leV, List.length_cons, le, List.range_succ_eq_map, List.map_cons, List.map_map]
    congr 1
    · simp; omega
    · conv => rhs; rw [← ih]
      unfold le
      apply List.map_congr_left
      intro i _
      have e : (2 : Int) ^ (8 * (i + 1)) = 256 * 2 ^ (8 * i) := by rw [Nat.mul_add, Int.pow_add, Int.mul_comm]; rfl
      simp only [Function.comp, Nat.succ_eq_add_one]
      rw [e, ← Int.ediv_ediv_of_nonneg (by decide)]
      congr 2
      omega
theorem le_numAt {bs : List Int} (hb : ∀ z ∈ bs, 0 ≤ z ∧ z < 256) (o k : Nat) (h : o + k ≤ bs.length) : le (numAt bs o k) k = (bs.drop o).take k := by
  have hl : ((bs.drop o).take k).length = k := by rw [List.length_take, List.length_drop]; omega
  have h1 := leV10 ((bs.drop o).take k) (fun z hz => hb z (List.mem_of_mem_drop (List.mem_of_mem_take hz)))
  rw [hl] at h1
  exact h1
theorem tk10 (bs : List Int) (o q a b c : Nat) (hq : q = o + a) (hc : c = a + b) : (bs.drop o).take a ++ (bs.drop q).take b = (bs.drop o).take c := by
  subst hq hc
  rw [List.take_add, List.drop_drop]
theorem entB_rd {bs : List Int} (hb : ∀ z ∈ bs, 0 ≤ z ∧ z < 256) (i : Nat) (h : 2 + 13 * (i + 1) ≤ bs.length) (h1 : numAt bs (2 + 13 * i) 1 ≤ 1) : entB (entV bs i) = (bs.drop (2 + 13 * i)).take 13 := by
  have h0 := (numAt_bd hb (2 + 13 * i) 1).1
  have e : (if (entV bs i).f then (1 : Int) else 0) = numAt bs (2 + 13 * i) 1 := by
    unfold entV
    simp only [decide_eq_true_eq]
    split <;> omega
  unfold entB
  rw [e, le_numAt hb _ _ (by omega)]
  unfold entV
  simp only
  rw [le_numAt hb _ _ (by omega), le_numAt hb _ _ (by omega), tk10 bs (2 + 13 * i) (2 + 13 * i + 1) 1 6 7 rfl rfl, tk10 bs (2 + 13 * i) (2 + 13 * i + 7) 7 6 13 rfl rfl]
theorem entsB_rd {bs : List Int} (hb : ∀ z ∈ bs, 0 ≤ z ∧ z < 256) : ∀ n : Nat, 2 + 13 * n ≤ bs.length → (∀ i, i < n → numAt bs (2 + 13 * i) 1 ≤ 1) → entsB (entsV bs n) = (bs.drop 2).take (13 * n)
  | 0, _, _ => by simp [entsV, entsB]
  | n + 1, h, hf => by
    rw [entsV_succ, entsB_app, entsB_rd hb n (by omega) (fun i hi => hf i (by omega))]
    simp only [entsB, List.append_nil]
    rw [entB_rd hb n h (hf n (by omega))]
    exact tk10 bs 2 (2 + 13 * n) (13 * n) 13 (13 * (n + 1)) rfl (by omega)
/-- What was read is written as the bytes. -/
theorem spB_of {bs : List Int} (hb : ∀ z ∈ bs, 0 ≤ z ∧ z < 256) (h : DecOk bs) : spB (entsV bs (many10 bs)) = bs := by
  obtain ⟨h1, h2, h3, _⟩ := h
  have hbd := numAt_bd hb 0 2
  have e : ((many10 bs : Nat) : Int) = numAt bs 0 2 := by unfold many10; omega
  unfold spB
  rw [entsV_len, e, le_numAt hb 0 2 (by omega), entsB_rd hb _ (by omega) h3, tk10 bs 0 2 2 (13 * many10 bs) (2 + 13 * many10 bs) rfl rfl, ← h2]
  simp
theorem entsB_drop : ∀ (l : List Sq) (i : Nat), (entsB l).drop (13 * i) = entsB (l.drop i)
  | l, 0 => by simp
  | [], i + 1 => by simp [entsB]
  | y :: l, i + 1 => by
    rw [List.drop_succ_cons, ← entsB_drop l i, entsB, show 13 * (i + 1) = 13 + 13 * i by omega, ← List.drop_drop, List.drop_left' (entB_len y)]
theorem spB_drop {l : List Sq} {i : Nat} {y : Sq} (h : l[i]? = some y) : ∃ R, (spB l).drop (2 + 13 * i) = le (if y.f then 1 else 0) 1 ++ (le y.s.a 6 ++ (le y.s.m 6 ++ R)) := by
  have hlt := (List.getElem?_eq_some_iff.1 h).1
  refine ⟨entsB (l.drop (i + 1)), ?_⟩
  unfold spB
  rw [← List.drop_drop, List.drop_left' (le_length _ 2), entsB_drop, List.drop_eq_getElem_cons hlt]
  have e : l[i] = y := by rw [List.getElem?_eq_getElem hlt] at h; cases h; rfl
  rw [e, entsB]
  unfold entB
  simp only [List.append_assoc]
theorem entV_spB {l : List Sq} {i : Nat} {y : Sq} (h : l[i]? = some y) (hm : May9 y.s) : numAt (spB l) (2 + 13 * i) 1 ≤ 1 ∧ entV (spB l) i = y := by
  obtain ⟨R, hR⟩ := spB_drop h
  obtain ⟨m1, m2, m3, m4⟩ := hm
  have e0 : numAt (spB l) (2 + 13 * i) 1 = if y.f then 1 else 0 := by
    unfold numAt
    rw [hR, List.take_left' (le_length _ 1), leV_fit _ _ (by split <;> omega) (by split <;> rfl)]
  have e1 : numAt (spB l) (2 + 13 * i + 1) 6 = y.s.a := by
    unfold numAt
    rw [← List.drop_drop, hR, List.drop_left' (le_length _ 1), List.take_left' (le_length _ 6), leV_fit _ _ m1 (Int.ediv_eq_zero_of_lt m1 (by omega))]
  have e2 : numAt (spB l) (2 + 13 * i + 7) 6 = y.s.m := by
    unfold numAt
    rw [show 2 + 13 * i + 7 = 2 + 13 * i + 1 + 6 by omega, ← List.drop_drop, ← List.drop_drop, hR, List.drop_left' (le_length _ 1), List.drop_left' (le_length _ 6), List.take_left' (le_length _ 6), leV_fit _ _ (by omega) (Int.ediv_eq_zero_of_lt (by omega) (by omega))]
  refine ⟨by rw [e0]; split <;> omega, ?_⟩
  unfold entV
  rw [e0, e1, e2]
  obtain ⟨f, s⟩ := y
  cases f <;> rfl
theorem many_spB {l : List Sq} (h : l.length ≤ 4096) : many10 (spB l) = l.length := by
  unfold many10 numAt spB
  rw [List.drop_zero, List.take_left' (le_length _ 2), leV_fit _ _ (by omega) (Int.ediv_eq_zero_of_lt (by omega) (by omega))]
  simp
/-- What is written is read as it. -/
theorem decOk_spB {l : List Sq} (h : chkE l = 0) : DecOk (spB l) ∧ many10 (spB l) = l.length ∧ entsV (spB l) l.length = l := by
  obtain ⟨h1, h2⟩ := chkE_ok.1 h
  have hm := many_spB h1
  have he : entsV (spB l) l.length = l := by
    apply List.ext_getElem?
    intro i
    unfold entsV
    by_cases hi : i < l.length
    · obtain ⟨y, hy⟩ : ∃ y, l[i]? = some y := ⟨_, List.getElem?_eq_getElem hi⟩
      rw [List.getElem?_map, List.getElem?_range hi, hy, Option.map_some, (entV_spB hy (h2 y (List.mem_of_getElem? hy))).2]
    · rw [List.getElem?_eq_none (by simpa using hi), List.getElem?_eq_none (by omega)]
  refine ⟨⟨by rw [spB_len]; omega, by rw [hm, spB_len], fun i hi => ?_, by rw [hm, he]; exact h⟩, hm, he⟩
  rw [hm] at hi
  obtain ⟨y, hy⟩ : ∃ y, l[i]? = some y := ⟨_, List.getElem?_eq_getElem hi⟩
  exact (entV_spB hy (h2 y (List.mem_of_getElem? hy))).1
theorem entsB_bd : ∀ l : List Sq, ∀ z ∈ entsB l, 0 ≤ z ∧ z < 256
  | [], z, hz => by simp [entsB] at hz
  | y :: l, z, hz => by
    simp only [entsB, entB, List.mem_append] at hz
    rcases hz with ((h | h) | h) | h
    · exact le_bd _ _ z h
    · exact le_bd _ _ z h
    · exact le_bd _ _ z h
    · exact entsB_bd l z h
theorem spB_bd (l : List Sq) : ∀ z ∈ spB l, 0 ≤ z ∧ z < 256 := fun z hz => by
  unfold spB at hz
  rcases List.mem_append.1 hz with h | h
  · exact le_bd _ _ z h
  · exact entsB_bd l z h
def es0 : List Sq := [⟨false, ⟨4, 2⟩⟩, ⟨false, ⟨6, 1⟩⟩, ⟨true, ⟨5, 1⟩⟩]
theorem rep0 {E : Int} {r : List Sp} (h : RepC es0 E r) : E = 0 ∧ r = [⟨4, 1⟩, ⟨6, 1⟩] := by
  rcases h with ⟨h, _⟩ | ⟨_, h⟩
  · exact absurd (by decide : chkE es0 = 0) h
  obtain ⟨F1, l1, h1, h⟩ := h
  rcases h1 with ⟨h1, _⟩ | ⟨_, h1⟩
  · cases h1
  obtain ⟨rfl, rfl⟩ := h1.same (k := [⟨4, 2⟩]) (by decide) (fun n _ _ h => mem9_nil h) (by simp [Norm, Sp.e]) (fun n => by rw [mem9_one]; simp only [Sp.e]; exact ⟨fun h => Or.inr h, fun h => h.elim (fun h => (mem9_nil h).elim) id⟩) (by simp)
  rcases h with ⟨_, h⟩ | ⟨h, _⟩
  · obtain ⟨F2, l2, h2, h⟩ := h
    rcases h2 with ⟨h2, _⟩ | ⟨_, h2⟩
    · cases h2
    obtain ⟨rfl, rfl⟩ := h2.same (k := [⟨4, 3⟩]) (by decide) (fun n h1 h2 h => by rw [mem9_one] at h; simp only [Sp.e] at h h1 h2; omega) (by simp [Norm, Sp.e]) (fun n => by rw [mem9_one, mem9_one]; simp only [Sp.e]; omega) (by simp)
    rcases h with ⟨_, h⟩ | ⟨h, _⟩
    · obtain ⟨F3, l3, h3, h⟩ := h
      rcases h3 with ⟨_, h3⟩ | ⟨h3, _⟩
      · obtain ⟨rfl, rfl⟩ := h3.same (k := [⟨4, 1⟩, ⟨6, 1⟩]) ⟨by decide, fun n h1 h2 => by rw [mem9_one]; simp only [Sp.e] at h1 h2 ⊢; omega⟩ (by simp [Norm, Sp.e]) (fun n => by rw [mem9_one, mem9_two]; simp only [Sp.e]; omega) (by simp)
        rcases h with ⟨_, h⟩ | ⟨h, _⟩
        · exact h
        · exact absurd rfl h
      · cases h3
    · exact absurd rfl h
  · exact absurd rfl h
theorem in0 : InE es0 := fun y hy => by
  simp [es0] at hy
  rcases hy with rfl | rfl | rfl <;> (unfold Sp.In; simp)
set_option maxHeartbeats 6400000 in
theorem awake10_any (w : World) : Calls Try.prog 11 #[] w fun e w' => e = .returned (.bool true) ∧ Frm [] w w' := by
  obtain ⟨w1, hw1⟩ : ∃ q, w.alloc (.cells #[.bool false, .int .i64 4, .int .i64 2, .bool false, .int .i64 6, .int .i64 1, .bool true, .int .i64 5, .int .i64 1] 41) = q := ⟨_, rfl⟩
  obtain ⟨bx, hbx⟩ : ∃ q, w.heap.size = q := ⟨_, rfl⟩
  have h1 : Frm [] w w1 := by rw [← hw1]; exact (Frm.refl _ _).alloc _
  have HX : Hid (∀ W, Frm [] w1 W → Rv W (some ⟨bx, 0, none⟩) (rowE es0)) := hid (fun W hf => by
    have : Rv w1 (some ⟨bx, 0, none⟩) (rowE es0) := by
      rw [← hw1, ← hbx]
      exact rv_block (heap_alloc_new w (.cells (rowE es0).toArray 41))
    exact this.kept hf (by simp))
  have HF1 := hid h1
  have HW1 := hid hw1
  have HBX := hid hbx
  clear hw1 hbx h1
  go_enter Try.func11, Try.ntmps11
  go_upto_region 2 with fail
  rw [HBX.out, HW1.out]
  clear HW1 HBX
  go_wp2_with fail
  refine (conE_any (some ⟨bx, 0, none⟩) 3 3 es0 w1 (HX.out _ (Frm.refl _ _)) rfl in0 (by omega)).mono ?_
  rintro e w2 ⟨E, r, hc, hf2, _, _, pc, cc, rfl, _, _⟩
  obtain ⟨rfl, rfl⟩ := rep0 hc
  have HF2 := hid hf2
  rw [show ([⟨4, 1⟩, ⟨6, 1⟩] : List Sp).length = 2 from rfl]
  clear hc hf2
  go_wp2_with fail
  refine (repE_any (some ⟨bx, 0, none⟩) 3 3 es0 w2 (HX.out _ HF2.out) rfl in0 (by omega)).mono ?_
  rintro e w3 ⟨E, r, hc, hf3, h⟩
  obtain ⟨rfl, rfl⟩ := rep0 hc
  rcases h with ⟨h, _⟩ | ⟨_, sb, ps, cs, rfl, hs, hn, hl, _⟩
  · exact absurd rfl h
  have HF3 := hid (HF2.out.trans hf3 (by simp))
  have HS := hid (fun W (hf : Frm [] w3 W) => hs.k0 hf)
  have HN := hid hn
  clear hc hf3 hs hn hl HF2
  go_wp2_with fail
  refine (encE_any (some ⟨bx, 0, none⟩) 3 3 es0 w3 (HX.out _ HF3.out) rfl in0 (by omega)).mono ?_
  rintro e w4 h
  rw [show chkE es0 = 0 by decide] at h
  rcases h with ⟨h, _⟩ | ⟨_, g, rfl, hg, hf4, _⟩
  · exact absurd rfl h
  have HF4 := hid (HF3.out.trans hf4 (by simp))
  have HF34 := hid hf4
  have HD := hid (decE_any (some ⟨g, 0, none⟩) (spB es0).length (spB es0) (spB_bd es0) w4 (own_of_block (E := 5) hg (by rw [spB_len]; unfold maxLen; simp [es0])).rd (by rw [spB_len]; simp [es0]))
  obtain ⟨L, hL⟩ : ∃ q, (spB es0).length = q := ⟨_, rfl⟩
  rw [hL] at HD
  rw [hL]
  clear hg hf4 HF3 hL
  go_wp2_with fail
  refine HD.out.mono ?_
  rintro e w5 h
  obtain ⟨d1, d2, d3⟩ := decOk_spB (l := es0) (by decide)
  rw [show es0.length = 3 from rfl] at d2 d3
  rcases h with ⟨h, _⟩ | ⟨_, pd, cd, rfl, ho, hf5, _⟩
  · exact absurd d1 h
  rw [d2, d3] at ho
  rw [d2]
  have HF5 := hid (HF4.out.trans hf5 (by simp))
  have HF35 := hid (HF34.out.trans hf5 (by simp))
  have HSA := hid (same10_any (some ⟨bx, 0, none⟩) pd 3 cd es0 3 w5 (HX.out _ HF5.out) ho.rv rfl (by omega))
  clear ho hf5 d1 d2 d3 HF4 HF34 HD
  go_wp2_with fail
  refine HSA.out.mono ?_
  rintro e w6 ⟨rfl, hf6⟩
  have HF6 := hid (HF5.out.trans hf6 (by simp))
  have HMA := hid (many9_any sb ps cs [⟨4, 1⟩, ⟨6, 1⟩] w6 (HS.out _ (HF35.out.trans hf6 (by simp))) HN.out (by simp))
  rw [show sumM [⟨4, 1⟩, ⟨6, 1⟩] = 2 from rfl] at HMA
  clear hf6 HF5 HF35 HSA
  go_wp2_with fail
  refine HMA.out.mono ?_
  rintro e w7 ⟨rfl, hf7⟩
  have HF7 := hid ((HF1.out.trans HF6.out (by simp)).trans hf7 (by simp))
  go_wp2_with fail
  first | go_returns | skip
  exact ⟨rfl, HF7.out⟩
end Go.Proofs.Ytkbppkimpefilaa
