/- The statement CodeCut: plain facts and the walk. -/
import Derived.Test.YtekkdebcklinhaaLawC
namespace Go.Proofs.Ytekkdebcklinhaa
open Go.RowKit
set_option maxRecDepth 100000

theorem bool_eq {a c : Bool} (h : a = c) : Ending.returned (.bool a) = Ending.returned (.bool c) := by rw [h]
theorem tx_bd (s : ByteArray) : ∀ z ∈ tx s, 0 ≤ z ∧ z < 256 := by
  intro z hz; simp [tx] at hz; obtain ⟨u, _, rfl⟩ := hz; have := u.toNat_lt; omega
/-- The three readings, one behind the other, and the last error. -/
def cutEnd (l : List Int) (j m t : Nat) : Int :=
  let a := readS (0 : Int) 0 0 (numT (l.drop 0) j)
  let b := readS ([] : List Int) a.2.1 a.2.2 (bytesT (l.drop a.2.1) m)
  let c := readS ([] : List Int) b.2.1 b.2.2 (textT (l.drop b.2.1) t)
  doneS l.length c.2.1 c.2.2
theorem readS_err {α : Type} (z : α) (pos : Nat) (err : Int) (r : α × Nat × Int) (h : err ≠ 0) : readS z pos err r = (z, pos, err) := by
  unfold readS; rw [if_pos h]
theorem cut_pure (n : Int) (j t cut : Nat) (bs ts : List Int) (hj1 : 1 ≤ j) (hj8 : j ≤ 8) (ht : ts.length = t) (ht2 : t < 65536) (hc : cut < j + bs.length + 2 + t) :
    cutEnd ((le n j ++ bs ++ (le t 2 ++ ts)).take cut) j bs.length t = 10 := by
  obtain ⟨l, hl⟩ : ∃ l, (le n j ++ bs ++ (le t 2 ++ ts)).take cut = l := ⟨_, rfl⟩
  have hlen : l.length = cut := by rw [← hl]; simp [le_length]; omega
  have hk : ¬ ((j : Int) < 1 ∨ 8 < (j : Int)) := by omega
  have h10 : ((10 : Int) = 0) = False := by decide
  have h10' : (10 : Int) ≠ 0 := by decide
  rw [hl]
  unfold cutEnd
  simp only [List.drop_zero]
  by_cases h1 : cut < j
  · have e1 : numT l j = (0, 0, 10) := by unfold numT; rw [if_neg hk, if_pos (by omega)]
    rw [e1, readS_ok]
    simp only [h10, if_false]
    rw [readS_err [] _ 10 _ h10', readS_err [] _ 10 _ h10']
    simp [doneS]
  · have e1 : numT l j = (leV (l.take j), j, 0) := by unfold numT; rw [if_neg hk, if_neg (by omega)]; simp
    rw [e1, readS_ok]
    simp only [if_true, Nat.zero_add]
    by_cases h2 : cut < j + bs.length
    · have e2 : bytesT (l.drop j) bs.length = ([], 0, 10) := by unfold bytesT; rw [if_neg (by omega), if_pos (by simp; omega)]
      rw [e2, readS_ok]
      simp only [h10, if_false]
      rw [readS_err [] _ 10 _ h10']
      simp [doneS]
    · have e2 : bytesT (l.drop j) bs.length = ((l.drop j).take bs.length, bs.length, 0) := by unfold bytesT; rw [if_neg (by omega), if_neg (by simp; omega)]; simp
      rw [e2, readS_ok]
      simp only [if_true]
      have e3 : (textT (l.drop (j + bs.length)) t).2.2 = 10 := by
        unfold textT
        by_cases h3 : (l.drop (j + bs.length)).length < 2
        · rw [if_pos h3]
        · rw [if_neg h3]
          have hcut : j + bs.length + 2 ≤ cut := by simp at h3; omega
          have hp : (l.drop (j + bs.length)).take 2 = le t 2 := by
            rw [← hl]
            have hx : (le n j ++ bs).length = j + bs.length := by simp [le_length]
            rw [List.drop_take, List.take_take, ← hx, List.drop_left, Nat.min_eq_left (by omega), List.take_append_of_le_length (by simp [le_length]), List.take_of_length_le (by simp [le_length])]
          rw [hp, leV_fit t 2 (by omega) (by omega), if_neg (by omega), if_pos (by simp; omega)]
      rw [readS_ok]
      simp [doneS, e3]
set_option maxHeartbeats 1600000 in
theorem cut_long (n k cut : Int) (p : Option Addr) (c : Nat) (bs : List Int) (hbs : ∀ z ∈ bs, 0 ≤ z ∧ z < 256) (t : ByteArray) (hn : 0 ≤ n) (hn2 : n < 18446744073709551616) (hk : 1 ≤ k) (hk2 : k ≤ 8) (hl : bs.length ≤ 1000) (ht : t.size ≤ 1000)
    (hcut : -9223372036854775808 ≤ cut) (hcut2 : cut ≤ 9223372036854775807) (w : World) (hrd : Rd w p bs) (hpc : bs = [] → p = none → c = 0) :
    Calls Try.prog 7 #[.int .u64 n, .int .i64 k, .slice p bs.length c, .string t, .int .i64 cut] w fun e w' => e = .returned (.bool true) ∧ Frm [] w w' := by
  obtain ⟨j, rfl⟩ : ∃ j : Nat, k = (j : Int) := ⟨k.toNat, by omega⟩
  have HPC := hid hpc
  have HB := hid hbs
  have HRD := hid hrd
  clear hpc hbs hrd
  by_cases h2 : j < 8 ∧ n / 2 ^ (8 * j) ≠ 0
  · have e1 : stepW 4000 ([], 0) (numF n j) = ([], 11) := by
      have : numF n j = ([], 11) := by unfold numF; rw [if_neg (by omega), if_pos ⟨by omega, by simpa using h2.2⟩]
      rw [this]; decide
    have E1 := hid e1
    have hpos : 0 < n / 2 ^ (8 * j) := by
      have : 0 ≤ n / 2 ^ (8 * j) := Int.ediv_nonneg hn (Int.pow_nonneg (by decide))
      have := h2.2
      omega
    have hj7 := h2.1
    clear e1 h2
    go_enter Try.func7, Try.ntmps7
    go_wp2_with fail
    refine (awake_any _).mono ?_
    rintro e w0 ⟨rfl, hf0⟩
    have HRD0 := hid (HRD.out.kept hf0 (by simp))
    go_wp2_with fail
    refine (newWriter_any 4000 _).mono ?_
    rintro e w1 ⟨rfl, hw1, hf1, _⟩
    have HRD1 := hid (HRD0.out.kept hf1 (by simp))
    have f1 : FreshW w0 w1 w0.heap.size 4000 ([], 0) [] := FreshW.born hw1 hf1 (Nat.le_refl _)
    clear hw1 hf1
    go_wp2_with fail
    refine (numF_any _ _ _ _ _ _ f1 (by decide) (by decide) (by decide) n j hn hn2 (by omega) (by omega)).mono ?_
    rintro e w2 ⟨rfl, f2, _⟩
    rw [E1.out] at f2
    have HRD2 := hid (HRD0.out.kept f2.frm (by simp))
    clear f1
    go_wp2_with fail
    refine (bytesF_any _ _ _ _ _ _ f2 (by decide) (by decide) (by decide) p bs c (by omega) HPC.out HRD2.out).mono ?_
    rintro e w3 ⟨rfl, f3, _⟩
    rw [show stepW 4000 ([], 11) (bs, 0) = ([], 11) by simp [stepW]] at f3
    clear f2
    go_wp2_with fail
    refine (textF_any _ _ _ _ _ _ f3 (by decide) (by decide) (by decide) t (by unfold maxLen; omega)).mono ?_
    rintro e w4 ⟨rfl, f4, _⟩
    rw [show stepW 4000 ([], 11) (textF t) = ([], 11) by simp [stepW]] at f4
    clear f3
    go_wp2_with fail
    refine (doneWF_err _ _ _ _ _ _ _ f4 (by decide)).mono ?_
    rintro e w5 ⟨rfl, f5, _⟩
    have hF5 := f5.frm
    clear f4 f5
    go_wp2_with fail
    go_returns
    exact ⟨rfl, hf0.trans hF5 (by simp)⟩
  · obtain ⟨Z, hZ⟩ : ∃ Z, le n j ++ bs ++ (le t.size 2 ++ tx t) = Z := ⟨_, rfl⟩
    have e0 : numF n j = (le n j, 0) := by unfold numF; rw [if_neg (by omega), if_neg (by intro h; exact h2 ⟨by omega, by simpa using h.2⟩)]; simp
    have e1 : stepW 4000 ([], 0) (numF n j) = (le n j, 0) := by
      rw [e0]; unfold stepW; simp [le_length]; omega
    have e2 : stepW 4000 (le n j, 0) (bs, 0) = (le n j ++ bs, 0) := by
      unfold stepW; simp [le_length]; omega
    have e3 : stepW 4000 (le n j ++ bs, 0) (textF t) = (Z, 0) := by
      rw [← hZ, show textF t = (le t.size 2 ++ tx t, 0) by unfold textF; rw [if_neg (by omega)]]
      unfold stepW; simp [le_length, tx_length]; omega
    have hZl : Z.length = j + bs.length + 2 + t.size := by rw [← hZ]; simp [le_length, tx_length]; omega
    have hZb : ∀ z ∈ Z, 0 ≤ z ∧ z < 256 := by
      intro z hz
      rw [← hZ] at hz
      simp only [List.mem_append] at hz
      rcases hz with (hz | hz) | hz | hz
      · exact le_bd _ _ z hz
      · exact HB.out z hz
      · exact le_bd _ _ z hz
      · exact tx_bd _ z hz
    have E1 := hid e1
    have E2 := hid e2
    have E3 := hid e3
    have HZ := hid hZ
    have HZL := hid hZl
    have HZB := hid hZb
    have hl1 := le_length n j
    have HL1 := hid hl1
    clear e0 e1 e2 e3 hZ hZl hZb h2 hl1
    have hcases : (cut < 0 ∨ (j + bs.length + 2 + t.size : Nat) ≤ cut) ∨ ∃ q : Nat, cut = q ∧ q < j + bs.length + 2 + t.size := by
      by_cases h : cut < 0
      · exact Or.inl (Or.inl h)
      · by_cases h2 : ((j + bs.length + 2 + t.size : Nat) : Int) ≤ cut
        · exact Or.inl (Or.inr h2)
        · exact Or.inr ⟨cut.toNat, by omega, by omega⟩
    go_enter Try.func7, Try.ntmps7
    go_wp2_with fail
    refine (awake_any _).mono ?_
    rintro e w0 ⟨rfl, hf0⟩
    have HRD0 := hid (HRD.out.kept hf0 (by simp))
    go_wp2_with fail
    refine (newWriter_any 4000 _).mono ?_
    rintro e w1 ⟨rfl, hw1, hf1, _⟩
    have f1 : FreshW w0 w1 w0.heap.size 4000 ([], 0) [] := FreshW.born hw1 hf1 (Nat.le_refl _)
    clear hw1 hf1
    go_wp2_with fail
    refine (numF_any _ _ _ _ _ _ f1 (by decide) (by decide) (by decide) n j hn hn2 (by omega) (by omega)).mono ?_
    rintro e w2 ⟨rfl, f2, _⟩
    rw [E1.out] at f2
    have HRD2 := hid (HRD0.out.kept f2.frm (by simp))
    clear f1
    go_wp2_with fail
    refine (bytesF_any _ _ _ _ _ _ f2 (by decide) (by decide) (by simp only [HL1.out]; omega) p bs c (by omega) HPC.out HRD2.out).mono ?_
    rintro e w3 ⟨rfl, f3, _⟩
    rw [E2.out] at f3
    clear f2
    go_wp2_with fail
    refine (textF_any _ _ _ _ _ _ f3 (by decide) (by decide) (by simp only [List.length_append, HL1.out]; omega) t (by unfold maxLen; omega)).mono ?_
    rintro e w4 ⟨rfl, f4, _⟩
    rw [E3.out] at f4
    clear f3
    go_wp2_with fail
    refine (doneWF_ok _ _ _ _ _ _ f4 (by decide) (by rw [HZL.out]; omega)).mono ?_
    rintro e w5 ⟨g, rfl, hrd5, f5, _, _, _⟩
    have hF5 := f5.frm
    have HRD5 := hid hrd5
    clear f4 f5 hrd5
    rw [HZL.out]
    rcases hcases with h | ⟨q, rfl, hq⟩
    · rcases h with h | h
      all_goals
        go_wp2_with fail
        go_returns
        exact ⟨bool_eq (by simp), hf0.trans hF5 (by simp)⟩
    · have hlt : (Z.take q).length = q := by rw [List.length_take, HZL.out]; omega
      have HLT := hid hlt
      have HN := newReader_any (some ⟨g, 0, none⟩) (j + bs.length + 2 + t.size) (Z.take q) w5 (HRD5.out.take q) (by rw [HLT.out]; omega)
      rw [HLT.out] at HN
      have hcb : ∀ z ∈ Z.take q, 0 ≤ z ∧ z < 256 := fun z hz => HZB.out z (List.mem_of_mem_take hz)
      have HCB := hid hcb
      have hend : cutEnd (Z.take q) j bs.length t.size = 10 := by
        rw [← HZ.out]
        exact cut_pure n j t.size q bs (tx t) (by omega) (by omega) (tx_length t) (by omega) (by omega)
      obtain ⟨a, a2, a3, h1, h2, h3, h4⟩ : ∃ a a2 a3, readS (0 : Int) 0 0 (numT ((Z.take q).drop 0) j) = a ∧ readS ([] : List Int) a.2.1 a.2.2 (bytesT ((Z.take q).drop a.2.1) bs.length) = a2 ∧ readS ([] : List Int) a2.2.1 a2.2.2 (textT ((Z.take q).drop a2.2.1) t.size) = a3 ∧ doneS (Z.take q).length a3.2.1 a3.2.2 = 10 := ⟨_, _, _, rfl, rfl, rfl, hend⟩
      have H1 := hid h1
      have H2 := hid h2
      have H3 := hid h3
      have HEND := hid h4
      clear h1 h2 h3 h4
      have HH := hid HN
      generalize Z.take q = l at HEND HCB HH H1 H2 H3
      clear HN hcb hend hlt
      go_wp2_with fail
      refine HH.out.mono ?_
      rintro e w6 ⟨b, g2, rfl, hr, hf, hb, hg2⟩
      have R6 := hid (show FreshR w0 w6 b g2 l 0 0 from ⟨hr, hF5.trans hf (by simp), Nat.le_trans hF5.size hb, Nat.le_trans hF5.size hg2⟩)
      clear hr hf
      go_wp2_with fail
      refine (numR_any _ _ _ _ HCB.out _ j _ R6.out.1 (by omega) (by omega)).mono ?_
      rintro e w7 ⟨rfl, hr, hf⟩
      rw [H1.out] at hr ⊢
      have R7 := hid (R6.out.next hr hf)
      clear hr hf
      go_wp2_with fail
      refine (bytesR_any _ _ _ _ _ bs.length _ R7.out.1 (by omega) (by omega)).mono ?_
      rintro e w8 ⟨p8, n8, c8, rfl, hn8, _, _, hr, hf⟩
      rw [H2.out] at hr hn8
      have R8 := hid (R7.out.next hr hf)
      clear hr hf hn8
      go_wp2_with fail
      refine (textR_any _ _ _ _ HCB.out _ t.size _ R8.out.1 (by omega) (by omega)).mono ?_
      rintro e w9 ⟨rfl, hr, hf⟩
      rw [H3.out] at hr ⊢
      have R9 := hid (R8.out.next hr hf)
      clear hr hf
      go_wp2_with fail
      refine (doneR_any _ _ _ _ _ _ R9.out.1).mono ?_
      rintro e w10 ⟨rfl, m, rfl⟩
      rw [HEND.out]
      go_wp2_with fail
      go_returns
      exact ⟨rfl, hf0.trans (R9.out.2.1.drewN m) (by simp)⟩
end Go.Proofs.Ytekkdebcklinhaa
