/- What Since tells: pure. TreeGrows, for any arguments. Opening the arguments of the statements: numbers, bytes. A slice that came in is no longer than what a row may hold. -/
import Derived.Test.YtkolbijhekbelaaQar
import Derived.Test.YtkolbijhekbelaaRows
import Derived.Test.YtkolbijhekbelaaQaa
import Derived.ProofKit
import Derived.OpenShut
import Derived.ChangeOld
import Derived.Deep.Slices
import Derived.SizedLaws
namespace Go.Proofs.Ytkolbijhekbelaa
section
open Go.RowKit Go.Lib
set_option maxRecDepth 100000

theorem covL_iff (l : List Sp) (x : Int) : covL l x = true ↔ ∃ y ∈ l, y.a ≤ x ∧ x < y.a + y.m := by
  unfold covL
  simp
theorem covL_add {acc : List Sp} (h : ∀ y ∈ acc, 1 ≤ y.m) {at_ m : Int} (hm : 0 ≤ m) (x : Int) : covL (addS acc at_ m) x = true ↔ covL acc x = true ∨ (at_ ≤ x ∧ x < at_ + m) := by
  rcases List.eq_nil_or_concat acc with rfl | ⟨acc', y, rfl⟩
  · unfold addS covL; simp
  · rw [List.concat_eq_append] at h ⊢
    have hy := h y (by simp)
    rw [addS_last, covL_iff, covL_iff]
    split
    · rename_i he
      constructor
      · rintro ⟨z, hz, h1, h2⟩
        rcases List.mem_append.1 hz with hz | hz
        · exact Or.inl ⟨z, by simp [hz], h1, h2⟩
        · rw [List.mem_singleton] at hz; subst hz
          simp only at h1 h2
          rcases Int.lt_or_le x (y.a + y.m) with h3 | h3
          · exact Or.inl ⟨y, by simp, h1, h3⟩
          · exact Or.inr ⟨by omega, by omega⟩
      · rintro (⟨z, hz, h1, h2⟩ | ⟨h1, h2⟩)
        · rcases List.mem_append.1 hz with hz | hz
          · exact ⟨z, by simp [hz], h1, h2⟩
          · rw [List.mem_singleton] at hz; subst hz
            exact ⟨⟨z.a, z.m + m⟩, by simp, h1, by simp only; omega⟩
        · exact ⟨⟨y.a, y.m + m⟩, by simp, by simp only; omega, by simp only; omega⟩
    · constructor
      · rintro ⟨z, hz, h1, h2⟩
        rcases List.mem_append.1 hz with hz | hz
        · exact Or.inl ⟨z, hz, h1, h2⟩
        · rw [List.mem_singleton] at hz; subst hz
          exact Or.inr ⟨h1, h2⟩
      · rintro (⟨z, hz, h1, h2⟩ | ⟨h1, h2⟩)
        · exact ⟨z, List.mem_append_left _ hz, h1, h2⟩
        · exact ⟨⟨at_, m⟩, by simp, h1, h2⟩
theorem addS_pos {acc : List Sp} (h : ∀ y ∈ acc, 1 ≤ y.m) {at_ m : Int} (hm : 1 ≤ m) : ∀ y ∈ addS acc at_ m, 1 ≤ y.m := by
  rcases List.eq_nil_or_concat acc with rfl | ⟨acc', y, rfl⟩
  · intro z hz; unfold addS at hz; simp at hz; subst hz; exact hm
  · rw [List.concat_eq_append] at h ⊢
    have hy := h y (by simp)
    rw [addS_last]
    intro z hz
    split at hz
    · rcases List.mem_append.1 hz with hz | hz
      · exact h z (by simp [hz])
      · rw [List.mem_singleton] at hz; subst hz; simp only; omega
    · rcases List.mem_append.1 hz with hz | hz
      · exact h z hz
      · rw [List.mem_singleton] at hz; subst hz; exact hm
theorem manyI_pos {size : Int} {i : Nat} (h : ¬ size ≤ 1024 * (i : Int)) : 1 ≤ manyI size i ∧ manyI size i ≤ 1024 ∧ 1024 * (i : Int) + manyI size i ≤ size := by
  unfold manyI; split <;> omega
/-- What bytes Since tells. -/
def bornAt (size txg : Int) (i : Nat) (l : List P9) (x : Int) : Prop := ∃ (j : Nat) (p : P9), l[j]? = some p ∧ ¬ (p.zero ∨ p.birth ≤ txg) ∧ 1024 * ((i : Int) + (j : Int)) ≤ x ∧ x < 1024 * ((i : Int) + (j : Int)) + 1024 ∧ x < size
theorem sinceR_cov (size txg x : Int) : ∀ (l : List P9) (i : Nat) (acc : List Sp), (∀ y ∈ acc, 1 ≤ y.m) → (covL (sinceR size txg i l acc) x = true ↔ covL acc x = true ∨ bornAt size txg i l x)
  | [], i, acc, _ => by
    unfold sinceR bornAt
    simp
  | p :: l, i, acc, h => by
    have hc : bornAt size txg i (p :: l) x ↔ (¬ (p.zero ∨ p.birth ≤ txg) ∧ 1024 * (i : Int) ≤ x ∧ x < 1024 * (i : Int) + 1024 ∧ x < size) ∨ bornAt size txg (i + 1) l x := by
      unfold bornAt
      constructor
      · rintro ⟨j, q, hq, h1, h2, h3, h4⟩
        cases j with
        | zero => simp at hq; subst hq; exact Or.inl ⟨h1, by omega, by omega, h4⟩
        | succ j => simp at hq; exact Or.inr ⟨j, q, hq, h1, by omega, by omega, h4⟩
      · rintro (⟨h1, h2, h3, h4⟩ | ⟨j, q, hq, h1, h2, h3, h4⟩)
        · exact ⟨0, p, rfl, h1, by omega, by omega, h4⟩
        · exact ⟨j + 1, q, by simpa using hq, h1, by omega, by omega, h4⟩
    rw [hc]
    unfold sinceR
    split
    · rename_i he
      refine ⟨Or.inl, ?_⟩
      rintro (h1 | ⟨_, h2, _, h4⟩ | ⟨j, q, _, _, h2, _, h4⟩)
      · exact h1
      · omega
      · omega
    · rename_i hne
      split
      · rename_i hs
        rw [sinceR_cov size txg x l (i + 1) acc h]
        constructor
        · rintro (h1 | h1)
          · exact Or.inl h1
          · exact Or.inr (Or.inr h1)
        · rintro (h1 | ⟨h1, _⟩ | h1)
          · exact Or.inl h1
          · exact absurd hs h1
          · exact Or.inr h1
      · rename_i hs
        obtain ⟨m1, m2, m3⟩ := manyI_pos hne
        rw [sinceR_cov size txg x l (i + 1) _ (addS_pos h m1), covL_add h (by omega)]
        have hm : (1024 * (i : Int) ≤ x ∧ x < 1024 * (i : Int) + manyI size i) ↔ (¬ (p.zero ∨ p.birth ≤ txg) ∧ 1024 * (i : Int) ≤ x ∧ x < 1024 * (i : Int) + 1024 ∧ x < size) := by
          constructor
          · rintro ⟨h1, h2⟩; exact ⟨hs, h1, by omega, by omega⟩
          · rintro ⟨_, h1, h2, h3⟩
            refine ⟨h1, ?_⟩
            unfold manyI; split <;> omega
        rw [hm, or_assoc]
theorem since_cov (size txg x : Int) (l : List P9) : covL (sinceL size txg l) x = true ↔ bornAt size txg 0 l x := by
  unfold sinceL
  rw [sinceR_cov size txg x l 0 [] (by simp)]
  simp [covL]
theorem since_mono {size t1 t2 x : Int} {l : List P9} (ht : t1 ≤ t2) (h : covL (sinceL size t2 l) x = true) : covL (sinceL size t1 l) x = true := by
  rw [since_cov] at h ⊢
  obtain ⟨j, p, h1, h2, h3, h4, h5⟩ := h
  exact ⟨j, p, h1, fun hz => h2 (hz.imp (fun h => h) (fun h => by omega)), h3, h4, h5⟩
/-- Spans rise, are apart, and lie within the size. -/
def SpsOk (size : Int) (i : Nat) (l : List Sp) : Prop := (∀ y ∈ l, 0 ≤ y.a ∧ y.a % 1024 = 0 ∧ 1 ≤ y.m ∧ y.a + y.m ≤ size ∧ y.a + y.m ≤ 1024 * (i : Int)) ∧ l.Pairwise (fun x y => x.a + x.m < y.a)
theorem SpsOk.up {size : Int} {i : Nat} {l : List Sp} (h : SpsOk size i l) : SpsOk size (i + 1) l := ⟨fun y hy => by have := h.1 y hy; refine ⟨this.1, this.2.1, this.2.2.1, this.2.2.2.1, ?_⟩; omega, h.2⟩
theorem SpsOk.add {size : Int} {i : Nat} {acc : List Sp} (h : SpsOk size i acc) {m : Int} (h1 : 1 ≤ m) (h2 : m ≤ 1024) (h3 : 1024 * (i : Int) + m ≤ size) : SpsOk size (i + 1) (addS acc (1024 * (i : Int)) m) := by
  rcases List.eq_nil_or_concat acc with rfl | ⟨acc', y, rfl⟩
  · refine ⟨fun z hz => ?_, by unfold addS; simp⟩
    unfold addS at hz
    simp at hz
    subst hz
    exact ⟨by simp only; omega, by simp only; omega, h1, h3, by simp only; omega⟩
  · rw [List.concat_eq_append] at h ⊢
    obtain ⟨ha, hp⟩ := h
    have hy := ha y (by simp)
    rw [List.pairwise_append] at hp
    obtain ⟨hp1, _, hp3⟩ := hp
    have hy3 := fun x hx => hp3 x hx y (by simp)
    rw [addS_last]
    split
    · rename_i he
      refine ⟨fun z hz => ?_, ?_⟩
      · rcases List.mem_append.1 hz with hz | hz
        · have := ha z (by simp [hz]); omega
        · rw [List.mem_singleton] at hz; subst hz
          simp only
          omega
      · rw [List.pairwise_append]
        exact ⟨hp1, List.pairwise_singleton _ _, fun x hx z hz => by rw [List.mem_singleton] at hz; subst hz; exact hy3 x hx⟩
    · rename_i hne
      refine ⟨fun z hz => ?_, ?_⟩
      · rcases List.mem_append.1 hz with hz | hz
        · have := ha z hz; omega
        · rw [List.mem_singleton] at hz; subst hz
          simp only
          omega
      · rw [List.pairwise_append]
        refine ⟨by rw [List.pairwise_append]; exact ⟨hp1, List.pairwise_singleton _ _, hp3⟩, List.pairwise_singleton _ _, fun x hx z hz => ?_⟩
        rw [List.mem_singleton] at hz; subst hz
        simp only
        rcases List.mem_append.1 hx with hx | hx
        · have := hy3 x hx; omega
        · rw [List.mem_singleton] at hx; subst hx; omega
theorem sinceR_ok (size txg : Int) : ∀ (l : List P9) (i : Nat) (acc : List Sp), SpsOk size i acc → ∃ k, SpsOk size k (sinceR size txg i l acc)
  | [], i, acc, h => ⟨i, by unfold sinceR; exact h⟩
  | p :: l, i, acc, h => by
    unfold sinceR
    split
    · exact ⟨i, h⟩
    · rename_i hne
      split
      · exact sinceR_ok size txg l (i + 1) acc h.up
      · obtain ⟨m1, m2, m3⟩ := manyI_pos hne
        exact sinceR_ok size txg l (i + 1) _ (h.add m1 m2 m3)
theorem since_ok (size txg : Int) (l : List P9) : ∃ k, SpsOk size k (sinceL size txg l) := sinceR_ok size txg l 0 [] ⟨by simp, List.Pairwise.nil⟩
/-- What the law asks of two answers, the first byte and the last one of each span. -/
theorem since_ends {size t1 t2 : Int} {l : List P9} (ht : t1 ≤ t2) {y : Sp} (hy : y ∈ sinceL size t2 l) : covL (sinceL size t1 l) y.a = true ∧ covL (sinceL size t1 l) (y.a + y.m - 1) = true := by
  obtain ⟨k, hk, _⟩ := since_ok size t2 l
  have h := hk y hy
  exact ⟨since_mono ht ((covL_iff _ _).2 ⟨y, hy, by omega, by omega⟩), since_mono ht ((covL_iff _ _).2 ⟨y, hy, by omega, by omega⟩)⟩
end
section
open Go.RowKit Go.Lib
set_option maxRecDepth 100000

theorem addS_len (acc : List Sp) (a m : Int) : (addS acc a m).length ≤ acc.length + 1 := by
  rcases List.eq_nil_or_concat acc with rfl | ⟨acc', y, rfl⟩
  · unfold addS; simp
  · rw [List.concat_eq_append, addS_last]; split <;> simp
theorem sinceR_len (size txg : Int) : ∀ (l : List P9) (i : Nat) (acc : List Sp), (sinceR size txg i l acc).length ≤ acc.length + l.length
  | [], i, acc => by unfold sinceR; simp
  | p :: l, i, acc => by
    unfold sinceR
    split
    · simp
    · split
      · have := sinceR_len size txg l (i + 1) acc; simp only [List.length_cons]; omega
      · have := sinceR_len size txg l (i + 1) (addS acc (1024 * (i : Int)) (manyI size i)); have := addS_len acc (1024 * (i : Int)) (manyI size i); simp only [List.length_cons]; omega
set_option maxHeartbeats 12800000 in
theorem grows_any (size txg more : Int) (p : Option Addr) (L c : Nat) (l : List P9) (w : World) (hr : Rv w p (rowsP l)) (hL : l.length = L) (hb : L ≤ 1954687338212) (hsz : -9223372036854775808 ≤ size ∧ size ≤ 9223372036854775807) (ht : 0 ≤ txg) (hm : 0 ≤ more) :
    Calls Try.prog 8 #[.int .i64 size, .slice p L c, .int .u64 txg, .int .u64 more] w fun e w' => e = .returned (.bool true) ∧ Frm [] w w' := by
  obtain ⟨PO, hPO⟩ : ∃ PO : Ending → World → Prop, (fun e w' => e = .returned (.bool true) ∧ Frm [] w w') = PO := ⟨_, rfl⟩
  rw [hPO]
  have HP : Hid (∀ w', Frm [] w w' → PO (.returned (.bool true)) w') := hid (fun w' h => by rw [← hPO]; exact ⟨rfl, h⟩)
  have HR := hid hr
  have HL := hid hL
  have HAW := hid (awakeT_any w)
  obtain ⟨hs0, hs1⟩ := hsz
  clear hr hL hPO
  by_cases c1 : size < 0
  · go_enter Try.func8, Try.ntmps8
    go_wp2_with fail
    refine HAW.out.mono ?_
    rintro e w1 ⟨rfl, hf1⟩
    have HF1 := hid hf1
    clear hf1 HAW
    go_wp2_with fail
    first | go_returns | skip
    exact HP.out _ HF1.out
  by_cases c2 : 1048576 < size
  · go_enter Try.func8, Try.ntmps8
    go_wp2_with fail
    refine HAW.out.mono ?_
    rintro e w1 ⟨rfl, hf1⟩
    have HF1 := hid hf1
    clear hf1 HAW
    go_wp2_with fail
    first | go_returns | skip
    exact HP.out _ HF1.out
  by_cases c3 : 281474976710656 < more
  · go_enter Try.func8, Try.ntmps8
    go_wp2_with fail
    refine HAW.out.mono ?_
    rintro e w1 ⟨rfl, hf1⟩
    have HF1 := hid hf1
    clear hf1 HAW
    go_wp2_with fail
    first | go_returns | skip
    exact HP.out _ HF1.out
  by_cases c4 : 281474976710656 < txg
  · go_enter Try.func8, Try.ntmps8
    go_wp2_with fail
    refine HAW.out.mono ?_
    rintro e w1 ⟨rfl, hf1⟩
    have HF1 := hid hf1
    clear hf1 HAW
    go_wp2_with fail
    first | go_returns | skip
    exact HP.out _ HF1.out
  have hadd : IntKind.u64.wrap (txg + more) = txg + more := by rw [IntKind.wrap_u64]; omega
  go_enter Try.func8, Try.ntmps8
  go_wp2_with fail
  refine HAW.out.mono ?_
  rintro e w1 ⟨rfl, hf1⟩
  have HF1 := hid hf1
  have HSA := hid (since_any size txg p L c l w1 (HR.out.kept hf1 (by simp)) HL.out hb ⟨hs0, hs1⟩)
  clear hf1 HAW
  go_wp2_with fail
  refine HSA.out.mono ?_
  rintro e w2 ⟨qa, na, ca, rfl, hoa, hfa, hna⟩
  have HOA := hid hoa
  have HF2 := hid (HF1.out.trans hfa (by simp))
  have HSB := hid (since_any size (txg + more) p L c l w2 (HR.out.kept HF2.out (by simp)) HL.out hb ⟨hs0, hs1⟩)
  clear hoa hfa hna HSA
  go_wp2_with fail
  refine HSB.out.mono ?_
  rintro e w3 ⟨qb, nb, cb, rfl, hob, hfb, hnb⟩
  have HOB := hid hob
  have HF3 := hid (HF2.out.trans hfb (by simp))
  have HOA3 := hid (HOA.out.kept hfb (by simp))
  clear hob hfb hnb HSB
  go_wp2_with fail
  obtain ⟨ka, hka, hpa⟩ := since_ok size txg l
  obtain ⟨kb, hkb, _⟩ := since_ok size (txg + more) l
  have HKA := hid hka
  have HPA := hid hpa
  have HKB := hid hkb
  have hnb : nb ≤ L := by have h1 := HOB.out.2; have h2 := sinceR_len size (txg + more) l 0 []; have h3 := HL.out; unfold sinceL at h1; simp only [List.length_nil] at h2; omega
  have hna : na ≤ L := by have h1 := HOA.out.2; have h2 := sinceR_len size txg l 0 []; have h3 := HL.out; unfold sinceL at h1; simp only [List.length_nil] at h2; omega
  have HCV : Hid (∀ x W, Frm [] w3 W → Calls Try.prog 28 #[.slice qa na ca, .int .i64 x] W fun e w' => e = .returned (.bool (covL (sinceL size txg l) x)) ∧ Frm [] W w') := hid (fun x W hW => covers_any qa na ca (sinceL size txg l) x W (HOA3.out.rv.kept hW (by simp)) HOA.out.2 (by omega) (fun y hy => by have := HKA.out y hy; omega))
  clear hka hpa hkb
  go_loopw [12] (fun i wr => ∃ (t : Nat), t ≤ nb ∧ i = .int .i64 (t : Int) ∧ Hid (Frm [] w3 wr)) (fun i _ => nb - (intOf i).toNat)
  case atStart => exact ⟨0, Nat.zero_le _, rfl, hid (Frm.refl _ _)⟩
  case round =>
    obtain ⟨t, ht, rfl, hin⟩ := hrel
    have HIN := hid hin.out
    clear hin
    by_cases hlt : t < nb
    · have t1 : (t : Int) < (nb : Int) := by omega
      obtain ⟨y, hv⟩ : ∃ v, (sinceL size (txg + more) l)[t]? = some v := ⟨_, List.getElem?_eq_getElem (by rw [HOB.out.2]; exact hlt)⟩
      have hym := List.mem_of_getElem? hv
      obtain ⟨he1, he2⟩ := since_ends (t1 := txg) (t2 := txg + more) (by omega) hym
      have hyb := HKB.out y hym
      have hrv := HOB.out.rv
      rcases hrv with h0 | ⟨gb, ob, rfl, hcs⟩
      · exact absurd (rowS_get _ t y hv).1 (by rw [h0]; simp)
      have v0 := (HIN.out.cell (World.block_lt_of_cell? w3 _ (hcs (t * 2) _ (rowS_get _ t y hv).1)) (by simp)).trans (hcs (t * 2) _ (rowS_get _ t y hv).1)
      have v1 : wr.cell? ⟨gb, ob + t * 2 + 1, none⟩ = some (.int .i64 y.m) := by
        have h := hcs (t * 2 + 1) _ (rowS_get _ t y hv).2
        rw [← Nat.add_assoc] at h
        exact (HIN.out.cell (World.block_lt_of_cell? w3 _ h) (by simp)).trans h
      obtain ⟨ya, ym⟩ := y
      simp only at v0 v1 he1 he2 hyb
      obtain ⟨hb0, hb1, hb2, hb3, hb4⟩ := hyb
      have hC1 := HCV.out ya wr HIN.out
      rw [he1] at hC1
      have HC1 := hid hC1
      have HC2 : Hid (∀ W, Frm [] w3 W → Calls Try.prog 28 #[.slice qa na ca, .int .i64 (ya + ym - 1)] W fun e w' => e = .returned (.bool true) ∧ Frm [] W w') := hid (fun W hW => by rw [← he2]; exact HCV.out (ya + ym - 1) W hW)
      have hws : wrap64 (ya + ym) = ya + ym := by unfold wrap64; omega
      have hws2 : IntKind.i64.wrap (ya + ym) = ya + ym := by rw [IntKind.wrap_i64]; omega
      have hws3 : wrap64 (ya + ym - 1) = ya + ym - 1 := by unfold wrap64; omega
      have hws4 : IntKind.i64.wrap (ya + ym - 1) = ya + ym - 1 := by rw [IntKind.wrap_i64]; omega
      clear hv hym he1 he2 hcs hC1 hb1 hb4
      go_wp2_with fail
      refine HC1.out.mono ?_
      rintro e w5 ⟨rfl, hf5⟩
      have u0 := (hf5.cell (World.block_lt_of_cell? _ _ v0) (by simp)).trans v0
      have u1 := (hf5.cell (World.block_lt_of_cell? _ _ v1) (by simp)).trans v1
      have HF5 := hid (HIN.out.trans hf5 (by simp))
      clear v0 v1 hf5 HC1
      go_upto_region 10 with fail
      refine wp_region_tail (S := fun W => (W.cell? ⟨gb, ob + t * 2, none⟩ = some (.int .i64 ya) ∧ W.cell? ⟨gb, ob + t * 2 + 1, none⟩ = some (.int .i64 ym))) 14 15 rfl (by kernel_rfl) (by kernel_rfl) ?_
      refine wpAnyHT_take (i := 0) (oi := _) (v := ?_) (by kernel_rfl) rfl (by kernel_rfl) (by kernel_rfl) (by kernel_rfl) (by kernel_rfl) (fun _ _ _ h => h) (Or.inl ⟨by rfl, ?_⟩) ⟨u0, u1⟩ ?_
      rotate_left 1
      · (intro W hSw; obtain ⟨h0, h1⟩ := hSw; (try simp only [List.getElem_toArray, List.getElem_cons_zero]); go_simp; try with_reducible rfl)
      try simp only [List.getElem_toArray, List.getElem_cons_zero, Act.put, List.setIfInBounds_toArray, List.set_cons_zero, List.set_cons_succ]
      refine wpAnyHT_take (i := 1) (oi := _) (v := ?_) (by kernel_rfl) rfl (by kernel_rfl) (by kernel_rfl) (by kernel_rfl) (by kernel_rfl) (fun _ _ _ h => h) (Or.inl ⟨by rfl, ?_⟩) ⟨u0, u1⟩ ?_
      rotate_left 1
      · (intro W hSw; obtain ⟨h0, h1⟩ := hSw; (try simp only [List.getElem_toArray, List.getElem_cons_succ, List.getElem_cons_zero]); go_simp; try with_reducible rfl)
      try simp only [List.getElem_toArray, List.getElem_cons_succ, List.getElem_cons_zero, Act.put, List.setIfInBounds_toArray, List.set_cons_zero, List.set_cons_succ]
      refine wpAnyHT_take (i := 2) (oi := _) (v := ?_) (by kernel_rfl) rfl (by kernel_rfl) (by kernel_rfl) (by kernel_rfl) (by kernel_rfl) (fun _ _ _ h => h) (Or.inl ⟨by rfl, ?_⟩) ⟨u0, u1⟩ ?_
      rotate_left 1
      · (intro W hSw; obtain ⟨h0, h1⟩ := hSw; (try simp only [List.getElem_toArray, List.getElem_cons_succ, List.getElem_cons_zero]); go_simp; try with_reducible rfl)
      try simp only [List.getElem_toArray, List.getElem_cons_succ, List.getElem_cons_zero, Act.put, List.setIfInBounds_toArray, List.set_cons_zero, List.set_cons_succ]
      refine wpAnyHT_take (i := 3) (oi := _) (v := ?_) (by kernel_rfl) rfl (by kernel_rfl) (by kernel_rfl) (by kernel_rfl) (by kernel_rfl) (fun _ _ _ h => h) (Or.inl ⟨by rfl, ?_⟩) ⟨u0, u1⟩ ?_
      rotate_left 1
      · (intro W hSw; obtain ⟨h0, h1⟩ := hSw; (try simp only [List.getElem_toArray, List.getElem_cons_succ, List.getElem_cons_zero]); go_simp; try with_reducible rfl)
      try simp only [List.getElem_toArray, List.getElem_cons_succ, List.getElem_cons_zero, Act.put, List.setIfInBounds_toArray, List.set_cons_zero, List.set_cons_succ]
      refine wpAnyHT_take (i := 4) (oi := _) (v := ?_) (by kernel_rfl) rfl (by kernel_rfl) (by kernel_rfl) (by kernel_rfl) (by kernel_rfl) (fun _ _ _ h => h) (Or.inl ⟨by rfl, ?_⟩) ⟨u0, u1⟩ ?_
      rotate_left 1
      · (intro W hSw; obtain ⟨h0, h1⟩ := hSw; (try simp only [List.getElem_toArray, List.getElem_cons_succ, List.getElem_cons_zero]); go_simp; try with_reducible rfl)
      try simp only [List.getElem_toArray, List.getElem_cons_succ, List.getElem_cons_zero, Act.put, List.setIfInBounds_toArray, List.set_cons_zero, List.set_cons_succ]
      refine wpAnyHT_take (i := 5) (oi := _) (v := ?_) (by kernel_rfl) rfl (by kernel_rfl) (by kernel_rfl) (by kernel_rfl) (by kernel_rfl) (fun _ _ _ h => h) (Or.inl ⟨by rfl, ?_⟩) ⟨u0, u1⟩ ?_
      rotate_left 1
      · (intro W hSw; obtain ⟨h0, h1⟩ := hSw; (try simp only [List.getElem_toArray, List.getElem_cons_succ, List.getElem_cons_zero]); go_simp; try with_reducible rfl)
      try simp only [List.getElem_toArray, List.getElem_cons_succ, List.getElem_cons_zero, Act.put, List.setIfInBounds_toArray, List.set_cons_zero, List.set_cons_succ]
      refine wpAnyHT_take (i := 6) (oi := _) (v := ?_) (by kernel_rfl) rfl (by kernel_rfl) (by kernel_rfl) (by kernel_rfl) (by kernel_rfl) (fun _ _ _ h => h) (Or.inl ⟨by rfl, ?_⟩) ⟨u0, u1⟩ ?_
      rotate_left 1
      · (intro W hSw; obtain ⟨h0, h1⟩ := hSw; (try simp only [List.getElem_toArray, List.getElem_cons_succ, List.getElem_cons_zero]); go_simp; try with_reducible rfl)
      try simp only [List.getElem_toArray, List.getElem_cons_succ, List.getElem_cons_zero, Act.put, List.setIfInBounds_toArray, List.set_cons_zero, List.set_cons_succ]
      refine wpAnyHT_take (i := 7) (oi := _) (v := ?_) (by kernel_rfl) rfl (by kernel_rfl) (by kernel_rfl) (by kernel_rfl) (by kernel_rfl) (fun _ _ _ h => h) (Or.inl ⟨by rfl, ?_⟩) ⟨u0, u1⟩ ?_
      rotate_left 1
      · (intro W hSw; obtain ⟨h0, h1⟩ := hSw; (try simp only [List.getElem_toArray, List.getElem_cons_succ, List.getElem_cons_zero]); go_simp; try with_reducible rfl)
      try simp only [List.getElem_toArray, List.getElem_cons_succ, List.getElem_cons_zero, Act.put, List.setIfInBounds_toArray, List.set_cons_zero, List.set_cons_succ]
      refine wpAnyHT_take (i := 8) (oi := _) (v := ?_) (by kernel_rfl) rfl (by kernel_rfl) (by kernel_rfl) (by kernel_rfl) (by kernel_rfl) (fun _ _ _ h => h) (Or.inl ⟨by rfl, ?_⟩) ⟨u0, u1⟩ ?_
      rotate_left 1
      · (intro W hSw; obtain ⟨h0, h1⟩ := hSw; (try simp only [List.getElem_toArray, List.getElem_cons_succ, List.getElem_cons_zero]); go_simp; try with_reducible rfl)
      try simp only [List.getElem_toArray, List.getElem_cons_succ, List.getElem_cons_zero, Act.put, List.setIfInBounds_toArray, List.set_cons_zero, List.set_cons_succ]
      refine wpAnyHT_take (i := 9) (oi := _) (v := ?_) (by kernel_rfl) rfl (by kernel_rfl) (by kernel_rfl) (by kernel_rfl) (by kernel_rfl) (fun _ _ _ h => h) (Or.inl ⟨by rfl, ?_⟩) ⟨u0, u1⟩ ?_
      rotate_left 1
      · (intro W hSw; obtain ⟨h0, h1⟩ := hSw; (try simp only [List.getElem_toArray, List.getElem_cons_succ, List.getElem_cons_zero]); go_simp; try with_reducible rfl)
      try simp only [List.getElem_toArray, List.getElem_cons_succ, List.getElem_cons_zero, Act.put, List.setIfInBounds_toArray, List.set_cons_zero, List.set_cons_succ]
      refine wpAnyHT_take (i := 10) (oi := _) (v := ?_) (by kernel_rfl) rfl (by kernel_rfl) (by kernel_rfl) (by kernel_rfl) (by kernel_rfl) (fun _ _ _ h => h) (Or.inl ⟨by rfl, ?_⟩) ⟨u0, u1⟩ ?_
      rotate_left 1
      · (intro W hSw; obtain ⟨h0, h1⟩ := hSw; (try simp only [List.getElem_toArray, List.getElem_cons_succ, List.getElem_cons_zero]); go_simp; try with_reducible rfl)
      try simp only [List.getElem_toArray, List.getElem_cons_succ, List.getElem_cons_zero, Act.put, List.setIfInBounds_toArray, List.set_cons_zero, List.set_cons_succ]
      refine wpAnyHT_take (i := 11) (oi := _) (v := ?_) (by kernel_rfl) rfl (by kernel_rfl) (by kernel_rfl) (by kernel_rfl) (by kernel_rfl) (fun _ _ _ h => h) (Or.inl ⟨by rfl, ?_⟩) ⟨u0, u1⟩ ?_
      rotate_left 1
      · (intro W hSw; obtain ⟨h0, h1⟩ := hSw; (try simp only [List.getElem_toArray, List.getElem_cons_succ, List.getElem_cons_zero]); go_simp; try with_reducible rfl)
      try simp only [List.getElem_toArray, List.getElem_cons_succ, List.getElem_cons_zero, Act.put, List.setIfInBounds_toArray, List.set_cons_zero, List.set_cons_succ]
      refine wpAnyHT_take (i := 12) (oi := _) (v := ?_) (by kernel_rfl) rfl (by kernel_rfl) (by kernel_rfl) (by kernel_rfl) (by kernel_rfl) (fun _ _ _ h => h) (Or.inl ⟨by rfl, ?_⟩) ⟨u0, u1⟩ ?_
      rotate_left 1
      · (intro W hSw; obtain ⟨h0, h1⟩ := hSw; (try simp only [List.getElem_toArray, List.getElem_cons_succ, List.getElem_cons_zero]); go_simp; try with_reducible rfl)
      try simp only [List.getElem_toArray, List.getElem_cons_succ, List.getElem_cons_zero, Act.put, List.setIfInBounds_toArray, List.set_cons_zero, List.set_cons_succ]
      refine wpAnyHT_one (i := 13) rfl (by kernel_rfl) (by kernel_rfl) (fun K hK => ?_)
      try simp only [List.getElem_toArray, List.getElem_cons_succ, List.getElem_cons_zero]
      go_simp
      refine (HC2.out _ HF5.out.drew).mono ?_
      rintro e w6 ⟨rfl, hf6⟩
      have HF6 := hid hf6
      refine hK _ _ ⟨(hf6.cell (World.block_lt_of_cell? _ _ u0) (by simp)).trans u0, (hf6.cell (World.block_lt_of_cell? _ _ u1) (by simp)).trans u1⟩ ?_
      clear hK K
      refine wpAnyHT_end (by kernel_rfl) ?_
      simp only [List.drop_succ_cons, List.drop_zero]
      go_wp2_with fail
      go_roundw
      case rel => exact ⟨t + 1, by omega, by go_num, hid (HF5.out.drew.trans HF6.out (by simp))⟩
      case measure => first | (simp [intOf]; done) | (simp [intOf]; omega)
    · obtain rfl : t = nb := by omega
      go_wp2_with fail
      go_loopw [15] (fun i wr => ∃ (t : Nat), t ≤ na ∧ i = .int .i64 (t : Int) ∧ Hid (Frm [] w3 wr)) (fun i _ => na - (intOf i).toNat)
      case atStart => exact ⟨0, Nat.zero_le _, rfl, HIN⟩
      case round =>
        clear HIN
        obtain ⟨t, ht, rfl, hin⟩ := hrel
        have HIN := hid hin.out
        clear hin
        by_cases hlt : t < na
        · have t1 : (t : Int) < (na : Int) := by omega
          obtain ⟨y, hv⟩ : ∃ v, (sinceL size txg l)[t]? = some v := ⟨_, List.getElem?_eq_getElem (by rw [HOA.out.2]; exact hlt)⟩
          have hyb := HKA.out y (List.mem_of_getElem? hv)
          have hrv := HOA3.out.rv
          rcases hrv with h0 | ⟨ga, oa, rfl, hcs⟩
          · exact absurd (rowS_get _ t y hv).1 (by rw [h0]; simp)
          have HCS := hid hcs
          have v0 := (HIN.out.cell (World.block_lt_of_cell? w3 _ (hcs (t * 2) _ (rowS_get _ t y hv).1)) (by simp)).trans (hcs (t * 2) _ (rowS_get _ t y hv).1)
          have v1 : wr.cell? ⟨ga, oa + t * 2 + 1, none⟩ = some (.int .i64 y.m) := by
            have h := hcs (t * 2 + 1) _ (rowS_get _ t y hv).2
            rw [← Nat.add_assoc] at h
            exact (HIN.out.cell (World.block_lt_of_cell? w3 _ h) (by simp)).trans h
          have HV := hid hv
          obtain ⟨ya, ym⟩ := y
          simp only at v0 v1 hyb
          obtain ⟨hb0, hb1, hb2, hb3, hb4⟩ := hyb
          have hws : wrap64 (ya + ym) = ya + ym := by unfold wrap64; omega
          have hws2 : IntKind.i64.wrap (ya + ym) = ya + ym := by rw [IntKind.wrap_i64]; omega
          have htm : ya.tmod 1024 = 0 := by rw [Int.tmod_eq_emod_of_nonneg hb0]; exact hb1
          have hd0 : (ya.tmod 1024 != 0) = false := by rw [htm]; rfl
          have hd1 : decide (ym < 1) = false := decide_eq_false (by omega)
          have hd2 : decide (size < ya + ym) = false := decide_eq_false (by omega)
          clear hv hcs hb1 hb4
          by_cases hz : t = 0
          · subst hz
            have v0' : wr.cell? ⟨ga, oa, none⟩ = some (.int .i64 ya) := by simpa using v0
            have v1' : wr.cell? ⟨ga, oa + 1, none⟩ = some (.int .i64 ym) := by simpa using v1
            have hna0 : (0 : Int) < (na : Int) := by omega
            clear HV HCS v0 v1 ht t1 hlt
            go_upto_region 16 with fail
            go_quiet (fail)
            have HFQ : Hid (Frm [] w3 (wr.drewN nq)) := hid (HIN.out.drewN nq)
            generalize wr.drewN nq = wq at *
            go_wp2_with fail
            go_roundw
            case rel => exact ⟨0 + 1, by omega, by go_num, HFQ⟩
            case measure => first | (simp [intOf]; done) | (simp [intOf]; omega)
          · obtain ⟨k, rfl⟩ : ∃ k, t = k + 1 := ⟨t - 1, by omega⟩
            have hd3 : decide ((0 : Int) < ((k + 1 : Nat) : Int)) = true := decide_eq_true (by omega)
            obtain ⟨x, hx⟩ : ∃ v, (sinceL size txg l)[k]? = some v := ⟨_, List.getElem?_eq_getElem (by rw [HOA.out.2]; omega)⟩
            have hap : x.a + x.m < ya := by
              have h := List.pairwise_iff_getElem.1 HPA.out k (k + 1) (by rw [HOA.out.2]; omega) (by rw [HOA.out.2]; omega) (by omega)
              rw [(List.getElem?_eq_some_iff.1 hx).2, (List.getElem?_eq_some_iff.1 HV.out).2] at h
              exact h
            have hxb := HKA.out x (List.mem_of_getElem? hx)
            have p0 := (HIN.out.cell (World.block_lt_of_cell? w3 _ (HCS.out (k * 2) _ (rowS_get _ k x hx).1)) (by simp)).trans (HCS.out (k * 2) _ (rowS_get _ k x hx).1)
            have p1 : wr.cell? ⟨ga, oa + k * 2 + 1, none⟩ = some (.int .i64 x.m) := by
              have h := HCS.out (k * 2 + 1) _ (rowS_get _ k x hx).2
              rw [← Nat.add_assoc] at h
              exact (HIN.out.cell (World.block_lt_of_cell? w3 _ h) (by simp)).trans h
            obtain ⟨xa, xm⟩ := x
            simp only at p0 p1 hap hxb
            obtain ⟨hxa, _, hxc, hxd, _⟩ := hxb
            have hsub : wrap64 (((k + 1 : Nat) : Int) - 1) = (k : Int) := by unfold wrap64; omega
            have hsub2 : IntKind.i64.wrap (((k + 1 : Nat) : Int) - 1) = (k : Int) := by rw [IntKind.wrap_i64]; omega
            have hkb : (k : Int) < (na : Int) := by omega
            have hwx : wrap64 (xa + xm) = xa + xm := by unfold wrap64; omega
            have hwx2 : IntKind.i64.wrap (xa + xm) = xa + xm := by rw [IntKind.wrap_i64]; omega
            have hd4 : decide (ya ≤ xa + xm) = false := decide_eq_false (by omega)
            clear HV HCS hx
            go_upto_region 16 with fail
            go_quiet (fail)
            have HFQ : Hid (Frm [] w3 (wr.drewN nq)) := hid (HIN.out.drewN nq)
            generalize wr.drewN nq = wq at *
            go_wp2_with fail
            go_roundw
            case rel => exact ⟨(k + 1) + 1, by omega, by go_num, HFQ⟩
            case measure => first | (simp [intOf]; done) | (simp [intOf]; omega)
        · obtain rfl : t = na := by omega
          go_wp2_with fail
          first | go_returns | skip
          exact HP.out _ (HF3.out.trans HIN.out (by simp))
end
section
section
set_option maxRecDepth 100000
open Go.ChangeShapes Go.WideShapes Go.ChangeAt Go.RowKit Go.Deep

theorem own : ownKnob Try.prog.godebug = none := by kernel_rfl
theorem laidOut : laidOutB Try.prog = true := by kernel_rfl
theorem u64_bd {x : Int} (h : (Lit.int .u64 x).wf = true) : 0 ≤ x ∧ x < 18446744073709551616 := by
  simp [Lit.wf, IntKind.min, IntKind.max, IntKind.signed, IntKind.bits] at h; omega
theorem i64_bd {x : Int} (h : (Lit.int .i64 x).wf = true) : -9223372036854775808 ≤ x ∧ x ≤ 9223372036854775807 := by
  simp [Lit.wf, IntKind.min, IntKind.max, IntKind.signed, IntKind.bits] at h; omega
theorem u8_bd {x : Int} (h : (Lit.int .u8 x).wf = true) : 0 ≤ x ∧ x < 256 := by
  simp [Lit.wf, IntKind.min, IntKind.max, IntKind.signed, IntKind.bits] at h; omega
/-- A slice of bytes that came in: the bytes that it shows. -/
def Came (w : World) (p : Option Addr) (len cap : Nat) : Prop := ∃ ns : List Int, ns.length = len ∧ Rd w p ns ∧ (∀ z ∈ ns, 0 ≤ z ∧ z < 256) ∧ (ns = [] → p = none → cap = 0) ∧ len ≤ cap ∧ cap ≤ 9223372036854775807
theorem spot_of_cell {w : World} {x : Addr} {v : Value} (h : w.cell? x = some v) : x.spot = none := by
  unfold World.cell? at h
  split at h
  · by_cases hs : x.spot.isSome = true
    · simp [hs] at h
    · simpa using hs
  · cases h
theorem came_of {w : World} {x : Addr} {len cap : Nat} {zs : List Int} (hl : len ≤ cap) (hm : cap ≤ maxLen) (hz : zs.length = cap) (hcell : ∀ i, i < zs.length → w.cell? (x.add i) = some (.int .u8 (zs.getD i 0))) (hwf : ∀ n ∈ zs, (Lit.int .u8 n).wf = true) : Came w (some x) len cap := by
  refine ⟨zs.take len, by simp; omega, ?_, fun z hz => u8_bd (hwf z (List.mem_of_mem_take hz)), by simp, hl, by unfold maxLen at hm; omega⟩
  by_cases h0 : len = 0
  · exact Or.inl (by simp [h0])
  · have hs : x.spot = none := spot_of_cell (by have := hcell 0 (by omega); simpa [Addr.add] using this)
    obtain ⟨g, o, sp⟩ := x
    simp only at hs
    subst hs
    refine Or.inr ⟨g, o, rfl, fun i hi => ?_⟩
    simp at hi
    have h := hcell i (by omega)
    rw [show (⟨g, o, none⟩ : Addr).add i = ⟨g, o + i, none⟩ by unfold Addr.add; split <;> simp_all] at h
    have h2 : i < zs.length := by omega
    rw [h]; simp [List.getD, hi, h2]
section
variable {H : Type} {enc : TypeId × Value → H} {W : World}
/-- A slice of bytes, wherever it stands. -/
theorem came_cells {fuel : Nat} {cs : List Value} {x : DataW H × List MemPlace} (h : DataW.trod enc Try.prog W 0 (fun _ => true) true fuel 22 cs = some x) :
    ∃ p len cap, cs = [.slice p len cap] ∧ Came W p len cap := by
  rcases open_ints Try.underlying22 Try.underlying5 (by kernel_rfl) h with ⟨hcs, _⟩ | ⟨x, l, c, zs, hcs, _, hl, hm, hz, _, hcell, hwz⟩
  · exact ⟨none, 0, 0, hcs, [], rfl, Or.inl rfl, by simp, fun _ _ => rfl, by omega, by omega⟩
  · exact ⟨some x, l, c, hcs, came_of hl hm (by simpa using hz) hcell hwz⟩
theorem cellsI : Try.prog.cellsOf 3 = 1 := by kernel_rfl
theorem cellsB : Try.prog.cellsOf 22 = 1 := by kernel_rfl
theorem cellsS : Try.prog.cellsOf 9 = 1 := by kernel_rfl
theorem add_of {x : Addr} (hs : x.spot = none) (i : Nat) : x.add i = ⟨x.block, x.off + i, none⟩ := by
  obtain ⟨g, o, sp⟩ := x
  simp only at hs
  subst hs
  unfold Addr.add; split <;> simp_all
end
theorem Came.kept {w w' : World} {p : Option Addr} {len cap : Nat} (h : Came w p len cap) (hf : Frm [] w w') : Came w' p len cap := by
  obtain ⟨ns, h1, h2, h3⟩ := h
  exact ⟨ns, h1, h2.kept hf (by simp), h3⟩
end
section
set_option maxRecDepth 100000
open Go.ChangeShapes Go.WideShapes Go.ChangeAt Go.RowKit Go.Deep

theorem bytesU : Try.prog.bytesOf 5 = 1 := by kernel_rfl
section
variable {H : Type} {enc : TypeId × Value → H} {W : World} {P : Program}
theorem slice_room {t E : TypeId} (ht : P.underlying t = some (.slice E)) {fuel : Nat} {cs : List Value} {x : DataW H × List MemPlace} (h : DataW.trod enc P W 0 (fun _ => true) true fuel t cs = some x) (hw : ∀ n ∈ x.1.weights P t, n ≤ reachBytes) (p : Option Addr) (len cap : Nat) (he : cs = [.slice p len cap]) : len * P.bytesOf E ≤ 140737488351232 := by
  rcases open_slice ht h with ⟨hcs, _⟩ | ⟨a, l, c, m, n, D, Pl, rfl, hb, hl, hm, hmm, rfl, hx⟩
  · rw [hcs] at he
    simp only [List.cons.injEq, Value.slice.injEq, and_true] at he
    obtain ⟨_, rfl, _⟩ := he
    simp
  · simp only [List.cons.injEq, Value.slice.injEq, and_true] at he
    obtain ⟨rfl, rfl, rfl⟩ := he
    have := hw _ (by
      simp only [DataW.weights, ht]
      exact List.mem_cons_self)
    simp only [List.length_map, List.length_range, reachBytes] at this
    refine Nat.le_trans (Nat.mul_le_mul_right _ (Nat.le_add_right l (m - l))) this
theorem mem_all {P : Program} {e : TypeId} {l : List (DataW H)} {d : DataW H} (hd : d ∈ l) {n : Nat} (hn : n ∈ d.weights P e) : n ∈ DataW.weightsAll P e l := by
  induction l with
  | nil => cases hd
  | cons a l ih =>
    simp only [DataW.weightsAll, List.mem_append]
    rcases List.mem_cons.1 hd with rfl | h
    · exact Or.inl hn
    · exact Or.inr (ih h)
theorem came_len {fuel : Nat} {cs : List Value} {x : DataW H × List MemPlace} (h : DataW.trod enc Try.prog W 0 (fun _ => true) true fuel 22 cs = some x) (hw : ∀ n ∈ x.1.weights Try.prog 22, n ≤ reachBytes) (p : Option Addr) (len cap : Nat) (he : cs = [.slice p len cap]) : len ≤ 140737488351232 := by
  rcases open_ints Try.underlying22 Try.underlying5 (by kernel_rfl) h with ⟨hcs, _⟩ | ⟨a, l, c, zs, hcs, _, hl, hm, hz, hxx, _, _⟩
  · rw [hcs] at he
    simp at he
    omega
  · rw [hcs] at he
    simp only [List.cons.injEq, Value.slice.injEq, and_true] at he
    obtain ⟨_, rfl, _⟩ := he
    have := hw ((zs.take l).length + (zs.drop l).length) (by
      rw [hxx]
      simp [DataW.weights, Try.underlying22, bytesU, lits])
    simp only [List.length_take, List.length_drop, reachBytes] at this
    simp only [if_true] at hz
    omega
end
end
end
end Go.Proofs.Ytkolbijhekbelaa
