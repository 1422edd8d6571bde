/- Contracts of package ptr: an uberblock's form; a body's sum behind it. -/
import Derived.Test.YtdnnbinmippkdaaDoorPtrG
namespace Go.Proofs.YtdnnbinmippkdaaDoor
open Go.RowKit
set_option maxRecDepth 100000

/-- An uberblock's body. -/
def uberB (u : U12) : List Int := bodyU u ++ List.replicate 20 0
theorem uberB_length (u : U12) : (uberB u).length = 96 := by simp [uberB, bodyU_length]
theorem checkU_root {u : U12} (h : checkU u = 0) : checkP u.root = 0 := by
  unfold checkU at h
  split at h
  · rename_i hc; exact hc.2.2.1
  · cases h
set_option maxHeartbeats 1600000 in
theorem layUber_any (u : U12) (hp : u.ok) (w : World) :
    Calls Tryd.prog 41 #[.agg u.arr, .func (.func 22) #[] #[], .func (.func 42) #[] #[], .int .i64 96] w (EncA w (uberB u) (checkU u)) := by
  have HP := hid hp
  have HCK := hid (fun W => checkU_any u W)
  have HPT := hid (fun (b : Nat) (W : World) (hw : FreshW (w.alloc (.cells u.arr 45)) W b 96 ([], 0) []) (hf : u.root.fits) => putUber_any _ W b [] hw u hp hf)
  obtain ⟨C, hC⟩ : ∃ C, checkU u = C := ⟨_, rfl⟩
  rw [hC] at HCK ⊢
  have HC := hid hC
  have hrow := heap_alloc_new w (.cells u.arr 45)
  have HFA : Hid (Frm [] w (w.alloc (.cells u.arr 45))) := hid ((Frm.refl _ _).alloc _)
  clear hp hC
  unfold U12.arr at HCK HPT hrow HFA ⊢
  have HROW := hid hrow
  have hcf1 := fun W => callable (P := Tryd.prog) Tryd.func22 (by kernel_rfl) (by kernel_rfl) #[.agg #[.int .u64 u.pool, .int .u64 u.txg, .int .u64 u.note, .int .i64 u.root.top, .int .i64 u.root.at_, .int .i64 u.root.bytes, .int .u64 u.root.birth, .int .i64 u.root.kind, .int .u64 u.root.sa, .int .u64 u.root.sb, .int .u64 u.root.sc, .int .u64 u.root.sd]] W
  clear hrow
  go_enter Tryd.func41, Tryd.ntmps41
  go_wp2_with fail
  obtain ⟨pb, hpb⟩ : ∃ pb, w.heap.size = pb := ⟨_, rfl⟩
  obtain ⟨wa, hwa⟩ : ∃ wa, w.alloc (.cells #[.int .u64 u.pool, .int .u64 u.txg, .int .u64 u.note, .int .i64 u.root.top, .int .i64 u.root.at_, .int .i64 u.root.bytes, .int .u64 u.root.birth, .int .i64 u.root.kind, .int .u64 u.root.sa, .int .u64 u.root.sb, .int .u64 u.root.sc, .int .u64 u.root.sd] 45) = wa := ⟨_, rfl⟩
  have HPB := hid hpb
  rw [hwa] at HPT HFA
  rw [hwa, hpb] at HROW
  rw [hwa, hpb]
  clear hwa hpb
  refine (HCK.out wa).mono ?_
  rintro e w1 ⟨rfl, hf1⟩
  have HF1 := hid hf1
  have hr1 := hf1.heap HROW.out (by simp)
  have HR1 := hid hr1
  clear hf1 hr1 HCK
  by_cases hC0 : C = 0
  · subst hC0
    have HFT : Hid u.root.fits := hid (fits_of_check HP.out.root (checkU_root HC.out))
    go_wp2_with fail
    refine (newWriter_any 96 w1).mono ?_
    rintro e w2 ⟨rfl, hw2, hf2, _⟩
    have hfr : FreshW wa w2 w1.heap.size 96 ([], 0) [] := FreshW.born hw2 (HF1.out.trans hf2 (by simp)) HF1.out.size
    have HR2 := hid (hf2.heap HR1.out (by simp))
    have HW2 := hid hfr
    have hq := uber_cells HR2.out
    obtain ⟨q0, q1, q2, q3, q4, q5, q6, q7, q8, q9, q10, q11⟩ := hq
    obtain ⟨b, hb⟩ : ∃ b, w1.heap.size = b := ⟨_, rfl⟩
    rw [hb] at HW2 ⊢
    clear hfr hw2 hf2 hb HR1
    go_wp2_with fail
    refine (HPT.out b w2 HW2.out HFT.out).mono ?_
    rintro e w3 ⟨rfl, hw3, _⟩
    have HW3 := hid hw3
    clear hw3 q0 q1 q2 q3 q4 q5 q6 q7 q8 q9 q10 q11 HPT HW2
    go_wp2_with fail
    refine (pad_fit wa w3 b 96 _ [] HW3.out (by omega) 96 20 (by rw [bodyU_length]) (by omega)).mono ?_
    rintro e w4 ⟨rfl, hw4, _⟩
    have HW4 : Hid (FreshW wa w4 b 96 (uberB u, 0) []) := hid hw4
    clear hw4 HW3
    go_wp2_with fail
    obtain ⟨fp, g1, g2, g3, _⟩ := HW4.out
    refine (doneW_ok b fp 96 (uberB u) w4 g1 (by omega) (by rw [uberB_length]; omega)).mono ?_
    rintro e w5 ⟨g, rfl, h5, hf5, hg5⟩
    have HE : Hid (EncA w (uberB u) 0 (.returned (.tuple #[.slice (some ⟨g, 0, none⟩) (uberB u).length (uberB u).length, .int .i64 0])) w5) := hid (Or.inr ⟨rfl, g, rfl, h5, (HFA.out.trans g2 (by simp)).trans hf5 (by simp), by have := HFA.out.size; have := g2.size; omega⟩)
    clear g1 g2 g3 h5 hf5 hg5 HW4
    go_wp2_with fail
    go_returns
    exact HE.out
  · have hb : (C != 0) = true := by simpa using hC0
    have HE : Hid (EncA w (uberB u) C (.returned (.tuple #[.slice none 0 0, .int .i64 C])) w1) := hid (Or.inl ⟨hC0, rfl, HFA.out.trans HF1.out (by simp)⟩)
    go_wp2_with fail
    go_returns
    exact HE.out
/-- A body and its sum. -/
def sealB (zs : List Int) : List Int := zs ++ sumL (fletch zs).a (fletch zs).b (fletch zs).c (fletch zs).d
theorem sealB_length (zs : List Int) : (sealB zs).length = zs.length + 32 := by simp [sealB, sumL_length]
theorem fletch_ok (zs : List Int) : (0 ≤ (fletch zs).a ∧ (fletch zs).a < 18446744073709551616) ∧ (0 ≤ (fletch zs).b ∧ (fletch zs).b < 18446744073709551616) ∧ (0 ≤ (fletch zs).c ∧ (fletch zs).c < 18446744073709551616) ∧ (0 ≤ (fletch zs).d ∧ (fletch zs).d < 18446744073709551616) := by
  have hw : ∀ n : Int, 0 ≤ IntKind.u64.wrap n ∧ IntKind.u64.wrap n < 18446744073709551616 := fun n => by
    show 0 ≤ n % 18446744073709551616 ∧ n % 18446744073709551616 < 18446744073709551616
    omega
  have hk : ∀ k, (0 ≤ (flW Z4 zs k).a ∧ (flW Z4 zs k).a < 18446744073709551616) ∧ (0 ≤ (flW Z4 zs k).b ∧ (flW Z4 zs k).b < 18446744073709551616) ∧ (0 ≤ (flW Z4 zs k).c ∧ (flW Z4 zs k).c < 18446744073709551616) ∧ (0 ≤ (flW Z4 zs k).d ∧ (flW Z4 zs k).d < 18446744073709551616) := fun k => by
    cases k with
    | zero => simp [flW, Z4]
    | succ k => exact ⟨hw _, hw _, hw _, hw _⟩
  unfold fletch
  split
  · exact hk _
  · exact ⟨hw _, hw _, hw _, hw _⟩
set_option maxHeartbeats 1600000 in
theorem seal_ok (g : Nat) (zs : List Int) (w : World) (hl : zs.length = 96) (hb : ∀ z ∈ zs, 0 ≤ z ∧ z < 256) (hg : w.heap[g]? = some (.cells (bv zs).toArray 5 (0, 0))) :
    Calls Tryd.prog 35 #[.slice (some ⟨g, 0, none⟩) 96 96, .int .i64 0] w (EncA w (sealB zs) 0) := by
  have hrd : Rd w (some ⟨g, 0, none⟩) zs := (own_of_block (E := 5) hg (by unfold maxLen; omega)).rd
  have HRD := hid hrd
  have HL := hid hl
  have HOF := hid (of_fl (some ⟨g, 0, none⟩) 96 96 zs w hl (by omega) (by omega) hrd hb)
  have HFO := hid (fletch_ok zs)
  have HSB : Hid (sealB zs = zs ++ sumL (fletch zs).a (fletch zs).b (fletch zs).c (fletch zs).d) := hid rfl
  obtain ⟨X, hX⟩ : ∃ X, fletch zs = X := ⟨_, rfl⟩
  rw [hX] at HOF HFO HSB
  unfold S4.arr at HOF
  clear hrd hl hb hg hX
  go_enter Tryd.func35, Tryd.ntmps35
  go_wp2_with fail
  refine HOF.out.mono ?_
  rintro e w1 ⟨rfl, hf1⟩
  have hfa : Frm [] w1 (w1.alloc (.cells #[.int .u64 X.a, .int .u64 X.b, .int .u64 X.c, .int .u64 X.d] 24)) := (Frm.refl _ _).alloc _
  have hrow := heap_alloc_new w1 (.cells #[.int .u64 X.a, .int .u64 X.b, .int .u64 X.c, .int .u64 X.d] 24)
  obtain ⟨sb, hsb⟩ : ∃ sb, w1.heap.size = sb := ⟨_, rfl⟩
  obtain ⟨w2, hw2⟩ : ∃ w2, w1.alloc (.cells #[.int .u64 X.a, .int .u64 X.b, .int .u64 X.c, .int .u64 X.d] 24) = w2 := ⟨_, rfl⟩
  rw [hsb, hw2] at hrow
  rw [hw2] at hfa
  have HROW := hid hrow
  have HF2 := hid (hf1.trans hfa (by simp))
  clear hf1 hfa hrow
  go_wp2_with fail
  clear hw2 hsb
  refine (newWriter_any 128 w2).mono ?_
  rintro e w3 ⟨rfl, hw3, hf3, _⟩
  have hfr : FreshW w2 w3 w2.heap.size 128 ([], 0) [] := FreshW.born hw3 hf3 (Nat.le_refl _)
  have HF3 := hid (HF2.out.trans hf3 (by simp))
  have HR3 := hid (hf3.heap HROW.out (by simp))
  obtain ⟨b, hb⟩ : ∃ b, w2.heap.size = b := ⟨_, rfl⟩
  rw [hb] at hfr ⊢
  have hA : FreshW w2 w3 b 128 ([], 0) [sb] := by
    obtain ⟨fp, g1, g2, g3, _⟩ := hfr
    refine ⟨fp, g1, g2, g3, fun k hk => ?_⟩
    simp at hk
    subst hk
    exact ⟨fun h => by have := g3 _ h; have := lt_of_heap HROW.out; omega, lt_of_heap HR3.out⟩
  have HW3 := hid hA
  clear hfr hA hw3 hf3 hb
  go_wp2_with fail
  have hby := bytes_fit w2 w3 b 128 [] _ HW3.out (by omega) (some ⟨g, 0, none⟩) zs 96 (by simp) (HRD.out.kept HF3.out (by simp)) (by rw [HL.out]; simp)
  rw [HL.out] at hby
  refine hby.mono ?_
  rintro e w4 ⟨rfl, hw4, hk4⟩
  have HW4 := hid hw4
  have hr4 := (hk4 sb (by simp)).trans HR3.out
  have q0 : w4.cell? ⟨sb, 0, none⟩ = some (.int .u64 X.a) := by rw [cell_of_row w4 _ _ _ _ _ hr4]; rfl
  have q1 : w4.cell? ⟨sb, 1, none⟩ = some (.int .u64 X.b) := by rw [cell_of_row w4 _ _ _ _ _ hr4]; rfl
  have q2 : w4.cell? ⟨sb, 2, none⟩ = some (.int .u64 X.c) := by rw [cell_of_row w4 _ _ _ _ _ hr4]; rfl
  have q3 : w4.cell? ⟨sb, 3, none⟩ = some (.int .u64 X.d) := by rw [cell_of_row w4 _ _ _ _ _ hr4]; rfl
  clear hw4 hk4 hr4 hby HW3 HR3
  go_wp2_with fail
  refine (putSum_any w2 w4 b 128 _ _ HW4.out (by omega) X.a X.b X.c X.d HFO.out.1 HFO.out.2.1 HFO.out.2.2.1 HFO.out.2.2.2 (by rw [List.nil_append, HL.out]; omega)).mono ?_
  rintro e w5 ⟨rfl, hw5, _⟩
  have HW5 : Hid (FreshW w2 w5 b 128 (sealB zs, 0) [sb]) := hid (by rw [HSB.out]; simpa using hw5)
  clear hw5 HW4 q0 q1 q2 q3
  go_wp2_with fail
  obtain ⟨fp, g1, g2, g3, _⟩ := HW5.out
  refine (doneW_ok b fp 128 (sealB zs) w5 g1 (by omega) (by rw [sealB_length, HL.out]; omega)).mono ?_
  rintro e w6 ⟨g', rfl, h6, hf6, hg6⟩
  have HE : Hid (EncA w (sealB zs) 0 (.returned (.tuple #[.slice (some ⟨g', 0, none⟩) (sealB zs).length (sealB zs).length, .int .i64 0])) w6) := hid (Or.inr ⟨rfl, g', rfl, h6, (HF2.out.trans g2 (by simp)).trans hf6 (by simp), by have := HF2.out.size; have := g2.size; omega⟩)
  clear g1 g2 g3 h6 hf6 hg6 HW5
  go_wp2_with fail
  go_returns
  exact HE.out
theorem seal_err (C : Int) (hC : C ≠ 0) (w : World) :
    Calls Tryd.prog 35 #[.slice none 0 0, .int .i64 C] w fun e w' => e = .returned (.tuple #[.slice none 0 0, .int .i64 C]) ∧ Frm [] w w' := by
  have hb : (C != 0) = true := by simpa using hC
  go_enter Tryd.func35, Tryd.ntmps35
  go_wp2_with fail
  go_returns
  exact ⟨rfl, Frm.refl _ _⟩
theorem le_byte (n : Int) (k : Nat) : ∀ z ∈ le n k, 0 ≤ z ∧ z < 256 := by
  intro z hz
  simp only [le, List.mem_map] at hz
  obtain ⟨i, _, rfl⟩ := hz
  omega
theorem app_byte {a b : List Int} (ha : ∀ z ∈ a, 0 ≤ z ∧ z < 256) (hb : ∀ z ∈ b, 0 ≤ z ∧ z < 256) : ∀ z ∈ a ++ b, 0 ≤ z ∧ z < 256 := fun z hz => (List.mem_append.1 hz).elim (ha z) (hb z)
theorem rep_byte (n : Nat) : ∀ z ∈ List.replicate n (0 : Int), 0 ≤ z ∧ z < 256 := fun z hz => by rw [List.eq_of_mem_replicate hz]; omega
theorem sumL_byte (a b c d : Int) : ∀ z ∈ sumL a b c d, 0 ≤ z ∧ z < 256 := app_byte (app_byte (app_byte (le_byte _ _) (le_byte _ _)) (le_byte _ _)) (le_byte _ _)
theorem bodyP_byte (p : P9) : ∀ z ∈ bodyP p, 0 ≤ z ∧ z < 256 := app_byte (app_byte (app_byte (app_byte (app_byte (le_byte _ _) (le_byte _ _)) (le_byte _ _)) (le_byte _ _)) (le_byte _ _)) (sumL_byte _ _ _ _)
theorem uberB_byte (u : U12) : ∀ z ∈ uberB u, 0 ≤ z ∧ z < 256 := app_byte (app_byte (app_byte (app_byte (app_byte (by simp) (le_byte _ _)) (le_byte _ _)) (le_byte _ _)) (bodyP_byte _)) (rep_byte _)
set_option maxHeartbeats 1600000 in
theorem encodeU_any (u : U12) (hu : u.ok) (w : World) :
    Calls Tryd.prog 20 #[.agg u.arr] w (EncA w (sealB (uberB u)) (checkU u)) := by
  have HL := hid (fun W => layUber_any u hu W)
  have HFA : Hid (Frm [] w (w.alloc (.cells u.arr 45))) := hid ((Frm.refl _ _).alloc _)
  obtain ⟨C, hC⟩ : ∃ C, checkU u = C := ⟨_, rfl⟩
  rw [hC] at HL ⊢
  unfold U12.arr at HL HFA ⊢
  clear hu hC
  go_enter Tryd.func20, Tryd.ntmps20
  go_wp2_with fail
  refine (HL.out _).mono ?_
  rintro e w1 h1
  have H1 := hid (h1.pre HFA.out)
  rcases h1 with ⟨hc, rfl, hf1⟩ | ⟨rfl, g, rfl, hg, hf1, _⟩
  · have HS := hid (seal_err C hc w1)
    have HF1 := hid (HFA.out.trans hf1 (by simp))
    have HC := hid hc
    clear hc hf1
    go_wp2_with fail
    refine HS.out.mono ?_
    rintro e w2 ⟨rfl, hf2⟩
    have HE : Hid (EncA w (sealB (uberB u)) C (.returned (.tuple #[.slice none 0 0, .int .i64 C])) w2) := hid (Or.inl ⟨HC.out, rfl, HF1.out.trans hf2 (by simp)⟩)
    clear hf2
    go_wp2_with fail
    go_returns
    exact HE.out
  · have HS := hid (seal_ok g (uberB u) w1 (uberB_length u) (uberB_byte u) hg)
    have HF1 := hid (HFA.out.trans hf1 (by simp))
    rw [uberB_length]
    clear hg hf1
    go_wp2_with fail
    refine HS.out.mono ?_
    rintro e w2 h2
    have H2 := hid (h2.pre HF1.out)
    rcases h2 with ⟨hc, _⟩ | ⟨_, g2, rfl, _⟩
    · exact absurd rfl hc
    · go_wp2_with fail
      go_returns
      exact H2.out
end Go.Proofs.YtdnnbinmippkdaaDoor
