/- Contracts of package ptr: a label's form. -/
import Derived.Test.YtdnnbinmippkdaaDoorPtrJ
namespace Go.Proofs.YtdnnbinmippkdaaDoor
open Go.RowKit
set_option maxRecDepth 100000

/-- A label's body. -/
def labB (l : LabV) : List Int := bodyL l ++ List.replicate (81 - 6 * l.n) 0
theorem labB_length {l : LabV} (h : l.n ≤ 4) : (labB l).length = 96 := by rw [labB, List.length_append, bodyL_length, List.length_replicate]; omega
theorem topsT_byte (ts : List T3) (j : Nat) : ∀ z ∈ topsT ts j, 0 ≤ z ∧ z < 256 := by
  induction j with
  | zero => simp [topsT]
  | succ j ih => exact app_byte ih (app_byte (app_byte (le_byte _ _) (le_byte _ _)) (le_byte _ _))
theorem labB_byte (l : LabV) : ∀ z ∈ labB l, 0 ≤ z ∧ z < 256 := app_byte (app_byte (app_byte (app_byte (app_byte (app_byte (by simp) (le_byte _ _)) (le_byte _ _)) (le_byte _ _)) (le_byte _ _)) (topsT_byte _ _)) (rep_byte _)
set_option maxHeartbeats 1600000 in
theorem layLab_any (l : LabV) (w : World) (hp : l.ok w) :
    Calls Tryd.prog 36 #[.agg l.arr, .func (.func 18) #[] #[], .func (.func 37) #[] #[], .int .i64 96] w (EncA w (labB l) (checkL l)) := by
  have HP := hid hp
  have HCK := hid (checkL_any l (w.alloc (.cells l.arr 37)) (hp.kept ((Frm.refl _ _).alloc _)))
  have HPT := hid (fun (b : Nat) (W : World) (hw : FreshW (w.alloc (.cells l.arr 37)) W b 96 ([], 0) []) (hf : l.fits) => putLabel_any _ W b [] hw l (hp.kept ((Frm.refl _ _).alloc _)) hf)
  obtain ⟨C, hC⟩ : ∃ C, checkL l = C := ⟨_, rfl⟩
  rw [hC] at HCK ⊢
  have HC := hid hC
  have hrow := heap_alloc_new w (.cells l.arr 37)
  have HFA : Hid (Frm [] w (w.alloc (.cells l.arr 37))) := hid ((Frm.refl _ _).alloc _)
  clear hp hC
  unfold LabV.arr at HCK HPT hrow HFA ⊢
  have HROW := hid hrow
  have hcf1 := fun W => callable (P := Tryd.prog) Tryd.func18 (by kernel_rfl) (by kernel_rfl) #[.agg #[.int .u64 l.pool, .slice l.p l.n l.c, .int .i64 l.top, .int .i64 l.place]] W
  clear hrow
  go_enter Tryd.func36, Tryd.ntmps36
  go_wp2_with fail
  obtain ⟨pb, hpb⟩ : ∃ pb, w.heap.size = pb := ⟨_, rfl⟩
  obtain ⟨wa, hwa⟩ : ∃ wa, w.alloc (.cells #[.int .u64 l.pool, .slice l.p l.n l.c, .int .i64 l.top, .int .i64 l.place] 37) = wa := ⟨_, rfl⟩
  have HPB := hid hpb
  rw [hwa] at HPT HFA HCK
  rw [hwa, hpb] at HROW
  rw [hwa, hpb]
  clear hwa hpb
  refine HCK.out.mono ?_
  rintro e w1 ⟨rfl, hf1⟩
  have HF1 := hid hf1
  have hr1 := hf1.heap HROW.out (by simp)
  have HR1 := hid hr1
  clear hf1 hr1 HCK
  by_cases hC0 : C = 0
  · subst hC0
    have HFT : Hid l.fits := hid (checkL_ok HP.out HC.out)
    go_wp2_with fail
    refine (newWriter_any 96 w1).mono ?_
    rintro e w2 ⟨rfl, hw2, hf2, _⟩
    have hfr : FreshW wa w2 w1.heap.size 96 ([], 0) [] := FreshW.born hw2 (HF1.out.trans hf2 (by simp)) HF1.out.size
    have HR2 := hid (hf2.heap HR1.out (by simp))
    have HW2 := hid hfr
    have hq := lab_cells HR2.out
    obtain ⟨q0, q1, q2, q3⟩ := hq
    obtain ⟨b, hb⟩ : ∃ b, w1.heap.size = b := ⟨_, rfl⟩
    rw [hb] at HW2 ⊢
    clear hfr hw2 hf2 hb HR1
    go_wp2_with fail
    refine (HPT.out b w2 HW2.out HFT.out).mono ?_
    rintro e w3 ⟨rfl, hw3, _⟩
    have HW3 := hid hw3
    clear hw3 q0 q1 q2 q3 HPT HW2
    go_wp2_with fail
    refine (pad_fit wa w3 b 96 _ [] HW3.out (by omega) 96 (81 - 6 * l.n) (by rw [bodyL_length]; have := HFT.out.n; omega) (by omega)).mono ?_
    rintro e w4 ⟨rfl, hw4, _⟩
    have HW4 : Hid (FreshW wa w4 b 96 (labB l, 0) []) := hid hw4
    clear hw4 HW3
    go_wp2_with fail
    obtain ⟨fp, g1, g2, g3, _⟩ := HW4.out
    refine (doneW_ok b fp 96 (labB l) w4 g1 (by omega) (by rw [labB_length HFT.out.n]; omega)).mono ?_
    rintro e w5 ⟨g, rfl, h5, hf5, hg5⟩
    have HE : Hid (EncA w (labB l) 0 (.returned (.tuple #[.slice (some ⟨g, 0, none⟩) (labB l).length (labB l).length, .int .i64 0])) w5) := hid (Or.inr ⟨rfl, g, rfl, h5, (HFA.out.trans g2 (by simp)).trans hf5 (by simp), by have := HFA.out.size; have := g2.size; omega⟩)
    clear g1 g2 g3 h5 hf5 hg5 HW4
    go_wp2_with fail
    go_returns
    exact HE.out
  · have hb : (C != 0) = true := by simpa using hC0
    have HE : Hid (EncA w (labB l) C (.returned (.tuple #[.slice none 0 0, .int .i64 C])) w1) := hid (Or.inl ⟨hC0, rfl, HFA.out.trans HF1.out (by simp)⟩)
    go_wp2_with fail
    go_returns
    exact HE.out
set_option maxHeartbeats 1600000 in
theorem encodeL_any (l : LabV) (w : World) (hu : l.ok w) :
    Calls Tryd.prog 15 #[.agg l.arr] w (EncA w (sealB (labB l)) (checkL l)) := by
  have HL := hid (layLab_any l (w.alloc (.cells l.arr 37)) (hu.kept ((Frm.refl _ _).alloc _)))
  have HN4 : Hid (checkL l = 0 → l.n ≤ 4) := hid (fun h => (checkL_ok hu h).n)
  have HFA : Hid (Frm [] w (w.alloc (.cells l.arr 37))) := hid ((Frm.refl _ _).alloc _)
  obtain ⟨C, hC⟩ : ∃ C, checkL l = C := ⟨_, rfl⟩
  rw [hC] at HL HN4 ⊢
  unfold LabV.arr at HL HFA ⊢
  clear hu hC
  go_enter Tryd.func15, Tryd.ntmps15
  go_wp2_with fail
  refine HL.out.mono ?_
  rintro e w1 h1
  have H1 := hid (h1.pre HFA.out)
  rcases h1 with ⟨hc, rfl, hf1⟩ | ⟨rfl, g, rfl, hg, hf1, _⟩
  · have HS := hid (seal_err C hc w1)
    have HF1 := hid (HFA.out.trans hf1 (by simp))
    have HC := hid hc
    clear hc hf1
    go_wp2_with fail
    refine HS.out.mono ?_
    rintro e w2 ⟨rfl, hf2⟩
    have HE : Hid (EncA w (sealB (labB l)) C (.returned (.tuple #[.slice none 0 0, .int .i64 C])) w2) := hid (Or.inl ⟨HC.out, rfl, HF1.out.trans hf2 (by simp)⟩)
    clear hf2
    go_wp2_with fail
    go_returns
    exact HE.out
  · have HN := hid (HN4.out rfl)
    have HS := hid (seal_ok g (labB l) w1 (labB_length (HN4.out rfl)) (labB_byte l) hg)
    have HF1 := hid (HFA.out.trans hf1 (by simp))
    rw [labB_length (HN4.out rfl)]
    clear hg hf1
    go_wp2_with fail
    refine HS.out.mono ?_
    rintro e w2 h2
    have H2 := hid (h2.pre HF1.out)
    rcases h2 with ⟨hc, _⟩ | ⟨_, g2, rfl, _⟩
    · exact absurd rfl hc
    · go_wp2_with fail
      go_returns
      exact H2.out
end Go.Proofs.YtdnnbinmippkdaaDoor
