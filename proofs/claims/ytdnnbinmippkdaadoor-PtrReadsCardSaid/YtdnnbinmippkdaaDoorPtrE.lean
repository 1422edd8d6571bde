/- Contracts of package ptr: Encode of a pointer. -/
import Derived.Test.YtdnnbinmippkdaaDoorPtrD
import Derived.Test.YtdnnbinmippkdaaDoorPtrC
namespace Go.Proofs.YtdnnbinmippkdaaDoor
open Go.RowKit
set_option maxRecDepth 100000

theorem fits_of_check {p : P9} (ht : (0 ≤ p.birth ∧ p.birth < 18446744073709551616) ∧ (0 ≤ p.sa ∧ p.sa < 18446744073709551616) ∧ (0 ≤ p.sb ∧ p.sb < 18446744073709551616) ∧ (0 ≤ p.sc ∧ p.sc < 18446744073709551616) ∧ (0 ≤ p.sd ∧ p.sd < 18446744073709551616)) (h : checkP p = 0) : p.fits := by
  obtain ⟨h3, h5, h6, h7, h8⟩ := ht
  rcases checkP_cases p with ⟨hz, _⟩ | ⟨_, hg, _⟩ | ⟨_, _, h40⟩
  · obtain ⟨z0, z1, z2, z3, z4, _⟩ := hz
    exact ⟨by omega, by omega, by omega, h3, by omega, h5, h6, h7, h8⟩
  · obtain ⟨g0, g1, g2, g3, g4, g5, g6, g7, g8⟩ := hg
    exact ⟨by omega, by omega, by omega, h3, by omega, h5, h6, h7, h8⟩
  · omega
/-- The types' own bounds. -/
def P9.ok (p : P9) : Prop := (0 ≤ p.birth ∧ p.birth < 18446744073709551616) ∧ (0 ≤ p.sa ∧ p.sa < 18446744073709551616) ∧ (0 ≤ p.sb ∧ p.sb < 18446744073709551616) ∧ (0 ≤ p.sc ∧ p.sc < 18446744073709551616) ∧ (0 ≤ p.sd ∧ p.sd < 18446744073709551616)
/-- What an encoding answers: the error, or bytes of its own. -/
def EncA (w : World) (zs : List Int) (err : Int) (e : Ending) (w' : World) : Prop :=
  (err ≠ 0 ∧ e = .returned (.tuple #[.slice none 0 0, .int .i64 err]) ∧ Frm [] w w') ∨
  (err = 0 ∧ ∃ g, e = .returned (.tuple #[.slice (some ⟨g, 0, none⟩) zs.length zs.length, .int .i64 0]) ∧ w'.heap[g]? = some (.cells (bv zs).toArray 5 (0, 0)) ∧ Frm [] w w' ∧ w.heap.size ≤ g)
theorem EncA.pre {w w0 w' : World} {zs : List Int} {err : Int} {e : Ending} (h : EncA w0 zs err e w') (hf : Frm [] w w0) : EncA w zs err e w' := by
  rcases h with ⟨h1, h2, h3⟩ | ⟨h1, g, h2, h3, h4, h5⟩
  · exact Or.inl ⟨h1, h2, hf.trans h3 (by simp)⟩
  · exact Or.inr ⟨h1, g, h2, h3, hf.trans h4 (by simp), Nat.le_trans hf.size h5⟩
theorem ptr_cells {W : World} {pb : Nat} {p : P9} (h : W.heap[pb]? = some (.cells #[.int .i64 p.top, .int .i64 p.at_, .int .i64 p.bytes, .int .u64 p.birth, .int .i64 p.kind, .int .u64 p.sa, .int .u64 p.sb, .int .u64 p.sc, .int .u64 p.sd] 26 (0, 0))) :
    W.cell? ⟨pb, 0, none⟩ = some (.int .i64 p.top) ∧ W.cell? ⟨pb, 1, none⟩ = some (.int .i64 p.at_) ∧ W.cell? ⟨pb, 2, none⟩ = some (.int .i64 p.bytes) ∧ W.cell? ⟨pb, 3, none⟩ = some (.int .u64 p.birth) ∧ W.cell? ⟨pb, 4, none⟩ = some (.int .i64 p.kind) ∧ W.cell? ⟨pb, 5, none⟩ = some (.int .u64 p.sa) ∧ W.cell? ⟨pb, 6, none⟩ = some (.int .u64 p.sb) ∧ W.cell? ⟨pb, 7, none⟩ = some (.int .u64 p.sc) ∧ W.cell? ⟨pb, 8, none⟩ = some (.int .u64 p.sd) := by
  refine ⟨?_, ?_, ?_, ?_, ?_, ?_, ?_, ?_, ?_⟩ <;> (rw [cell_of_row W _ _ _ _ _ h]; rfl)
set_option maxHeartbeats 1600000 in
theorem layPtr_any (p : P9) (hp : p.ok) (w : World) :
    Calls Tryd.prog 30 #[.agg p.arr, .func (.func 13) #[] #[], .func (.func 31) #[] #[], .int .i64 64] w (EncA w (ptrB p) (checkP p)) := by
  have HP := hid hp
  have HCK := hid (fun W => check9_any p W)
  have HPT := hid (fun (b : Nat) (W : World) (hw : FreshW (w.alloc (.cells p.arr 26)) W b 64 ([], 0) []) (hf : p.fits) => putPtr_any _ W b 64 [] [] hw (by omega) p hf (by simp))
  obtain ⟨C, hC⟩ : ∃ C, checkP p = C := ⟨_, rfl⟩
  rw [hC] at HCK ⊢
  have HC := hid hC
  have hrow := heap_alloc_new w (.cells p.arr 26)
  have HFA : Hid (Frm [] w (w.alloc (.cells p.arr 26))) := hid ((Frm.refl _ _).alloc _)
  clear hp hC
  unfold P9.arr at HCK HPT hrow HFA ⊢
  have HROW := hid hrow
  have hcf1 := fun W => callable (P := Tryd.prog) Tryd.func13 (by kernel_rfl) (by kernel_rfl) #[.agg #[.int .i64 p.top, .int .i64 p.at_, .int .i64 p.bytes, .int .u64 p.birth, .int .i64 p.kind, .int .u64 p.sa, .int .u64 p.sb, .int .u64 p.sc, .int .u64 p.sd]] W
  clear hrow
  go_enter Tryd.func30, Tryd.ntmps30
  go_wp2_with fail
  obtain ⟨pb, hpb⟩ : ∃ pb, w.heap.size = pb := ⟨_, rfl⟩
  obtain ⟨wa, hwa⟩ : ∃ wa, w.alloc (.cells #[.int .i64 p.top, .int .i64 p.at_, .int .i64 p.bytes, .int .u64 p.birth, .int .i64 p.kind, .int .u64 p.sa, .int .u64 p.sb, .int .u64 p.sc, .int .u64 p.sd] 26) = wa := ⟨_, rfl⟩
  have HPB := hid hpb
  rw [hwa] at HPT HFA
  rw [hwa, hpb] at HROW
  rw [hwa, hpb]
  clear hwa hpb
  refine (HCK.out wa).mono ?_
  rintro e w1 ⟨rfl, hf1⟩
  have HF1 := hid hf1
  have hr1 := hf1.heap HROW.out (by simp)
  have HR1 := hid hr1
  clear hf1 hr1 HCK
  by_cases hC0 : C = 0
  · subst hC0
    have HFT : Hid p.fits := hid (fits_of_check HP.out HC.out)
    go_wp2_with fail
    refine (newWriter_any 64 w1).mono ?_
    rintro e w2 ⟨rfl, hw2, hf2, _⟩
    have hfr : FreshW wa w2 w1.heap.size 64 ([], 0) [] := FreshW.born hw2 (HF1.out.trans hf2 (by simp)) HF1.out.size
    have HR2 := hid (hf2.heap HR1.out (by simp))
    have HW2 := hid hfr
    have hq := ptr_cells HR2.out
    obtain ⟨q0, q1, q2, q3, q4, q5, q6, q7, q8⟩ := hq
    obtain ⟨b, hb⟩ : ∃ b, w1.heap.size = b := ⟨_, rfl⟩
    rw [hb] at HW2 ⊢
    clear hfr hw2 hf2 hb HR1
    go_wp2_with fail
    refine (HPT.out b w2 HW2.out HFT.out).mono ?_
    rintro e w3 ⟨rfl, hw3, _⟩
    have HW3 := hid hw3
    clear hw3 q0 q1 q2 q3 q4 q5 q6 q7 q8 HPT HW2
    go_wp2_with fail
    refine (pad_fit wa w3 b 64 _ [] HW3.out (by omega) 64 16 (by rw [List.nil_append, bodyP_length]) (by omega)).mono ?_
    rintro e w4 ⟨rfl, hw4, _⟩
    have HW4 : Hid (FreshW wa w4 b 64 (ptrB p, 0) []) := hid hw4
    clear hw4 HW3
    go_wp2_with fail
    obtain ⟨fp, g1, g2, g3, _⟩ := HW4.out
    refine (doneW_ok b fp 64 (ptrB p) w4 g1 (by omega) (by rw [ptrB_length]; omega)).mono ?_
    rintro e w5 ⟨g, rfl, h5, hf5, hg5⟩
    have HE : Hid (EncA w (ptrB p) 0 (.returned (.tuple #[.slice (some ⟨g, 0, none⟩) (ptrB p).length (ptrB p).length, .int .i64 0])) w5) := hid (Or.inr ⟨rfl, g, rfl, h5, (HFA.out.trans g2 (by simp)).trans hf5 (by simp), by have := HFA.out.size; have := g2.size; omega⟩)
    clear g1 g2 g3 h5 hf5 hg5 HW4
    go_wp2_with fail
    go_returns
    exact HE.out
  · have hb : (C != 0) = true := by simpa using hC0
    have HE : Hid (EncA w (ptrB p) C (.returned (.tuple #[.slice none 0 0, .int .i64 C])) w1) := hid (Or.inl ⟨hC0, rfl, HFA.out.trans HF1.out (by simp)⟩)
    go_wp2_with fail
    go_returns
    exact HE.out
set_option maxHeartbeats 1600000 in
theorem encode_any (p : P9) (hp : p.ok) (w : World) :
    Calls Tryd.prog 10 #[.agg p.arr] w (EncA w (ptrB p) (checkP p)) := by
  have HL := hid (fun W => layPtr_any p hp W)
  have HFA : Hid (Frm [] w (w.alloc (.cells p.arr 26))) := hid ((Frm.refl _ _).alloc _)
  unfold P9.arr at HL HFA ⊢
  clear hp
  go_enter Tryd.func10, Tryd.ntmps10
  go_wp2_with fail
  refine (HL.out _).mono ?_
  rintro e w1 h1
  have H1 := hid (h1.pre HFA.out)
  rcases h1 with ⟨hc, rfl, _⟩ | ⟨hc, g, rfl, _⟩
  · clear hc
    go_wp2_with fail
    go_returns
    exact H1.out
  · clear hc
    go_wp2_with fail
    go_returns
    exact H1.out
end Go.Proofs.YtdnnbinmippkdaaDoor
