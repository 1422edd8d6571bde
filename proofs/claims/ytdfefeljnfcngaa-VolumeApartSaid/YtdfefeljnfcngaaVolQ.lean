/- VolumeApart returns true for every size, all scripts and both writes, and leaves what was there as it was. No condition. -/
import Derived.Test.YtdfefeljnfcngaaVolT
import Derived.Test.YtdfefeljnfcngaaRowG
namespace Go.Proofs.Ytdfefeljnfcngaa
open Go.ChangeShapes Go.WideShapes Go.ChangeAt Go.RowKit

set_option maxRecDepth 100000 in
theorem volapart_lifted (os : Os) (started : os.Started) (H : Type) (enc : TypeId × Value → H) :
    ReturnsInHanded {} Try.checked os 10 .any (Rows.volumeApartSpec.pre6 enc Try.prog Try.f10 Rows.volumeApartRow.domain false) (Rows.volumeApartSpec.post enc Try.prog Try.f10 false true false false) := by
  refine returnsInHanded_of_change_sized (C := Try.checked) own started (by kernel_rfl) Try.func10
    (ChangeSpec.witness6 (enc := enc) (C := Try.checked) false ⟨#[], #[.int .i64 0, .slice none 0 0, .agg #[.int .i64 0, .int .i64 0, .int .i64 0, .slice none 0 0], .agg #[.int .i64 0, .int .i64 0, .int .i64 0, .slice none 0 0]], []⟩ 8 (by kernel_rfl) (by kernel_rfl) (by kernel_rfl) (by kernel_rfl)) ?_
  intro W base args ds gs before hval0 hW hcnd hsz0 _
  have hval : ∀ (j : Nat) t v, Try.f10.params[j]? = some t → args[j]? = some v → Value.okWide Try.prog W .any base t v := hval0
  have hsz : (DataW.weightsEach Try.prog (Try.f10.params.toList ++ Rows.volumeApartSpec.plain.varTypes Try.prog) (ds ++ gs)).all (· ≤ reachBytes) = true := hsz0
  have hW' := hW
  obtain ⟨p, q, hA0, hV, rfl, hfz, hnd⟩ := hW
  have hA : DataW.TrodAll enc Try.prog W 0 (fun _ => true) true Try.f10.params.toList args.toList ds p := hA0
  rw [Try.params10] at hA hval hsz
  obtain ⟨v0, vs0, d0, ds0, p0, q0, hargs, rfl, rfl, h0, r0⟩ := trodAll_cons hA
  obtain ⟨v1, vs1, d1, ds1, p1, q1, rfl, rfl, rfl, h1, r1⟩ := trodAll_cons r0
  obtain ⟨v2, vs2, d2, ds2, p2, q2, rfl, rfl, rfl, h2, r2⟩ := trodAll_cons r1
  obtain ⟨v3, vs3, d3, ds3, p3, q3, rfl, rfl, rfl, h3, r3⟩ := trodAll_cons r2
  obtain ⟨rfl, rfl, rfl⟩ := trodAll_nil r3
  obtain rfl : args = #[v0, v1, v2, v3] := by cases args; simp_all
  obtain ⟨rfl, rfl⟩ := trodVars_none hV
  have lt1 : ∀ x ∈ p1, x.block < W.heap.size := by obtain ⟨m, hm⟩ := h1; exact DataW.trod_lt m _ _ _ hm
  have lt2 : ∀ x ∈ p2, x.block < W.heap.size := by obtain ⟨m, hm⟩ := h2; exact DataW.trod_lt m _ _ _ hm
  have lt3 : ∀ x ∈ p3, x.block < W.heap.size := by obtain ⟨m, hm⟩ := h3; exact DataW.trod_lt m _ _ _ hm
  obtain ⟨a0, rfl, rfl, rfl, w0⟩ := open_int Try.underlying3 (hval 0 3 v0 rfl rfl) h0
  obtain ⟨b1, l1, c1, rfl⟩ := okWide_slice Try.underlying75 (hval 1 75 v1 rfl rfl)
  have w1 : CameO W b1 l1 c1 := by
    obtain ⟨fuel, hf⟩ := h1
    obtain ⟨p, len, cap, he, hh⟩ := cameO_cells hf
    simp [Value.cells] at he
    obtain ⟨rfl, rfl, rfl⟩ := he
    exact hh
  obtain ⟨cs2, rfl, hs2⟩ := okWide_struct Try.underlying80 (hval 2 80 v2 rfl rfl)
  obtain ⟨cs3, rfl, hs3⟩ := okWide_struct Try.underlying80 (hval 3 80 v3 rfl rfl)
  obtain ⟨x, hx1, hx2⟩ : ∃ x, cs2.toList = opCells x ∧ OpOk W x := by
    obtain ⟨fuel, hf⟩ := h2
    have hf' : DataW.trod enc Try.prog W 0 (fun _ => true) true fuel 80 cs2.toList = some (d2, p2) := hf
    exact cameOp_cells hf' (by rw [Array.length_toList, hs2, cellsOp])
  obtain ⟨y, hy1, hy2⟩ : ∃ y, cs3.toList = opCells y ∧ OpOk W y := by
    obtain ⟨fuel, hf⟩ := h3
    have hf' : DataW.trod enc Try.prog W 0 (fun _ => true) true fuel 80 cs3.toList = some (d3, p3) := hf
    exact cameOp_cells hf' (by rw [Array.length_toList, hs3, cellsOp])
  obtain rfl : cs2 = #[.int .i64 x.kind, .int .i64 x.at_, .int .i64 x.many, .slice x.p x.bl x.bc] := Array.toList_inj.1 hx1
  obtain rfl : cs3 = #[.int .i64 y.kind, .int .i64 y.at_, .int .i64 y.many, .slice y.p y.bl y.bc] := Array.toList_inj.1 hy1
  clear hA0 hval0 hsz hsz0
  have walk : Calls Try.prog 10 #[.int .i64 a0, .slice b1 l1 c1, .agg #[.int .i64 x.kind, .int .i64 x.at_, .int .i64 x.many, .slice x.p x.bl x.bc], .agg #[.int .i64 y.kind, .int .i64 y.at_, .int .i64 y.many, .slice y.p y.bl y.bc]] W fun e w' => e = .returned (.bool true) ∧ Frm [] W w' := volApart_any a0 (i64_bd w0).1 (i64_bd w0).2 b1 l1 c1 x y W w1 hx2 hy2
  refine walk.mono fun e W' ⟨he, hg⟩ => ?_
  subst he
  have bel : Below W.heap.size W W' := hg.below (Nat.le_refl _) (by simp)
  exact ⟨_, rfl, _, _, _, [], _, [], hW', trodAll_mk1 (shut_bool Try.underlying4 _), (trodAll_cons_mk (shut_int Try.underlying3 w0) (trodAll_cons_mk (Below.trod laidOut (by kernel_rfl) (of_decide_eq_true (by kernel_rfl)) h1 bel lt1) (trodAll_cons_mk (Below.trod laidOut (by kernel_rfl) (of_decide_eq_true (by kernel_rfl)) h2 bel lt2) (trodAll_cons_mk (Below.trod laidOut (by kernel_rfl) (of_decide_eq_true (by kernel_rfl)) h3 bel lt3) trodAll_mk0)))), rfl, bel.frame _, fun h => by cases h⟩

theorem volapart_holds : Rows.VolumeApartSaid :=
  OpenClaim.holds_of_wide 10 Try.f10 rfl rfl rfl rfl rfl rfl rfl ⟨rfl, rfl, rfl, rfl, rfl⟩ rfl rfl rfl rfl rfl (by kernel_rfl) Try.func10 (by kernel_rfl)
    (of_decide_eq_true (by kernel_rfl)) (by unfold Func.isWrapper; first | (rw [if_pos (by decide +kernel)]; kernel_rfl) | (rw [if_neg (by decide +kernel)]; exact ⟨rfl, rfl⟩))
    (fun os started H enc _ => volapart_lifted os started H enc)
end Go.Proofs.Ytdfefeljnfcngaa
