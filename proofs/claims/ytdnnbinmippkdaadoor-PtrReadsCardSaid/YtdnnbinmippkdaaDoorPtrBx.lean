/- PtrReads returns true for all bytes, and leaves what was there as it was. Condition: the variable undercroft/sum.primes holds what the program lays in it (tied to the program text by the card). -/
import Derived.Test.YtdnnbinmippkdaaDoorRowC
import Derived.Test.YtdnnbinmippkdaaDoorSumO
import Derived.Test.YtdnnbinmippkdaaDoorPtrBw
import Derived.Test.YtdnnbinmippkdaaDoorTie
import Derived.Test.YtdnnbinmippkdaaDoorCards
import Derived.Deep.DeepHandedRow
import Derived.JoinedCond
import Derived.SevenTiedAt
import Derived.Lib.LaidTab
namespace Go.Proofs.YtdnnbinmippkdaaDoor
open Go.ChangeShapes Go.WideShapes Go.ChangeAt Go.RowKit

set_option maxRecDepth 100000 in
theorem ptrreads_witness (os : Os) {H : Type} (enc : TypeId × Value → H) :
    (OpenSpec.ofChange Rows.ptrReadsSpec).preRow enc Tryd.prog Tryd.f6 Rows.ptrReadsRow.domain false Rows.ptrReadsRow.laid ((laidW os).forCall (fun _ _ => 0) ⟨#[], #[.slice none 0 0], []⟩).memory #[.slice none 0 0] := by
  have hw : (DataW.whole enc Tryd.prog ((laidW os).forCall (fun _ _ => 0) ⟨#[], #[.slice none 0 0], []⟩).memory Tryd.f6.params.toList (OpenSpec.ofChange Rows.ptrReadsSpec).vars false (#[.slice none 0 0] : Array Value).toList 8).map (fun x => (x.1, x.2.1)) =
      some ([.nil], []) := by kernel_rfl
  obtain ⟨⟨x1, x2, x3⟩, hx, hx1⟩ := Option.map_eq_some_iff.1 hw
  simp only [Prod.mk.injEq] at hx1
  obtain ⟨rfl, rfl⟩ := hx1
  exact OpenSpec.preRow_of_cond 8 hx (by kernel_rfl) (fun k hk => by cases hk) (by kernel_rfl) (laid_met os _)
set_option maxRecDepth 100000 in
theorem ptrreads_contract (H : Type) (enc : TypeId × Value → H) (W : World) (base : Nat) (args : Array Value) (ds gs : List (DataW H)) (before : List MemPlace)
    (hval : ∀ (j : Nat) t v, Tryd.f6.params[j]? = some t → args[j]? = some v → Value.okWide Tryd.prog W .any base t v)
    (hW : DataW.Whole enc Tryd.prog Tryd.f6.params.toList Rows.ptrReadsSpec.vars false W args.toList ds gs before) (hsz : (DataW.weightsEach Tryd.prog (Tryd.f6.params.toList ++ (OpenSpec.ofChange Rows.ptrReadsSpec).bare.plain.varTypes Tryd.prog) (ds ++ gs)).all (· ≤ reachBytes) = true) (_hP : Primes W) :
    Calls Tryd.prog 6 args W fun e W' => ∃ v, e = .returned v ∧ Rows.ptrReadsSpec.post enc Tryd.prog Tryd.f6 false true false false W args v W' := by
  have hW' := hW
  obtain ⟨p, q, hA0, hV, rfl, hfz, hnd⟩ := hW
  have hA : DataW.TrodAll enc Tryd.prog W 0 (fun _ => true) true Tryd.f6.params.toList args.toList ds p := hA0
  rw [Tryd.params6] at hA hval hsz
  obtain ⟨v0, vs0, d0, ds0, p0, q0, hargs, rfl, rfl, h0, r0⟩ := trodAll_cons hA
  obtain ⟨rfl, rfl, rfl⟩ := trodAll_nil r0
  obtain rfl : args = #[v0] := by cases args; simp_all
  obtain ⟨rfl, rfl⟩ := trodVars_none hV
  have lt0 : ∀ x ∈ p0, x.block < W.heap.size := by obtain ⟨m, hm⟩ := h0; exact DataW.trod_lt m _ _ _ hm
  obtain ⟨b0, l0, c0, rfl⟩ := okWide_slice Tryd.underlying28 (hval 0 28 v0 rfl rfl)
  have w0 : Came W b0 l0 c0 ∧ l0 ≤ 140737488351232 := by
    obtain ⟨fuel, hf⟩ := h0
    refine ⟨?_, came_len hf (fun n hn => ?_) b0 l0 c0 rfl⟩
    · obtain ⟨p, len, cap, he, hh⟩ := came_cells hf
      simp [Value.cells] at he
      obtain ⟨rfl, rfl, rfl⟩ := he
      exact hh
    · have := List.all_eq_true.1 hsz n (DataW.weights_mem_each (j := 0) rfl rfl n hn)
      simpa using this
  have walk : Calls Tryd.prog 6 #[.slice b0 l0 c0] W fun e w' => e = .returned (.bool true) ∧ Frm [] W w' := by
    obtain ⟨⟨ns, hnl, hrd, hnb, hnc, hlc, _⟩, hll⟩ := w0; exact ptrreads_any b0 l0 c0 ns hnl (by omega) hlc hnb hnc W hrd
  clear hA0 hsz
  refine walk.mono fun e W' ⟨he, hg⟩ => ?_
  subst he
  have bel : Below W.heap.size W W' := hg.below (Nat.le_refl _) (by simp)
  exact ⟨_, rfl, _, _, _, [], _, [], hW', trodAll_mk1 (shut_bool Tryd.underlying4 _), (trodAll_cons_mk (Below.trod laidOut (by kernel_rfl) (of_decide_eq_true (by kernel_rfl)) h0 bel lt0) trodAll_mk0), rfl, bel.frame _, fun h => by cases h⟩
set_option maxRecDepth 100000 in
theorem ptrreads_lifted (os : Os) (started : os.Started) (H : Type) (enc : TypeId × Value → H) (F : Stop.Interp) :
    ReturnsInHanded {} Tryd.checked os 6 .any ((OpenSpec.ofChange Rows.ptrReadsSpec).preRow enc Tryd.prog Tryd.f6 Rows.ptrReadsRow.domain false Rows.ptrReadsRow.laid) (((OpenSpec.ofChange Rows.ptrReadsSpec).at F).post enc Tryd.prog Tryd.f6 false true false false) := by
  refine returnsInHanded_of_row (C := Tryd.checked) (s := OpenSpec.ofChange Rows.ptrReadsSpec) own started (by kernel_rfl) Tryd.func6
    (witness_row_at (enc := enc) (C := Tryd.checked) false (laidW os) #[.slice none 0 0] rfl (by kernel_rfl) (by kernel_rfl) (by kernel_rfl) (ptrreads_witness os enc)) ?_
  intro W base args ds gs before hval hW _ _ hsz hL _ _
  exact ptrreads_contract H enc W base args ds gs before hval hW hsz (primes_of_laid hL)

theorem ptrreads_row : Rows.PtrReadsSaid :=
  OpenClaim.holds_of_cond 6 Tryd.f6 rfl rfl rfl rfl rfl rfl rfl ⟨rfl, rfl, rfl, rfl, rfl⟩ rfl rfl rfl rfl rfl (by kernel_rfl) Tryd.func6 (by kernel_rfl)
    (of_decide_eq_true (by kernel_rfl)) (by unfold Func.isWrapper; first | (rw [if_pos (by decide +kernel)]; kernel_rfl) | (rw [if_neg (by decide +kernel)]; exact ⟨rfl, rfl⟩))
    (fun os started H enc _ F => by rw [OpenClaim.pre_eq_preRow]; exact ptrreads_lifted os started H enc F)

theorem ptrreads_card : Rows.PtrReadsCardSaid :=
  Claim7.holds_tied_plain_at .later [] [.data] true _ false ptrreads_row (fun _ h => by cases h) (by kernel_rfl) (fun _ h => by cases h) ptrReads_row_tie rfl ⟨rfl, rfl⟩ (by kernel_rfl) rfl
    (fun f fn hf hfn => by
      obtain rfl : f = 6 := Option.some.inj ((show Tryd.prog.funcNamed "undercroft/undercroftlaw04.PtrReads" = some 6 by kernel_rfl).symm.trans hf) |>.symm
      obtain rfl : fn = Tryd.f6 := (Option.some.inj (Tryd.func6.symm.trans hfn)).symm
      refine ⟨by kernel_rfl, fun j t ht => ?_⟩
      have ha : Tryd.f6.params.toList.all (fun t => Tryd.prog.wantsStandIn t == false) = true := by kernel_rfl
      have hm : t ∈ Tryd.f6.params.toList := by
        have h2 : Tryd.f6.params.toList[j]? = some t := by simpa using ht
        exact List.mem_of_getElem? h2
      have h := List.all_eq_true.1 ha t hm
      rw [beq_iff_eq] at h
      exact h)
    (by kernel_rfl)
end Go.Proofs.YtdnnbinmippkdaaDoor
