/- RecordChain: the records of a stream, two of them changed about, are taken up, or refused, as the document says; for inputs whose parts number at most 1048576, read together with the listed package variables. -/
import Derived.Test.YtajfjkfnmmfhmaaGreatDoorTie
import Derived.Test.YtajfjkfnmmfhmaaGreatDoorCards
import Derived.Deep.DeepHandedRow
import Derived.JoinedCond
import Derived.SevenTiedAt
import Derived.Lib.LaidTab
import Derived.Test.YtajfjkfnmmfhmaaGreatDoorQcav
namespace Go.Proofs.YtajfjkfnmmfhmaaGreatDoor
set_option maxRecDepth 100000
set_option maxHeartbeats 25600000
section
open Go.ChangeShapes Go.WideShapes Go.ChangeAt Go.RowKit
set_option maxRecDepth 100000 in
theorem recordchain_witness (os : Os) {H : Type} (enc : TypeId × Value → H) :
  (Rows.OpenSpec.upto Rows.recordChainSpec).preRow enc Tryz.prog Tryz.f6 Rows.recordChainUptoRow.domain false Rows.recordChainUptoRow.laid ((laidW5 os).forCall (fun _ _ => 0) ⟨#[], #[.slice none 0 0, .int .i64 0, .int .i64 0], []⟩).memory #[.slice none 0 0, .int .i64 0, .int .i64 0] := by
 have hw : (DataW.whole enc Tryz.prog ((laidW5 os).forCall (fun _ _ => 0) ⟨#[], #[.slice none 0 0, .int .i64 0, .int .i64 0], []⟩).memory Tryz.f6.params.toList (Rows.OpenSpec.upto Rows.recordChainSpec).vars false (#[.slice none 0 0, .int .i64 0, .int .i64 0] : Array Value).toList 8).map (fun x => (x.1, x.2.1)) =
   some ([.nil, .lit (.int .i64 0), .lit (.int .i64 0)], []) := by kernel_rfl
 obtain ⟨⟨x1, x2, x3⟩, hx, hx1⟩ := Option.map_eq_some_iff.1 hw
 simp only [Prod.mk.injEq] at hx1
 obtain ⟨rfl, rfl⟩ := hx1
 exact OpenSpec.preRow_of_cond 8 hx (by kernel_rfl) (fun k hk => by cases hk; rfl) (by kernel_rfl) (laid_met5 os _)
set_option maxRecDepth 100000 in
theorem recordchain_contract (H : Type) (enc : TypeId × Value → H) (W : World) (base : Nat) (args : Array Value) (ds gs : List (DataW H)) (before : List MemPlace)
  (hval : ∀ (j : Nat) t v, Tryz.f6.params[j]? = some t → args[j]? = some v → Value.okWide Tryz.prog W .any base t v)
  (hW : DataW.Whole enc Tryz.prog Tryz.f6.params.toList Rows.recordChainSpec.vars false W args.toList ds gs before) (hsz : (DataW.weightsEach Tryz.prog (Tryz.f6.params.toList ++ (Rows.OpenSpec.upto Rows.recordChainSpec).bare.plain.varTypes Tryz.prog) (ds ++ gs)).all (· ≤ reachBytes) = true) (hk : Rows.uptoSmall H (ds ++ gs) = true) (hP : Primes W) (hV3 : Vars W) :
  Calls Tryz.prog 6 args W fun e W' => ∃ v, e = .returned v ∧ Rows.recordChainSpec.post enc Tryz.prog Tryz.f6 false true false false W args v W' := by
 have hW' := hW
 obtain ⟨p, q, hA0, hV, rfl, hfz, hnd⟩ := hW
 have hA : DataW.TrodAll enc Tryz.prog W 0 (fun _ => true) true Tryz.f6.params.toList args.toList ds p := hA0
 rw [Tryz.params6] at hA hval hsz
 obtain ⟨v0, vs0, d0, ds0, p0, q0, hargs, rfl, rfl, h0, r0⟩ := trodAll_cons hA
 obtain ⟨v1, vs1, d1, ds1, p1, q1, rfl, rfl, rfl, h1, r1⟩ := trodAll_cons r0
 obtain ⟨v2, vs2, d2, ds2, p2, q2, rfl, rfl, rfl, h2, r2⟩ := trodAll_cons r1
 obtain ⟨rfl, rfl, rfl⟩ := trodAll_nil r2
 obtain rfl : args = #[v0, v1, v2] := by cases args; simp_all
 obtain ⟨rfl, rfl⟩ := trodVars_none hV
 have hk2 : Rows.uptoBulkAll [d0, d1, d2] ≤ 1048576 := of_decide_eq_true hk
 have lt0 : ∀ x ∈ p0, x.block < W.heap.size := by obtain ⟨m, hm⟩ := h0; exact DataW.trod_lt m _ _ _ hm
 obtain ⟨b0, l0, c0, rfl⟩ := okWide_slice Tryz.underlying43 (hval 0 43 v0 rfl rfl)
 obtain ⟨a1, rfl, rfl, rfl, w1⟩ := open_int Tryz.underlying3 (hval 1 3 v1 rfl rfl) h1
 obtain ⟨a2, rfl, rfl, rfl, w2⟩ := open_int Tryz.underlying3 (hval 2 3 v2 rfl rfl) h2
 have w0 : ∃ L : List Rk, L.length = l0 ∧ RdRk W b0 L ∧ l0 ≤ 1048576 ∧ (∀ (i : Nat) (x : Rk), L[i]? = some x → PvOk x.P) := by
  obtain ⟨fuel, hf⟩ := h0
  obtain ⟨p, len, cap, L, he, h1, h2, h3, h4⟩ := recs_cameU hf (fun n hn => by
   have := List.all_eq_true.1 hsz n (DataW.weights_mem_each (j := 0) rfl rfl n hn)
   simpa using this) (by simp only [Rows.uptoBulkAll] at hk2; show Rows.uptoBulk d0 ≤ 1048576; omega)
  simp [Value.cells] at he
  obtain ⟨rfl, rfl, rfl⟩ := he
  exact ⟨L, h1, h2, h3, h4⟩
 have walk : Calls Tryz.prog 6 #[.slice b0 l0 c0, .int .i64 a1, .int .i64 a2] W fun e w' => e = .returned (.bool true) ∧ Frm [] W w' := by
  obtain ⟨L, hL, hR, hL9, hPv⟩ := w0; have h1 := of_decide_eq_true (show decide (-9223372036854775808 ≤ a1 ∧ a1 ≤ 9223372036854775807) = true by simpa [Lit.wf, IntKind.min, IntKind.max, IntKind.signed, IntKind.bits] using w1); have h2 := of_decide_eq_true (show decide (-9223372036854775808 ≤ a2 ∧ a2 ≤ 9223372036854775807) = true by simpa [Lit.wf, IntKind.min, IntKind.max, IntKind.signed, IntKind.bits] using w2); exact recordChain_any b0 l0 c0 L a1 a2 h1.1 h1.2 h2.1 h2.2 W hL hL9 hR (fun i hi => hPv i _ (rkA_get (by rw [hL]; exact hi))) hP hV3
 clear hA0 hsz
 refine walk.mono fun e W' ⟨he, hg⟩ => ?_
 subst he
 have bel : Below W.heap.size W W' := hg.below (Nat.le_refl _) (by simp)
 exact ⟨_, rfl, _, _, _, [], _, [], hW', trodAll_mk1 (shut_bool Tryz.underlying4 _), (trodAll_cons_mk (Below.trod laidOut (by kernel_rfl) (of_decide_eq_true (by kernel_rfl)) h0 bel lt0) (trodAll_cons_mk (shut_int Tryz.underlying3 w1) (trodAll_cons_mk (shut_int Tryz.underlying3 w2) trodAll_mk0))), rfl, bel.frame _, fun h => by cases h⟩
set_option maxRecDepth 100000 in
theorem recordchain_lifted (os : Os) (started : os.Started) (H : Type) (enc : TypeId × Value → H) (F : Stop.Interp) :
  ReturnsInHanded {} Tryz.checked os 6 .any ((Rows.OpenSpec.upto Rows.recordChainSpec).preRow enc Tryz.prog Tryz.f6 Rows.recordChainUptoRow.domain false Rows.recordChainUptoRow.laid) (((Rows.OpenSpec.upto Rows.recordChainSpec).at F).post enc Tryz.prog Tryz.f6 false true false false) := by
 refine returnsInHanded_of_row (C := Tryz.checked) (s := Rows.OpenSpec.upto Rows.recordChainSpec) own started (by kernel_rfl) Tryz.func6
  (witness_row_at (enc := enc) (C := Tryz.checked) false (laidW5 os) #[.slice none 0 0, .int .i64 0, .int .i64 0] rfl (by kernel_rfl) (by kernel_rfl) (by kernel_rfl) (recordchain_witness os enc)) ?_
 intro W base args ds gs before hval hW _ hk hsz hL _ _
 exact recordchain_contract H enc W base args ds gs before hval hW hsz (hk _ rfl) (vars_of_laid5 hL).1 (vars_of_laid5 hL).2
theorem recordchain_row : Rows.RecordChainUptoSaid :=
 OpenClaim.holds_of_cond 6 Tryz.f6 rfl rfl rfl rfl rfl rfl rfl ⟨rfl, rfl, rfl, rfl, rfl⟩ rfl rfl rfl rfl rfl (by kernel_rfl) Tryz.func6 (by kernel_rfl)
  (of_decide_eq_true (by kernel_rfl)) (by unfold Func.isWrapper; first | (rw [if_pos (by decide +kernel)]; kernel_rfl) | (rw [if_neg (by decide +kernel)]; exact ⟨rfl, rfl⟩))
  (fun os started H enc _ F => by rw [OpenClaim.pre_eq_preRow]; exact recordchain_lifted os started H enc F)
theorem recordchain_card : Rows.RecordChainUptoCardSaid :=
 Claim7.holds_tied_plain_at .later [] [.data, .data, .data, .data, .pinned] true _ false recordchain_row (fun _ h => by cases h) (by kernel_rfl) (fun _ h => by cases h) recordChainUpto_row_tie rfl ⟨rfl, rfl⟩ (by kernel_rfl) rfl
  (fun f fn hf hfn => by
   obtain rfl : f = 6 := Option.some.inj ((show Tryz.prog.funcNamed "undercroft/undercroftlaw20.RecordChain" = some 6 by kernel_rfl).symm.trans hf) |>.symm
   obtain rfl : fn = Tryz.f6 := (Option.some.inj (Tryz.func6.symm.trans hfn)).symm
   refine ⟨by kernel_rfl, fun j t ht => ?_⟩
   have ha : Tryz.f6.params.toList.all (fun t => Tryz.prog.wantsStandIn t == false) = true := by kernel_rfl
   have hm : t ∈ Tryz.f6.params.toList := by
    have h2 : Tryz.f6.params.toList[j]? = some t := by simpa using ht
    exact List.mem_of_getElem? h2
   have h := List.all_eq_true.1 ha t hm
   rw [beq_iff_eq] at h
   exact h)
  (by kernel_rfl)
end
end Go.Proofs.YtajfjkfnmmfhmaaGreatDoor
