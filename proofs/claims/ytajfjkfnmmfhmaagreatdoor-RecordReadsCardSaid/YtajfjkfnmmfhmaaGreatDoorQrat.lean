/- RecordReads: what decodes is what was encoded, and nothing else decodes. -/
import Derived.Test.YtajfjkfnmmfhmaaGreatDoorTie
import Derived.Test.YtajfjkfnmmfhmaaGreatDoorCards
import Derived.Deep.DeepHandedRow
import Derived.JoinedCond
import Derived.SevenTiedAt
import Derived.Lib.LaidTab
import Derived.Lib.SmallJoins
import Derived.Test.YtajfjkfnmmfhmaaGreatDoorQras
import Derived.Test.YtajfjkfnmmfhmaaGreatDoorQrae
import Derived.Test.YtajfjkfnmmfhmaaGreatDoorQraq
import Derived.Test.YtajfjkfnmmfhmaaGreatDoorQrad
import Derived.Test.YtajfjkfnmmfhmaaGreatDoorQrag
import Derived.Test.YtajfjkfnmmfhmaaGreatDoorQrab
import Derived.Test.YtajfjkfnmmfhmaaGreatDoorQrac
import Derived.Test.YtajfjkfnmmfhmaaGreatDoorQraa
import Derived.Test.YtajfjkfnmmfhmaaGreatDoorQram
import Derived.Test.YtajfjkfnmmfhmaaGreatDoorQrap
import Derived.Test.YtajfjkfnmmfhmaaGreatDoorQrai
import Derived.Test.YtajfjkfnmmfhmaaGreatDoorQrah
import Derived.Test.YtajfjkfnmmfhmaaGreatDoorQrak
import Derived.Test.YtajfjkfnmmfhmaaGreatDoorQraj
import Derived.Test.YtajfjkfnmmfhmaaGreatDoorQrao
import Derived.Test.YtajfjkfnmmfhmaaGreatDoorQran
import Derived.Test.YtajfjkfnmmfhmaaGreatDoorQraf
import Derived.MapKept
import Derived.Maps.Own
import Derived.Maps.OwnOps
import Derived.Lib.Bytealg
import Derived.Deep.Cut
import Derived.Deep.DeepCutAuto
import Derived.Deep.RegionHeld3
import Derived.Test.YtajfjkfnmmfhmaaGreatDoorRows
import Derived.ProofKit
import Derived.OpenShut
import Derived.ChangeOld
import Derived.Deep.Slices
import Derived.SizedLaws
import Derived.Laws.EntriesVeiled
import Derived.DeepKeys
import Derived.Lib.Bytes
import Derived.Deep.QuietTactic
import Derived.BigQuiet
import Derived.Laws.OwnMore
import Derived.StillTailTactics
import Derived.BigRegion
import Derived.Lib.AppendZerosOnto
import Derived.Lib.Overlaps
import Derived.Deep.CutBlock
import Derived.Laws.BitsAllLaws
import Derived.Laws.MakeOwn
import Derived.OrdersHeld
import Derived.StillTail
import Derived.WalkKit
import Derived.WalkSpells
import Derived.WalkLawsBesides
import Derived.Handy
import Derived.Deep.OwnRows
import Derived.Laws.BytesArg
import Derived.Laws.CopyOwn
import Derived.Lib.AppendStr
namespace Go.Proofs.YtajfjkfnmmfhmaaGreatDoor
set_option maxRecDepth 100000
set_option maxHeartbeats 25600000
section
open Go.ChangeShapes Go.WideShapes Go.ChangeAt Go.RowKit Go.Joins
theorem u64_bdS {x : Int} (h : (Lit.int .u64 x).wf = true) : 0 ≤ x ∧ x < 18446744073709551616 := by
 simp [Lit.wf, IntKind.min, IntKind.max, IntKind.signed, IntKind.bits] at h
 omega
set_option maxRecDepth 100000 in
theorem recordreads_witness (os : Os) {H : Type} (enc : TypeId × Value → H) :
  (OpenSpec.ofChange Rows.recordReadsSpec).preRow enc Tryz.prog Tryz.f4 Rows.recordReadsRow.domain false Rows.recordReadsRow.laid ((laidW5 os).forCall (fun _ _ => 0) ⟨#[], #[.slice none 0 0, .agg #[.int .u64 0, .int .u64 0, .int .u64 0, .int .u64 0], .int .i64 0], []⟩).memory #[.slice none 0 0, .agg #[.int .u64 0, .int .u64 0, .int .u64 0, .int .u64 0], .int .i64 0] := by
 have hw : (DataW.whole enc Tryz.prog ((laidW5 os).forCall (fun _ _ => 0) ⟨#[], #[.slice none 0 0, .agg #[.int .u64 0, .int .u64 0, .int .u64 0, .int .u64 0], .int .i64 0], []⟩).memory Tryz.f4.params.toList (OpenSpec.ofChange Rows.recordReadsSpec).vars false (#[.slice none 0 0, .agg #[.int .u64 0, .int .u64 0, .int .u64 0, .int .u64 0], .int .i64 0] : Array Value).toList 8).map (fun x => (x.1, x.2.1)) =
   some ([.nil, .agg [.lit (.int .u64 0), .lit (.int .u64 0), .lit (.int .u64 0), .lit (.int .u64 0)], .lit (.int .i64 0)], []) := by kernel_rfl
 obtain ⟨⟨x1, x2, x3⟩, hx, hx1⟩ := Option.map_eq_some_iff.1 hw
 simp only [Prod.mk.injEq] at hx1
 obtain ⟨rfl, rfl⟩ := hx1
 exact OpenSpec.preRow_of_cond 8 hx (by kernel_rfl) (fun k hk => by cases hk) (by kernel_rfl) (laid_met5 os _)
set_option maxRecDepth 100000 in
theorem recordreads_contract (H : Type) (enc : TypeId × Value → H) (W : World) (base : Nat) (args : Array Value) (ds gs : List (DataW H)) (before : List MemPlace)
  (hval : ∀ (j : Nat) t v, Tryz.f4.params[j]? = some t → args[j]? = some v → Value.okWide Tryz.prog W .any base t v)
  (hW : DataW.Whole enc Tryz.prog Tryz.f4.params.toList Rows.recordReadsSpec.vars false W args.toList ds gs before) (hsz : (DataW.weightsEach Tryz.prog (Tryz.f4.params.toList ++ (OpenSpec.ofChange Rows.recordReadsSpec).bare.plain.varTypes Tryz.prog) (ds ++ gs)).all (· ≤ reachBytes) = true) (hP : Primes W) (hV3 : Vars W) :
  Calls Tryz.prog 4 args W fun e W' => ∃ v, e = .returned v ∧ Rows.recordReadsSpec.post enc Tryz.prog Tryz.f4 false true false false W args v W' := by
 have hW' := hW
 obtain ⟨p, q, hA0, hV, rfl, hfz, hnd⟩ := hW
 have hA : DataW.TrodAll enc Tryz.prog W 0 (fun _ => true) true Tryz.f4.params.toList args.toList ds p := hA0
 rw [Tryz.params4] at hA hval hsz
 obtain ⟨v0, vs0, d0, ds0, p0, q0, hargs, rfl, rfl, h0, r0⟩ := trodAll_cons hA
 obtain ⟨v1, vs1, d1, ds1, p1, q1, rfl, rfl, rfl, h1, r1⟩ := trodAll_cons r0
 obtain ⟨v2, vs2, d2, ds2, p2, q2, rfl, rfl, rfl, h2, r2⟩ := trodAll_cons r1
 obtain ⟨rfl, rfl, rfl⟩ := trodAll_nil r2
 obtain rfl : args = #[v0, v1, v2] := by cases args; simp_all
 obtain ⟨rfl, rfl⟩ := trodVars_none hV
 have lt0 : ∀ x ∈ p0, x.block < W.heap.size := by obtain ⟨m, hm⟩ := h0; exact DataW.trod_lt m _ _ _ hm
 have lt1 : ∀ x ∈ p1, x.block < W.heap.size := by obtain ⟨m, hm⟩ := h1; exact DataW.trod_lt m _ _ _ hm
 obtain ⟨b0, l0, c0, rfl⟩ := okWide_slice Tryz.underlying24 (hval 0 24 v0 rfl rfl)
 obtain ⟨s1, rfl, w1⟩ : ∃ s : S4, v1 = .agg s.arr ∧ s.Bd := by
  obtain ⟨u0, u1, u2, u3, y0, y1, y2, y3, n, rfl, _, _, g0, g1, g2, g3⟩ := open_agg4 Tryz.underlying29 (by kernel_rfl) (by kernel_rfl) (hval 1 29 v1 rfl rfl) h1
  obtain ⟨z0, e0, _, f0⟩ := DataW.trod_int Tryz.underlying27 g0
  obtain ⟨z1, e1, _, f1⟩ := DataW.trod_int Tryz.underlying27 g1
  obtain ⟨z2, e2, _, f2⟩ := DataW.trod_int Tryz.underlying27 g2
  obtain ⟨z3, e3, _, f3⟩ := DataW.trod_int Tryz.underlying27 g3
  simp only [List.cons.injEq, and_true] at e0 e1 e2 e3
  subst e0 e1 e2 e3
  exact ⟨⟨z0, z1, z2, z3⟩, rfl, u64_bdS f0, u64_bdS f1, u64_bdS f2, u64_bdS f3⟩
 obtain ⟨a2, rfl, rfl, rfl, w2⟩ := open_int Tryz.underlying3 (hval 2 3 v2 rfl rfl) h2
 have w0 : Came W b0 l0 c0 ∧ l0 ≤ 140737488351232 := by
  obtain ⟨fuel, hf⟩ := h0
  refine ⟨?_, came_len hf (fun n hn => ?_) b0 l0 c0 rfl⟩
  ·obtain ⟨p, len, cap, he, hh⟩ := came_cells hf
   simp [Value.cells] at he
   obtain ⟨rfl, rfl, rfl⟩ := he
   exact hh
  ·have := List.all_eq_true.1 hsz n (DataW.weights_mem_each (j := 0) rfl rfl n hn)
   simpa using this
 have walk : Calls Tryz.prog 4 #[.slice b0 l0 c0, .agg s1.arr, .int .i64 a2] W fun e w' => e = .returned (.bool true) ∧ Frm [] W w' := by
  obtain ⟨⟨ns, hn, hrd, hb, hsp, hlc, _⟩, hl⟩ := w0; exact recordReads_any b0 l0 c0 ns s1 w1 a2 (by have h := of_decide_eq_true (show decide (-9223372036854775808 ≤ a2 ∧ a2 ≤ 9223372036854775807) = true by simpa [Lit.wf, IntKind.min, IntKind.max, IntKind.signed, IntKind.bits] using w2); exact h.1) (by have h := of_decide_eq_true (show decide (-9223372036854775808 ≤ a2 ∧ a2 ≤ 9223372036854775807) = true by simpa [Lit.wf, IntKind.min, IntKind.max, IntKind.signed, IntKind.bits] using w2); exact h.2) W hn hlc hsp hl hrd hb hP hV3
 clear hA0 hsz
 refine walk.mono fun e W' ⟨he, hg⟩ => ?_
 subst he
 have bel : Below W.heap.size W W' := hg.below (Nat.le_refl _) (by simp)
 exact ⟨_, rfl, _, _, _, [], _, [], hW', trodAll_mk1 (shut_bool Tryz.underlying4 _), (trodAll_cons_mk (Below.trod laidOut (by kernel_rfl) (of_decide_eq_true (by kernel_rfl)) h0 bel lt0) (trodAll_cons_mk (Below.trod laidOut (by kernel_rfl) (of_decide_eq_true (by kernel_rfl)) h1 bel lt1) (trodAll_cons_mk (shut_int Tryz.underlying3 w2) trodAll_mk0))), rfl, bel.frame _, fun h => by cases h⟩
set_option maxRecDepth 100000 in
theorem recordreads_lifted (os : Os) (started : os.Started) (H : Type) (enc : TypeId × Value → H) (F : Stop.Interp) :
  ReturnsInHanded {} Tryz.checked os 4 .any ((OpenSpec.ofChange Rows.recordReadsSpec).preRow enc Tryz.prog Tryz.f4 Rows.recordReadsRow.domain false Rows.recordReadsRow.laid) (((OpenSpec.ofChange Rows.recordReadsSpec).at F).post enc Tryz.prog Tryz.f4 false true false false) := by
 refine returnsInHanded_of_row (C := Tryz.checked) (s := OpenSpec.ofChange Rows.recordReadsSpec) own started (by kernel_rfl) Tryz.func4
  (witness_row_at (enc := enc) (C := Tryz.checked) false (laidW5 os) #[.slice none 0 0, .agg #[.int .u64 0, .int .u64 0, .int .u64 0, .int .u64 0], .int .i64 0] rfl (by kernel_rfl) (by kernel_rfl) (by kernel_rfl) (recordreads_witness os enc)) ?_
 intro W base args ds gs before hval hW _ _ hsz hL _ _
 exact recordreads_contract H enc W base args ds gs before hval hW hsz (vars_of_laid5 hL).1 (vars_of_laid5 hL).2
theorem recordreads_row : Rows.RecordReadsSaid :=
 OpenClaim.holds_of_cond 4 Tryz.f4 rfl rfl rfl rfl rfl rfl rfl ⟨rfl, rfl, rfl, rfl, rfl⟩ rfl rfl rfl rfl rfl (by kernel_rfl) Tryz.func4 (by kernel_rfl)
  (of_decide_eq_true (by kernel_rfl)) (by unfold Func.isWrapper; first | (rw [if_pos (by decide +kernel)]; kernel_rfl) | (rw [if_neg (by decide +kernel)]; exact ⟨rfl, rfl⟩))
  (fun os started H enc _ F => by rw [OpenClaim.pre_eq_preRow]; exact recordreads_lifted os started H enc F)
theorem recordreads_card : Rows.RecordReadsCardSaid :=
 Claim7.holds_tied_plain_at .later [] [.data, .data, .data, .data, .pinned] true _ false recordreads_row (fun _ h => by cases h) (by kernel_rfl) (fun _ h => by cases h) recordReads_row_tie rfl ⟨rfl, rfl⟩ (by kernel_rfl) rfl
  (fun f fn hf hfn => by
   obtain rfl : f = 4 := Option.some.inj ((show Tryz.prog.funcNamed "undercroft/undercroftlaw20.RecordReads" = some 4 by kernel_rfl).symm.trans hf) |>.symm
   obtain rfl : fn = Tryz.f4 := (Option.some.inj (Tryz.func4.symm.trans hfn)).symm
   refine ⟨by kernel_rfl, fun j t ht => ?_⟩
   have ha : Tryz.f4.params.toList.all (fun t => Tryz.prog.wantsStandIn t == false) = true := by kernel_rfl
   have hm : t ∈ Tryz.f4.params.toList := by
    have h2 : Tryz.f4.params.toList[j]? = some t := by simpa using ht
    exact List.mem_of_getElem? h2
   have h := List.all_eq_true.1 ha t hm
   rw [beq_iff_eq] at h
   exact h)
  (by kernel_rfl)
end
end Go.Proofs.YtajfjkfnmmfhmaaGreatDoor
