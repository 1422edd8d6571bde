/-
  NARROWER THAN 'FOR EVERY INPUT', by the rows' own cells (each row's printed sentence says how): FrameAsks: laid · FrameAnswers: laid · FrameReads: laid · FrameBack: laid · FrameFeeds: laid · FrameCuts: laid.
  DERIVED. THE GIVEN ROWS OF THIS SEAT. 6 by the template 'for every input the law returns true; each argument reads behind the call as it read before'; 0 by the template 'total and deterministic' (their statements: YtignoocdeghiaaaDoorTotals.lean).
  GIVEN WITH THE SEED: the statements are not yours to turn. If you find one false, say at which input.
  Laid BY PROGRAM, IN A SANDBOX (cutbox-rows.mjs): the forced cells as the released guide's own fill.sh prints them over the translation 85b6eb2869a9aa69… (all of the seat's roots in one cut). By AI agents, Wed Nov 11 2026. No macro, syntax, notation, axiom, sorry.
-/
import Derived.Test.YtignoocdeghiaaaDoorChecked
import GoSem.Claim
import GoSem.ClaimJoined
import GoSem.ClaimMapViews
import Derived.JoinedTies
import Derived.KernelRfl
namespace Go.Proofs.YtignoocdeghiaaaDoor
/- THE CELL 'sum', in the pinned program and in every row, IS THE sha256 OF THE DUMP (.gsa) THAT YtignoocdeghiaaaDoorProg.lean LOADS. Nothing in Lean hashes anything: it is a label: what it is worth is what the hold of that sum in a sandbox is worth. -/
noncomputable def Tryd.pinned : Pinned := { name := "ytignoocdeghiaaadoor", sum := "85b6eb2869a9aa698232285ee794d192f10cf5d583eb0c340c65c1142d2d1d25", checked := Tryd.checked }
namespace Rows
def none {H : Type} : Left H := { results := [], args := [] }

/- WHAT THE LISTED PACKAGE-LEVEL VARIABLES READ AS WHEN THE CALL BEGINS. Each datum BY PROGRAM (the guide's laid-datum.mjs) off the statement by which the dump's own 'gosem.cut.vars' lays the variable. In a bare row this is a premise. The card (YtignoocdeghiaaaDoorCards.lean) ties it to the program's text. -/
def laid_undercroft_sum_primes {H : Type} : DataW H := .agg [.lit (.int .u32 1116352408), .lit (.int .u32 1899447441), .lit (.int .u32 3049323471), .lit (.int .u32 3921009573), .lit (.int .u32 961987163), .lit (.int .u32 1508970993), .lit (.int .u32 2453635748), .lit (.int .u32 2870763221), .lit (.int .u32 3624381080), .lit (.int .u32 310598401), .lit (.int .u32 607225278), .lit (.int .u32 1426881987), .lit (.int .u32 1925078388), .lit (.int .u32 2162078206), .lit (.int .u32 2614888103), .lit (.int .u32 3248222580), .lit (.int .u32 3835390401), .lit (.int .u32 4022224774), .lit (.int .u32 264347078), .lit (.int .u32 604807628), .lit (.int .u32 770255983), .lit (.int .u32 1249150122), .lit (.int .u32 1555081692), .lit (.int .u32 1996064986), .lit (.int .u32 2554220882), .lit (.int .u32 2821834349), .lit (.int .u32 2952996808), .lit (.int .u32 3210313671), .lit (.int .u32 3336571891), .lit (.int .u32 3584528711), .lit (.int .u32 113926993), .lit (.int .u32 338241895), .lit (.int .u32 666307205), .lit (.int .u32 773529912), .lit (.int .u32 1294757372), .lit (.int .u32 1396182291), .lit (.int .u32 1695183700), .lit (.int .u32 1986661051), .lit (.int .u32 2177026350), .lit (.int .u32 2456956037), .lit (.int .u32 2730485921), .lit (.int .u32 2820302411), .lit (.int .u32 3259730800), .lit (.int .u32 3345764771), .lit (.int .u32 3516065817), .lit (.int .u32 3600352804), .lit (.int .u32 4094571909), .lit (.int .u32 275423344), .lit (.int .u32 430227734), .lit (.int .u32 506948616), .lit (.int .u32 659060556), .lit (.int .u32 883997877), .lit (.int .u32 958139571), .lit (.int .u32 1322822218), .lit (.int .u32 1537002063), .lit (.int .u32 1747873779), .lit (.int .u32 1955562222), .lit (.int .u32 2024104815), .lit (.int .u32 2227730452), .lit (.int .u32 2361852424), .lit (.int .u32 2428436474), .lit (.int .u32 2756734187), .lit (.int .u32 3204031479), .lit (.int .u32 3329325298)]
def laid_undercroft_undercroftref02_first {H : Type} : DataW H := .agg [.lit (.int .u32 1779033703), .lit (.int .u32 3144134277), .lit (.int .u32 1013904242), .lit (.int .u32 2773480762), .lit (.int .u32 1359893119), .lit (.int .u32 2600822924), .lit (.int .u32 528734635), .lit (.int .u32 1541459225)]
def laid_undercroft_undercroftref02_rounds {H : Type} : DataW H := .agg [.lit (.int .u32 1116352408), .lit (.int .u32 1899447441), .lit (.int .u32 3049323471), .lit (.int .u32 3921009573), .lit (.int .u32 961987163), .lit (.int .u32 1508970993), .lit (.int .u32 2453635748), .lit (.int .u32 2870763221), .lit (.int .u32 3624381080), .lit (.int .u32 310598401), .lit (.int .u32 607225278), .lit (.int .u32 1426881987), .lit (.int .u32 1925078388), .lit (.int .u32 2162078206), .lit (.int .u32 2614888103), .lit (.int .u32 3248222580), .lit (.int .u32 3835390401), .lit (.int .u32 4022224774), .lit (.int .u32 264347078), .lit (.int .u32 604807628), .lit (.int .u32 770255983), .lit (.int .u32 1249150122), .lit (.int .u32 1555081692), .lit (.int .u32 1996064986), .lit (.int .u32 2554220882), .lit (.int .u32 2821834349), .lit (.int .u32 2952996808), .lit (.int .u32 3210313671), .lit (.int .u32 3336571891), .lit (.int .u32 3584528711), .lit (.int .u32 113926993), .lit (.int .u32 338241895), .lit (.int .u32 666307205), .lit (.int .u32 773529912), .lit (.int .u32 1294757372), .lit (.int .u32 1396182291), .lit (.int .u32 1695183700), .lit (.int .u32 1986661051), .lit (.int .u32 2177026350), .lit (.int .u32 2456956037), .lit (.int .u32 2730485921), .lit (.int .u32 2820302411), .lit (.int .u32 3259730800), .lit (.int .u32 3345764771), .lit (.int .u32 3516065817), .lit (.int .u32 3600352804), .lit (.int .u32 4094571909), .lit (.int .u32 275423344), .lit (.int .u32 430227734), .lit (.int .u32 506948616), .lit (.int .u32 659060556), .lit (.int .u32 883997877), .lit (.int .u32 958139571), .lit (.int .u32 1322822218), .lit (.int .u32 1537002063), .lit (.int .u32 1747873779), .lit (.int .u32 1955562222), .lit (.int .u32 2024104815), .lit (.int .u32 2227730452), .lit (.int .u32 2361852424), .lit (.int .u32 2428436474), .lit (.int .u32 2756734187), .lit (.int .u32 3204031479), .lit (.int .u32 3329325298)]

/-- 'undercroftlaw23.FrameAsks': WHATEVER THE INPUT: true; the input reads as it did. -/
def frameAsksSpec : ChangeSpec := { name := "frameAsks", fn := fun _ => fun
  | [d] => { results := [.lit (.bool true)], args := [d] }
  | _ => none }
def frameAsksRow : OpenClaim := { program := "ytignoocdeghiaaadoor", sum := "85b6eb2869a9aa698232285ee794d192f10cf5d583eb0c340c65c1142d2d1d25", func := "undercroft/undercroftlaw23.FrameAsks", spec := "frameAsks", unfollowed := true, recurses := true, named := ["undercroft/sum.primes", "undercroft/undercroftref02.first", "undercroft/undercroftref02.rounds"], apart := false, laid := [("undercroft/sum.primes", laid_undercroft_sum_primes), ("undercroft/undercroftref02.first", laid_undercroft_undercroftref02_first), ("undercroft/undercroftref02.rounds", laid_undercroft_undercroftref02_rounds)] }
def FrameAsksSaid : Prop := frameAsksRow.holds Tryd.pinned (OpenSpec.ofChange frameAsksSpec)

/-- ITS FALSE NEIGHBOUR: 'it returns false'. Refute it at one input. -/
def frameAsksWrong : ChangeSpec := { name := "frameAsks", fn := fun _ => fun
  | [d] => { results := [.lit (.bool false)], args := [d] }
  | _ => none }
def FrameAsksWrongFalsely : Prop := frameAsksRow.holds Tryd.pinned (OpenSpec.ofChange frameAsksWrong)

/-- 'undercroftlaw23.FrameAnswers': WHATEVER THE INPUT: true; the input reads as it did. -/
def frameAnswersSpec : ChangeSpec := { name := "frameAnswers", fn := fun _ => fun
  | [d] => { results := [.lit (.bool true)], args := [d] }
  | _ => none }
def frameAnswersRow : OpenClaim := { program := "ytignoocdeghiaaadoor", sum := "85b6eb2869a9aa698232285ee794d192f10cf5d583eb0c340c65c1142d2d1d25", func := "undercroft/undercroftlaw23.FrameAnswers", spec := "frameAnswers", unfollowed := true, recurses := true, named := ["undercroft/sum.primes", "undercroft/undercroftref02.first", "undercroft/undercroftref02.rounds"], apart := false, laid := [("undercroft/sum.primes", laid_undercroft_sum_primes), ("undercroft/undercroftref02.first", laid_undercroft_undercroftref02_first), ("undercroft/undercroftref02.rounds", laid_undercroft_undercroftref02_rounds)] }
def FrameAnswersSaid : Prop := frameAnswersRow.holds Tryd.pinned (OpenSpec.ofChange frameAnswersSpec)

/-- ITS FALSE NEIGHBOUR: 'it returns false'. Refute it at one input. -/
def frameAnswersWrong : ChangeSpec := { name := "frameAnswers", fn := fun _ => fun
  | [d] => { results := [.lit (.bool false)], args := [d] }
  | _ => none }
def FrameAnswersWrongFalsely : Prop := frameAnswersRow.holds Tryd.pinned (OpenSpec.ofChange frameAnswersWrong)

/-- 'undercroftlaw23.FrameReads': WHATEVER THE INPUT: true; the input reads as it did. -/
def frameReadsSpec : ChangeSpec := { name := "frameReads", fn := fun _ => fun
  | [d1, d2] => { results := [.lit (.bool true)], args := [d1, d2] }
  | _ => none }
def frameReadsRow : OpenClaim := { program := "ytignoocdeghiaaadoor", sum := "85b6eb2869a9aa698232285ee794d192f10cf5d583eb0c340c65c1142d2d1d25", func := "undercroft/undercroftlaw23.FrameReads", spec := "frameReads", unfollowed := true, recurses := true, named := ["undercroft/sum.primes", "undercroft/undercroftref02.first", "undercroft/undercroftref02.rounds"], apart := false, laid := [("undercroft/sum.primes", laid_undercroft_sum_primes), ("undercroft/undercroftref02.first", laid_undercroft_undercroftref02_first), ("undercroft/undercroftref02.rounds", laid_undercroft_undercroftref02_rounds)] }
def FrameReadsSaid : Prop := frameReadsRow.holds Tryd.pinned (OpenSpec.ofChange frameReadsSpec)

/-- ITS FALSE NEIGHBOUR: 'it returns false'. Refute it at one input. -/
def frameReadsWrong : ChangeSpec := { name := "frameReads", fn := fun _ => fun
  | [d1, d2] => { results := [.lit (.bool false)], args := [d1, d2] }
  | _ => none }
def FrameReadsWrongFalsely : Prop := frameReadsRow.holds Tryd.pinned (OpenSpec.ofChange frameReadsWrong)

/-- 'undercroftlaw23.FrameBack': WHATEVER THE INPUT: true; the input reads as it did. -/
def frameBackSpec : ChangeSpec := { name := "frameBack", fn := fun _ => fun
  | [d1, d2, d3] => { results := [.lit (.bool true)], args := [d1, d2, d3] }
  | _ => none }
def frameBackRow : OpenClaim := { program := "ytignoocdeghiaaadoor", sum := "85b6eb2869a9aa698232285ee794d192f10cf5d583eb0c340c65c1142d2d1d25", func := "undercroft/undercroftlaw23.FrameBack", spec := "frameBack", unfollowed := true, recurses := true, named := ["undercroft/sum.primes"], apart := false, laid := [("undercroft/sum.primes", laid_undercroft_sum_primes)] }
def FrameBackSaid : Prop := frameBackRow.holds Tryd.pinned (OpenSpec.ofChange frameBackSpec)

/-- ITS FALSE NEIGHBOUR: 'it returns false'. Refute it at one input. -/
def frameBackWrong : ChangeSpec := { name := "frameBack", fn := fun _ => fun
  | [d1, d2, d3] => { results := [.lit (.bool false)], args := [d1, d2, d3] }
  | _ => none }
def FrameBackWrongFalsely : Prop := frameBackRow.holds Tryd.pinned (OpenSpec.ofChange frameBackWrong)

/-- 'undercroftlaw23.FrameFeeds': WHATEVER THE INPUT: true; the input reads as it did. -/
def frameFeedsSpec : ChangeSpec := { name := "frameFeeds", fn := fun _ => fun
  | [d] => { results := [.lit (.bool true)], args := [d] }
  | _ => none }
def frameFeedsRow : OpenClaim := { program := "ytignoocdeghiaaadoor", sum := "85b6eb2869a9aa698232285ee794d192f10cf5d583eb0c340c65c1142d2d1d25", func := "undercroft/undercroftlaw23.FrameFeeds", spec := "frameFeeds", unfollowed := true, recurses := true, named := ["undercroft/sum.primes"], apart := false, laid := [("undercroft/sum.primes", laid_undercroft_sum_primes)] }
def FrameFeedsSaid : Prop := frameFeedsRow.holds Tryd.pinned (OpenSpec.ofChange frameFeedsSpec)

/-- ITS FALSE NEIGHBOUR: 'it returns false'. Refute it at one input. -/
def frameFeedsWrong : ChangeSpec := { name := "frameFeeds", fn := fun _ => fun
  | [d] => { results := [.lit (.bool false)], args := [d] }
  | _ => none }
def FrameFeedsWrongFalsely : Prop := frameFeedsRow.holds Tryd.pinned (OpenSpec.ofChange frameFeedsWrong)

/-- 'undercroftlaw23.FrameCuts': WHATEVER THE INPUT: true; the input reads as it did. -/
def frameCutsSpec : ChangeSpec := { name := "frameCuts", fn := fun _ => fun
  | [d1, d2] => { results := [.lit (.bool true)], args := [d1, d2] }
  | _ => none }
def frameCutsRow : OpenClaim := { program := "ytignoocdeghiaaadoor", sum := "85b6eb2869a9aa698232285ee794d192f10cf5d583eb0c340c65c1142d2d1d25", func := "undercroft/undercroftlaw23.FrameCuts", spec := "frameCuts", unfollowed := true, recurses := true, named := ["undercroft/sum.primes"], apart := false, laid := [("undercroft/sum.primes", laid_undercroft_sum_primes)] }
def FrameCutsSaid : Prop := frameCutsRow.holds Tryd.pinned (OpenSpec.ofChange frameCutsSpec)

/-- ITS FALSE NEIGHBOUR: 'it returns false'. Refute it at one input. -/
def frameCutsWrong : ChangeSpec := { name := "frameCuts", fn := fun _ => fun
  | [d1, d2] => { results := [.lit (.bool false)], args := [d1, d2] }
  | _ => none }
def FrameCutsWrongFalsely : Prop := frameCutsRow.holds Tryd.pinned (OpenSpec.ofChange frameCutsWrong)

/- THE SECOND FORM. 'bulk': how many values and letters a reading holds, each counted each time it is reached (what is shared counts as often as it is met; a slice's spare places count too). A statement '..UptoSaid' is the law's where the arguments, and the package variables that the reading takes, are together of bulk at most 1048576: NARROWER than '..Said'. Prove '..Said' where nothing that the law and all that it calls make is longer than what came in: it says more and counts as full. Else prove '..UptoSaid'. A law counts once. -/
mutual
def uptoBulk {H : Type} : DataW H → Nat
  | .lit (.string bytes) => bytes.length + 1
  | .lit _ => 1
  | .nil => 1
  | .ptr d => uptoBulk d + 1
  | .slice elems spare => uptoBulkAll elems + uptoBulkAll spare + 1
  | .agg parts => uptoBulkAll parts + 1
  | .iface _ d => uptoBulk d + 1
  | .map entries => uptoBulkEntries entries + 1
  | .held _ => 1
def uptoBulkAll {H : Type} : List (DataW H) → Nat
  | [] => 0
  | d :: r => uptoBulk d + uptoBulkAll r
def uptoBulkEntries {H : Type} : List (Lit × DataW H) → Nat
  | [] => 0
  | x :: r => uptoBulkEntry x + uptoBulkEntries r
def uptoBulkEntry {H : Type} : Lit × DataW H → Nat
  | (.string bytes, d) => bytes.length + uptoBulk d + 1
  | (_, d) => uptoBulk d + 1
 end
def uptoSmall : (H : Type) → List (DataW H) → Bool := fun _ ds => decide (uptoBulkAll ds ≤ 1048576)
def OpenSpec.upto (s : _root_.Go.ChangeSpec) : _root_.Go.OpenSpec := { _root_.Go.OpenSpec.ofChange s with cond := some uptoSmall }

/-- 'undercroftlaw23.FrameAsks', WHERE WHAT IT READS IS OF BULK AT MOST 1048576: true; the input reads as it did. -/
def frameAsksUptoRow : OpenClaim := { program := "ytignoocdeghiaaadoor", sum := "85b6eb2869a9aa698232285ee794d192f10cf5d583eb0c340c65c1142d2d1d25", func := "undercroft/undercroftlaw23.FrameAsks", spec := "frameAsks", unfollowed := true, recurses := true, named := ["undercroft/sum.primes", "undercroft/undercroftref02.first", "undercroft/undercroftref02.rounds"], apart := false, laid := [("undercroft/sum.primes", laid_undercroft_sum_primes), ("undercroft/undercroftref02.first", laid_undercroft_undercroftref02_first), ("undercroft/undercroftref02.rounds", laid_undercroft_undercroftref02_rounds)], narrowed := true }
def FrameAsksUptoSaid : Prop := frameAsksUptoRow.holds Tryd.pinned (OpenSpec.upto frameAsksSpec)

/-- 'undercroftlaw23.FrameAnswers', WHERE WHAT IT READS IS OF BULK AT MOST 1048576: true; the input reads as it did. -/
def frameAnswersUptoRow : OpenClaim := { program := "ytignoocdeghiaaadoor", sum := "85b6eb2869a9aa698232285ee794d192f10cf5d583eb0c340c65c1142d2d1d25", func := "undercroft/undercroftlaw23.FrameAnswers", spec := "frameAnswers", unfollowed := true, recurses := true, named := ["undercroft/sum.primes", "undercroft/undercroftref02.first", "undercroft/undercroftref02.rounds"], apart := false, laid := [("undercroft/sum.primes", laid_undercroft_sum_primes), ("undercroft/undercroftref02.first", laid_undercroft_undercroftref02_first), ("undercroft/undercroftref02.rounds", laid_undercroft_undercroftref02_rounds)], narrowed := true }
def FrameAnswersUptoSaid : Prop := frameAnswersUptoRow.holds Tryd.pinned (OpenSpec.upto frameAnswersSpec)

/-- 'undercroftlaw23.FrameReads', WHERE WHAT IT READS IS OF BULK AT MOST 1048576: true; the input reads as it did. -/
def frameReadsUptoRow : OpenClaim := { program := "ytignoocdeghiaaadoor", sum := "85b6eb2869a9aa698232285ee794d192f10cf5d583eb0c340c65c1142d2d1d25", func := "undercroft/undercroftlaw23.FrameReads", spec := "frameReads", unfollowed := true, recurses := true, named := ["undercroft/sum.primes", "undercroft/undercroftref02.first", "undercroft/undercroftref02.rounds"], apart := false, laid := [("undercroft/sum.primes", laid_undercroft_sum_primes), ("undercroft/undercroftref02.first", laid_undercroft_undercroftref02_first), ("undercroft/undercroftref02.rounds", laid_undercroft_undercroftref02_rounds)], narrowed := true }
def FrameReadsUptoSaid : Prop := frameReadsUptoRow.holds Tryd.pinned (OpenSpec.upto frameReadsSpec)

/-- 'undercroftlaw23.FrameBack', WHERE WHAT IT READS IS OF BULK AT MOST 1048576: true; the input reads as it did. -/
def frameBackUptoRow : OpenClaim := { program := "ytignoocdeghiaaadoor", sum := "85b6eb2869a9aa698232285ee794d192f10cf5d583eb0c340c65c1142d2d1d25", func := "undercroft/undercroftlaw23.FrameBack", spec := "frameBack", unfollowed := true, recurses := true, named := ["undercroft/sum.primes"], apart := false, laid := [("undercroft/sum.primes", laid_undercroft_sum_primes)], narrowed := true }
def FrameBackUptoSaid : Prop := frameBackUptoRow.holds Tryd.pinned (OpenSpec.upto frameBackSpec)

/-- 'undercroftlaw23.FrameFeeds', WHERE WHAT IT READS IS OF BULK AT MOST 1048576: true; the input reads as it did. -/
def frameFeedsUptoRow : OpenClaim := { program := "ytignoocdeghiaaadoor", sum := "85b6eb2869a9aa698232285ee794d192f10cf5d583eb0c340c65c1142d2d1d25", func := "undercroft/undercroftlaw23.FrameFeeds", spec := "frameFeeds", unfollowed := true, recurses := true, named := ["undercroft/sum.primes"], apart := false, laid := [("undercroft/sum.primes", laid_undercroft_sum_primes)], narrowed := true }
def FrameFeedsUptoSaid : Prop := frameFeedsUptoRow.holds Tryd.pinned (OpenSpec.upto frameFeedsSpec)

/-- 'undercroftlaw23.FrameCuts', WHERE WHAT IT READS IS OF BULK AT MOST 1048576: true; the input reads as it did. -/
def frameCutsUptoRow : OpenClaim := { program := "ytignoocdeghiaaadoor", sum := "85b6eb2869a9aa698232285ee794d192f10cf5d583eb0c340c65c1142d2d1d25", func := "undercroft/undercroftlaw23.FrameCuts", spec := "frameCuts", unfollowed := true, recurses := true, named := ["undercroft/sum.primes"], apart := false, laid := [("undercroft/sum.primes", laid_undercroft_sum_primes)], narrowed := true }
def FrameCutsUptoSaid : Prop := frameCutsUptoRow.holds Tryd.pinned (OpenSpec.upto frameCutsSpec)

end Rows
end Go.Proofs.YtignoocdeghiaaaDoor
