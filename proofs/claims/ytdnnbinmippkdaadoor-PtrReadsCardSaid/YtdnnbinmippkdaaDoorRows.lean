/-
  NARROWER THAN 'FOR EVERY INPUT', by the rows' own cells (each row's printed sentence says how): PtrWrites: laid · PtrLabels: laid · PtrUbers: laid · PtrReads: laid · PtrBack: laid · PtrFlips: laid.
  DERIVED. THE GIVEN ROWS OF THIS SEAT. 6 by the template 'for every input the law returns true; each argument reads behind the call as it read before'; 0 by the template 'total and deterministic' (their statements: YtdnnbinmippkdaaDoorTotals.lean).
  GIVEN WITH THE SEED: the statements are not yours to turn. If you find one false, say at which input.
  Laid BY PROGRAM, IN A SANDBOX (cutbox-rows.mjs): the forced cells as the released guide's own fill.sh prints them over the translation 68a8e78efe53d817… (all of the seat's roots in one cut). By AI agents, Wed Nov 11 2026. No macro, syntax, notation, axiom, sorry.
-/
import Derived.Test.YtdnnbinmippkdaaDoorChecked
import GoSem.Claim
import GoSem.ClaimJoined
import GoSem.ClaimMapViews
import Derived.JoinedTies
import Derived.KernelRfl
namespace Go.Proofs.YtdnnbinmippkdaaDoor
/- THE CELL 'sum', in the pinned program and in every row, IS THE sha256 OF THE DUMP (.gsa) THAT YtdnnbinmippkdaaDoorProg.lean LOADS. Nothing in Lean hashes anything: it is a label: what it is worth is what the hold of that sum in a sandbox is worth. -/
noncomputable def Tryd.pinned : Pinned := { name := "ytdnnbinmippkdaadoor", sum := "68a8e78efe53d81789826facf068ca511c996709898da7844dcc0aa6b7f3973d", checked := Tryd.checked }
namespace Rows
def none {H : Type} : Left H := { results := [], args := [] }

/- WHAT THE LISTED PACKAGE-LEVEL VARIABLES READ AS WHEN THE CALL BEGINS. Each datum BY PROGRAM (the guide's laid-datum.mjs) off the statement by which the dump's own 'gosem.cut.vars' lays the variable. In a bare row this is a premise. The card (YtdnnbinmippkdaaDoorCards.lean) ties it to the program's text. -/
def laid_undercroft_sum_primes {H : Type} : DataW H := .agg [.lit (.int .u32 1116352408), .lit (.int .u32 1899447441), .lit (.int .u32 3049323471), .lit (.int .u32 3921009573), .lit (.int .u32 961987163), .lit (.int .u32 1508970993), .lit (.int .u32 2453635748), .lit (.int .u32 2870763221), .lit (.int .u32 3624381080), .lit (.int .u32 310598401), .lit (.int .u32 607225278), .lit (.int .u32 1426881987), .lit (.int .u32 1925078388), .lit (.int .u32 2162078206), .lit (.int .u32 2614888103), .lit (.int .u32 3248222580), .lit (.int .u32 3835390401), .lit (.int .u32 4022224774), .lit (.int .u32 264347078), .lit (.int .u32 604807628), .lit (.int .u32 770255983), .lit (.int .u32 1249150122), .lit (.int .u32 1555081692), .lit (.int .u32 1996064986), .lit (.int .u32 2554220882), .lit (.int .u32 2821834349), .lit (.int .u32 2952996808), .lit (.int .u32 3210313671), .lit (.int .u32 3336571891), .lit (.int .u32 3584528711), .lit (.int .u32 113926993), .lit (.int .u32 338241895), .lit (.int .u32 666307205), .lit (.int .u32 773529912), .lit (.int .u32 1294757372), .lit (.int .u32 1396182291), .lit (.int .u32 1695183700), .lit (.int .u32 1986661051), .lit (.int .u32 2177026350), .lit (.int .u32 2456956037), .lit (.int .u32 2730485921), .lit (.int .u32 2820302411), .lit (.int .u32 3259730800), .lit (.int .u32 3345764771), .lit (.int .u32 3516065817), .lit (.int .u32 3600352804), .lit (.int .u32 4094571909), .lit (.int .u32 275423344), .lit (.int .u32 430227734), .lit (.int .u32 506948616), .lit (.int .u32 659060556), .lit (.int .u32 883997877), .lit (.int .u32 958139571), .lit (.int .u32 1322822218), .lit (.int .u32 1537002063), .lit (.int .u32 1747873779), .lit (.int .u32 1955562222), .lit (.int .u32 2024104815), .lit (.int .u32 2227730452), .lit (.int .u32 2361852424), .lit (.int .u32 2428436474), .lit (.int .u32 2756734187), .lit (.int .u32 3204031479), .lit (.int .u32 3329325298)]

/-- 'undercroftlaw04.PtrWrites': WHATEVER THE INPUT: true; the input reads as it did. -/
def ptrWritesSpec : ChangeSpec := { name := "ptrWrites", fn := fun _ => fun
  | [d] => { results := [.lit (.bool true)], args := [d] }
  | _ => none }
def ptrWritesRow : OpenClaim := { program := "ytdnnbinmippkdaadoor", sum := "68a8e78efe53d81789826facf068ca511c996709898da7844dcc0aa6b7f3973d", func := "undercroft/undercroftlaw04.PtrWrites", spec := "ptrWrites", unfollowed := true, recurses := true, named := ["undercroft/sum.primes"], apart := false, laid := [("undercroft/sum.primes", laid_undercroft_sum_primes)] }
def PtrWritesSaid : Prop := ptrWritesRow.holds Tryd.pinned (OpenSpec.ofChange ptrWritesSpec)

/-- ITS FALSE NEIGHBOUR: 'it returns false'. Refute it at one input. -/
def ptrWritesWrong : ChangeSpec := { name := "ptrWrites", fn := fun _ => fun
  | [d] => { results := [.lit (.bool false)], args := [d] }
  | _ => none }
def PtrWritesWrongFalsely : Prop := ptrWritesRow.holds Tryd.pinned (OpenSpec.ofChange ptrWritesWrong)

/-- 'undercroftlaw04.PtrLabels': WHATEVER THE INPUT: true; the input reads as it did. -/
def ptrLabelsSpec : ChangeSpec := { name := "ptrLabels", fn := fun _ => fun
  | [d] => { results := [.lit (.bool true)], args := [d] }
  | _ => none }
def ptrLabelsRow : OpenClaim := { program := "ytdnnbinmippkdaadoor", sum := "68a8e78efe53d81789826facf068ca511c996709898da7844dcc0aa6b7f3973d", func := "undercroft/undercroftlaw04.PtrLabels", spec := "ptrLabels", unfollowed := true, recurses := true, named := ["undercroft/sum.primes"], apart := false, laid := [("undercroft/sum.primes", laid_undercroft_sum_primes)] }
def PtrLabelsSaid : Prop := ptrLabelsRow.holds Tryd.pinned (OpenSpec.ofChange ptrLabelsSpec)

/-- ITS FALSE NEIGHBOUR: 'it returns false'. Refute it at one input. -/
def ptrLabelsWrong : ChangeSpec := { name := "ptrLabels", fn := fun _ => fun
  | [d] => { results := [.lit (.bool false)], args := [d] }
  | _ => none }
def PtrLabelsWrongFalsely : Prop := ptrLabelsRow.holds Tryd.pinned (OpenSpec.ofChange ptrLabelsWrong)

/-- 'undercroftlaw04.PtrUbers': WHATEVER THE INPUT: true; the input reads as it did. -/
def ptrUbersSpec : ChangeSpec := { name := "ptrUbers", fn := fun _ => fun
  | [d] => { results := [.lit (.bool true)], args := [d] }
  | _ => none }
def ptrUbersRow : OpenClaim := { program := "ytdnnbinmippkdaadoor", sum := "68a8e78efe53d81789826facf068ca511c996709898da7844dcc0aa6b7f3973d", func := "undercroft/undercroftlaw04.PtrUbers", spec := "ptrUbers", unfollowed := true, recurses := true, named := ["undercroft/sum.primes"], apart := false, laid := [("undercroft/sum.primes", laid_undercroft_sum_primes)] }
def PtrUbersSaid : Prop := ptrUbersRow.holds Tryd.pinned (OpenSpec.ofChange ptrUbersSpec)

/-- ITS FALSE NEIGHBOUR: 'it returns false'. Refute it at one input. -/
def ptrUbersWrong : ChangeSpec := { name := "ptrUbers", fn := fun _ => fun
  | [d] => { results := [.lit (.bool false)], args := [d] }
  | _ => none }
def PtrUbersWrongFalsely : Prop := ptrUbersRow.holds Tryd.pinned (OpenSpec.ofChange ptrUbersWrong)

/-- 'undercroftlaw04.PtrReads': WHATEVER THE INPUT: true; the input reads as it did. -/
def ptrReadsSpec : ChangeSpec := { name := "ptrReads", fn := fun _ => fun
  | [d] => { results := [.lit (.bool true)], args := [d] }
  | _ => none }
def ptrReadsRow : OpenClaim := { program := "ytdnnbinmippkdaadoor", sum := "68a8e78efe53d81789826facf068ca511c996709898da7844dcc0aa6b7f3973d", func := "undercroft/undercroftlaw04.PtrReads", spec := "ptrReads", unfollowed := true, recurses := true, named := ["undercroft/sum.primes"], apart := false, laid := [("undercroft/sum.primes", laid_undercroft_sum_primes)] }
def PtrReadsSaid : Prop := ptrReadsRow.holds Tryd.pinned (OpenSpec.ofChange ptrReadsSpec)

/-- ITS FALSE NEIGHBOUR: 'it returns false'. Refute it at one input. -/
def ptrReadsWrong : ChangeSpec := { name := "ptrReads", fn := fun _ => fun
  | [d] => { results := [.lit (.bool false)], args := [d] }
  | _ => none }
def PtrReadsWrongFalsely : Prop := ptrReadsRow.holds Tryd.pinned (OpenSpec.ofChange ptrReadsWrong)

/-- 'undercroftlaw04.PtrBack': WHATEVER THE INPUT: true; the input reads as it did. -/
def ptrBackSpec : ChangeSpec := { name := "ptrBack", fn := fun _ => fun
  | [d1, d2, d3, d4] => { results := [.lit (.bool true)], args := [d1, d2, d3, d4] }
  | _ => none }
def ptrBackRow : OpenClaim := { program := "ytdnnbinmippkdaadoor", sum := "68a8e78efe53d81789826facf068ca511c996709898da7844dcc0aa6b7f3973d", func := "undercroft/undercroftlaw04.PtrBack", spec := "ptrBack", unfollowed := true, recurses := true, named := ["undercroft/sum.primes"], apart := false, laid := [("undercroft/sum.primes", laid_undercroft_sum_primes)] }
def PtrBackSaid : Prop := ptrBackRow.holds Tryd.pinned (OpenSpec.ofChange ptrBackSpec)

/-- ITS FALSE NEIGHBOUR: 'it returns false'. Refute it at one input. -/
def ptrBackWrong : ChangeSpec := { name := "ptrBack", fn := fun _ => fun
  | [d1, d2, d3, d4] => { results := [.lit (.bool false)], args := [d1, d2, d3, d4] }
  | _ => none }
def PtrBackWrongFalsely : Prop := ptrBackRow.holds Tryd.pinned (OpenSpec.ofChange ptrBackWrong)

/-- 'undercroftlaw04.PtrFlips': WHATEVER THE INPUT: true; the input reads as it did. -/
def ptrFlipsSpec : ChangeSpec := { name := "ptrFlips", fn := fun _ => fun
  | [d1, d2, d3, d4, d5] => { results := [.lit (.bool true)], args := [d1, d2, d3, d4, d5] }
  | _ => none }
def ptrFlipsRow : OpenClaim := { program := "ytdnnbinmippkdaadoor", sum := "68a8e78efe53d81789826facf068ca511c996709898da7844dcc0aa6b7f3973d", func := "undercroft/undercroftlaw04.PtrFlips", spec := "ptrFlips", unfollowed := true, recurses := true, named := ["undercroft/sum.primes"], apart := false, laid := [("undercroft/sum.primes", laid_undercroft_sum_primes)] }
def PtrFlipsSaid : Prop := ptrFlipsRow.holds Tryd.pinned (OpenSpec.ofChange ptrFlipsSpec)

/-- ITS FALSE NEIGHBOUR: 'it returns false'. Refute it at one input. -/
def ptrFlipsWrong : ChangeSpec := { name := "ptrFlips", fn := fun _ => fun
  | [d1, d2, d3, d4, d5] => { results := [.lit (.bool false)], args := [d1, d2, d3, d4, d5] }
  | _ => none }
def PtrFlipsWrongFalsely : Prop := ptrFlipsRow.holds Tryd.pinned (OpenSpec.ofChange ptrFlipsWrong)

/- THE SECOND FORM. 'bulk': how many values and letters a reading holds, each counted each time it is reached (what is shared counts as often as it is met; a slice's spare places count too). A statement '..UptoSaid' is the law's where the arguments, and the package variables that the reading takes, are together of bulk at most 1048576: NARROWER than '..Said'. Prove '..Said' where nothing that the law and all that it calls make is longer than what came in: it says more and counts as full. Else prove '..UptoSaid'. A law counts once. -/
mutual
def uptoBulk {H : Type} : DataW H → Nat
  | .lit (.string bytes) => bytes.length + 1
  | .lit _ => 1
  | .nil => 1
  | .ptr d => uptoBulk d + 1
  | .slice elems spare => uptoBulkAll elems + uptoBulkAll spare + 1
  | .agg parts => uptoBulkAll parts + 1
  | .iface _ d => uptoBulk d + 1
  | .map entries => uptoBulkEntries entries + 1
  | .held _ => 1
def uptoBulkAll {H : Type} : List (DataW H) → Nat
  | [] => 0
  | d :: r => uptoBulk d + uptoBulkAll r
def uptoBulkEntries {H : Type} : List (Lit × DataW H) → Nat
  | [] => 0
  | x :: r => uptoBulkEntry x + uptoBulkEntries r
def uptoBulkEntry {H : Type} : Lit × DataW H → Nat
  | (.string bytes, d) => bytes.length + uptoBulk d + 1
  | (_, d) => uptoBulk d + 1
 end
def uptoSmall : (H : Type) → List (DataW H) → Bool := fun _ ds => decide (uptoBulkAll ds ≤ 1048576)
def OpenSpec.upto (s : _root_.Go.ChangeSpec) : _root_.Go.OpenSpec := { _root_.Go.OpenSpec.ofChange s with cond := some uptoSmall }

/-- 'undercroftlaw04.PtrWrites', WHERE WHAT IT READS IS OF BULK AT MOST 1048576: true; the input reads as it did. -/
def ptrWritesUptoRow : OpenClaim := { program := "ytdnnbinmippkdaadoor", sum := "68a8e78efe53d81789826facf068ca511c996709898da7844dcc0aa6b7f3973d", func := "undercroft/undercroftlaw04.PtrWrites", spec := "ptrWrites", unfollowed := true, recurses := true, named := ["undercroft/sum.primes"], apart := false, laid := [("undercroft/sum.primes", laid_undercroft_sum_primes)], narrowed := true }
def PtrWritesUptoSaid : Prop := ptrWritesUptoRow.holds Tryd.pinned (OpenSpec.upto ptrWritesSpec)

/-- 'undercroftlaw04.PtrLabels', WHERE WHAT IT READS IS OF BULK AT MOST 1048576: true; the input reads as it did. -/
def ptrLabelsUptoRow : OpenClaim := { program := "ytdnnbinmippkdaadoor", sum := "68a8e78efe53d81789826facf068ca511c996709898da7844dcc0aa6b7f3973d", func := "undercroft/undercroftlaw04.PtrLabels", spec := "ptrLabels", unfollowed := true, recurses := true, named := ["undercroft/sum.primes"], apart := false, laid := [("undercroft/sum.primes", laid_undercroft_sum_primes)], narrowed := true }
def PtrLabelsUptoSaid : Prop := ptrLabelsUptoRow.holds Tryd.pinned (OpenSpec.upto ptrLabelsSpec)

/-- 'undercroftlaw04.PtrUbers', WHERE WHAT IT READS IS OF BULK AT MOST 1048576: true; the input reads as it did. -/
def ptrUbersUptoRow : OpenClaim := { program := "ytdnnbinmippkdaadoor", sum := "68a8e78efe53d81789826facf068ca511c996709898da7844dcc0aa6b7f3973d", func := "undercroft/undercroftlaw04.PtrUbers", spec := "ptrUbers", unfollowed := true, recurses := true, named := ["undercroft/sum.primes"], apart := false, laid := [("undercroft/sum.primes", laid_undercroft_sum_primes)], narrowed := true }
def PtrUbersUptoSaid : Prop := ptrUbersUptoRow.holds Tryd.pinned (OpenSpec.upto ptrUbersSpec)

/-- 'undercroftlaw04.PtrReads', WHERE WHAT IT READS IS OF BULK AT MOST 1048576: true; the input reads as it did. -/
def ptrReadsUptoRow : OpenClaim := { program := "ytdnnbinmippkdaadoor", sum := "68a8e78efe53d81789826facf068ca511c996709898da7844dcc0aa6b7f3973d", func := "undercroft/undercroftlaw04.PtrReads", spec := "ptrReads", unfollowed := true, recurses := true, named := ["undercroft/sum.primes"], apart := false, laid := [("undercroft/sum.primes", laid_undercroft_sum_primes)], narrowed := true }
def PtrReadsUptoSaid : Prop := ptrReadsUptoRow.holds Tryd.pinned (OpenSpec.upto ptrReadsSpec)

/-- 'undercroftlaw04.PtrBack', WHERE WHAT IT READS IS OF BULK AT MOST 1048576: true; the input reads as it did. -/
def ptrBackUptoRow : OpenClaim := { program := "ytdnnbinmippkdaadoor", sum := "68a8e78efe53d81789826facf068ca511c996709898da7844dcc0aa6b7f3973d", func := "undercroft/undercroftlaw04.PtrBack", spec := "ptrBack", unfollowed := true, recurses := true, named := ["undercroft/sum.primes"], apart := false, laid := [("undercroft/sum.primes", laid_undercroft_sum_primes)], narrowed := true }
def PtrBackUptoSaid : Prop := ptrBackUptoRow.holds Tryd.pinned (OpenSpec.upto ptrBackSpec)

/-- 'undercroftlaw04.PtrFlips', WHERE WHAT IT READS IS OF BULK AT MOST 1048576: true; the input reads as it did. -/
def ptrFlipsUptoRow : OpenClaim := { program := "ytdnnbinmippkdaadoor", sum := "68a8e78efe53d81789826facf068ca511c996709898da7844dcc0aa6b7f3973d", func := "undercroft/undercroftlaw04.PtrFlips", spec := "ptrFlips", unfollowed := true, recurses := true, named := ["undercroft/sum.primes"], apart := false, laid := [("undercroft/sum.primes", laid_undercroft_sum_primes)], narrowed := true }
def PtrFlipsUptoSaid : Prop := ptrFlipsUptoRow.holds Tryd.pinned (OpenSpec.upto ptrFlipsSpec)

end Rows
end Go.Proofs.YtdnnbinmippkdaaDoor
