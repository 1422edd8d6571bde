/-
  No cell of these rows narrows 'for every input' (looked for: loops, veiled, ifaces, maps, wideKeys, modest, calm, conditions, laid).
  DERIVED. THE GIVEN ROWS OF THIS SEAT. 8 by the template 'for every input the law returns true; each argument reads behind the call as it read before'; 0 by the template 'total and deterministic' (their statements: YtkbppkimpefilaaTotals.lean).
  GIVEN WITH THE SEED: the statements are not yours to turn. If you find one false, say at which input.
  Laid BY PROGRAM, IN A SANDBOX (cutbox-rows.mjs): the forced cells as the released guide's own fill.sh prints them over the translation ba8769d05f762abe… (all of the seat's roots in one cut). By AI agents, Wed Nov 11 2026. No macro, syntax, notation, axiom, sorry.
-/
import Derived.Test.YtkbppkimpefilaaChecked
import GoSem.Claim
import GoSem.ClaimJoined
import GoSem.ClaimMapViews
import Derived.JoinedTies
import Derived.KernelRfl
namespace Go.Proofs.Ytkbppkimpefilaa
/- THE CELL 'sum', in the pinned program and in every row, IS THE sha256 OF THE DUMP (.gsa) THAT YtkbppkimpefilaaProg.lean LOADS. Nothing in Lean hashes anything: it is a label: what it is worth is what the hold of that sum in a sandbox is worth. -/
noncomputable def Try.pinned : Pinned := { name := "ytkbppkimpefilaa", sum := "ba8769d05f762abe22798f30bb747ed8d663c702425d8087a43bc9fce2c04c96", checked := Try.checked }
namespace Rows
def none {H : Type} : Left H := { results := [], args := [] }

/-- 'undercroftlaw10.SpaceWrites': WHATEVER THE INPUT: true; the input reads as it did. -/
def spaceWritesSpec : ChangeSpec := { name := "spaceWrites", fn := fun _ => fun
  | [d] => { results := [.lit (.bool true)], args := [d] }
  | _ => none }
def spaceWritesRow : OpenClaim := { program := "ytkbppkimpefilaa", sum := "ba8769d05f762abe22798f30bb747ed8d663c702425d8087a43bc9fce2c04c96", func := "undercroft/undercroftlaw10.SpaceWrites", spec := "spaceWrites", inPlace := ["slices.overlaps[undercroft/api.Span]"], unfollowed := true, recurses := true, apart := false }
def SpaceWritesSaid : Prop := spaceWritesRow.holds Try.pinned (OpenSpec.ofChange spaceWritesSpec)

/-- ITS FALSE NEIGHBOUR: 'it returns false'. Refute it at one input. -/
def spaceWritesWrong : ChangeSpec := { name := "spaceWrites", fn := fun _ => fun
  | [d] => { results := [.lit (.bool false)], args := [d] }
  | _ => none }
def SpaceWritesWrongFalsely : Prop := spaceWritesRow.holds Try.pinned (OpenSpec.ofChange spaceWritesWrong)

/-- 'undercroftlaw10.SpaceReads': WHATEVER THE INPUT: true; the input reads as it did. -/
def spaceReadsSpec : ChangeSpec := { name := "spaceReads", fn := fun _ => fun
  | [d] => { results := [.lit (.bool true)], args := [d] }
  | _ => none }
def spaceReadsRow : OpenClaim := { program := "ytkbppkimpefilaa", sum := "ba8769d05f762abe22798f30bb747ed8d663c702425d8087a43bc9fce2c04c96", func := "undercroft/undercroftlaw10.SpaceReads", spec := "spaceReads", inPlace := ["slices.overlaps[undercroft/api.Span]"], unfollowed := true, recurses := true, apart := false }
def SpaceReadsSaid : Prop := spaceReadsRow.holds Try.pinned (OpenSpec.ofChange spaceReadsSpec)

/-- ITS FALSE NEIGHBOUR: 'it returns false'. Refute it at one input. -/
def spaceReadsWrong : ChangeSpec := { name := "spaceReads", fn := fun _ => fun
  | [d] => { results := [.lit (.bool false)], args := [d] }
  | _ => none }
def SpaceReadsWrongFalsely : Prop := spaceReadsRow.holds Try.pinned (OpenSpec.ofChange spaceReadsWrong)

/-- 'undercroftlaw10.SpaceShort': WHATEVER THE INPUT: true; the input reads as it did. -/
def spaceShortSpec : ChangeSpec := { name := "spaceShort", fn := fun _ => fun
  | [d1, d2] => { results := [.lit (.bool true)], args := [d1, d2] }
  | _ => none }
def spaceShortRow : OpenClaim := { program := "ytkbppkimpefilaa", sum := "ba8769d05f762abe22798f30bb747ed8d663c702425d8087a43bc9fce2c04c96", func := "undercroft/undercroftlaw10.SpaceShort", spec := "spaceShort", inPlace := ["slices.overlaps[undercroft/api.Span]"], unfollowed := true, recurses := true, apart := false }
def SpaceShortSaid : Prop := spaceShortRow.holds Try.pinned (OpenSpec.ofChange spaceShortSpec)

/-- ITS FALSE NEIGHBOUR: 'it returns false'. Refute it at one input. -/
def spaceShortWrong : ChangeSpec := { name := "spaceShort", fn := fun _ => fun
  | [d1, d2] => { results := [.lit (.bool false)], args := [d1, d2] }
  | _ => none }
def SpaceShortWrongFalsely : Prop := spaceShortRow.holds Try.pinned (OpenSpec.ofChange spaceShortWrong)

/-- 'undercroftlaw10.SpaceJoins': WHATEVER THE INPUT: true; the input reads as it did. -/
def spaceJoinsSpec : ChangeSpec := { name := "spaceJoins", fn := fun _ => fun
  | [d1, d2] => { results := [.lit (.bool true)], args := [d1, d2] }
  | _ => none }
def spaceJoinsRow : OpenClaim := { program := "ytkbppkimpefilaa", sum := "ba8769d05f762abe22798f30bb747ed8d663c702425d8087a43bc9fce2c04c96", func := "undercroft/undercroftlaw10.SpaceJoins", spec := "spaceJoins", inPlace := ["slices.overlaps[undercroft/api.Span]"], unfollowed := true, recurses := true, apart := false }
def SpaceJoinsSaid : Prop := spaceJoinsRow.holds Try.pinned (OpenSpec.ofChange spaceJoinsSpec)

/-- ITS FALSE NEIGHBOUR: 'it returns false'. Refute it at one input. -/
def spaceJoinsWrong : ChangeSpec := { name := "spaceJoins", fn := fun _ => fun
  | [d1, d2] => { results := [.lit (.bool false)], args := [d1, d2] }
  | _ => none }
def SpaceJoinsWrongFalsely : Prop := spaceJoinsRow.holds Try.pinned (OpenSpec.ofChange spaceJoinsWrong)

/-- 'undercroftlaw11.AllocDoes': WHATEVER THE INPUT: true; the input reads as it did. -/
def allocDoesSpec : ChangeSpec := { name := "allocDoes", fn := fun _ => fun
  | [d1, d2, d3] => { results := [.lit (.bool true)], args := [d1, d2, d3] }
  | _ => none }
def allocDoesRow : OpenClaim := { program := "ytkbppkimpefilaa", sum := "ba8769d05f762abe22798f30bb747ed8d663c702425d8087a43bc9fce2c04c96", func := "undercroft/undercroftlaw11.AllocDoes", spec := "allocDoes", inPlace := ["slices.overlaps[undercroft/api.Span]"], unfollowed := true, recurses := true, apart := false }
def AllocDoesSaid : Prop := allocDoesRow.holds Try.pinned (OpenSpec.ofChange allocDoesSpec)

/-- ITS FALSE NEIGHBOUR: 'it returns false'. Refute it at one input. -/
def allocDoesWrong : ChangeSpec := { name := "allocDoes", fn := fun _ => fun
  | [d1, d2, d3] => { results := [.lit (.bool false)], args := [d1, d2, d3] }
  | _ => none }
def AllocDoesWrongFalsely : Prop := allocDoesRow.holds Try.pinned (OpenSpec.ofChange allocDoesWrong)

/-- 'undercroftlaw11.AllocSafe': WHATEVER THE INPUT: true; the input reads as it did. -/
def allocSafeSpec : ChangeSpec := { name := "allocSafe", fn := fun _ => fun
  | [d1, d2, d3] => { results := [.lit (.bool true)], args := [d1, d2, d3] }
  | _ => none }
def allocSafeRow : OpenClaim := { program := "ytkbppkimpefilaa", sum := "ba8769d05f762abe22798f30bb747ed8d663c702425d8087a43bc9fce2c04c96", func := "undercroft/undercroftlaw11.AllocSafe", spec := "allocSafe", inPlace := ["slices.overlaps[undercroft/api.Span]"], unfollowed := true, recurses := true, apart := false }
def AllocSafeSaid : Prop := allocSafeRow.holds Try.pinned (OpenSpec.ofChange allocSafeSpec)

/-- ITS FALSE NEIGHBOUR: 'it returns false'. Refute it at one input. -/
def allocSafeWrong : ChangeSpec := { name := "allocSafe", fn := fun _ => fun
  | [d1, d2, d3] => { results := [.lit (.bool false)], args := [d1, d2, d3] }
  | _ => none }
def AllocSafeWrongFalsely : Prop := allocSafeRow.holds Try.pinned (OpenSpec.ofChange allocSafeWrong)

/-- 'undercroftlaw11.AllocWhole': WHATEVER THE INPUT: true; the input reads as it did. -/
def allocWholeSpec : ChangeSpec := { name := "allocWhole", fn := fun _ => fun
  | [d1, d2] => { results := [.lit (.bool true)], args := [d1, d2] }
  | _ => none }
def allocWholeRow : OpenClaim := { program := "ytkbppkimpefilaa", sum := "ba8769d05f762abe22798f30bb747ed8d663c702425d8087a43bc9fce2c04c96", func := "undercroft/undercroftlaw11.AllocWhole", spec := "allocWhole", inPlace := ["slices.overlaps[undercroft/api.Span]"], unfollowed := true, recurses := true, apart := false }
def AllocWholeSaid : Prop := allocWholeRow.holds Try.pinned (OpenSpec.ofChange allocWholeSpec)

/-- ITS FALSE NEIGHBOUR: 'it returns false'. Refute it at one input. -/
def allocWholeWrong : ChangeSpec := { name := "allocWhole", fn := fun _ => fun
  | [d1, d2] => { results := [.lit (.bool false)], args := [d1, d2] }
  | _ => none }
def AllocWholeWrongFalsely : Prop := allocWholeRow.holds Try.pinned (OpenSpec.ofChange allocWholeWrong)

/-- 'undercroftlaw11.AllocAgain': WHATEVER THE INPUT: true; the input reads as it did. -/
def allocAgainSpec : ChangeSpec := { name := "allocAgain", fn := fun _ => fun
  | [d1, d2, d3] => { results := [.lit (.bool true)], args := [d1, d2, d3] }
  | _ => none }
def allocAgainRow : OpenClaim := { program := "ytkbppkimpefilaa", sum := "ba8769d05f762abe22798f30bb747ed8d663c702425d8087a43bc9fce2c04c96", func := "undercroft/undercroftlaw11.AllocAgain", spec := "allocAgain", inPlace := ["slices.overlaps[undercroft/api.Span]"], unfollowed := true, recurses := true, apart := false }
def AllocAgainSaid : Prop := allocAgainRow.holds Try.pinned (OpenSpec.ofChange allocAgainSpec)

/-- ITS FALSE NEIGHBOUR: 'it returns false'. Refute it at one input. -/
def allocAgainWrong : ChangeSpec := { name := "allocAgain", fn := fun _ => fun
  | [d1, d2, d3] => { results := [.lit (.bool false)], args := [d1, d2, d3] }
  | _ => none }
def AllocAgainWrongFalsely : Prop := allocAgainRow.holds Try.pinned (OpenSpec.ofChange allocAgainWrong)

/- THE SECOND FORM. 'bulk': how many values and letters a reading holds, each counted each time it is reached (what is shared counts as often as it is met; a slice's spare places count too). A statement '..UptoSaid' is the law's where the arguments, and the package variables that the reading takes, are together of bulk at most 1048576: NARROWER than '..Said'. Prove '..Said' where nothing that the law and all that it calls make is longer than what came in: it says more and counts as full. Else prove '..UptoSaid'. A law counts once. -/
mutual
def uptoBulk {H : Type} : DataW H → Nat
  | .lit (.string bytes) => bytes.length + 1
  | .lit _ => 1
  | .nil => 1
  | .ptr d => uptoBulk d + 1
  | .slice elems spare => uptoBulkAll elems + uptoBulkAll spare + 1
  | .agg parts => uptoBulkAll parts + 1
  | .iface _ d => uptoBulk d + 1
  | .map entries => uptoBulkEntries entries + 1
  | .held _ => 1
def uptoBulkAll {H : Type} : List (DataW H) → Nat
  | [] => 0
  | d :: r => uptoBulk d + uptoBulkAll r
def uptoBulkEntries {H : Type} : List (Lit × DataW H) → Nat
  | [] => 0
  | x :: r => uptoBulkEntry x + uptoBulkEntries r
def uptoBulkEntry {H : Type} : Lit × DataW H → Nat
  | (.string bytes, d) => bytes.length + uptoBulk d + 1
  | (_, d) => uptoBulk d + 1
 end
def uptoSmall : (H : Type) → List (DataW H) → Bool := fun _ ds => decide (uptoBulkAll ds ≤ 1048576)
def OpenSpec.upto (s : _root_.Go.ChangeSpec) : _root_.Go.OpenSpec := { _root_.Go.OpenSpec.ofChange s with cond := some uptoSmall }

/-- 'undercroftlaw10.SpaceWrites', WHERE WHAT IT READS IS OF BULK AT MOST 1048576: true; the input reads as it did. -/
def spaceWritesUptoRow : OpenClaim := { program := "ytkbppkimpefilaa", sum := "ba8769d05f762abe22798f30bb747ed8d663c702425d8087a43bc9fce2c04c96", func := "undercroft/undercroftlaw10.SpaceWrites", spec := "spaceWrites", inPlace := ["slices.overlaps[undercroft/api.Span]"], unfollowed := true, recurses := true, apart := false, narrowed := true }
def SpaceWritesUptoSaid : Prop := spaceWritesUptoRow.holds Try.pinned (OpenSpec.upto spaceWritesSpec)

/-- 'undercroftlaw10.SpaceReads', WHERE WHAT IT READS IS OF BULK AT MOST 1048576: true; the input reads as it did. -/
def spaceReadsUptoRow : OpenClaim := { program := "ytkbppkimpefilaa", sum := "ba8769d05f762abe22798f30bb747ed8d663c702425d8087a43bc9fce2c04c96", func := "undercroft/undercroftlaw10.SpaceReads", spec := "spaceReads", inPlace := ["slices.overlaps[undercroft/api.Span]"], unfollowed := true, recurses := true, apart := false, narrowed := true }
def SpaceReadsUptoSaid : Prop := spaceReadsUptoRow.holds Try.pinned (OpenSpec.upto spaceReadsSpec)

/-- 'undercroftlaw10.SpaceShort', WHERE WHAT IT READS IS OF BULK AT MOST 1048576: true; the input reads as it did. -/
def spaceShortUptoRow : OpenClaim := { program := "ytkbppkimpefilaa", sum := "ba8769d05f762abe22798f30bb747ed8d663c702425d8087a43bc9fce2c04c96", func := "undercroft/undercroftlaw10.SpaceShort", spec := "spaceShort", inPlace := ["slices.overlaps[undercroft/api.Span]"], unfollowed := true, recurses := true, apart := false, narrowed := true }
def SpaceShortUptoSaid : Prop := spaceShortUptoRow.holds Try.pinned (OpenSpec.upto spaceShortSpec)

/-- 'undercroftlaw10.SpaceJoins', WHERE WHAT IT READS IS OF BULK AT MOST 1048576: true; the input reads as it did. -/
def spaceJoinsUptoRow : OpenClaim := { program := "ytkbppkimpefilaa", sum := "ba8769d05f762abe22798f30bb747ed8d663c702425d8087a43bc9fce2c04c96", func := "undercroft/undercroftlaw10.SpaceJoins", spec := "spaceJoins", inPlace := ["slices.overlaps[undercroft/api.Span]"], unfollowed := true, recurses := true, apart := false, narrowed := true }
def SpaceJoinsUptoSaid : Prop := spaceJoinsUptoRow.holds Try.pinned (OpenSpec.upto spaceJoinsSpec)

/-- 'undercroftlaw11.AllocDoes', WHERE WHAT IT READS IS OF BULK AT MOST 1048576: true; the input reads as it did. -/
def allocDoesUptoRow : OpenClaim := { program := "ytkbppkimpefilaa", sum := "ba8769d05f762abe22798f30bb747ed8d663c702425d8087a43bc9fce2c04c96", func := "undercroft/undercroftlaw11.AllocDoes", spec := "allocDoes", inPlace := ["slices.overlaps[undercroft/api.Span]"], unfollowed := true, recurses := true, apart := false, narrowed := true }
def AllocDoesUptoSaid : Prop := allocDoesUptoRow.holds Try.pinned (OpenSpec.upto allocDoesSpec)

/-- 'undercroftlaw11.AllocSafe', WHERE WHAT IT READS IS OF BULK AT MOST 1048576: true; the input reads as it did. -/
def allocSafeUptoRow : OpenClaim := { program := "ytkbppkimpefilaa", sum := "ba8769d05f762abe22798f30bb747ed8d663c702425d8087a43bc9fce2c04c96", func := "undercroft/undercroftlaw11.AllocSafe", spec := "allocSafe", inPlace := ["slices.overlaps[undercroft/api.Span]"], unfollowed := true, recurses := true, apart := false, narrowed := true }
def AllocSafeUptoSaid : Prop := allocSafeUptoRow.holds Try.pinned (OpenSpec.upto allocSafeSpec)

/-- 'undercroftlaw11.AllocWhole', WHERE WHAT IT READS IS OF BULK AT MOST 1048576: true; the input reads as it did. -/
def allocWholeUptoRow : OpenClaim := { program := "ytkbppkimpefilaa", sum := "ba8769d05f762abe22798f30bb747ed8d663c702425d8087a43bc9fce2c04c96", func := "undercroft/undercroftlaw11.AllocWhole", spec := "allocWhole", inPlace := ["slices.overlaps[undercroft/api.Span]"], unfollowed := true, recurses := true, apart := false, narrowed := true }
def AllocWholeUptoSaid : Prop := allocWholeUptoRow.holds Try.pinned (OpenSpec.upto allocWholeSpec)

/-- 'undercroftlaw11.AllocAgain', WHERE WHAT IT READS IS OF BULK AT MOST 1048576: true; the input reads as it did. -/
def allocAgainUptoRow : OpenClaim := { program := "ytkbppkimpefilaa", sum := "ba8769d05f762abe22798f30bb747ed8d663c702425d8087a43bc9fce2c04c96", func := "undercroft/undercroftlaw11.AllocAgain", spec := "allocAgain", inPlace := ["slices.overlaps[undercroft/api.Span]"], unfollowed := true, recurses := true, apart := false, narrowed := true }
def AllocAgainUptoSaid : Prop := allocAgainUptoRow.holds Try.pinned (OpenSpec.upto allocAgainSpec)

end Rows
end Go.Proofs.Ytkbppkimpefilaa
