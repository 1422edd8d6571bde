/-
  No cell of these rows narrows 'for every input' (looked for: loops, veiled, ifaces, maps, wideKeys, modest, calm, conditions, laid).
  DERIVED. THE GIVEN ROWS OF THIS SEAT. 6 by the template 'for every input the law returns true; each argument reads behind the call as it read before'; 0 by the template 'total and deterministic' (their statements: YtkolbijhekbelaaTotals.lean).
  GIVEN WITH THE SEED: the statements are not yours to turn. If you find one false, say at which input.
  Laid BY PROGRAM, IN A SANDBOX (cutbox-rows.mjs): the forced cells as the released guide's own fill.sh prints them over the translation 3d73962a1512f8db… (all of the seat's roots in one cut). By AI agents, Wed Nov 11 2026. No macro, syntax, notation, axiom, sorry.
-/
import Derived.Test.YtkolbijhekbelaaChecked
import GoSem.Claim
import GoSem.ClaimJoined
import GoSem.ClaimMapViews
import Derived.JoinedTies
import Derived.KernelRfl
namespace Go.Proofs.Ytkolbijhekbelaa
/- THE CELL 'sum', in the pinned program and in every row, IS THE sha256 OF THE DUMP (.gsa) THAT YtkolbijhekbelaaProg.lean LOADS. Nothing in Lean hashes anything: it is a label: what it is worth is what the hold of that sum in a sandbox is worth. -/
noncomputable def Try.pinned : Pinned := { name := "ytkolbijhekbelaa", sum := "3d73962a1512f8dbd1f9b531a87e2e1e53d11aa7ffbf8c3d6e4812d0d6784ff7", checked := Try.checked }
namespace Rows
def none {H : Type} : Left H := { results := [], args := [] }

/-- 'undercroftlaw12.TreeSplits': WHATEVER THE INPUT: true; the input reads as it did. -/
def treeSplitsSpec : ChangeSpec := { name := "treeSplits", fn := fun _ => fun
  | [d1, d2] => { results := [.lit (.bool true)], args := [d1, d2] }
  | _ => none }
def treeSplitsRow : OpenClaim := { program := "ytkolbijhekbelaa", sum := "3d73962a1512f8dbd1f9b531a87e2e1e53d11aa7ffbf8c3d6e4812d0d6784ff7", func := "undercroft/undercroftlaw12.TreeSplits", spec := "treeSplits", inPlace := ["internal/bytealg.MakeNoZero"], unfollowed := true, recurses := true, apart := false }
def TreeSplitsSaid : Prop := treeSplitsRow.holds Try.pinned (OpenSpec.ofChange treeSplitsSpec)

/-- ITS FALSE NEIGHBOUR: 'it returns false'. Refute it at one input. -/
def treeSplitsWrong : ChangeSpec := { name := "treeSplits", fn := fun _ => fun
  | [d1, d2] => { results := [.lit (.bool false)], args := [d1, d2] }
  | _ => none }
def TreeSplitsWrongFalsely : Prop := treeSplitsRow.holds Try.pinned (OpenSpec.ofChange treeSplitsWrong)

/-- 'undercroftlaw12.TreePacks': WHATEVER THE INPUT: true; the input reads as it did. -/
def treePacksSpec : ChangeSpec := { name := "treePacks", fn := fun _ => fun
  | [d1, d2] => { results := [.lit (.bool true)], args := [d1, d2] }
  | _ => none }
def treePacksRow : OpenClaim := { program := "ytkolbijhekbelaa", sum := "3d73962a1512f8dbd1f9b531a87e2e1e53d11aa7ffbf8c3d6e4812d0d6784ff7", func := "undercroft/undercroftlaw12.TreePacks", spec := "treePacks", inPlace := ["internal/bytealg.MakeNoZero"], unfollowed := true, recurses := true, apart := false }
def TreePacksSaid : Prop := treePacksRow.holds Try.pinned (OpenSpec.ofChange treePacksSpec)

/-- ITS FALSE NEIGHBOUR: 'it returns false'. Refute it at one input. -/
def treePacksWrong : ChangeSpec := { name := "treePacks", fn := fun _ => fun
  | [d1, d2] => { results := [.lit (.bool false)], args := [d1, d2] }
  | _ => none }
def TreePacksWrongFalsely : Prop := treePacksRow.holds Try.pinned (OpenSpec.ofChange treePacksWrong)

/-- 'undercroftlaw12.TreeTables': WHATEVER THE INPUT: true; the input reads as it did. -/
def treeTablesSpec : ChangeSpec := { name := "treeTables", fn := fun _ => fun
  | [d1, d2] => { results := [.lit (.bool true)], args := [d1, d2] }
  | _ => none }
def treeTablesRow : OpenClaim := { program := "ytkolbijhekbelaa", sum := "3d73962a1512f8dbd1f9b531a87e2e1e53d11aa7ffbf8c3d6e4812d0d6784ff7", func := "undercroft/undercroftlaw12.TreeTables", spec := "treeTables", inPlace := ["internal/bytealg.MakeNoZero"], unfollowed := true, recurses := true, apart := false }
def TreeTablesSaid : Prop := treeTablesRow.holds Try.pinned (OpenSpec.ofChange treeTablesSpec)

/-- ITS FALSE NEIGHBOUR: 'it returns false'. Refute it at one input. -/
def treeTablesWrong : ChangeSpec := { name := "treeTables", fn := fun _ => fun
  | [d1, d2] => { results := [.lit (.bool false)], args := [d1, d2] }
  | _ => none }
def TreeTablesWrongFalsely : Prop := treeTablesRow.holds Try.pinned (OpenSpec.ofChange treeTablesWrong)

/-- 'undercroftlaw12.TreeSince': WHATEVER THE INPUT: true; the input reads as it did. -/
def treeSinceSpec : ChangeSpec := { name := "treeSince", fn := fun _ => fun
  | [d1, d2, d3] => { results := [.lit (.bool true)], args := [d1, d2, d3] }
  | _ => none }
def treeSinceRow : OpenClaim := { program := "ytkolbijhekbelaa", sum := "3d73962a1512f8dbd1f9b531a87e2e1e53d11aa7ffbf8c3d6e4812d0d6784ff7", func := "undercroft/undercroftlaw12.TreeSince", spec := "treeSince", inPlace := ["internal/bytealg.MakeNoZero"], unfollowed := true, recurses := true, apart := false }
def TreeSinceSaid : Prop := treeSinceRow.holds Try.pinned (OpenSpec.ofChange treeSinceSpec)

/-- ITS FALSE NEIGHBOUR: 'it returns false'. Refute it at one input. -/
def treeSinceWrong : ChangeSpec := { name := "treeSince", fn := fun _ => fun
  | [d1, d2, d3] => { results := [.lit (.bool false)], args := [d1, d2, d3] }
  | _ => none }
def TreeSinceWrongFalsely : Prop := treeSinceRow.holds Try.pinned (OpenSpec.ofChange treeSinceWrong)

/-- 'undercroftlaw12.TreeBack': WHATEVER THE INPUT: true; the input reads as it did. -/
def treeBackSpec : ChangeSpec := { name := "treeBack", fn := fun _ => fun
  | [d1, d2, d3] => { results := [.lit (.bool true)], args := [d1, d2, d3] }
  | _ => none }
def treeBackRow : OpenClaim := { program := "ytkolbijhekbelaa", sum := "3d73962a1512f8dbd1f9b531a87e2e1e53d11aa7ffbf8c3d6e4812d0d6784ff7", func := "undercroft/undercroftlaw12.TreeBack", spec := "treeBack", inPlace := ["internal/bytealg.MakeNoZero"], unfollowed := true, recurses := true, apart := false }
def TreeBackSaid : Prop := treeBackRow.holds Try.pinned (OpenSpec.ofChange treeBackSpec)

/-- ITS FALSE NEIGHBOUR: 'it returns false'. Refute it at one input. -/
def treeBackWrong : ChangeSpec := { name := "treeBack", fn := fun _ => fun
  | [d1, d2, d3] => { results := [.lit (.bool false)], args := [d1, d2, d3] }
  | _ => none }
def TreeBackWrongFalsely : Prop := treeBackRow.holds Try.pinned (OpenSpec.ofChange treeBackWrong)

/-- 'undercroftlaw12.TreeGrows': WHATEVER THE INPUT: true; the input reads as it did. -/
def treeGrowsSpec : ChangeSpec := { name := "treeGrows", fn := fun _ => fun
  | [d1, d2, d3, d4] => { results := [.lit (.bool true)], args := [d1, d2, d3, d4] }
  | _ => none }
def treeGrowsRow : OpenClaim := { program := "ytkolbijhekbelaa", sum := "3d73962a1512f8dbd1f9b531a87e2e1e53d11aa7ffbf8c3d6e4812d0d6784ff7", func := "undercroft/undercroftlaw12.TreeGrows", spec := "treeGrows", inPlace := ["internal/bytealg.MakeNoZero"], unfollowed := true, recurses := true, apart := false }
def TreeGrowsSaid : Prop := treeGrowsRow.holds Try.pinned (OpenSpec.ofChange treeGrowsSpec)

/-- ITS FALSE NEIGHBOUR: 'it returns false'. Refute it at one input. -/
def treeGrowsWrong : ChangeSpec := { name := "treeGrows", fn := fun _ => fun
  | [d1, d2, d3, d4] => { results := [.lit (.bool false)], args := [d1, d2, d3, d4] }
  | _ => none }
def TreeGrowsWrongFalsely : Prop := treeGrowsRow.holds Try.pinned (OpenSpec.ofChange treeGrowsWrong)

/- THE SECOND FORM. 'bulk': how many values and letters a reading holds, each counted each time it is reached (what is shared counts as often as it is met; a slice's spare places count too). A statement '..UptoSaid' is the law's where the arguments, and the package variables that the reading takes, are together of bulk at most 1048576: NARROWER than '..Said'. Prove '..Said' where nothing that the law and all that it calls make is longer than what came in: it says more and counts as full. Else prove '..UptoSaid'. A law counts once. -/
mutual
def uptoBulk {H : Type} : DataW H → Nat
  | .lit (.string bytes) => bytes.length + 1
  | .lit _ => 1
  | .nil => 1
  | .ptr d => uptoBulk d + 1
  | .slice elems spare => uptoBulkAll elems + uptoBulkAll spare + 1
  | .agg parts => uptoBulkAll parts + 1
  | .iface _ d => uptoBulk d + 1
  | .map entries => uptoBulkEntries entries + 1
  | .held _ => 1
def uptoBulkAll {H : Type} : List (DataW H) → Nat
  | [] => 0
  | d :: r => uptoBulk d + uptoBulkAll r
def uptoBulkEntries {H : Type} : List (Lit × DataW H) → Nat
  | [] => 0
  | x :: r => uptoBulkEntry x + uptoBulkEntries r
def uptoBulkEntry {H : Type} : Lit × DataW H → Nat
  | (.string bytes, d) => bytes.length + uptoBulk d + 1
  | (_, d) => uptoBulk d + 1
 end
def uptoSmall : (H : Type) → List (DataW H) → Bool := fun _ ds => decide (uptoBulkAll ds ≤ 1048576)
def OpenSpec.upto (s : _root_.Go.ChangeSpec) : _root_.Go.OpenSpec := { _root_.Go.OpenSpec.ofChange s with cond := some uptoSmall }

/-- 'undercroftlaw12.TreeSplits', WHERE WHAT IT READS IS OF BULK AT MOST 1048576: true; the input reads as it did. -/
def treeSplitsUptoRow : OpenClaim := { program := "ytkolbijhekbelaa", sum := "3d73962a1512f8dbd1f9b531a87e2e1e53d11aa7ffbf8c3d6e4812d0d6784ff7", func := "undercroft/undercroftlaw12.TreeSplits", spec := "treeSplits", inPlace := ["internal/bytealg.MakeNoZero"], unfollowed := true, recurses := true, apart := false, narrowed := true }
def TreeSplitsUptoSaid : Prop := treeSplitsUptoRow.holds Try.pinned (OpenSpec.upto treeSplitsSpec)

/-- 'undercroftlaw12.TreePacks', WHERE WHAT IT READS IS OF BULK AT MOST 1048576: true; the input reads as it did. -/
def treePacksUptoRow : OpenClaim := { program := "ytkolbijhekbelaa", sum := "3d73962a1512f8dbd1f9b531a87e2e1e53d11aa7ffbf8c3d6e4812d0d6784ff7", func := "undercroft/undercroftlaw12.TreePacks", spec := "treePacks", inPlace := ["internal/bytealg.MakeNoZero"], unfollowed := true, recurses := true, apart := false, narrowed := true }
def TreePacksUptoSaid : Prop := treePacksUptoRow.holds Try.pinned (OpenSpec.upto treePacksSpec)

/-- 'undercroftlaw12.TreeTables', WHERE WHAT IT READS IS OF BULK AT MOST 1048576: true; the input reads as it did. -/
def treeTablesUptoRow : OpenClaim := { program := "ytkolbijhekbelaa", sum := "3d73962a1512f8dbd1f9b531a87e2e1e53d11aa7ffbf8c3d6e4812d0d6784ff7", func := "undercroft/undercroftlaw12.TreeTables", spec := "treeTables", inPlace := ["internal/bytealg.MakeNoZero"], unfollowed := true, recurses := true, apart := false, narrowed := true }
def TreeTablesUptoSaid : Prop := treeTablesUptoRow.holds Try.pinned (OpenSpec.upto treeTablesSpec)

/-- 'undercroftlaw12.TreeSince', WHERE WHAT IT READS IS OF BULK AT MOST 1048576: true; the input reads as it did. -/
def treeSinceUptoRow : OpenClaim := { program := "ytkolbijhekbelaa", sum := "3d73962a1512f8dbd1f9b531a87e2e1e53d11aa7ffbf8c3d6e4812d0d6784ff7", func := "undercroft/undercroftlaw12.TreeSince", spec := "treeSince", inPlace := ["internal/bytealg.MakeNoZero"], unfollowed := true, recurses := true, apart := false, narrowed := true }
def TreeSinceUptoSaid : Prop := treeSinceUptoRow.holds Try.pinned (OpenSpec.upto treeSinceSpec)

/-- 'undercroftlaw12.TreeBack', WHERE WHAT IT READS IS OF BULK AT MOST 1048576: true; the input reads as it did. -/
def treeBackUptoRow : OpenClaim := { program := "ytkolbijhekbelaa", sum := "3d73962a1512f8dbd1f9b531a87e2e1e53d11aa7ffbf8c3d6e4812d0d6784ff7", func := "undercroft/undercroftlaw12.TreeBack", spec := "treeBack", inPlace := ["internal/bytealg.MakeNoZero"], unfollowed := true, recurses := true, apart := false, narrowed := true }
def TreeBackUptoSaid : Prop := treeBackUptoRow.holds Try.pinned (OpenSpec.upto treeBackSpec)

/-- 'undercroftlaw12.TreeGrows', WHERE WHAT IT READS IS OF BULK AT MOST 1048576: true; the input reads as it did. -/
def treeGrowsUptoRow : OpenClaim := { program := "ytkolbijhekbelaa", sum := "3d73962a1512f8dbd1f9b531a87e2e1e53d11aa7ffbf8c3d6e4812d0d6784ff7", func := "undercroft/undercroftlaw12.TreeGrows", spec := "treeGrows", inPlace := ["internal/bytealg.MakeNoZero"], unfollowed := true, recurses := true, apart := false, narrowed := true }
def TreeGrowsUptoSaid : Prop := treeGrowsUptoRow.holds Try.pinned (OpenSpec.upto treeGrowsSpec)

end Rows
end Go.Proofs.Ytkolbijhekbelaa
