/-
  No cell of these rows narrows 'for every input' (looked for: loops, veiled, ifaces, maps, wideKeys, modest, calm, conditions, laid).
  DERIVED. THE GIVEN ROWS OF THIS SEAT. 10 by the template 'for every input the law returns true; each argument reads behind the call as it read before'; 0 by the template 'total and deterministic' (their statements: YtdfefeljnfcngaaTotals.lean).
  GIVEN WITH THE SEED: the statements are not yours to turn. If you find one false, say at which input.
  Laid BY PROGRAM, IN A SANDBOX (cutbox-rows.mjs): the forced cells as the released guide's own fill.sh prints them over the translation 1e886a0b4ee5a1c3… (all of the seat's roots in one cut). By AI agents, Wed Nov 11 2026. No macro, syntax, notation, axiom, sorry.
-/
import Derived.Test.YtdfefeljnfcngaaChecked
import GoSem.Claim
import GoSem.ClaimJoined
import GoSem.ClaimMapViews
import Derived.JoinedTies
import Derived.KernelRfl
namespace Go.Proofs.Ytdfefeljnfcngaa
/- THE CELL 'sum', in the pinned program and in every row, IS THE sha256 OF THE DUMP (.gsa) THAT YtdfefeljnfcngaaProg.lean LOADS. Nothing in Lean hashes anything: it is a label: what it is worth is what the hold of that sum in a sandbox is worth. -/
noncomputable def Try.pinned : Pinned := { name := "ytdfefeljnfcngaa", sum := "1e886a0b4ee5a1c3cac4a5636086aa22a5c71b353f7a04fd41a3c70dd546eef5", checked := Try.checked }
namespace Rows
def none {H : Type} : Left H := { results := [], args := [] }

/-- 'undercroftlaw01.CodeReads': WHATEVER THE INPUT: true; the input reads as it did. -/
def codeReadsSpec : ChangeSpec := { name := "codeReads", fn := fun _ => fun
  | [d1, d2] => { results := [.lit (.bool true)], args := [d1, d2] }
  | _ => none }
def codeReadsRow : OpenClaim := { program := "ytdfefeljnfcngaa", sum := "1e886a0b4ee5a1c3cac4a5636086aa22a5c71b353f7a04fd41a3c70dd546eef5", func := "undercroft/undercroftlaw01.CodeReads", spec := "codeReads", unfollowed := true, recurses := true, apart := false }
def CodeReadsSaid : Prop := codeReadsRow.holds Try.pinned (OpenSpec.ofChange codeReadsSpec)

/-- ITS FALSE NEIGHBOUR: 'it returns false'. Refute it at one input. -/
def codeReadsWrong : ChangeSpec := { name := "codeReads", fn := fun _ => fun
  | [d1, d2] => { results := [.lit (.bool false)], args := [d1, d2] }
  | _ => none }
def CodeReadsWrongFalsely : Prop := codeReadsRow.holds Try.pinned (OpenSpec.ofChange codeReadsWrong)

/-- 'undercroftlaw01.CodeBack': WHATEVER THE INPUT: true; the input reads as it did. -/
def codeBackSpec : ChangeSpec := { name := "codeBack", fn := fun _ => fun
  | [d] => { results := [.lit (.bool true)], args := [d] }
  | _ => none }
def codeBackRow : OpenClaim := { program := "ytdfefeljnfcngaa", sum := "1e886a0b4ee5a1c3cac4a5636086aa22a5c71b353f7a04fd41a3c70dd546eef5", func := "undercroft/undercroftlaw01.CodeBack", spec := "codeBack", unfollowed := true, recurses := true, apart := false }
def CodeBackSaid : Prop := codeBackRow.holds Try.pinned (OpenSpec.ofChange codeBackSpec)

/-- ITS FALSE NEIGHBOUR: 'it returns false'. Refute it at one input. -/
def codeBackWrong : ChangeSpec := { name := "codeBack", fn := fun _ => fun
  | [d] => { results := [.lit (.bool false)], args := [d] }
  | _ => none }
def CodeBackWrongFalsely : Prop := codeBackRow.holds Try.pinned (OpenSpec.ofChange codeBackWrong)

/-- 'undercroftlaw16.IlogAppends': WHATEVER THE INPUT: true; the input reads as it did. -/
def ilogAppendsSpec : ChangeSpec := { name := "ilogAppends", fn := fun _ => fun
  | [d1, d2, d3] => { results := [.lit (.bool true)], args := [d1, d2, d3] }
  | _ => none }
def ilogAppendsRow : OpenClaim := { program := "ytdfefeljnfcngaa", sum := "1e886a0b4ee5a1c3cac4a5636086aa22a5c71b353f7a04fd41a3c70dd546eef5", func := "undercroft/undercroftlaw16.IlogAppends", spec := "ilogAppends", apart := false }
def IlogAppendsSaid : Prop := ilogAppendsRow.holds Try.pinned (OpenSpec.ofChange ilogAppendsSpec)

/-- ITS FALSE NEIGHBOUR: 'it returns false'. Refute it at one input. -/
def ilogAppendsWrong : ChangeSpec := { name := "ilogAppends", fn := fun _ => fun
  | [d1, d2, d3] => { results := [.lit (.bool false)], args := [d1, d2, d3] }
  | _ => none }
def IlogAppendsWrongFalsely : Prop := ilogAppendsRow.holds Try.pinned (OpenSpec.ofChange ilogAppendsWrong)

/-- 'undercroftlaw16.IlogBack': WHATEVER THE INPUT: true; the input reads as it did. -/
def ilogBackSpec : ChangeSpec := { name := "ilogBack", fn := fun _ => fun
  | [d1, d2, d3] => { results := [.lit (.bool true)], args := [d1, d2, d3] }
  | _ => none }
def ilogBackRow : OpenClaim := { program := "ytdfefeljnfcngaa", sum := "1e886a0b4ee5a1c3cac4a5636086aa22a5c71b353f7a04fd41a3c70dd546eef5", func := "undercroft/undercroftlaw16.IlogBack", spec := "ilogBack", apart := false }
def IlogBackSaid : Prop := ilogBackRow.holds Try.pinned (OpenSpec.ofChange ilogBackSpec)

/-- ITS FALSE NEIGHBOUR: 'it returns false'. Refute it at one input. -/
def ilogBackWrong : ChangeSpec := { name := "ilogBack", fn := fun _ => fun
  | [d1, d2, d3] => { results := [.lit (.bool false)], args := [d1, d2, d3] }
  | _ => none }
def IlogBackWrongFalsely : Prop := ilogBackRow.holds Try.pinned (OpenSpec.ofChange ilogBackWrong)

/-- 'undercroftlaw16.IlogTorn': WHATEVER THE INPUT: true; the input reads as it did. -/
def ilogTornSpec : ChangeSpec := { name := "ilogTorn", fn := fun _ => fun
  | [d1, d2, d3, d4] => { results := [.lit (.bool true)], args := [d1, d2, d3, d4] }
  | _ => none }
def ilogTornRow : OpenClaim := { program := "ytdfefeljnfcngaa", sum := "1e886a0b4ee5a1c3cac4a5636086aa22a5c71b353f7a04fd41a3c70dd546eef5", func := "undercroft/undercroftlaw16.IlogTorn", spec := "ilogTorn", apart := false }
def IlogTornSaid : Prop := ilogTornRow.holds Try.pinned (OpenSpec.ofChange ilogTornSpec)

/-- ITS FALSE NEIGHBOUR: 'it returns false'. Refute it at one input. -/
def ilogTornWrong : ChangeSpec := { name := "ilogTorn", fn := fun _ => fun
  | [d1, d2, d3, d4] => { results := [.lit (.bool false)], args := [d1, d2, d3, d4] }
  | _ => none }
def IlogTornWrongFalsely : Prop := ilogTornRow.holds Try.pinned (OpenSpec.ofChange ilogTornWrong)

/-- 'undercroftlaw16.IlogScans': WHATEVER THE INPUT: true; the input reads as it did. -/
def ilogScansSpec : ChangeSpec := { name := "ilogScans", fn := fun _ => fun
  | [d1, d2, d3] => { results := [.lit (.bool true)], args := [d1, d2, d3] }
  | _ => none }
def ilogScansRow : OpenClaim := { program := "ytdfefeljnfcngaa", sum := "1e886a0b4ee5a1c3cac4a5636086aa22a5c71b353f7a04fd41a3c70dd546eef5", func := "undercroft/undercroftlaw16.IlogScans", spec := "ilogScans", apart := false }
def IlogScansSaid : Prop := ilogScansRow.holds Try.pinned (OpenSpec.ofChange ilogScansSpec)

/-- ITS FALSE NEIGHBOUR: 'it returns false'. Refute it at one input. -/
def ilogScansWrong : ChangeSpec := { name := "ilogScans", fn := fun _ => fun
  | [d1, d2, d3] => { results := [.lit (.bool false)], args := [d1, d2, d3] }
  | _ => none }
def IlogScansWrongFalsely : Prop := ilogScansRow.holds Try.pinned (OpenSpec.ofChange ilogScansWrong)

/-- 'undercroftlaw19.VolumeReads': WHATEVER THE INPUT: true; the input reads as it did. -/
def volumeReadsSpec : ChangeSpec := { name := "volumeReads", fn := fun _ => fun
  | [d1, d2] => { results := [.lit (.bool true)], args := [d1, d2] }
  | _ => none }
def volumeReadsRow : OpenClaim := { program := "ytdfefeljnfcngaa", sum := "1e886a0b4ee5a1c3cac4a5636086aa22a5c71b353f7a04fd41a3c70dd546eef5", func := "undercroft/undercroftlaw19.VolumeReads", spec := "volumeReads", apart := false }
def VolumeReadsSaid : Prop := volumeReadsRow.holds Try.pinned (OpenSpec.ofChange volumeReadsSpec)

/-- ITS FALSE NEIGHBOUR: 'it returns false'. Refute it at one input. -/
def volumeReadsWrong : ChangeSpec := { name := "volumeReads", fn := fun _ => fun
  | [d1, d2] => { results := [.lit (.bool false)], args := [d1, d2] }
  | _ => none }
def VolumeReadsWrongFalsely : Prop := volumeReadsRow.holds Try.pinned (OpenSpec.ofChange volumeReadsWrong)

/-- 'undercroftlaw19.VolumeApart': WHATEVER THE INPUT: true; the input reads as it did. -/
def volumeApartSpec : ChangeSpec := { name := "volumeApart", fn := fun _ => fun
  | [d1, d2, d3, d4] => { results := [.lit (.bool true)], args := [d1, d2, d3, d4] }
  | _ => none }
def volumeApartRow : OpenClaim := { program := "ytdfefeljnfcngaa", sum := "1e886a0b4ee5a1c3cac4a5636086aa22a5c71b353f7a04fd41a3c70dd546eef5", func := "undercroft/undercroftlaw19.VolumeApart", spec := "volumeApart", apart := false }
def VolumeApartSaid : Prop := volumeApartRow.holds Try.pinned (OpenSpec.ofChange volumeApartSpec)

/-- ITS FALSE NEIGHBOUR: 'it returns false'. Refute it at one input. -/
def volumeApartWrong : ChangeSpec := { name := "volumeApart", fn := fun _ => fun
  | [d1, d2, d3, d4] => { results := [.lit (.bool false)], args := [d1, d2, d3, d4] }
  | _ => none }
def VolumeApartWrongFalsely : Prop := volumeApartRow.holds Try.pinned (OpenSpec.ofChange volumeApartWrong)

/-- 'undercroftlaw09.RangesMany': WHATEVER THE INPUT: true; the input reads as it did. -/
def rangesManySpec : ChangeSpec := { name := "rangesMany", fn := fun _ => fun
  | [d1, d2] => { results := [.lit (.bool true)], args := [d1, d2] }
  | _ => none }
def rangesManyRow : OpenClaim := { program := "ytdfefeljnfcngaa", sum := "1e886a0b4ee5a1c3cac4a5636086aa22a5c71b353f7a04fd41a3c70dd546eef5", func := "undercroft/undercroftlaw09.RangesMany", spec := "rangesMany", inPlace := ["slices.overlaps[undercroft/api.Span]"], unfollowed := true, recurses := true, apart := false }
def RangesManySaid : Prop := rangesManyRow.holds Try.pinned (OpenSpec.ofChange rangesManySpec)

/-- ITS FALSE NEIGHBOUR: 'it returns false'. Refute it at one input. -/
def rangesManyWrong : ChangeSpec := { name := "rangesMany", fn := fun _ => fun
  | [d1, d2] => { results := [.lit (.bool false)], args := [d1, d2] }
  | _ => none }
def RangesManyWrongFalsely : Prop := rangesManyRow.holds Try.pinned (OpenSpec.ofChange rangesManyWrong)

/-- 'undercroftlaw09.RangesOrder': WHATEVER THE INPUT: true; the input reads as it did. -/
def rangesOrderSpec : ChangeSpec := { name := "rangesOrder", fn := fun _ => fun
  | [d1, d2, d3, d4] => { results := [.lit (.bool true)], args := [d1, d2, d3, d4] }
  | _ => none }
def rangesOrderRow : OpenClaim := { program := "ytdfefeljnfcngaa", sum := "1e886a0b4ee5a1c3cac4a5636086aa22a5c71b353f7a04fd41a3c70dd546eef5", func := "undercroft/undercroftlaw09.RangesOrder", spec := "rangesOrder", inPlace := ["slices.overlaps[undercroft/api.Span]"], unfollowed := true, recurses := true, apart := false }
def RangesOrderSaid : Prop := rangesOrderRow.holds Try.pinned (OpenSpec.ofChange rangesOrderSpec)

/-- ITS FALSE NEIGHBOUR: 'it returns false'. Refute it at one input. -/
def rangesOrderWrong : ChangeSpec := { name := "rangesOrder", fn := fun _ => fun
  | [d1, d2, d3, d4] => { results := [.lit (.bool false)], args := [d1, d2, d3, d4] }
  | _ => none }
def RangesOrderWrongFalsely : Prop := rangesOrderRow.holds Try.pinned (OpenSpec.ofChange rangesOrderWrong)

/- THE SECOND FORM. 'bulk': how many values and letters a reading holds, each counted each time it is reached (what is shared counts as often as it is met; a slice's spare places count too). A statement '..UptoSaid' is the law's where the arguments, and the package variables that the reading takes, are together of bulk at most 1048576: NARROWER than '..Said'. Prove '..Said' where nothing that the law and all that it calls make is longer than what came in: it says more and counts as full. Else prove '..UptoSaid'. A law counts once. -/
mutual
def uptoBulk {H : Type} : DataW H → Nat
  | .lit (.string bytes) => bytes.length + 1
  | .lit _ => 1
  | .nil => 1
  | .ptr d => uptoBulk d + 1
  | .slice elems spare => uptoBulkAll elems + uptoBulkAll spare + 1
  | .agg parts => uptoBulkAll parts + 1
  | .iface _ d => uptoBulk d + 1
  | .map entries => uptoBulkEntries entries + 1
  | .held _ => 1
def uptoBulkAll {H : Type} : List (DataW H) → Nat
  | [] => 0
  | d :: r => uptoBulk d + uptoBulkAll r
def uptoBulkEntries {H : Type} : List (Lit × DataW H) → Nat
  | [] => 0
  | x :: r => uptoBulkEntry x + uptoBulkEntries r
def uptoBulkEntry {H : Type} : Lit × DataW H → Nat
  | (.string bytes, d) => bytes.length + uptoBulk d + 1
  | (_, d) => uptoBulk d + 1
 end
def uptoSmall : (H : Type) → List (DataW H) → Bool := fun _ ds => decide (uptoBulkAll ds ≤ 1048576)
def OpenSpec.upto (s : _root_.Go.ChangeSpec) : _root_.Go.OpenSpec := { _root_.Go.OpenSpec.ofChange s with cond := some uptoSmall }

/-- 'undercroftlaw01.CodeReads', WHERE WHAT IT READS IS OF BULK AT MOST 1048576: true; the input reads as it did. -/
def codeReadsUptoRow : OpenClaim := { program := "ytdfefeljnfcngaa", sum := "1e886a0b4ee5a1c3cac4a5636086aa22a5c71b353f7a04fd41a3c70dd546eef5", func := "undercroft/undercroftlaw01.CodeReads", spec := "codeReads", unfollowed := true, recurses := true, apart := false, narrowed := true }
def CodeReadsUptoSaid : Prop := codeReadsUptoRow.holds Try.pinned (OpenSpec.upto codeReadsSpec)

/-- 'undercroftlaw01.CodeBack', WHERE WHAT IT READS IS OF BULK AT MOST 1048576: true; the input reads as it did. -/
def codeBackUptoRow : OpenClaim := { program := "ytdfefeljnfcngaa", sum := "1e886a0b4ee5a1c3cac4a5636086aa22a5c71b353f7a04fd41a3c70dd546eef5", func := "undercroft/undercroftlaw01.CodeBack", spec := "codeBack", unfollowed := true, recurses := true, apart := false, narrowed := true }
def CodeBackUptoSaid : Prop := codeBackUptoRow.holds Try.pinned (OpenSpec.upto codeBackSpec)

/-- 'undercroftlaw16.IlogAppends', WHERE WHAT IT READS IS OF BULK AT MOST 1048576: true; the input reads as it did. -/
def ilogAppendsUptoRow : OpenClaim := { program := "ytdfefeljnfcngaa", sum := "1e886a0b4ee5a1c3cac4a5636086aa22a5c71b353f7a04fd41a3c70dd546eef5", func := "undercroft/undercroftlaw16.IlogAppends", spec := "ilogAppends", apart := false, narrowed := true }
def IlogAppendsUptoSaid : Prop := ilogAppendsUptoRow.holds Try.pinned (OpenSpec.upto ilogAppendsSpec)

/-- 'undercroftlaw16.IlogBack', WHERE WHAT IT READS IS OF BULK AT MOST 1048576: true; the input reads as it did. -/
def ilogBackUptoRow : OpenClaim := { program := "ytdfefeljnfcngaa", sum := "1e886a0b4ee5a1c3cac4a5636086aa22a5c71b353f7a04fd41a3c70dd546eef5", func := "undercroft/undercroftlaw16.IlogBack", spec := "ilogBack", apart := false, narrowed := true }
def IlogBackUptoSaid : Prop := ilogBackUptoRow.holds Try.pinned (OpenSpec.upto ilogBackSpec)

/-- 'undercroftlaw16.IlogTorn', WHERE WHAT IT READS IS OF BULK AT MOST 1048576: true; the input reads as it did. -/
def ilogTornUptoRow : OpenClaim := { program := "ytdfefeljnfcngaa", sum := "1e886a0b4ee5a1c3cac4a5636086aa22a5c71b353f7a04fd41a3c70dd546eef5", func := "undercroft/undercroftlaw16.IlogTorn", spec := "ilogTorn", apart := false, narrowed := true }
def IlogTornUptoSaid : Prop := ilogTornUptoRow.holds Try.pinned (OpenSpec.upto ilogTornSpec)

/-- 'undercroftlaw16.IlogScans', WHERE WHAT IT READS IS OF BULK AT MOST 1048576: true; the input reads as it did. -/
def ilogScansUptoRow : OpenClaim := { program := "ytdfefeljnfcngaa", sum := "1e886a0b4ee5a1c3cac4a5636086aa22a5c71b353f7a04fd41a3c70dd546eef5", func := "undercroft/undercroftlaw16.IlogScans", spec := "ilogScans", apart := false, narrowed := true }
def IlogScansUptoSaid : Prop := ilogScansUptoRow.holds Try.pinned (OpenSpec.upto ilogScansSpec)

/-- 'undercroftlaw19.VolumeReads', WHERE WHAT IT READS IS OF BULK AT MOST 1048576: true; the input reads as it did. -/
def volumeReadsUptoRow : OpenClaim := { program := "ytdfefeljnfcngaa", sum := "1e886a0b4ee5a1c3cac4a5636086aa22a5c71b353f7a04fd41a3c70dd546eef5", func := "undercroft/undercroftlaw19.VolumeReads", spec := "volumeReads", apart := false, narrowed := true }
def VolumeReadsUptoSaid : Prop := volumeReadsUptoRow.holds Try.pinned (OpenSpec.upto volumeReadsSpec)

/-- 'undercroftlaw19.VolumeApart', WHERE WHAT IT READS IS OF BULK AT MOST 1048576: true; the input reads as it did. -/
def volumeApartUptoRow : OpenClaim := { program := "ytdfefeljnfcngaa", sum := "1e886a0b4ee5a1c3cac4a5636086aa22a5c71b353f7a04fd41a3c70dd546eef5", func := "undercroft/undercroftlaw19.VolumeApart", spec := "volumeApart", apart := false, narrowed := true }
def VolumeApartUptoSaid : Prop := volumeApartUptoRow.holds Try.pinned (OpenSpec.upto volumeApartSpec)

/-- 'undercroftlaw09.RangesMany', WHERE WHAT IT READS IS OF BULK AT MOST 1048576: true; the input reads as it did. -/
def rangesManyUptoRow : OpenClaim := { program := "ytdfefeljnfcngaa", sum := "1e886a0b4ee5a1c3cac4a5636086aa22a5c71b353f7a04fd41a3c70dd546eef5", func := "undercroft/undercroftlaw09.RangesMany", spec := "rangesMany", inPlace := ["slices.overlaps[undercroft/api.Span]"], unfollowed := true, recurses := true, apart := false, narrowed := true }
def RangesManyUptoSaid : Prop := rangesManyUptoRow.holds Try.pinned (OpenSpec.upto rangesManySpec)

/-- 'undercroftlaw09.RangesOrder', WHERE WHAT IT READS IS OF BULK AT MOST 1048576: true; the input reads as it did. -/
def rangesOrderUptoRow : OpenClaim := { program := "ytdfefeljnfcngaa", sum := "1e886a0b4ee5a1c3cac4a5636086aa22a5c71b353f7a04fd41a3c70dd546eef5", func := "undercroft/undercroftlaw09.RangesOrder", spec := "rangesOrder", inPlace := ["slices.overlaps[undercroft/api.Span]"], unfollowed := true, recurses := true, apart := false, narrowed := true }
def RangesOrderUptoSaid : Prop := rangesOrderUptoRow.holds Try.pinned (OpenSpec.upto rangesOrderSpec)

end Rows
end Go.Proofs.Ytdfefeljnfcngaa
