/-
  DERIVED. GIVEN WITH THE SEED: THE CARDS: each row of YtajfjkfnmmfhmaaGreatDoorRows.lean that lists a variable, with what it lists TIED to the program's text (the seventh form; the later family's looks); each row that meets fmt, with fmt's text TOLD by the authors' own Lean function (tested against real Go, not proved from fmt's source: count such statements apart). THE CARD IS WHAT COUNTS. Prove the row's statement (the work); the ties are given (YtajfjkfnmmfhmaaGreatDoorTie.lean); close each card by the builder's one call (the guide's Derived/Test/ToyasCard.lean, 'card_holds'). Laid BY PROGRAM, IN A SANDBOX (cutbox-door.mjs). By AI agents, Wed Nov 11 2026. No macro, syntax, notation, axiom, sorry.
-/
import Derived.Test.YtajfjkfnmmfhmaaGreatDoorRows
import GoSem.ClaimSeven
namespace Go.Proofs.YtajfjkfnmmfhmaaGreatDoor
namespace Rows

/-- THE TIED CARD OF 'undercroftlaw20.RecordWrites'. -/
def recordWritesCard : Claim7 := { stood := { row := recordWritesRow, standIns := [], harness := (true, "b19a7ae28bdec0b926b8acc6ef7a48b02a65e6a1fba281ace64a56107b2ca19a"), looks := false }, kinds := [], alts := [], laidByText := true, laidKinds := [.data, .data, .data, .data, .pinned], laidTests := true, laidLooks := .later }
def RecordWritesCardSaid : Prop := Claim7.holds Tryz.pinned (.plain (OpenSpec.ofChange recordWritesSpec)) recordWritesCard

/-- THE TIED CARD OF 'undercroftlaw20.RecordReads'. -/
def recordReadsCard : Claim7 := { stood := { row := recordReadsRow, standIns := [], harness := (true, "b19a7ae28bdec0b926b8acc6ef7a48b02a65e6a1fba281ace64a56107b2ca19a"), looks := false }, kinds := [], alts := [], laidByText := true, laidKinds := [.data, .data, .data, .data, .pinned], laidTests := true, laidLooks := .later }
def RecordReadsCardSaid : Prop := Claim7.holds Tryz.pinned (.plain (OpenSpec.ofChange recordReadsSpec)) recordReadsCard

/-- THE TIED CARD OF 'undercroftlaw20.RecordStreams'. -/
def recordStreamsCard : Claim7 := { stood := { row := recordStreamsRow, standIns := [], harness := (true, "b19a7ae28bdec0b926b8acc6ef7a48b02a65e6a1fba281ace64a56107b2ca19a"), looks := false }, kinds := [], alts := [], laidByText := true, laidKinds := [.data, .data, .data, .data, .pinned], laidTests := true, laidLooks := .later }
def RecordStreamsCardSaid : Prop := Claim7.holds Tryz.pinned (.plain (OpenSpec.ofChange recordStreamsSpec)) recordStreamsCard

/-- THE TIED CARD OF 'undercroftlaw20.RecordChain'. -/
def recordChainCard : Claim7 := { stood := { row := recordChainRow, standIns := [], harness := (true, "b19a7ae28bdec0b926b8acc6ef7a48b02a65e6a1fba281ace64a56107b2ca19a"), looks := false }, kinds := [], alts := [], laidByText := true, laidKinds := [.data, .data, .data, .data, .pinned], laidTests := true, laidLooks := .later }
def RecordChainCardSaid : Prop := Claim7.holds Tryz.pinned (.plain (OpenSpec.ofChange recordChainSpec)) recordChainCard

/-- THE SECOND FORM's CARD OF 'undercroftlaw20.RecordWrites'. -/
def recordWritesUptoCard : Claim7 := { stood := { row := recordWritesUptoRow, standIns := [], harness := (true, "b19a7ae28bdec0b926b8acc6ef7a48b02a65e6a1fba281ace64a56107b2ca19a"), looks := false }, kinds := [], alts := [], laidByText := true, laidKinds := [.data, .data, .data, .data, .pinned], laidTests := true, laidLooks := .later }
def RecordWritesUptoCardSaid : Prop := Claim7.holds Tryz.pinned (.plain (OpenSpec.upto recordWritesSpec)) recordWritesUptoCard

/-- THE SECOND FORM's CARD OF 'undercroftlaw20.RecordReads'. -/
def recordReadsUptoCard : Claim7 := { stood := { row := recordReadsUptoRow, standIns := [], harness := (true, "b19a7ae28bdec0b926b8acc6ef7a48b02a65e6a1fba281ace64a56107b2ca19a"), looks := false }, kinds := [], alts := [], laidByText := true, laidKinds := [.data, .data, .data, .data, .pinned], laidTests := true, laidLooks := .later }
def RecordReadsUptoCardSaid : Prop := Claim7.holds Tryz.pinned (.plain (OpenSpec.upto recordReadsSpec)) recordReadsUptoCard

/-- THE SECOND FORM's CARD OF 'undercroftlaw20.RecordStreams'. -/
def recordStreamsUptoCard : Claim7 := { stood := { row := recordStreamsUptoRow, standIns := [], harness := (true, "b19a7ae28bdec0b926b8acc6ef7a48b02a65e6a1fba281ace64a56107b2ca19a"), looks := false }, kinds := [], alts := [], laidByText := true, laidKinds := [.data, .data, .data, .data, .pinned], laidTests := true, laidLooks := .later }
def RecordStreamsUptoCardSaid : Prop := Claim7.holds Tryz.pinned (.plain (OpenSpec.upto recordStreamsSpec)) recordStreamsUptoCard

/-- THE SECOND FORM's CARD OF 'undercroftlaw20.RecordChain'. -/
def recordChainUptoCard : Claim7 := { stood := { row := recordChainUptoRow, standIns := [], harness := (true, "b19a7ae28bdec0b926b8acc6ef7a48b02a65e6a1fba281ace64a56107b2ca19a"), looks := false }, kinds := [], alts := [], laidByText := true, laidKinds := [.data, .data, .data, .data, .pinned], laidTests := true, laidLooks := .later }
def RecordChainUptoCardSaid : Prop := Claim7.holds Tryz.pinned (.plain (OpenSpec.upto recordChainSpec)) recordChainUptoCard
end Rows
end Go.Proofs.YtajfjkfnmmfhmaaGreatDoor
