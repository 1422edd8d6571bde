/-
  DERIVED. GIVEN WITH THE SEED: THE CARDS: each row of YtdnnbinmippkdaaDoorRows.lean that lists a variable, with what it lists TIED to the program's text (the seventh form; the later family's looks); each row that meets fmt, with fmt's text TOLD by the authors' own Lean function (tested against real Go, not proved from fmt's source: count such statements apart). THE CARD IS WHAT COUNTS. Prove the row's statement (the work); the ties are given (YtdnnbinmippkdaaDoorTie.lean); close each card by the builder's one call (the guide's Derived/Test/ToyasCard.lean, 'card_holds'). Laid BY PROGRAM, IN A SANDBOX (cutbox-door.mjs). By AI agents, Wed Nov 11 2026. No macro, syntax, notation, axiom, sorry.
-/
import Derived.Test.YtdnnbinmippkdaaDoorRows
import GoSem.ClaimSeven
namespace Go.Proofs.YtdnnbinmippkdaaDoor
namespace Rows

/-- THE TIED CARD OF 'undercroftlaw04.PtrWrites'. -/
def ptrWritesCard : Claim7 := { stood := { row := ptrWritesRow, standIns := [], harness := (true, "b0198489a36787f1748066e9b700b74c0b5cd2fa703209f9b59089813e0d5e74"), looks := false }, kinds := [], alts := [], laidByText := true, laidKinds := [.data], laidTests := true, laidLooks := .later }
def PtrWritesCardSaid : Prop := Claim7.holds Tryd.pinned (.plain (OpenSpec.ofChange ptrWritesSpec)) ptrWritesCard

/-- THE TIED CARD OF 'undercroftlaw04.PtrLabels'. -/
def ptrLabelsCard : Claim7 := { stood := { row := ptrLabelsRow, standIns := [], harness := (true, "b0198489a36787f1748066e9b700b74c0b5cd2fa703209f9b59089813e0d5e74"), looks := false }, kinds := [], alts := [], laidByText := true, laidKinds := [.data], laidTests := true, laidLooks := .later }
def PtrLabelsCardSaid : Prop := Claim7.holds Tryd.pinned (.plain (OpenSpec.ofChange ptrLabelsSpec)) ptrLabelsCard

/-- THE TIED CARD OF 'undercroftlaw04.PtrUbers'. -/
def ptrUbersCard : Claim7 := { stood := { row := ptrUbersRow, standIns := [], harness := (true, "b0198489a36787f1748066e9b700b74c0b5cd2fa703209f9b59089813e0d5e74"), looks := false }, kinds := [], alts := [], laidByText := true, laidKinds := [.data], laidTests := true, laidLooks := .later }
def PtrUbersCardSaid : Prop := Claim7.holds Tryd.pinned (.plain (OpenSpec.ofChange ptrUbersSpec)) ptrUbersCard

/-- THE TIED CARD OF 'undercroftlaw04.PtrReads'. -/
def ptrReadsCard : Claim7 := { stood := { row := ptrReadsRow, standIns := [], harness := (true, "b0198489a36787f1748066e9b700b74c0b5cd2fa703209f9b59089813e0d5e74"), looks := false }, kinds := [], alts := [], laidByText := true, laidKinds := [.data], laidTests := true, laidLooks := .later }
def PtrReadsCardSaid : Prop := Claim7.holds Tryd.pinned (.plain (OpenSpec.ofChange ptrReadsSpec)) ptrReadsCard

/-- THE TIED CARD OF 'undercroftlaw04.PtrBack'. -/
def ptrBackCard : Claim7 := { stood := { row := ptrBackRow, standIns := [], harness := (true, "b0198489a36787f1748066e9b700b74c0b5cd2fa703209f9b59089813e0d5e74"), looks := false }, kinds := [], alts := [], laidByText := true, laidKinds := [.data], laidTests := true, laidLooks := .later }
def PtrBackCardSaid : Prop := Claim7.holds Tryd.pinned (.plain (OpenSpec.ofChange ptrBackSpec)) ptrBackCard

/-- THE TIED CARD OF 'undercroftlaw04.PtrFlips'. -/
def ptrFlipsCard : Claim7 := { stood := { row := ptrFlipsRow, standIns := [], harness := (true, "b0198489a36787f1748066e9b700b74c0b5cd2fa703209f9b59089813e0d5e74"), looks := false }, kinds := [], alts := [], laidByText := true, laidKinds := [.data], laidTests := true, laidLooks := .later }
def PtrFlipsCardSaid : Prop := Claim7.holds Tryd.pinned (.plain (OpenSpec.ofChange ptrFlipsSpec)) ptrFlipsCard

/-- THE SECOND FORM's CARD OF 'undercroftlaw04.PtrWrites'. -/
def ptrWritesUptoCard : Claim7 := { stood := { row := ptrWritesUptoRow, standIns := [], harness := (true, "b0198489a36787f1748066e9b700b74c0b5cd2fa703209f9b59089813e0d5e74"), looks := false }, kinds := [], alts := [], laidByText := true, laidKinds := [.data], laidTests := true, laidLooks := .later }
def PtrWritesUptoCardSaid : Prop := Claim7.holds Tryd.pinned (.plain (OpenSpec.upto ptrWritesSpec)) ptrWritesUptoCard

/-- THE SECOND FORM's CARD OF 'undercroftlaw04.PtrLabels'. -/
def ptrLabelsUptoCard : Claim7 := { stood := { row := ptrLabelsUptoRow, standIns := [], harness := (true, "b0198489a36787f1748066e9b700b74c0b5cd2fa703209f9b59089813e0d5e74"), looks := false }, kinds := [], alts := [], laidByText := true, laidKinds := [.data], laidTests := true, laidLooks := .later }
def PtrLabelsUptoCardSaid : Prop := Claim7.holds Tryd.pinned (.plain (OpenSpec.upto ptrLabelsSpec)) ptrLabelsUptoCard

/-- THE SECOND FORM's CARD OF 'undercroftlaw04.PtrUbers'. -/
def ptrUbersUptoCard : Claim7 := { stood := { row := ptrUbersUptoRow, standIns := [], harness := (true, "b0198489a36787f1748066e9b700b74c0b5cd2fa703209f9b59089813e0d5e74"), looks := false }, kinds := [], alts := [], laidByText := true, laidKinds := [.data], laidTests := true, laidLooks := .later }
def PtrUbersUptoCardSaid : Prop := Claim7.holds Tryd.pinned (.plain (OpenSpec.upto ptrUbersSpec)) ptrUbersUptoCard

/-- THE SECOND FORM's CARD OF 'undercroftlaw04.PtrReads'. -/
def ptrReadsUptoCard : Claim7 := { stood := { row := ptrReadsUptoRow, standIns := [], harness := (true, "b0198489a36787f1748066e9b700b74c0b5cd2fa703209f9b59089813e0d5e74"), looks := false }, kinds := [], alts := [], laidByText := true, laidKinds := [.data], laidTests := true, laidLooks := .later }
def PtrReadsUptoCardSaid : Prop := Claim7.holds Tryd.pinned (.plain (OpenSpec.upto ptrReadsSpec)) ptrReadsUptoCard

/-- THE SECOND FORM's CARD OF 'undercroftlaw04.PtrBack'. -/
def ptrBackUptoCard : Claim7 := { stood := { row := ptrBackUptoRow, standIns := [], harness := (true, "b0198489a36787f1748066e9b700b74c0b5cd2fa703209f9b59089813e0d5e74"), looks := false }, kinds := [], alts := [], laidByText := true, laidKinds := [.data], laidTests := true, laidLooks := .later }
def PtrBackUptoCardSaid : Prop := Claim7.holds Tryd.pinned (.plain (OpenSpec.upto ptrBackSpec)) ptrBackUptoCard

/-- THE SECOND FORM's CARD OF 'undercroftlaw04.PtrFlips'. -/
def ptrFlipsUptoCard : Claim7 := { stood := { row := ptrFlipsUptoRow, standIns := [], harness := (true, "b0198489a36787f1748066e9b700b74c0b5cd2fa703209f9b59089813e0d5e74"), looks := false }, kinds := [], alts := [], laidByText := true, laidKinds := [.data], laidTests := true, laidLooks := .later }
def PtrFlipsUptoCardSaid : Prop := Claim7.holds Tryd.pinned (.plain (OpenSpec.upto ptrFlipsSpec)) ptrFlipsUptoCard
end Rows
end Go.Proofs.YtdnnbinmippkdaaDoor
