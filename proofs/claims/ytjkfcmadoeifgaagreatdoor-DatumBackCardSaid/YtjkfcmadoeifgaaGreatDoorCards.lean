/-
  DERIVED. GIVEN WITH THE SEED: THE CARDS: each row of YtjkfcmadoeifgaaGreatDoorRows.lean that lists a variable, with what it lists TIED to the program's text (the seventh form; the later family's looks); each row that meets fmt, with fmt's text TOLD by the authors' own Lean function (tested against real Go, not proved from fmt's source: count such statements apart). THE CARD IS WHAT COUNTS. Prove the row's statement (the work); the ties are given (YtjkfcmadoeifgaaGreatDoorTie.lean); close each card by the builder's one call (the guide's Derived/Test/ToyasCard.lean, 'card_holds'). Laid BY PROGRAM, IN A SANDBOX (cutbox-door.mjs). By AI agents, Wed Nov 11 2026. No macro, syntax, notation, axiom, sorry.
-/
import Derived.Test.YtjkfcmadoeifgaaGreatDoorRows
import GoSem.ClaimSeven
namespace Go.Proofs.YtjkfcmadoeifgaaGreatDoor
namespace Rows

/-- THE TIED CARD OF 'racelaw3.DatumCompares'. -/
def datumComparesCard : Claim7 := { stood := { row := datumComparesRow, standIns := [], harness := (true, "ad566913e74d85a7beddde3228583cfa7c9eda3ab28821132b9a3e8e5ad2af56"), looks := false }, kinds := [], alts := [], laidByText := true, laidKinds := [.data, .data, .data], laidTests := true, laidLooks := .later }
def DatumComparesCardSaid : Prop := Claim7.holds Tryz.pinned (.plain (OpenSpec.ofChange datumComparesSpec)) datumComparesCard

/-- THE TIED CARD OF 'racelaw3.DatumBytes'. -/
def datumBytesCard : Claim7 := { stood := { row := datumBytesRow, standIns := [], harness := (true, "ad566913e74d85a7beddde3228583cfa7c9eda3ab28821132b9a3e8e5ad2af56"), looks := false }, kinds := [], alts := [], laidByText := true, laidKinds := [.data, .data, .data], laidTests := true, laidLooks := .later }
def DatumBytesCardSaid : Prop := Claim7.holds Tryz.pinned (.plain (OpenSpec.ofChange datumBytesSpec)) datumBytesCard

/-- THE TIED CARD OF 'racelaw3.DatumBack'. -/
def datumBackCard : Claim7 := { stood := { row := datumBackRow, standIns := [], harness := (true, "ad566913e74d85a7beddde3228583cfa7c9eda3ab28821132b9a3e8e5ad2af56"), looks := false }, kinds := [], alts := [], laidByText := true, laidKinds := [.data, .data, .data], laidTests := true, laidLooks := .later }
def DatumBackCardSaid : Prop := Claim7.holds Tryz.pinned (.plain (OpenSpec.ofChange datumBackSpec)) datumBackCard

/-- THE SECOND FORM's CARD OF 'racelaw3.DatumCompares'. -/
def datumComparesUptoCard : Claim7 := { stood := { row := datumComparesUptoRow, standIns := [], harness := (true, "ad566913e74d85a7beddde3228583cfa7c9eda3ab28821132b9a3e8e5ad2af56"), looks := false }, kinds := [], alts := [], laidByText := true, laidKinds := [.data, .data, .data], laidTests := true, laidLooks := .later }
def DatumComparesUptoCardSaid : Prop := Claim7.holds Tryz.pinned (.plain (OpenSpec.upto datumComparesSpec)) datumComparesUptoCard

/-- THE SECOND FORM's CARD OF 'racelaw3.DatumBytes'. -/
def datumBytesUptoCard : Claim7 := { stood := { row := datumBytesUptoRow, standIns := [], harness := (true, "ad566913e74d85a7beddde3228583cfa7c9eda3ab28821132b9a3e8e5ad2af56"), looks := false }, kinds := [], alts := [], laidByText := true, laidKinds := [.data, .data, .data], laidTests := true, laidLooks := .later }
def DatumBytesUptoCardSaid : Prop := Claim7.holds Tryz.pinned (.plain (OpenSpec.upto datumBytesSpec)) datumBytesUptoCard

/-- THE SECOND FORM's CARD OF 'racelaw3.DatumBack'. -/
def datumBackUptoCard : Claim7 := { stood := { row := datumBackUptoRow, standIns := [], harness := (true, "ad566913e74d85a7beddde3228583cfa7c9eda3ab28821132b9a3e8e5ad2af56"), looks := false }, kinds := [], alts := [], laidByText := true, laidKinds := [.data, .data, .data], laidTests := true, laidLooks := .later }
def DatumBackUptoCardSaid : Prop := Claim7.holds Tryz.pinned (.plain (OpenSpec.upto datumBackSpec)) datumBackUptoCard
end Rows
end Go.Proofs.YtjkfcmadoeifgaaGreatDoor
