/-
  DERIVED. GIVEN WITH THE SEED: THE CARDS: each row of YtmpokhjchbaleaaDoorRows.lean that lists a variable, with what it lists TIED to the program's text (the seventh form; the later family's looks); each row that meets fmt, with fmt's text TOLD by the authors' own Lean function (tested against real Go, not proved from fmt's source: count such statements apart). THE CARD IS WHAT COUNTS. Prove the row's statement (the work); the ties are given (YtmpokhjchbaleaaDoorTie.lean); close each card by the builder's one call (the guide's Derived/Test/ToyasCard.lean, 'card_holds'). Laid BY PROGRAM, IN A SANDBOX (cutbox-door.mjs). By AI agents, Wed Nov 11 2026. No macro, syntax, notation, axiom, sorry.
-/
import Derived.Test.YtmpokhjchbaleaaDoorRows
import GoSem.ClaimSeven
namespace Go.Proofs.YtmpokhjchbaleaaDoor
namespace Rows

/-- THE TIED CARD OF 'racelaw8.HlcStamps'. -/
def hlcStampsCard : Claim7 := { stood := { row := hlcStampsRow, standIns := [], harness := (true, "55d94c96041e578d324afd5bc41b6edf1ded3878fc07ea6770ba733d434b73f6"), looks := true }, kinds := [], alts := [], laidByText := true, laidKinds := [.data, .data, .data], laidTests := true, laidLooks := .later }
def HlcStampsCardSaid : Prop := Claim7.holds Tryd.pinned (.plain (OpenSpec.ofChange hlcStampsSpec)) hlcStampsCard

/-- THE TIED CARD OF 'racelaw8.HlcTexts'. -/
def hlcTextsCard : Claim7 := { stood := { row := hlcTextsRow, standIns := [], harness := (true, "55d94c96041e578d324afd5bc41b6edf1ded3878fc07ea6770ba733d434b73f6"), looks := true }, kinds := [], alts := [], laidByText := true, laidKinds := [.data, .data, .data, .sentinel, .sentinel], laidTests := true, laidLooks := .later }
def HlcTextsCardSaid : Prop := Claim7.holds Tryd.pinned (.plain (OpenSpec.ofChange hlcTextsSpec)) hlcTextsCard

/-- THE TIED CARD OF 'racelaw8.HlcPlays'. -/
def hlcPlaysCard : Claim7 := { stood := { row := hlcPlaysRow, standIns := [], harness := (true, "55d94c96041e578d324afd5bc41b6edf1ded3878fc07ea6770ba733d434b73f6"), looks := true }, kinds := [], alts := [], laidByText := true, laidKinds := [.data, .data, .data], laidTests := true, laidLooks := .later }
def HlcPlaysCardSaid : Prop := Claim7.holds Tryd.pinned (.plain (OpenSpec.ofChange hlcPlaysSpec)) hlcPlaysCard

/-- THE TIED CARD OF 'racelaw8.HlcRises'. -/
def hlcRisesCard : Claim7 := { stood := { row := hlcRisesRow, standIns := [], harness := (true, "55d94c96041e578d324afd5bc41b6edf1ded3878fc07ea6770ba733d434b73f6"), looks := true }, kinds := [], alts := [], laidByText := true, laidKinds := [.data, .data, .data], laidTests := true, laidLooks := .later }
def HlcRisesCardSaid : Prop := Claim7.holds Tryd.pinned (.plain (OpenSpec.ofChange hlcRisesSpec)) hlcRisesCard

/-- THE TIED CARD OF 'racelaw8.HlcNext'. -/
def hlcNextCard : Claim7 := { stood := { row := hlcNextRow, standIns := [], harness := (true, "55d94c96041e578d324afd5bc41b6edf1ded3878fc07ea6770ba733d434b73f6"), looks := true }, kinds := [], alts := [], laidByText := true, laidKinds := [.data, .data, .data, .sentinel, .sentinel], laidTests := true, laidLooks := .later }
def HlcNextCardSaid : Prop := Claim7.holds Tryd.pinned (.plain (OpenSpec.ofChange hlcNextSpec)) hlcNextCard

/-- THE TIED CARD OF 'racelaw8.HlcPeeks'. -/
def hlcPeeksCard : Claim7 := { stood := { row := hlcPeeksRow, standIns := [], harness := (true, "55d94c96041e578d324afd5bc41b6edf1ded3878fc07ea6770ba733d434b73f6"), looks := true }, kinds := [], alts := [], laidByText := true, laidKinds := [.data, .data, .data], laidTests := true, laidLooks := .later }
def HlcPeeksCardSaid : Prop := Claim7.holds Tryd.pinned (.plain (OpenSpec.ofChange hlcPeeksSpec)) hlcPeeksCard

/-- THE TIED CARD OF 'racelaw8.HlcOrders'. -/
def hlcOrdersCard : Claim7 := { stood := { row := hlcOrdersRow, standIns := [], harness := (true, "55d94c96041e578d324afd5bc41b6edf1ded3878fc07ea6770ba733d434b73f6"), looks := true }, kinds := [], alts := [], laidByText := true, laidKinds := [.data, .data, .data], laidTests := true, laidLooks := .later }
def HlcOrdersCardSaid : Prop := Claim7.holds Tryd.pinned (.plain (OpenSpec.ofChange hlcOrdersSpec)) hlcOrdersCard

/-- THE SECOND FORM's CARD OF 'racelaw8.HlcStamps'. -/
def hlcStampsUptoCard : Claim7 := { stood := { row := hlcStampsUptoRow, standIns := [], harness := (true, "55d94c96041e578d324afd5bc41b6edf1ded3878fc07ea6770ba733d434b73f6"), looks := true }, kinds := [], alts := [], laidByText := true, laidKinds := [.data, .data, .data], laidTests := true, laidLooks := .later }
def HlcStampsUptoCardSaid : Prop := Claim7.holds Tryd.pinned (.plain (OpenSpec.upto hlcStampsSpec)) hlcStampsUptoCard

/-- THE SECOND FORM's CARD OF 'racelaw8.HlcTexts'. -/
def hlcTextsUptoCard : Claim7 := { stood := { row := hlcTextsUptoRow, standIns := [], harness := (true, "55d94c96041e578d324afd5bc41b6edf1ded3878fc07ea6770ba733d434b73f6"), looks := true }, kinds := [], alts := [], laidByText := true, laidKinds := [.data, .data, .data, .sentinel, .sentinel], laidTests := true, laidLooks := .later }
def HlcTextsUptoCardSaid : Prop := Claim7.holds Tryd.pinned (.plain (OpenSpec.upto hlcTextsSpec)) hlcTextsUptoCard

/-- THE SECOND FORM's CARD OF 'racelaw8.HlcPlays'. -/
def hlcPlaysUptoCard : Claim7 := { stood := { row := hlcPlaysUptoRow, standIns := [], harness := (true, "55d94c96041e578d324afd5bc41b6edf1ded3878fc07ea6770ba733d434b73f6"), looks := true }, kinds := [], alts := [], laidByText := true, laidKinds := [.data, .data, .data], laidTests := true, laidLooks := .later }
def HlcPlaysUptoCardSaid : Prop := Claim7.holds Tryd.pinned (.plain (OpenSpec.upto hlcPlaysSpec)) hlcPlaysUptoCard

/-- THE SECOND FORM's CARD OF 'racelaw8.HlcRises'. -/
def hlcRisesUptoCard : Claim7 := { stood := { row := hlcRisesUptoRow, standIns := [], harness := (true, "55d94c96041e578d324afd5bc41b6edf1ded3878fc07ea6770ba733d434b73f6"), looks := true }, kinds := [], alts := [], laidByText := true, laidKinds := [.data, .data, .data], laidTests := true, laidLooks := .later }
def HlcRisesUptoCardSaid : Prop := Claim7.holds Tryd.pinned (.plain (OpenSpec.upto hlcRisesSpec)) hlcRisesUptoCard

/-- THE SECOND FORM's CARD OF 'racelaw8.HlcNext'. -/
def hlcNextUptoCard : Claim7 := { stood := { row := hlcNextUptoRow, standIns := [], harness := (true, "55d94c96041e578d324afd5bc41b6edf1ded3878fc07ea6770ba733d434b73f6"), looks := true }, kinds := [], alts := [], laidByText := true, laidKinds := [.data, .data, .data, .sentinel, .sentinel], laidTests := true, laidLooks := .later }
def HlcNextUptoCardSaid : Prop := Claim7.holds Tryd.pinned (.plain (OpenSpec.upto hlcNextSpec)) hlcNextUptoCard

/-- THE SECOND FORM's CARD OF 'racelaw8.HlcPeeks'. -/
def hlcPeeksUptoCard : Claim7 := { stood := { row := hlcPeeksUptoRow, standIns := [], harness := (true, "55d94c96041e578d324afd5bc41b6edf1ded3878fc07ea6770ba733d434b73f6"), looks := true }, kinds := [], alts := [], laidByText := true, laidKinds := [.data, .data, .data], laidTests := true, laidLooks := .later }
def HlcPeeksUptoCardSaid : Prop := Claim7.holds Tryd.pinned (.plain (OpenSpec.upto hlcPeeksSpec)) hlcPeeksUptoCard

/-- THE SECOND FORM's CARD OF 'racelaw8.HlcOrders'. -/
def hlcOrdersUptoCard : Claim7 := { stood := { row := hlcOrdersUptoRow, standIns := [], harness := (true, "55d94c96041e578d324afd5bc41b6edf1ded3878fc07ea6770ba733d434b73f6"), looks := true }, kinds := [], alts := [], laidByText := true, laidKinds := [.data, .data, .data], laidTests := true, laidLooks := .later }
def HlcOrdersUptoCardSaid : Prop := Claim7.holds Tryd.pinned (.plain (OpenSpec.upto hlcOrdersSpec)) hlcOrdersUptoCard
end Rows
end Go.Proofs.YtmpokhjchbaleaaDoor
