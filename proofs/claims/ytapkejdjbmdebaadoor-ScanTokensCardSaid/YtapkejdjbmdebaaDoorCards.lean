/-
  DERIVED. GIVEN WITH THE SEED: THE CARDS: each row of YtapkejdjbmdebaaDoorRows.lean that lists a variable, with what it lists TIED to the program's text (the seventh form; the later family's looks); each row that meets fmt, with fmt's text TOLD by the authors' own Lean function (tested against real Go, not proved from fmt's source: count such statements apart). THE CARD IS WHAT COUNTS. Prove the row's statement (the work); the ties are given (YtapkejdjbmdebaaDoorTie.lean); close each card by the builder's one call (the guide's Derived/Test/ToyasCard.lean, 'card_holds'). Laid BY PROGRAM, IN A SANDBOX (cutbox-door.mjs). By AI agents, Wed Nov 11 2026. No macro, syntax, notation, axiom, sorry.
-/
import Derived.Test.YtapkejdjbmdebaaDoorRows
import GoSem.ClaimSeven
namespace Go.Proofs.YtapkejdjbmdebaaDoor
namespace Rows

/-- THE TIED CARD OF 'correctorlaw6.ScanTokens'. -/
def scanTokensCard : Claim7 := { stood := { row := scanTokensRow, standIns := [], harness := (true, "5acd8422dccc7f044bb5a0bffe7c93191d9c940b3d7ecc53f95146dbfe616c4f"), looks := false }, kinds := [], alts := [], laidByText := true, laidKinds := [.data, .pinned], laidTests := true, laidLooks := .later }
def ScanTokensCardSaid : Prop := Claim7.holds Tryd.pinned (.plain (OpenSpec.ofChange scanTokensSpec)) scanTokensCard

/-- THE TIED CARD OF 'correctorlaw6.ScanRows'. -/
def scanRowsCard : Claim7 := { stood := { row := scanRowsRow, standIns := [], harness := (true, "5acd8422dccc7f044bb5a0bffe7c93191d9c940b3d7ecc53f95146dbfe616c4f"), looks := false }, kinds := [], alts := [], laidByText := true, laidKinds := [.data, .pinned], laidTests := true, laidLooks := .later }
def ScanRowsCardSaid : Prop := Claim7.holds Tryd.pinned (.plain (OpenSpec.ofChange scanRowsSpec)) scanRowsCard

/-- THE TIED CARD OF 'correctorlaw6.ScanOne'. -/
def scanOneCard : Claim7 := { stood := { row := scanOneRow, standIns := [], harness := (true, "5acd8422dccc7f044bb5a0bffe7c93191d9c940b3d7ecc53f95146dbfe616c4f"), looks := false }, kinds := [], alts := [], laidByText := true, laidKinds := [.data, .pinned], laidTests := true, laidLooks := .later }
def ScanOneCardSaid : Prop := Claim7.holds Tryd.pinned (.plain (OpenSpec.ofChange scanOneSpec)) scanOneCard

/-- THE TIED CARD OF 'correctorlaw6.ScanKinds'. -/
def scanKindsCard : Claim7 := { stood := { row := scanKindsRow, standIns := [], harness := (true, "5acd8422dccc7f044bb5a0bffe7c93191d9c940b3d7ecc53f95146dbfe616c4f"), looks := false }, kinds := [], alts := [], laidByText := true, laidKinds := [.data, .pinned], laidTests := true, laidLooks := .later }
def ScanKindsCardSaid : Prop := Claim7.holds Tryd.pinned (.plain (OpenSpec.ofChange scanKindsSpec)) scanKindsCard

/-- THE TIED CARD OF 'correctorlaw6.ScanTexts'. -/
def scanTextsCard : Claim7 := { stood := { row := scanTextsRow, standIns := [], harness := (true, "5acd8422dccc7f044bb5a0bffe7c93191d9c940b3d7ecc53f95146dbfe616c4f"), looks := false }, kinds := [], alts := [], laidByText := true, laidKinds := [.data, .pinned], laidTests := true, laidLooks := .later }
def ScanTextsCardSaid : Prop := Claim7.holds Tryd.pinned (.plain (OpenSpec.ofChange scanTextsSpec)) scanTextsCard

/-- THE TIED CARD OF 'correctorlaw6.ScanMarks'. -/
def scanMarksCard : Claim7 := { stood := { row := scanMarksRow, standIns := [], harness := (true, "5acd8422dccc7f044bb5a0bffe7c93191d9c940b3d7ecc53f95146dbfe616c4f"), looks := false }, kinds := [], alts := [], laidByText := true, laidKinds := [.data, .pinned], laidTests := true, laidLooks := .later }
def ScanMarksCardSaid : Prop := Claim7.holds Tryd.pinned (.plain (OpenSpec.ofChange scanMarksSpec)) scanMarksCard

/-- THE TIED CARD OF 'correctorlaw6.ScanLong'. -/
def scanLongCard : Claim7 := { stood := { row := scanLongRow, standIns := [], harness := (true, "5acd8422dccc7f044bb5a0bffe7c93191d9c940b3d7ecc53f95146dbfe616c4f"), looks := false }, kinds := [], alts := [], laidByText := true, laidKinds := [.data, .pinned], laidTests := true, laidLooks := .later }
def ScanLongCardSaid : Prop := Claim7.holds Tryd.pinned (.plain (OpenSpec.ofChange scanLongSpec)) scanLongCard

/-- THE SECOND FORM's CARD OF 'correctorlaw6.ScanTokens'. -/
def scanTokensUptoCard : Claim7 := { stood := { row := scanTokensUptoRow, standIns := [], harness := (true, "5acd8422dccc7f044bb5a0bffe7c93191d9c940b3d7ecc53f95146dbfe616c4f"), looks := false }, kinds := [], alts := [], laidByText := true, laidKinds := [.data, .pinned], laidTests := true, laidLooks := .later }
def ScanTokensUptoCardSaid : Prop := Claim7.holds Tryd.pinned (.plain (OpenSpec.upto scanTokensSpec)) scanTokensUptoCard

/-- THE SECOND FORM's CARD OF 'correctorlaw6.ScanRows'. -/
def scanRowsUptoCard : Claim7 := { stood := { row := scanRowsUptoRow, standIns := [], harness := (true, "5acd8422dccc7f044bb5a0bffe7c93191d9c940b3d7ecc53f95146dbfe616c4f"), looks := false }, kinds := [], alts := [], laidByText := true, laidKinds := [.data, .pinned], laidTests := true, laidLooks := .later }
def ScanRowsUptoCardSaid : Prop := Claim7.holds Tryd.pinned (.plain (OpenSpec.upto scanRowsSpec)) scanRowsUptoCard

/-- THE SECOND FORM's CARD OF 'correctorlaw6.ScanOne'. -/
def scanOneUptoCard : Claim7 := { stood := { row := scanOneUptoRow, standIns := [], harness := (true, "5acd8422dccc7f044bb5a0bffe7c93191d9c940b3d7ecc53f95146dbfe616c4f"), looks := false }, kinds := [], alts := [], laidByText := true, laidKinds := [.data, .pinned], laidTests := true, laidLooks := .later }
def ScanOneUptoCardSaid : Prop := Claim7.holds Tryd.pinned (.plain (OpenSpec.upto scanOneSpec)) scanOneUptoCard

/-- THE SECOND FORM's CARD OF 'correctorlaw6.ScanKinds'. -/
def scanKindsUptoCard : Claim7 := { stood := { row := scanKindsUptoRow, standIns := [], harness := (true, "5acd8422dccc7f044bb5a0bffe7c93191d9c940b3d7ecc53f95146dbfe616c4f"), looks := false }, kinds := [], alts := [], laidByText := true, laidKinds := [.data, .pinned], laidTests := true, laidLooks := .later }
def ScanKindsUptoCardSaid : Prop := Claim7.holds Tryd.pinned (.plain (OpenSpec.upto scanKindsSpec)) scanKindsUptoCard

/-- THE SECOND FORM's CARD OF 'correctorlaw6.ScanTexts'. -/
def scanTextsUptoCard : Claim7 := { stood := { row := scanTextsUptoRow, standIns := [], harness := (true, "5acd8422dccc7f044bb5a0bffe7c93191d9c940b3d7ecc53f95146dbfe616c4f"), looks := false }, kinds := [], alts := [], laidByText := true, laidKinds := [.data, .pinned], laidTests := true, laidLooks := .later }
def ScanTextsUptoCardSaid : Prop := Claim7.holds Tryd.pinned (.plain (OpenSpec.upto scanTextsSpec)) scanTextsUptoCard

/-- THE SECOND FORM's CARD OF 'correctorlaw6.ScanMarks'. -/
def scanMarksUptoCard : Claim7 := { stood := { row := scanMarksUptoRow, standIns := [], harness := (true, "5acd8422dccc7f044bb5a0bffe7c93191d9c940b3d7ecc53f95146dbfe616c4f"), looks := false }, kinds := [], alts := [], laidByText := true, laidKinds := [.data, .pinned], laidTests := true, laidLooks := .later }
def ScanMarksUptoCardSaid : Prop := Claim7.holds Tryd.pinned (.plain (OpenSpec.upto scanMarksSpec)) scanMarksUptoCard

/-- THE SECOND FORM's CARD OF 'correctorlaw6.ScanLong'. -/
def scanLongUptoCard : Claim7 := { stood := { row := scanLongUptoRow, standIns := [], harness := (true, "5acd8422dccc7f044bb5a0bffe7c93191d9c940b3d7ecc53f95146dbfe616c4f"), looks := false }, kinds := [], alts := [], laidByText := true, laidKinds := [.data, .pinned], laidTests := true, laidLooks := .later }
def ScanLongUptoCardSaid : Prop := Claim7.holds Tryd.pinned (.plain (OpenSpec.upto scanLongSpec)) scanLongUptoCard
end Rows
end Go.Proofs.YtapkejdjbmdebaaDoor
