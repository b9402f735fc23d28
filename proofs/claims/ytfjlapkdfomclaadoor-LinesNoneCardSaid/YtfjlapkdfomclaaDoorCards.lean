/-
  DERIVED. GIVEN WITH THE SEED: THE CARDS: each row of YtfjlapkdfomclaaDoorRows.lean that lists a variable, with what it lists TIED to the program's text (the seventh form; the later family's looks); each row that meets fmt, with fmt's text TOLD by the authors' own Lean function (tested against real Go, not proved from fmt's source: count such statements apart). THE CARD IS WHAT COUNTS. Prove the row's statement (the work); the ties are given (YtfjlapkdfomclaaDoorTie.lean); close each card by the builder's one call (the guide's Derived/Test/ToyasCard.lean, 'card_holds'). Laid BY PROGRAM, IN A SANDBOX (cutbox-door.mjs). By AI agents, Wed Nov 11 2026. No macro, syntax, notation, axiom, sorry.
-/
import Derived.Test.YtfjlapkdfomclaaDoorRows
import GoSem.ClaimSeven
namespace Go.Proofs.YtfjlapkdfomclaaDoor
namespace Rows

/-- THE TIED CARD OF 'correctorlaw2.LinesStarts'. -/
def linesStartsCard : Claim7 := { stood := { row := linesStartsRow, standIns := [], harness := (true, "508ec17783b7ead4bad9ba7a480a6c3a3b1aa4fd5d96d19af10862ac4cc9c924"), looks := false }, kinds := [], alts := [], laidByText := true, laidKinds := [.data, .pinned], laidTests := true, laidLooks := .later }
def LinesStartsCardSaid : Prop := Claim7.holds Tryd.pinned (.plain (OpenSpec.ofChange linesStartsSpec)) linesStartsCard

/-- THE TIED CARD OF 'correctorlaw2.LinesPlaces'. -/
def linesPlacesCard : Claim7 := { stood := { row := linesPlacesRow, standIns := [], harness := (true, "508ec17783b7ead4bad9ba7a480a6c3a3b1aa4fd5d96d19af10862ac4cc9c924"), looks := false }, kinds := [], alts := [], laidByText := true, laidKinds := [.data, .pinned], laidTests := true, laidLooks := .later }
def LinesPlacesCardSaid : Prop := Claim7.holds Tryd.pinned (.plain (OpenSpec.ofChange linesPlacesSpec)) linesPlacesCard

/-- THE TIED CARD OF 'correctorlaw2.LinesOrder'. -/
def linesOrderCard : Claim7 := { stood := { row := linesOrderRow, standIns := [], harness := (true, "508ec17783b7ead4bad9ba7a480a6c3a3b1aa4fd5d96d19af10862ac4cc9c924"), looks := false }, kinds := [], alts := [], laidByText := true, laidKinds := [.data, .pinned], laidTests := true, laidLooks := .later }
def LinesOrderCardSaid : Prop := Claim7.holds Tryd.pinned (.plain (OpenSpec.ofChange linesOrderSpec)) linesOrderCard

/-- THE TIED CARD OF 'correctorlaw2.LinesBreaks'. -/
def linesBreaksCard : Claim7 := { stood := { row := linesBreaksRow, standIns := [], harness := (true, "508ec17783b7ead4bad9ba7a480a6c3a3b1aa4fd5d96d19af10862ac4cc9c924"), looks := false }, kinds := [], alts := [], laidByText := true, laidKinds := [.data, .pinned], laidTests := true, laidLooks := .later }
def LinesBreaksCardSaid : Prop := Claim7.holds Tryd.pinned (.plain (OpenSpec.ofChange linesBreaksSpec)) linesBreaksCard

/-- THE TIED CARD OF 'correctorlaw2.LinesNone'. -/
def linesNoneCard : Claim7 := { stood := { row := linesNoneRow, standIns := [], harness := (true, "508ec17783b7ead4bad9ba7a480a6c3a3b1aa4fd5d96d19af10862ac4cc9c924"), looks := false }, kinds := [], alts := [], laidByText := true, laidKinds := [.data, .pinned], laidTests := true, laidLooks := .later }
def LinesNoneCardSaid : Prop := Claim7.holds Tryd.pinned (.plain (OpenSpec.ofChange linesNoneSpec)) linesNoneCard

/-- THE SECOND FORM's CARD OF 'correctorlaw2.LinesStarts'. -/
def linesStartsUptoCard : Claim7 := { stood := { row := linesStartsUptoRow, standIns := [], harness := (true, "508ec17783b7ead4bad9ba7a480a6c3a3b1aa4fd5d96d19af10862ac4cc9c924"), looks := false }, kinds := [], alts := [], laidByText := true, laidKinds := [.data, .pinned], laidTests := true, laidLooks := .later }
def LinesStartsUptoCardSaid : Prop := Claim7.holds Tryd.pinned (.plain (OpenSpec.upto linesStartsSpec)) linesStartsUptoCard

/-- THE SECOND FORM's CARD OF 'correctorlaw2.LinesPlaces'. -/
def linesPlacesUptoCard : Claim7 := { stood := { row := linesPlacesUptoRow, standIns := [], harness := (true, "508ec17783b7ead4bad9ba7a480a6c3a3b1aa4fd5d96d19af10862ac4cc9c924"), looks := false }, kinds := [], alts := [], laidByText := true, laidKinds := [.data, .pinned], laidTests := true, laidLooks := .later }
def LinesPlacesUptoCardSaid : Prop := Claim7.holds Tryd.pinned (.plain (OpenSpec.upto linesPlacesSpec)) linesPlacesUptoCard

/-- THE SECOND FORM's CARD OF 'correctorlaw2.LinesOrder'. -/
def linesOrderUptoCard : Claim7 := { stood := { row := linesOrderUptoRow, standIns := [], harness := (true, "508ec17783b7ead4bad9ba7a480a6c3a3b1aa4fd5d96d19af10862ac4cc9c924"), looks := false }, kinds := [], alts := [], laidByText := true, laidKinds := [.data, .pinned], laidTests := true, laidLooks := .later }
def LinesOrderUptoCardSaid : Prop := Claim7.holds Tryd.pinned (.plain (OpenSpec.upto linesOrderSpec)) linesOrderUptoCard

/-- THE SECOND FORM's CARD OF 'correctorlaw2.LinesBreaks'. -/
def linesBreaksUptoCard : Claim7 := { stood := { row := linesBreaksUptoRow, standIns := [], harness := (true, "508ec17783b7ead4bad9ba7a480a6c3a3b1aa4fd5d96d19af10862ac4cc9c924"), looks := false }, kinds := [], alts := [], laidByText := true, laidKinds := [.data, .pinned], laidTests := true, laidLooks := .later }
def LinesBreaksUptoCardSaid : Prop := Claim7.holds Tryd.pinned (.plain (OpenSpec.upto linesBreaksSpec)) linesBreaksUptoCard

/-- THE SECOND FORM's CARD OF 'correctorlaw2.LinesNone'. -/
def linesNoneUptoCard : Claim7 := { stood := { row := linesNoneUptoRow, standIns := [], harness := (true, "508ec17783b7ead4bad9ba7a480a6c3a3b1aa4fd5d96d19af10862ac4cc9c924"), looks := false }, kinds := [], alts := [], laidByText := true, laidKinds := [.data, .pinned], laidTests := true, laidLooks := .later }
def LinesNoneUptoCardSaid : Prop := Claim7.holds Tryd.pinned (.plain (OpenSpec.upto linesNoneSpec)) linesNoneUptoCard
end Rows
end Go.Proofs.YtfjlapkdfomclaaDoor
