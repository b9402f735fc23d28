/-
  DERIVED. GIVEN WITH THE SEED: THE CARDS: each row of YtnjbdafjhhjfoaaDoorRows.lean that lists a variable, with what it lists TIED to the program's text (the seventh form; the later family's looks); each row that meets fmt, with fmt's text TOLD by the authors' own Lean function (tested against real Go, not proved from fmt's source: count such statements apart). THE CARD IS WHAT COUNTS. Prove the row's statement (the work); the ties are given (YtnjbdafjhhjfoaaDoorTie.lean); close each card by the builder's one call (the guide's Derived/Test/ToyasCard.lean, 'card_holds'). Laid BY PROGRAM, IN A SANDBOX (cutbox-door.mjs). By AI agents, Wed Nov 11 2026. No macro, syntax, notation, axiom, sorry.
-/
import Derived.Test.YtnjbdafjhhjfoaaDoorRows
import GoSem.ClaimSeven
namespace Go.Proofs.YtnjbdafjhhjfoaaDoor
namespace Rows

/-- THE TIED CARD OF 'correctorlaw1.RunesNext'. -/
def runesNextCard : Claim7 := { stood := { row := runesNextRow, standIns := [], harness := (true, "4b532732cbbc9890b5c6ae2c9f468c36b6bac14a883f6389390f785b456dff0e"), looks := false }, kinds := [], alts := [], laidByText := true, laidKinds := [.data, .pinned], laidTests := true, laidLooks := .later }
def RunesNextCardSaid : Prop := Claim7.holds Tryd.pinned (.plain (OpenSpec.ofChange runesNextSpec)) runesNextCard

/-- THE TIED CARD OF 'correctorlaw1.RunesBad'. -/
def runesBadCard : Claim7 := { stood := { row := runesBadRow, standIns := [], harness := (true, "4b532732cbbc9890b5c6ae2c9f468c36b6bac14a883f6389390f785b456dff0e"), looks := false }, kinds := [], alts := [], laidByText := true, laidKinds := [.data, .pinned], laidTests := true, laidLooks := .later }
def RunesBadCardSaid : Prop := Claim7.holds Tryd.pinned (.plain (OpenSpec.ofChange runesBadSpec)) runesBadCard

/-- THE TIED CARD OF 'correctorlaw1.RunesAll'. -/
def runesAllCard : Claim7 := { stood := { row := runesAllRow, standIns := [], harness := (true, "4b532732cbbc9890b5c6ae2c9f468c36b6bac14a883f6389390f785b456dff0e"), looks := false }, kinds := [], alts := [], laidByText := true, laidKinds := [.data, .pinned], laidTests := true, laidLooks := .later }
def RunesAllCardSaid : Prop := Claim7.holds Tryd.pinned (.plain (OpenSpec.ofChange runesAllSpec)) runesAllCard

/-- THE TIED CARD OF 'correctorlaw1.RunesText'. -/
def runesTextCard : Claim7 := { stood := { row := runesTextRow, standIns := [], harness := (true, "4b532732cbbc9890b5c6ae2c9f468c36b6bac14a883f6389390f785b456dff0e"), looks := false }, kinds := [], alts := [], laidByText := true, laidKinds := [.data, .pinned], laidTests := true, laidLooks := .later }
def RunesTextCardSaid : Prop := Claim7.holds Tryd.pinned (.plain (OpenSpec.ofChange runesTextSpec)) runesTextCard

/-- THE TIED CARD OF 'correctorlaw1.RunesShort'. -/
def runesShortCard : Claim7 := { stood := { row := runesShortRow, standIns := [], harness := (true, "4b532732cbbc9890b5c6ae2c9f468c36b6bac14a883f6389390f785b456dff0e"), looks := false }, kinds := [], alts := [], laidByText := true, laidKinds := [.data, .pinned], laidTests := true, laidLooks := .later }
def RunesShortCardSaid : Prop := Claim7.holds Tryd.pinned (.plain (OpenSpec.ofChange runesShortSpec)) runesShortCard

/-- THE TIED CARD OF 'correctorlaw1.RunesJoin'. -/
def runesJoinCard : Claim7 := { stood := { row := runesJoinRow, standIns := [], harness := (true, "4b532732cbbc9890b5c6ae2c9f468c36b6bac14a883f6389390f785b456dff0e"), looks := false }, kinds := [], alts := [], laidByText := true, laidKinds := [.data, .pinned], laidTests := true, laidLooks := .later }
def RunesJoinCardSaid : Prop := Claim7.holds Tryd.pinned (.plain (OpenSpec.ofChange runesJoinSpec)) runesJoinCard

/-- THE SECOND FORM's CARD OF 'correctorlaw1.RunesNext'. -/
def runesNextUptoCard : Claim7 := { stood := { row := runesNextUptoRow, standIns := [], harness := (true, "4b532732cbbc9890b5c6ae2c9f468c36b6bac14a883f6389390f785b456dff0e"), looks := false }, kinds := [], alts := [], laidByText := true, laidKinds := [.data, .pinned], laidTests := true, laidLooks := .later }
def RunesNextUptoCardSaid : Prop := Claim7.holds Tryd.pinned (.plain (OpenSpec.upto runesNextSpec)) runesNextUptoCard

/-- THE SECOND FORM's CARD OF 'correctorlaw1.RunesBad'. -/
def runesBadUptoCard : Claim7 := { stood := { row := runesBadUptoRow, standIns := [], harness := (true, "4b532732cbbc9890b5c6ae2c9f468c36b6bac14a883f6389390f785b456dff0e"), looks := false }, kinds := [], alts := [], laidByText := true, laidKinds := [.data, .pinned], laidTests := true, laidLooks := .later }
def RunesBadUptoCardSaid : Prop := Claim7.holds Tryd.pinned (.plain (OpenSpec.upto runesBadSpec)) runesBadUptoCard

/-- THE SECOND FORM's CARD OF 'correctorlaw1.RunesAll'. -/
def runesAllUptoCard : Claim7 := { stood := { row := runesAllUptoRow, standIns := [], harness := (true, "4b532732cbbc9890b5c6ae2c9f468c36b6bac14a883f6389390f785b456dff0e"), looks := false }, kinds := [], alts := [], laidByText := true, laidKinds := [.data, .pinned], laidTests := true, laidLooks := .later }
def RunesAllUptoCardSaid : Prop := Claim7.holds Tryd.pinned (.plain (OpenSpec.upto runesAllSpec)) runesAllUptoCard

/-- THE SECOND FORM's CARD OF 'correctorlaw1.RunesText'. -/
def runesTextUptoCard : Claim7 := { stood := { row := runesTextUptoRow, standIns := [], harness := (true, "4b532732cbbc9890b5c6ae2c9f468c36b6bac14a883f6389390f785b456dff0e"), looks := false }, kinds := [], alts := [], laidByText := true, laidKinds := [.data, .pinned], laidTests := true, laidLooks := .later }
def RunesTextUptoCardSaid : Prop := Claim7.holds Tryd.pinned (.plain (OpenSpec.upto runesTextSpec)) runesTextUptoCard

/-- THE SECOND FORM's CARD OF 'correctorlaw1.RunesShort'. -/
def runesShortUptoCard : Claim7 := { stood := { row := runesShortUptoRow, standIns := [], harness := (true, "4b532732cbbc9890b5c6ae2c9f468c36b6bac14a883f6389390f785b456dff0e"), looks := false }, kinds := [], alts := [], laidByText := true, laidKinds := [.data, .pinned], laidTests := true, laidLooks := .later }
def RunesShortUptoCardSaid : Prop := Claim7.holds Tryd.pinned (.plain (OpenSpec.upto runesShortSpec)) runesShortUptoCard

/-- THE SECOND FORM's CARD OF 'correctorlaw1.RunesJoin'. -/
def runesJoinUptoCard : Claim7 := { stood := { row := runesJoinUptoRow, standIns := [], harness := (true, "4b532732cbbc9890b5c6ae2c9f468c36b6bac14a883f6389390f785b456dff0e"), looks := false }, kinds := [], alts := [], laidByText := true, laidKinds := [.data, .pinned], laidTests := true, laidLooks := .later }
def RunesJoinUptoCardSaid : Prop := Claim7.holds Tryd.pinned (.plain (OpenSpec.upto runesJoinSpec)) runesJoinUptoCard
end Rows
end Go.Proofs.YtnjbdafjhhjfoaaDoor
