/-
  DERIVED. GIVEN WITH THE SEED: THE CARDS: each row of YtmkkdjpebbdikaaGreatDoorRows.lean that lists a variable, with what it lists TIED to the program's text (the seventh form; the later family's looks); each row that meets fmt, with fmt's text TOLD by the authors' own Lean function (tested against real Go, not proved from fmt's source: count such statements apart). THE CARD IS WHAT COUNTS. Prove the row's statement (the work); the ties are given (YtmkkdjpebbdikaaGreatDoorTie.lean); close each card by the builder's one call (the guide's Derived/Test/ToyasCard.lean, 'card_holds'). Laid BY PROGRAM, IN A SANDBOX (cutbox-door.mjs). By AI agents, Wed Nov 11 2026. No macro, syntax, notation, axiom, sorry.
-/
import Derived.Test.YtmkkdjpebbdikaaGreatDoorRows
import GoSem.ClaimSeven
namespace Go.Proofs.YtmkkdjpebbdikaaGreatDoor
namespace Rows

/-- THE TIED CARD OF 'correctorlaw12.ParseLies'. -/
def parseLiesCard : Claim7 := { stood := { row := parseLiesRow, standIns := [], harness := (true, "c44c307daed0cc903f3f719a7befdd3521e3ada0d2e7b73efe6d779a8a787f80"), looks := true }, kinds := [], alts := [], laidByText := true, laidKinds := [.data, .pinned], laidTests := true, laidLooks := .later }
def ParseLiesCardSaid : Prop := Claim7.holds Tryz.pinned (.plain (OpenSpec.ofChange parseLiesSpec)) parseLiesCard

/-- THE TIED CARD OF 'correctorlaw12.ParseErrors'. -/
def parseErrorsCard : Claim7 := { stood := { row := parseErrorsRow, standIns := [], harness := (true, "c44c307daed0cc903f3f719a7befdd3521e3ada0d2e7b73efe6d779a8a787f80"), looks := true }, kinds := [], alts := [], laidByText := true, laidKinds := [.data, .pinned], laidTests := true, laidLooks := .later }
def ParseErrorsCardSaid : Prop := Claim7.holds Tryz.pinned (.plain (OpenSpec.ofChange parseErrorsSpec)) parseErrorsCard

/-- THE TIED CARD OF 'correctorlaw12.ParseBounds'. -/
def parseBoundsCard : Claim7 := { stood := { row := parseBoundsRow, standIns := [], harness := (true, "c44c307daed0cc903f3f719a7befdd3521e3ada0d2e7b73efe6d779a8a787f80"), looks := true }, kinds := [], alts := [], laidByText := true, laidKinds := [.data, .pinned], laidTests := true, laidLooks := .later }
def ParseBoundsCardSaid : Prop := Claim7.holds Tryz.pinned (.plain (OpenSpec.ofChange parseBoundsSpec)) parseBoundsCard

/-- THE TIED CARD OF 'correctorlaw12.ParseKinds'. -/
def parseKindsCard : Claim7 := { stood := { row := parseKindsRow, standIns := [], harness := (true, "c44c307daed0cc903f3f719a7befdd3521e3ada0d2e7b73efe6d779a8a787f80"), looks := true }, kinds := [], alts := [], laidByText := true, laidKinds := [.data, .pinned], laidTests := true, laidLooks := .later }
def ParseKindsCardSaid : Prop := Claim7.holds Tryz.pinned (.plain (OpenSpec.ofChange parseKindsSpec)) parseKindsCard

/-- THE TIED CARD OF 'correctorlaw12.ParseDeep'. -/
def parseDeepCard : Claim7 := { stood := { row := parseDeepRow, standIns := [], harness := (true, "c44c307daed0cc903f3f719a7befdd3521e3ada0d2e7b73efe6d779a8a787f80"), looks := true }, kinds := [], alts := [], laidByText := true, laidKinds := [.data, .pinned], laidTests := true, laidLooks := .later }
def ParseDeepCardSaid : Prop := Claim7.holds Tryz.pinned (.plain (OpenSpec.ofChange parseDeepSpec)) parseDeepCard

/-- THE TIED CARD OF 'correctorlaw12.ParseFirst'. -/
def parseFirstCard : Claim7 := { stood := { row := parseFirstRow, standIns := [], harness := (true, "c44c307daed0cc903f3f719a7befdd3521e3ada0d2e7b73efe6d779a8a787f80"), looks := true }, kinds := [], alts := [], laidByText := true, laidKinds := [.data, .pinned], laidTests := true, laidLooks := .later }
def ParseFirstCardSaid : Prop := Claim7.holds Tryz.pinned (.plain (OpenSpec.ofChange parseFirstSpec)) parseFirstCard

/-- THE SECOND FORM's CARD OF 'correctorlaw12.ParseLies'. -/
def parseLiesUptoCard : Claim7 := { stood := { row := parseLiesUptoRow, standIns := [], harness := (true, "c44c307daed0cc903f3f719a7befdd3521e3ada0d2e7b73efe6d779a8a787f80"), looks := true }, kinds := [], alts := [], laidByText := true, laidKinds := [.data, .pinned], laidTests := true, laidLooks := .later }
def ParseLiesUptoCardSaid : Prop := Claim7.holds Tryz.pinned (.plain (OpenSpec.upto parseLiesSpec)) parseLiesUptoCard

/-- THE SECOND FORM's CARD OF 'correctorlaw12.ParseErrors'. -/
def parseErrorsUptoCard : Claim7 := { stood := { row := parseErrorsUptoRow, standIns := [], harness := (true, "c44c307daed0cc903f3f719a7befdd3521e3ada0d2e7b73efe6d779a8a787f80"), looks := true }, kinds := [], alts := [], laidByText := true, laidKinds := [.data, .pinned], laidTests := true, laidLooks := .later }
def ParseErrorsUptoCardSaid : Prop := Claim7.holds Tryz.pinned (.plain (OpenSpec.upto parseErrorsSpec)) parseErrorsUptoCard

/-- THE SECOND FORM's CARD OF 'correctorlaw12.ParseBounds'. -/
def parseBoundsUptoCard : Claim7 := { stood := { row := parseBoundsUptoRow, standIns := [], harness := (true, "c44c307daed0cc903f3f719a7befdd3521e3ada0d2e7b73efe6d779a8a787f80"), looks := true }, kinds := [], alts := [], laidByText := true, laidKinds := [.data, .pinned], laidTests := true, laidLooks := .later }
def ParseBoundsUptoCardSaid : Prop := Claim7.holds Tryz.pinned (.plain (OpenSpec.upto parseBoundsSpec)) parseBoundsUptoCard

/-- THE SECOND FORM's CARD OF 'correctorlaw12.ParseKinds'. -/
def parseKindsUptoCard : Claim7 := { stood := { row := parseKindsUptoRow, standIns := [], harness := (true, "c44c307daed0cc903f3f719a7befdd3521e3ada0d2e7b73efe6d779a8a787f80"), looks := true }, kinds := [], alts := [], laidByText := true, laidKinds := [.data, .pinned], laidTests := true, laidLooks := .later }
def ParseKindsUptoCardSaid : Prop := Claim7.holds Tryz.pinned (.plain (OpenSpec.upto parseKindsSpec)) parseKindsUptoCard

/-- THE SECOND FORM's CARD OF 'correctorlaw12.ParseDeep'. -/
def parseDeepUptoCard : Claim7 := { stood := { row := parseDeepUptoRow, standIns := [], harness := (true, "c44c307daed0cc903f3f719a7befdd3521e3ada0d2e7b73efe6d779a8a787f80"), looks := true }, kinds := [], alts := [], laidByText := true, laidKinds := [.data, .pinned], laidTests := true, laidLooks := .later }
def ParseDeepUptoCardSaid : Prop := Claim7.holds Tryz.pinned (.plain (OpenSpec.upto parseDeepSpec)) parseDeepUptoCard

/-- THE SECOND FORM's CARD OF 'correctorlaw12.ParseFirst'. -/
def parseFirstUptoCard : Claim7 := { stood := { row := parseFirstUptoRow, standIns := [], harness := (true, "c44c307daed0cc903f3f719a7befdd3521e3ada0d2e7b73efe6d779a8a787f80"), looks := true }, kinds := [], alts := [], laidByText := true, laidKinds := [.data, .pinned], laidTests := true, laidLooks := .later }
def ParseFirstUptoCardSaid : Prop := Claim7.holds Tryz.pinned (.plain (OpenSpec.upto parseFirstSpec)) parseFirstUptoCard
end Rows
end Go.Proofs.YtmkkdjpebbdikaaGreatDoor
