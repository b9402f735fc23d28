/-
  No cell of these rows narrows 'for every input' (looked for: loops, veiled, ifaces, maps, wideKeys, modest, calm, conditions, laid).
  DERIVED. THE GIVEN ROWS OF THIS SEAT. 5 by the template 'for every input the law returns true; each argument reads behind the call as it read before'; 0 by the template 'total and deterministic' (their statements: YtnaoichhjnggaaaTotals.lean).
  GIVEN WITH THE SEED: the statements are not yours to turn. If you find one false, say at which input.
  Laid BY PROGRAM, IN A SANDBOX (cutbox-rows.mjs): the forced cells as the released guide's own fill.sh prints them over the translation 29296a19f045edb6… (all of the seat's roots in one cut). By AI agents, Wed Nov 11 2026. No macro, syntax, notation, axiom, sorry.
-/
import Derived.Test.YtnaoichhjnggaaaChecked
import GoSem.Claim
import GoSem.ClaimJoined
import GoSem.ClaimMapViews
import Derived.JoinedTies
import Derived.KernelRfl
namespace Go.Proofs.Ytnaoichhjnggaaa
/- THE CELL 'sum', in the pinned program and in every row, IS THE sha256 OF THE DUMP (.gsa) THAT YtnaoichhjnggaaaProg.lean LOADS. Nothing in Lean hashes anything: it is a label: what it is worth is what the hold of that sum in a sandbox is worth. -/
noncomputable def Try.pinned : Pinned := { name := "ytnaoichhjnggaaa", sum := "29296a19f045edb67ee44d5d949b272de3b9c9b553629d1cc686b7486598e4fa", checked := Try.checked }
namespace Rows
def none {H : Type} : Left H := { results := [], args := [] }

/-- 'correctorlaw5.CharsClasses': WHATEVER THE INPUT: true; the input reads as it did. -/
def charsClassesSpec : ChangeSpec := { name := "charsClasses", fn := fun _ => fun
  | [d] => { results := [.lit (.bool true)], args := [d] }
  | _ => none }
def charsClassesRow : OpenClaim := { program := "ytnaoichhjnggaaa", sum := "29296a19f045edb67ee44d5d949b272de3b9c9b553629d1cc686b7486598e4fa", func := "corrector/correctorlaw5.CharsClasses", spec := "charsClasses", apart := false }
def CharsClassesSaid : Prop := charsClassesRow.holds Try.pinned (OpenSpec.ofChange charsClassesSpec)

/-- ITS FALSE NEIGHBOUR: 'it returns false'. Refute it at one input. -/
def charsClassesWrong : ChangeSpec := { name := "charsClasses", fn := fun _ => fun
  | [d] => { results := [.lit (.bool false)], args := [d] }
  | _ => none }
def CharsClassesWrongFalsely : Prop := charsClassesRow.holds Try.pinned (OpenSpec.ofChange charsClassesWrong)

/-- 'correctorlaw5.CharsEscapes': WHATEVER THE INPUT: true; the input reads as it did. -/
def charsEscapesSpec : ChangeSpec := { name := "charsEscapes", fn := fun _ => fun
  | [d1, d2, d3, d4] => { results := [.lit (.bool true)], args := [d1, d2, d3, d4] }
  | _ => none }
def charsEscapesRow : OpenClaim := { program := "ytnaoichhjnggaaa", sum := "29296a19f045edb67ee44d5d949b272de3b9c9b553629d1cc686b7486598e4fa", func := "corrector/correctorlaw5.CharsEscapes", spec := "charsEscapes", apart := false }
def CharsEscapesSaid : Prop := charsEscapesRow.holds Try.pinned (OpenSpec.ofChange charsEscapesSpec)

/-- ITS FALSE NEIGHBOUR: 'it returns false'. Refute it at one input. -/
def charsEscapesWrong : ChangeSpec := { name := "charsEscapes", fn := fun _ => fun
  | [d1, d2, d3, d4] => { results := [.lit (.bool false)], args := [d1, d2, d3, d4] }
  | _ => none }
def CharsEscapesWrongFalsely : Prop := charsEscapesRow.holds Try.pinned (OpenSpec.ofChange charsEscapesWrong)

/-- 'correctorlaw5.CharsRunes': WHATEVER THE INPUT: true; the input reads as it did. -/
def charsRunesSpec : ChangeSpec := { name := "charsRunes", fn := fun _ => fun
  | [d] => { results := [.lit (.bool true)], args := [d] }
  | _ => none }
def charsRunesRow : OpenClaim := { program := "ytnaoichhjnggaaa", sum := "29296a19f045edb67ee44d5d949b272de3b9c9b553629d1cc686b7486598e4fa", func := "corrector/correctorlaw5.CharsRunes", spec := "charsRunes", apart := false }
def CharsRunesSaid : Prop := charsRunesRow.holds Try.pinned (OpenSpec.ofChange charsRunesSpec)

/-- ITS FALSE NEIGHBOUR: 'it returns false'. Refute it at one input. -/
def charsRunesWrong : ChangeSpec := { name := "charsRunes", fn := fun _ => fun
  | [d] => { results := [.lit (.bool false)], args := [d] }
  | _ => none }
def CharsRunesWrongFalsely : Prop := charsRunesRow.holds Try.pinned (OpenSpec.ofChange charsRunesWrong)

/-- 'correctorlaw5.CharsNone': WHATEVER THE INPUT: true; the input reads as it did. -/
def charsNoneSpec : ChangeSpec := { name := "charsNone", fn := fun _ => fun
  | [d1, d2] => { results := [.lit (.bool true)], args := [d1, d2] }
  | _ => none }
def charsNoneRow : OpenClaim := { program := "ytnaoichhjnggaaa", sum := "29296a19f045edb67ee44d5d949b272de3b9c9b553629d1cc686b7486598e4fa", func := "corrector/correctorlaw5.CharsNone", spec := "charsNone", apart := false }
def CharsNoneSaid : Prop := charsNoneRow.holds Try.pinned (OpenSpec.ofChange charsNoneSpec)

/-- ITS FALSE NEIGHBOUR: 'it returns false'. Refute it at one input. -/
def charsNoneWrong : ChangeSpec := { name := "charsNone", fn := fun _ => fun
  | [d1, d2] => { results := [.lit (.bool false)], args := [d1, d2] }
  | _ => none }
def CharsNoneWrongFalsely : Prop := charsNoneRow.holds Try.pinned (OpenSpec.ofChange charsNoneWrong)

/-- 'correctorlaw5.CharsFront': WHATEVER THE INPUT: true; the input reads as it did. -/
def charsFrontSpec : ChangeSpec := { name := "charsFront", fn := fun _ => fun
  | [d1, d2] => { results := [.lit (.bool true)], args := [d1, d2] }
  | _ => none }
def charsFrontRow : OpenClaim := { program := "ytnaoichhjnggaaa", sum := "29296a19f045edb67ee44d5d949b272de3b9c9b553629d1cc686b7486598e4fa", func := "corrector/correctorlaw5.CharsFront", spec := "charsFront", apart := false }
def CharsFrontSaid : Prop := charsFrontRow.holds Try.pinned (OpenSpec.ofChange charsFrontSpec)

/-- ITS FALSE NEIGHBOUR: 'it returns false'. Refute it at one input. -/
def charsFrontWrong : ChangeSpec := { name := "charsFront", fn := fun _ => fun
  | [d1, d2] => { results := [.lit (.bool false)], args := [d1, d2] }
  | _ => none }
def CharsFrontWrongFalsely : Prop := charsFrontRow.holds Try.pinned (OpenSpec.ofChange charsFrontWrong)

/- THE SECOND FORM. 'bulk': how many values and letters a reading holds, each counted each time it is reached (what is shared counts as often as it is met; a slice's spare places count too). A statement '..UptoSaid' is the law's where the arguments, and the package variables that the reading takes, are together of bulk at most 1048576: NARROWER than '..Said'. Prove '..Said' where nothing that the law and all that it calls make is longer than what came in: it says more and counts as full. Else prove '..UptoSaid'. A law counts once. -/
mutual
def uptoBulk {H : Type} : DataW H → Nat
  | .lit (.string bytes) => bytes.length + 1
  | .lit _ => 1
  | .nil => 1
  | .ptr d => uptoBulk d + 1
  | .slice elems spare => uptoBulkAll elems + uptoBulkAll spare + 1
  | .agg parts => uptoBulkAll parts + 1
  | .iface _ d => uptoBulk d + 1
  | .map entries => uptoBulkEntries entries + 1
  | .held _ => 1
def uptoBulkAll {H : Type} : List (DataW H) → Nat
  | [] => 0
  | d :: r => uptoBulk d + uptoBulkAll r
def uptoBulkEntries {H : Type} : List (Lit × DataW H) → Nat
  | [] => 0
  | x :: r => uptoBulkEntry x + uptoBulkEntries r
def uptoBulkEntry {H : Type} : Lit × DataW H → Nat
  | (.string bytes, d) => bytes.length + uptoBulk d + 1
  | (_, d) => uptoBulk d + 1
 end
def uptoSmall : (H : Type) → List (DataW H) → Bool := fun _ ds => decide (uptoBulkAll ds ≤ 1048576)
def OpenSpec.upto (s : _root_.Go.ChangeSpec) : _root_.Go.OpenSpec := { _root_.Go.OpenSpec.ofChange s with cond := some uptoSmall }

/-- 'correctorlaw5.CharsClasses', WHERE WHAT IT READS IS OF BULK AT MOST 1048576: true; the input reads as it did. -/
def charsClassesUptoRow : OpenClaim := { program := "ytnaoichhjnggaaa", sum := "29296a19f045edb67ee44d5d949b272de3b9c9b553629d1cc686b7486598e4fa", func := "corrector/correctorlaw5.CharsClasses", spec := "charsClasses", apart := false, narrowed := true }
def CharsClassesUptoSaid : Prop := charsClassesUptoRow.holds Try.pinned (OpenSpec.upto charsClassesSpec)

/-- 'correctorlaw5.CharsEscapes', WHERE WHAT IT READS IS OF BULK AT MOST 1048576: true; the input reads as it did. -/
def charsEscapesUptoRow : OpenClaim := { program := "ytnaoichhjnggaaa", sum := "29296a19f045edb67ee44d5d949b272de3b9c9b553629d1cc686b7486598e4fa", func := "corrector/correctorlaw5.CharsEscapes", spec := "charsEscapes", apart := false, narrowed := true }
def CharsEscapesUptoSaid : Prop := charsEscapesUptoRow.holds Try.pinned (OpenSpec.upto charsEscapesSpec)

/-- 'correctorlaw5.CharsRunes', WHERE WHAT IT READS IS OF BULK AT MOST 1048576: true; the input reads as it did. -/
def charsRunesUptoRow : OpenClaim := { program := "ytnaoichhjnggaaa", sum := "29296a19f045edb67ee44d5d949b272de3b9c9b553629d1cc686b7486598e4fa", func := "corrector/correctorlaw5.CharsRunes", spec := "charsRunes", apart := false, narrowed := true }
def CharsRunesUptoSaid : Prop := charsRunesUptoRow.holds Try.pinned (OpenSpec.upto charsRunesSpec)

/-- 'correctorlaw5.CharsNone', WHERE WHAT IT READS IS OF BULK AT MOST 1048576: true; the input reads as it did. -/
def charsNoneUptoRow : OpenClaim := { program := "ytnaoichhjnggaaa", sum := "29296a19f045edb67ee44d5d949b272de3b9c9b553629d1cc686b7486598e4fa", func := "corrector/correctorlaw5.CharsNone", spec := "charsNone", apart := false, narrowed := true }
def CharsNoneUptoSaid : Prop := charsNoneUptoRow.holds Try.pinned (OpenSpec.upto charsNoneSpec)

/-- 'correctorlaw5.CharsFront', WHERE WHAT IT READS IS OF BULK AT MOST 1048576: true; the input reads as it did. -/
def charsFrontUptoRow : OpenClaim := { program := "ytnaoichhjnggaaa", sum := "29296a19f045edb67ee44d5d949b272de3b9c9b553629d1cc686b7486598e4fa", func := "corrector/correctorlaw5.CharsFront", spec := "charsFront", apart := false, narrowed := true }
def CharsFrontUptoSaid : Prop := charsFrontUptoRow.holds Try.pinned (OpenSpec.upto charsFrontSpec)

end Rows
end Go.Proofs.Ytnaoichhjnggaaa
