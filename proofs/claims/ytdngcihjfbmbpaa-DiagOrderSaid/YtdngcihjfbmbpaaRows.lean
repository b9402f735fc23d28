/-
  No cell of these rows narrows 'for every input' (looked for: loops, veiled, ifaces, maps, wideKeys, modest, calm, conditions, laid).
  DERIVED. THE GIVEN ROWS OF THIS SEAT. 2 by the template 'for every input the law returns true; each argument reads behind the call as it read before'; 0 by the template 'total and deterministic' (their statements: YtdngcihjfbmbpaaTotals.lean).
  GIVEN WITH THE SEED: the statements are not yours to turn. If you find one false, say at which input.
  Laid BY PROGRAM, IN A SANDBOX (cutbox-rows.mjs): the forced cells as the released guide's own fill.sh prints them over the translation ff97a7ee01f96c24… (all of the seat's roots in one cut). By AI agents, Wed Nov 11 2026. No macro, syntax, notation, axiom, sorry.
-/
import Derived.Test.YtdngcihjfbmbpaaChecked
import GoSem.Claim
import GoSem.ClaimJoined
import GoSem.ClaimMapViews
import Derived.JoinedTies
import Derived.KernelRfl
namespace Go.Proofs.Ytdngcihjfbmbpaa
/- THE CELL 'sum', in the pinned program and in every row, IS THE sha256 OF THE DUMP (.gsa) THAT YtdngcihjfbmbpaaProg.lean LOADS. Nothing in Lean hashes anything: it is a label: what it is worth is what the hold of that sum in a sandbox is worth. -/
noncomputable def Try.pinned : Pinned := { name := "ytdngcihjfbmbpaa", sum := "ff97a7ee01f96c24021c648cbe0ab8f3b7a791429f309f7458fc4fb8c4f1c08f", checked := Try.checked }
namespace Rows
def none {H : Type} : Left H := { results := [], args := [] }

/-- 'correctorlaw14.DiagSorts': WHATEVER THE INPUT: true; the input reads as it did. -/
def diagSortsSpec : ChangeSpec := { name := "diagSorts", fn := fun _ => fun
  | [d] => { results := [.lit (.bool true)], args := [d] }
  | _ => none }
def diagSortsRow : OpenClaim := { program := "ytdngcihjfbmbpaa", sum := "ff97a7ee01f96c24021c648cbe0ab8f3b7a791429f309f7458fc4fb8c4f1c08f", func := "corrector/correctorlaw14.DiagSorts", spec := "diagSorts", unfollowed := true, recurses := true, plainKeys := false, apart := false }
def DiagSortsSaid : Prop := diagSortsRow.holds Try.pinned (OpenSpec.ofChange diagSortsSpec)

/-- ITS FALSE NEIGHBOUR: 'it returns false'. Refute it at one input. -/
def diagSortsWrong : ChangeSpec := { name := "diagSorts", fn := fun _ => fun
  | [d] => { results := [.lit (.bool false)], args := [d] }
  | _ => none }
def DiagSortsWrongFalsely : Prop := diagSortsRow.holds Try.pinned (OpenSpec.ofChange diagSortsWrong)

/-- 'correctorlaw14.DiagOrder': WHATEVER THE INPUT: true; the input reads as it did. -/
def diagOrderSpec : ChangeSpec := { name := "diagOrder", fn := fun _ => fun
  | [d] => { results := [.lit (.bool true)], args := [d] }
  | _ => none }
def diagOrderRow : OpenClaim := { program := "ytdngcihjfbmbpaa", sum := "ff97a7ee01f96c24021c648cbe0ab8f3b7a791429f309f7458fc4fb8c4f1c08f", func := "corrector/correctorlaw14.DiagOrder", spec := "diagOrder", unfollowed := true, recurses := true, plainKeys := false, apart := false }
def DiagOrderSaid : Prop := diagOrderRow.holds Try.pinned (OpenSpec.ofChange diagOrderSpec)

/-- ITS FALSE NEIGHBOUR: 'it returns false'. Refute it at one input. -/
def diagOrderWrong : ChangeSpec := { name := "diagOrder", fn := fun _ => fun
  | [d] => { results := [.lit (.bool false)], args := [d] }
  | _ => none }
def DiagOrderWrongFalsely : Prop := diagOrderRow.holds Try.pinned (OpenSpec.ofChange diagOrderWrong)

/- THE SECOND FORM. 'bulk': how many values and letters a reading holds, each counted each time it is reached (what is shared counts as often as it is met; a slice's spare places count too). A statement '..UptoSaid' is the law's where the arguments, and the package variables that the reading takes, are together of bulk at most 1048576: NARROWER than '..Said'. Prove '..Said' where nothing that the law and all that it calls make is longer than what came in: it says more and counts as full. Else prove '..UptoSaid'. A law counts once. -/
mutual
def uptoBulk {H : Type} : DataW H → Nat
  | .lit (.string bytes) => bytes.length + 1
  | .lit _ => 1
  | .nil => 1
  | .ptr d => uptoBulk d + 1
  | .slice elems spare => uptoBulkAll elems + uptoBulkAll spare + 1
  | .agg parts => uptoBulkAll parts + 1
  | .iface _ d => uptoBulk d + 1
  | .map entries => uptoBulkEntries entries + 1
  | .held _ => 1
def uptoBulkAll {H : Type} : List (DataW H) → Nat
  | [] => 0
  | d :: r => uptoBulk d + uptoBulkAll r
def uptoBulkEntries {H : Type} : List (Lit × DataW H) → Nat
  | [] => 0
  | x :: r => uptoBulkEntry x + uptoBulkEntries r
def uptoBulkEntry {H : Type} : Lit × DataW H → Nat
  | (.string bytes, d) => bytes.length + uptoBulk d + 1
  | (_, d) => uptoBulk d + 1
 end
def uptoSmall : (H : Type) → List (DataW H) → Bool := fun _ ds => decide (uptoBulkAll ds ≤ 1048576)
def OpenSpec.upto (s : _root_.Go.ChangeSpec) : _root_.Go.OpenSpec := { _root_.Go.OpenSpec.ofChange s with cond := some uptoSmall }

/-- 'correctorlaw14.DiagSorts', WHERE WHAT IT READS IS OF BULK AT MOST 1048576: true; the input reads as it did. -/
def diagSortsUptoRow : OpenClaim := { program := "ytdngcihjfbmbpaa", sum := "ff97a7ee01f96c24021c648cbe0ab8f3b7a791429f309f7458fc4fb8c4f1c08f", func := "corrector/correctorlaw14.DiagSorts", spec := "diagSorts", unfollowed := true, recurses := true, plainKeys := false, apart := false, narrowed := true }
def DiagSortsUptoSaid : Prop := diagSortsUptoRow.holds Try.pinned (OpenSpec.upto diagSortsSpec)

/-- 'correctorlaw14.DiagOrder', WHERE WHAT IT READS IS OF BULK AT MOST 1048576: true; the input reads as it did. -/
def diagOrderUptoRow : OpenClaim := { program := "ytdngcihjfbmbpaa", sum := "ff97a7ee01f96c24021c648cbe0ab8f3b7a791429f309f7458fc4fb8c4f1c08f", func := "corrector/correctorlaw14.DiagOrder", spec := "diagOrder", unfollowed := true, recurses := true, plainKeys := false, apart := false, narrowed := true }
def DiagOrderUptoSaid : Prop := diagOrderUptoRow.holds Try.pinned (OpenSpec.upto diagOrderSpec)

end Rows
end Go.Proofs.Ytdngcihjfbmbpaa
