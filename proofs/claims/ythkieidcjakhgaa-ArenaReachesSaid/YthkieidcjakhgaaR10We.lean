/- ArenaReaches' walk, over package arena's own functions. -/
import Derived.Test.YthkieidcjakhgaaR10Rea
import Derived.Test.YthkieidcjakhgaaAqa
import Derived.Test.YthkieidcjakhgaaAq2
import Derived.Test.YthkieidcjakhgaaAqe
namespace Go.Proofs.Ythkieidcjakhgaa
open Go.RowKit
theorem walk_ArenaReaches (n0 deep0 to0 : Int) (w : World) (h1 : (Lit.int .i64 n0).wf = true) (h2 : (Lit.int .i64 deep0).wf = true) (h3 : (Lit.int .i64 to0).wf = true) :
    Calls Try.prog 6 #[.int .i64 n0, .int .i64 deep0, .int .i64 to0] w fun e w' => e = .returned (.bool true) ∧ Below w.heap.size w w' :=
  walkP_ArenaReaches aNew aAdd aGrow aCheck aSame n0 deep0 to0 w h1 h2 h3
end Go.Proofs.Ythkieidcjakhgaa
