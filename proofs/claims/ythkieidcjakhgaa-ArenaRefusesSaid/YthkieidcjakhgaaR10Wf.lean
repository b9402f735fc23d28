/- ArenaRefuses' walk, over package arena's own functions. -/
import Derived.Test.YthkieidcjakhgaaR10Ref
import Derived.Test.YthkieidcjakhgaaAqa
import Derived.Test.YthkieidcjakhgaaAq2
namespace Go.Proofs.Ythkieidcjakhgaa
open Go.RowKit
theorem walk_ArenaRefuses (n0 which by0 : Int) (w : World) (h1 : (Lit.int .i64 n0).wf = true) (h2 : (Lit.int .i64 which).wf = true) (h3 : (Lit.int .i64 by0).wf = true) :
    Calls Try.prog 5 #[.int .i64 n0, .int .i64 which, .int .i64 by0] w fun e w' => e = .returned (.bool true) ∧ Below w.heap.size w w' :=
  walkP_ArenaRefuses aNew aAdd aSame n0 which by0 w h1 h2 h3
end Go.Proofs.Ythkieidcjakhgaa
