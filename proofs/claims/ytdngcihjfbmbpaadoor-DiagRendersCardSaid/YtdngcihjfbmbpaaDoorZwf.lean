/- Diagnostics of 64 bits each. -/
import Derived.Test.YtdngcihjfbmbpaaDoorZdb
namespace Go.Proofs.YtdngcihjfbmbpaaDoor.Zm
open Go.RowKit
open Go.Proofs.YtdngcihjfbmbpaaDoor.Zd

/-- Of 64 bits each. -/
def Wf (d : Dg) : Prop := (Lit.int .i64 d.code).wf = true ∧ (Lit.int .i64 d.f).wf = true ∧ (Lit.int .i64 d.t).wf = true
end Go.Proofs.YtdngcihjfbmbpaaDoor.Zm
