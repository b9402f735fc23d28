/- What a row's list of package-level variables gives: the two tables of package utf8 lie as the contracts ask; a world in which they do. -/
import Derived.Test.YtapkejdjbmdebaaDoorRun1
import Derived.Test.YtapkejdjbmdebaaDoorRows
import Derived.Lib.LaidU8T
import Derived.LaidSub
import Derived.Deep.DeepHandedRow
namespace Go.Proofs.YtapkejdjbmdebaaDoor
open Go.RowKit

def tabs_ren : Go.Shelf.Ren := ⟨fun n => n, fun | 5 => 5 | 119 => 79 | 138 => 81 | 139 => 82 | n => n, fun | 3 => 1 | 4 => 2 | n => n⟩
theorem tabs_types : U8Types Tryd.prog tabs_ren := { t5 := Tryd.underlying5, t119 := Tryd.underlying79, t138 := Tryd.underlying81, t139 := Tryd.underlying82 }
theorem tabs_extra : U8Extra Tryd.prog tabs_ren := { n3 := by kernel_rfl, n4 := by kernel_rfl, y3 := by kernel_rfl, y4 := by kernel_rfl, c5 := by kernel_rfl, c119 := by kernel_rfl, c138 := by kernel_rfl }
theorem first_same : Rows.laid_unicode_utf8_first = Lib.firstData := by kernel_rfl
theorem accept_same : (Rows.laid_unicode_utf8_acceptRanges : DataW Unit) = Lib.acceptData := by kernel_rfl
theorem tabs_of_laid {W : World} (h : laidMetH Tryd.prog [("unicode/utf8.acceptRanges", Rows.laid_unicode_utf8_acceptRanges), ("unicode/utf8.first", Rows.laid_unicode_utf8_first)] W) : Tabs W := by
  have h1 := (laidMetH_iff.1 h).1
  have e : ([("unicode/utf8.acceptRanges", Rows.laid_unicode_utf8_acceptRanges), ("unicode/utf8.first", Rows.laid_unicode_utf8_first)] : List (String × DataW Unit)).filter (fun x => x.2.handleName?.isNone) = [("unicode/utf8.acceptRanges", Rows.laid_unicode_utf8_acceptRanges), ("unicode/utf8.first", Rows.laid_unicode_utf8_first)] := by kernel_rfl
  rw [e] at h1
  have r1 := Lib.laidMet.reads h1 (n := "unicode/utf8.first") (d := Rows.laid_unicode_utf8_first) (by simp)
  have r2 := Lib.laidMet.reads h1 (n := "unicode/utf8.acceptRanges") (d := Rows.laid_unicode_utf8_acceptRanges) (by simp)
  rw [first_same] at r1
  rw [accept_same] at r2
  exact utf8Tabs_of_readsT tabs_types tabs_extra r1 r2

/-- The two tables' cells as their initialisers lay them. -/
def firstCells : Array Value := ((List.range 256).map fun c => Value.int .u8 (Lib.firstT c : Int)).toArray
def acceptCells : Array Value := ((List.range 16).flatMap fun i => [Value.int .u8 (Lib.accLo i : Int), Value.int .u8 (Lib.accHi i : Int)]).toArray
def lay (C : Array Value) : Obj → Obj
  | .cells _ t frozen => .cells C t frozen
  | o => o
noncomputable def laidWorld (os : Os) : World :=
  { World.holding Tryd.prog os ⟨#[], #[], []⟩ with heap := ((World.holding Tryd.prog os ⟨#[], #[], []⟩).heap.modify 1 (lay firstCells)).modify 2 (lay acceptCells) }
end Go.Proofs.YtapkejdjbmdebaaDoor
