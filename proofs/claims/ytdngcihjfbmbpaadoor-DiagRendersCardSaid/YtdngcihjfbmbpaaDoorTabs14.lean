/- What a row's list of package-level variables gives: the two tables of package utf8 and the powers of ten lie as the contracts ask; a world in which all five do. -/
import Derived.Test.YtdngcihjfbmbpaaDoorZpt
import Derived.Test.YtdngcihjfbmbpaaDoorRun1
import Derived.Test.YtdngcihjfbmbpaaDoorRows
import Derived.Lib.LaidU8T
import Derived.LaidSub
import Derived.Deep.DeepHandedRow
namespace Go.Proofs.YtdngcihjfbmbpaaDoor
open Go.RowKit

def tabs_ren : Go.Shelf.Ren := ⟨fun n => n, fun | 5 => 5 | 119 => 76 | 138 => 78 | 139 => 79 | n => n, fun | 3 => 1 | 4 => 2 | n => n⟩
theorem tabs_types : U8Types Tryd.prog tabs_ren := { t5 := Tryd.underlying5, t119 := Tryd.underlying76, t138 := Tryd.underlying78, t139 := Tryd.underlying79 }
theorem tabs_extra : U8Extra Tryd.prog tabs_ren := { n3 := by kernel_rfl, n4 := by kernel_rfl, y3 := by kernel_rfl, y4 := by kernel_rfl, c5 := by kernel_rfl, c119 := by kernel_rfl, c138 := by kernel_rfl }
theorem first_same : Rows.laid_unicode_utf8_first = Lib.firstData := by kernel_rfl
theorem accept_same : (Rows.laid_unicode_utf8_acceptRanges : DataW Unit) = Lib.acceptData := by kernel_rfl
theorem pow_same : (Rows.laid_internal_strconv_uint64pow10 : DataW Unit) = Lib.tabData .u64 Lib.pow10Tab := by kernel_rfl
theorem pow_of_reads {W : World} (h : Lib.VarReads Tryd.prog W "internal/strconv.uint64pow10" Rows.laid_internal_strconv_uint64pow10) : Zm.Pow W := by
  rw [pow_same] at h
  obtain ⟨g, t, cs, fuel, p, hg, hty, hvar, hd⟩ := h
  have e1 : Tryd.prog.globalNamed "internal/strconv.uint64pow10" = some 0 := by kernel_rfl
  obtain rfl := Option.some.inj (e1.symm.trans hg)
  have e2 : (Tryd.prog.globals[(0 : Nat)]?).map (·.type) = some 71 := by kernel_rfl
  obtain rfl := Option.some.inj (e2.symm.trans hty)
  unfold Zm.Pow Lib.TabIs
  rw [hvar, ← Lib.cells_of_tab Tryd.underlying71 Tryd.underlying63 (by kernel_rfl) (by kernel_rfl) hd]
theorem tabs_of_laid {W : World} (h : laidMetH Tryd.prog [("math/bits.deBruijn32tab", Rows.laid_math_bits_deBruijn32tab), ("math/bits.deBruijn64tab", Rows.laid_math_bits_deBruijn64tab), ("internal/strconv.uint64pow10", Rows.laid_internal_strconv_uint64pow10), ("unicode/utf8.acceptRanges", Rows.laid_unicode_utf8_acceptRanges), ("unicode/utf8.first", Rows.laid_unicode_utf8_first)] W) : Tabs W ∧ Zm.Pow W := by
  have h1 := (laidMetH_iff.1 h).1
  have e : ([("math/bits.deBruijn32tab", Rows.laid_math_bits_deBruijn32tab), ("math/bits.deBruijn64tab", Rows.laid_math_bits_deBruijn64tab), ("internal/strconv.uint64pow10", Rows.laid_internal_strconv_uint64pow10), ("unicode/utf8.acceptRanges", Rows.laid_unicode_utf8_acceptRanges), ("unicode/utf8.first", Rows.laid_unicode_utf8_first)] : List (String × DataW Unit)).filter (fun x => x.2.handleName?.isNone) = [("math/bits.deBruijn32tab", Rows.laid_math_bits_deBruijn32tab), ("math/bits.deBruijn64tab", Rows.laid_math_bits_deBruijn64tab), ("internal/strconv.uint64pow10", Rows.laid_internal_strconv_uint64pow10), ("unicode/utf8.acceptRanges", Rows.laid_unicode_utf8_acceptRanges), ("unicode/utf8.first", Rows.laid_unicode_utf8_first)] := by kernel_rfl
  rw [e] at h1
  have r1 := Lib.laidMet.reads h1 (n := "unicode/utf8.first") (d := Rows.laid_unicode_utf8_first) (by simp)
  have r2 := Lib.laidMet.reads h1 (n := "unicode/utf8.acceptRanges") (d := Rows.laid_unicode_utf8_acceptRanges) (by simp)
  have r3 := Lib.laidMet.reads h1 (n := "internal/strconv.uint64pow10") (d := Rows.laid_internal_strconv_uint64pow10) (by simp)
  rw [first_same] at r1
  rw [accept_same] at r2
  exact ⟨utf8Tabs_of_readsT tabs_types tabs_extra r1 r2, pow_of_reads r3⟩

/-- The tables' cells as their initialisers lay them. -/
def firstCells : Array Value := ((List.range 256).map fun c => Value.int .u8 (Lib.firstT c : Int)).toArray
def acceptCells : Array Value := ((List.range 16).flatMap fun i => [Value.int .u8 (Lib.accLo i : Int), Value.int .u8 (Lib.accHi i : Int)]).toArray
def datCells : DataW Unit → Array Value
  | .agg l => (l.filterMap fun d => match d with | .lit (.int k n) => some (Value.int k n) | _ => none).toArray
  | _ => #[]
def lay (C : Array Value) : Obj → Obj
  | .cells _ t frozen => .cells C t frozen
  | o => o
noncomputable def laidWorld (os : Os) : World :=
  { World.holding Tryd.prog os ⟨#[], #[], []⟩ with heap := (((((World.holding Tryd.prog os ⟨#[], #[], []⟩).heap.modify 1 (lay firstCells)).modify 2 (lay acceptCells)).modify 0 (lay (datCells Rows.laid_internal_strconv_uint64pow10))).modify 3 (lay (datCells Rows.laid_math_bits_deBruijn32tab))).modify 4 (lay (datCells Rows.laid_math_bits_deBruijn64tab)) }
end Go.Proofs.YtdngcihjfbmbpaaDoor
