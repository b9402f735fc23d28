/- The library's contracts of strings.ContainsRune (signs of one byte), strings.IndexByte and strings.HasPrefix (the kit's shelf), laid at this seat's numbers: no walk of its own. (Written by tools/gen_shq.py.) -/
import Derived.Shelf.Strings.Runes
import Derived.Shelf.Strings.Prefix
import Derived.Test.YtmkchfpmlidaiaaProg
namespace Go.Proofs.Ytmkchfpmlidaiaa
open Go.Shelf
def cr_lays_ren : Go.Shelf.Ren := ⟨fun | 119 => 60 | 137 => 61 | 151 => 48 | 152 => 58 | 217 => 64 | 224 => 62 | 225 => 63 | 266 => 65 | n => n, fun | 0 => 0 | 3 => 3 | 4 => 4 | 5 => 5 | 9 => 9 | 21 => 21 | 46 => 46 | n => n, fun n => n⟩
theorem cr_lays : Lays.n151 Try.prog cr_lays_ren := {
  mixed := by kernel_rfl,
  f119 := Try.func60.trans (congrArg some (by kernel_rfl)),
  f137 := Try.func61.trans (congrArg some (by kernel_rfl)),
  f151 := Try.func48.trans (congrArg some (by kernel_rfl)),
  f152 := Try.func58.trans (congrArg some (by kernel_rfl)),
  f217 := Try.func64.trans (congrArg some (by kernel_rfl)),
  f224 := Try.func62.trans (congrArg some (by kernel_rfl)),
  f225 := Try.func63.trans (congrArg some (by kernel_rfl)),
  f266 := Try.func65.trans (congrArg some (by kernel_rfl)),
  t0 := Try.underlying0,
  a0 := Try.isAgg0,
  z0 := Try.sizeOf0,
  v0 := Try.zeroValue0,
  t3 := Try.underlying3,
  a3 := Try.isAgg3,
  z3 := Try.sizeOf3,
  v3 := Try.zeroValue3,
  t4 := Try.underlying4,
  a4 := Try.isAgg4,
  z4 := Try.sizeOf4,
  v4 := Try.zeroValue4,
  t5 := Try.underlying5,
  a5 := Try.isAgg5,
  z5 := Try.sizeOf5,
  v5 := Try.zeroValue5,
  t9 := Try.underlying9,
  a9 := Try.isAgg9,
  z9 := Try.sizeOf9,
  v9 := Try.zeroValue9,
  t21 := Try.underlying21,
  a21 := Try.isAgg21,
  z21 := Try.sizeOf21,
  v21 := Try.zeroValue21,
  t46 := Try.underlying46,
  a46 := Try.isAgg46,
  z46 := Try.sizeOf46,
  v46 := Try.zeroValue46 }
def ib_lays_ren : Go.Shelf.Ren := ⟨fun | 137 => 61 | 217 => 64 | 266 => 65 | n => n, fun | 3 => 3 | 5 => 5 | 9 => 9 | n => n, fun n => n⟩
theorem ib_lays : Lays.n137 Try.prog ib_lays_ren := {
  mixed := by kernel_rfl,
  f137 := Try.func61.trans (congrArg some (by kernel_rfl)),
  f217 := Try.func64.trans (congrArg some (by kernel_rfl)),
  f266 := Try.func65.trans (congrArg some (by kernel_rfl)),
  t3 := Try.underlying3,
  a3 := Try.isAgg3,
  z3 := Try.sizeOf3,
  v3 := Try.zeroValue3,
  t5 := Try.underlying5,
  a5 := Try.isAgg5,
  z5 := Try.sizeOf5,
  v5 := Try.zeroValue5,
  t9 := Try.underlying9,
  a9 := Try.isAgg9,
  z9 := Try.sizeOf9,
  v9 := Try.zeroValue9 }
def hp_lays_ren : Go.Shelf.Ren := ⟨fun | 99 => 29 | 206 => 47 | n => n, fun | 3 => 3 | 4 => 4 | 9 => 9 | n => n, fun n => n⟩
theorem hp_lays : Lays.n99 Try.prog hp_lays_ren := {
  mixed := by kernel_rfl,
  f99 := Try.func29.trans (congrArg some (by kernel_rfl)),
  f206 := Try.func47.trans (congrArg some (by kernel_rfl)),
  t3 := Try.underlying3,
  a3 := Try.isAgg3,
  z3 := Try.sizeOf3,
  v3 := Try.zeroValue3,
  t4 := Try.underlying4,
  a4 := Try.isAgg4,
  z4 := Try.sizeOf4,
  v4 := Try.zeroValue4,
  t9 := Try.underlying9,
  a9 := Try.isAgg9,
  z9 := Try.sizeOf9,
  v9 := Try.zeroValue9 }
end Go.Proofs.Ytmkchfpmlidaiaa
