/- utf8.ValidRune; a sign as a text. -/
import Derived.Test.YtapkejdjbmdebaaDoorText
import Derived.Test.YtapkejdjbmdebaaDoorOwn
namespace Go.Proofs.YtapkejdjbmdebaaDoor
open Go.RowKit
theorem conv_rune (n : Int) (w : World) : (convert 21 9 (.int .i32 n)).run Tryd.prog w = .ok (.string (Utf8.encode n)) w := by
  simp [convert, run_underlying Tryd.underlying21, run_underlying Tryd.underlying9, Conv.intToString]
set_option maxHeartbeats 1000000 in
set_option maxRecDepth 100000 in
theorem valid_any (c : Int) (w : World) (h1 : c ≤ 2147483647) :
    Calls Tryd.prog 77 #[.int .i32 c] w fun e w' => e = .returned (.bool (Utf8.valid c)) ∧ w = w' := by
  go_enter Tryd.func77, Tryd.ntmps77
  go_wp2
  all_goals
    go_ret
    refine ⟨?_, rfl⟩
    simp [Utf8.valid]
    omega
theorem valid_yes (c : Int) (w : World) (h1 : c ≤ 2147483647) (h : Utf8.valid c = true) :
    Calls Tryd.prog 77 #[.int .i32 c] w fun e w' => e = .returned (.bool true) ∧ w = w' := by
  have := valid_any c w h1
  rw [h] at this; exact this
theorem valid_no (c : Int) (w : World) (h1 : c ≤ 2147483647) (h : Utf8.valid c = false) :
    Calls Tryd.prog 77 #[.int .i32 c] w fun e w' => e = .returned (.bool false) ∧ w = w' := by
  have := valid_any c w h1
  rw [h] at this; exact this
end Go.Proofs.YtapkejdjbmdebaaDoor
