/- The program's small functions of package chars (short, digits, digit) and utf8.ValidRune: one contract for each answer. -/
import Derived.Test.YtmkchfpmlidaiaaCh
import Derived.Test.YtmkchfpmlidaiaaOwn
namespace Go.Proofs.Ytmkchfpmlidaiaa
open Go.RowKit
open Go.Proofs.Ytmkchfpmlidaiaa.Es

/-- What a call that answers a sign, or none, returns. -/
def optR : Option Int → Value
  | some v => .tuple #[.int .i32 v, .bool true]
  | none => .tuple #[.int .i32 0, .bool false]

set_option maxHeartbeats 1000000 in
set_option maxRecDepth 100000 in
theorem short_any (c : Int) (w : World) (h0 : 0 ≤ c) (h1 : c < 256) :
    Calls Try.prog 49 #[.int .u8 c] w fun e w' => e = .returned (optR (shortI c)) ∧ w = w' := by
  go_enter Try.func49, Try.ntmps49
  go_wp2
  all_goals
    go_ret2
    refine ⟨?_, rfl⟩
    simp only [beq_iff_eq, beq_eq_false_iff_ne, ne_eq] at *
    simp [shortI, optR, *]
theorem short_some (c v : Int) (w : World) (h0 : 0 ≤ c) (h1 : c < 256) (h : shortI c = some v) :
    Calls Try.prog 49 #[.int .u8 c] w fun e w' => e = .returned (.tuple #[.int .i32 v, .bool true]) ∧ w = w' := by
  have := short_any c w h0 h1
  rw [h] at this; exact this
theorem short_none (c : Int) (w : World) (h0 : 0 ≤ c) (h1 : c < 256) (h : shortI c = none) :
    Calls Try.prog 49 #[.int .u8 c] w fun e w' => e = .returned (.tuple #[.int .i32 0, .bool false]) ∧ w = w' := by
  have := short_any c w h0 h1
  rw [h] at this; exact this

set_option maxHeartbeats 1000000 in
set_option maxRecDepth 100000 in
theorem digits_any (c : Int) (w : World) :
    Calls Try.prog 50 #[.int .u8 c] w fun e w' => e = .returned (.int .i64 (digsI c)) ∧ w = w' := by
  go_enter Try.func50, Try.ntmps50
  go_wp2
  all_goals
    go_ret
    refine ⟨?_, rfl⟩
    simp only [beq_iff_eq, beq_eq_false_iff_ne, ne_eq] at *
    simp [digsI, *]

set_option maxHeartbeats 1000000 in
set_option maxRecDepth 100000 in
theorem digit_any (c : Int) (w : World) (h0 : 0 ≤ c) (h1 : c ≤ 2147483647) :
    Calls Try.prog 59 #[.int .i32 c] w fun e w' => e = .returned (optR (hexI c)) ∧ w = w' := by
  go_enter Try.func59, Try.ntmps59
  go_wp2
  all_goals
    go_ret2
    refine ⟨?_, rfl⟩
    simp only [hexI]
    (repeat' split) <;> first | rfl | (simp [optR]; omega) | omega
theorem digit_some (c d : Int) (w : World) (h0 : 0 ≤ c) (h1 : c ≤ 2147483647) (h : hexI c = some d) :
    Calls Try.prog 59 #[.int .i32 c] w fun e w' => e = .returned (.tuple #[.int .i32 d, .bool true]) ∧ w = w' := by
  have := digit_any c w h0 h1
  rw [h] at this; exact this
theorem digit_none (c : Int) (w : World) (h0 : 0 ≤ c) (h1 : c ≤ 2147483647) (h : hexI c = none) :
    Calls Try.prog 59 #[.int .i32 c] w fun e w' => e = .returned (.tuple #[.int .i32 0, .bool false]) ∧ w = w' := by
  have := digit_any c w h0 h1
  rw [h] at this; exact this

set_option maxHeartbeats 1000000 in
set_option maxRecDepth 100000 in
theorem valid_any (c : Int) (w : World) (h1 : c ≤ 2147483647) :
    Calls Try.prog 60 #[.int .i32 c] w fun e w' => e = .returned (.bool (Utf8.valid c)) ∧ w = w' := by
  go_enter Try.func60, Try.ntmps60
  go_wp2
  all_goals
    go_ret
    refine ⟨?_, rfl⟩
    simp [Utf8.valid]
    omega
theorem valid_yes (c : Int) (w : World) (h1 : c ≤ 2147483647) (h : Utf8.valid c = true) :
    Calls Try.prog 60 #[.int .i32 c] w fun e w' => e = .returned (.bool true) ∧ w = w' := by
  have := valid_any c w h1
  rw [h] at this; exact this
theorem valid_no (c : Int) (w : World) (h1 : c ≤ 2147483647) (h : Utf8.valid c = false) :
    Calls Try.prog 60 #[.int .i32 c] w fun e w' => e = .returned (.bool false) ∧ w = w' := by
  have := valid_any c w h1
  rw [h] at this; exact this
end Go.Proofs.Ytmkchfpmlidaiaa
