/- The statements' own small functions (correctorlaw5.known, within), and the classes of bytes (chars and correctorref5: Blank, Name, Flow). -/
import Derived.Test.YtnaoichhjnggaaaChF
namespace Go.Proofs.Ytnaoichhjnggaaa
open Go.RowKit
open Go.Proofs.Ytnaoichhjnggaaa.Es

/-- A number brought within n. -/
def wit (x n : Int) : Int := if x.tmod n < 0 then x.tmod n + n else x.tmod n
theorem wit_bd (x n : Int) (h : 0 < n) : 0 ≤ wit x n ∧ wit x n < n := by
  have h1 := Int.tmod_lt_of_pos x h
  have h2 : -n < x.tmod n := by
    have := Int.tmod_lt_of_pos (-x) h
    rw [Int.neg_tmod] at this
    omega
  unfold wit
  split <;> omega
set_option maxHeartbeats 400000 in
theorem within_any (x n : Int) (w : World) (h1 : 1 ≤ n) (h2 : n ≤ 1000) :
    Calls Try.prog 17 #[.int .i64 x, .int .i64 n] w fun e w' => e = .returned (.int .i64 (wit x n)) ∧ w = w' := by
  have hb1 := Int.tmod_lt_of_pos x (show 0 < n by omega)
  have hb2 : -n < x.tmod n := by
    have := Int.tmod_lt_of_pos (-x) (show 0 < n by omega)
    rw [Int.neg_tmod] at this
    omega
  have hz : (n == 0) = false := by simp; omega
  have hn1 : n ≠ 0 := by omega
  unfold wit
  by_cases hc : x.tmod n < 0
  · rw [if_pos hc]
    go_enter Try.func17, Try.ntmps17
    go_wp2
    go_ret
    exact ⟨rfl, rfl⟩
  · rw [if_neg hc]
    go_enter Try.func17, Try.ntmps17
    go_wp2
    go_ret
    exact ⟨rfl, rfl⟩

theorem known_val : escR (esc (⟨#[92, 120, 52, 49]⟩ : ByteArray).data.toList) = .tuple #[.string ⟨#[65]⟩, .int .i64 4] := by rfl
set_option maxHeartbeats 400000 in
theorem known_true (w : World) :
    Calls Try.prog 8 #[] w fun e w' => e = .returned (.bool true) ∧ Below w.heap.size w w' := by
  have h := escape_any ⟨#[92, 120, 52, 49]⟩ w (by decide)
  rw [known_val] at h
  have H := Lib.hid h
  clear h
  go_enter Try.func8, Try.ntmps8
  go_wp2_with fail
  refine H.out.mono ?_
  rintro e w1 ⟨rfl, hb⟩
  go_wp2
  go_ret
  exact ⟨rfl, hb⟩

/-- Classes of bytes. -/
def blankB (c : Int) : Bool := decide (c = 32 ∨ c = 9)
def nameB (c : Int) : Bool := decide ((97 ≤ c ∧ c ≤ 122) ∨ (65 ≤ c ∧ c ≤ 90) ∨ (48 ≤ c ∧ c ≤ 57) ∨ c = 95 ∨ c = 45)
def flowB (c : Int) : Bool := decide (c = 44 ∨ c = 91 ∨ c = 93 ∨ c = 123 ∨ c = 125)
theorem blank_name {c : Int} (h : blankB c = true) : nameB c = false := by
  simp [blankB, nameB] at *; omega
theorem name_flow {c : Int} (h : nameB c = true) : flowB c = false := by
  simp [flowB, nameB] at *; omega
set_option maxHeartbeats 1000000 in
theorem prgBlank (c : Int) (w : World) :
    Calls Try.prog 9 #[.int .u8 c] w fun e w' => e = .returned (.bool (blankB c)) ∧ w = w' := by
  go_enter Try.func9, Try.ntmps9
  go_wp2
  all_goals
    go_ret
    refine ⟨?_, rfl⟩
    refine congrArg (fun b => Ending.returned (.bool b)) ?_
    rw [Bool.eq_iff_iff]
    simp [blankB] at *
    try omega
set_option maxHeartbeats 1000000 in
theorem prgName (c : Int) (w : World) :
    Calls Try.prog 11 #[.int .u8 c] w fun e w' => e = .returned (.bool (nameB c)) ∧ w = w' := by
  go_enter Try.func11, Try.ntmps11
  go_wp2
  all_goals
    go_ret
    refine ⟨?_, rfl⟩
    refine congrArg (fun b => Ending.returned (.bool b)) ?_
    rw [Bool.eq_iff_iff]
    simp [nameB] at *
    try omega
set_option maxHeartbeats 1000000 in
theorem prgFlow (c : Int) (w : World) :
    Calls Try.prog 13 #[.int .u8 c] w fun e w' => e = .returned (.bool (flowB c)) ∧ w = w' := by
  go_enter Try.func13, Try.ntmps13
  go_wp2
  all_goals
    go_ret
    refine ⟨?_, rfl⟩
    refine congrArg (fun b => Ending.returned (.bool b)) ?_
    rw [Bool.eq_iff_iff]
    simp [flowB] at *
    try omega
set_option maxHeartbeats 1000000 in
theorem refBlank (c : Int) (w : World) :
    Calls Try.prog 10 #[.int .u8 c] w fun e w' => e = .returned (.bool (blankB c)) ∧ w = w' := by
  go_enter Try.func10, Try.ntmps10
  go_wp2
  all_goals
    go_ret
    refine ⟨?_, rfl⟩
    refine congrArg (fun b => Ending.returned (.bool b)) ?_
    rw [Bool.eq_iff_iff]
    simp [blankB] at *
    try omega
set_option maxHeartbeats 1000000 in
theorem refName (c : Int) (w : World) :
    Calls Try.prog 12 #[.int .u8 c] w fun e w' => e = .returned (.bool (nameB c)) ∧ w = w' := by
  go_enter Try.func12, Try.ntmps12
  go_wp2
  all_goals
    go_ret
    refine ⟨?_, rfl⟩
    refine congrArg (fun b => Ending.returned (.bool b)) ?_
    rw [Bool.eq_iff_iff]
    simp [nameB] at *
    try omega
set_option maxHeartbeats 1000000 in
theorem refFlow (c : Int) (w : World) :
    Calls Try.prog 14 #[.int .u8 c] w fun e w' => e = .returned (.bool (flowB c)) ∧ w = w' := by
  go_enter Try.func14, Try.ntmps14
  go_wp2
  all_goals
    go_ret
    refine ⟨?_, rfl⟩
    refine congrArg (fun b => Ending.returned (.bool b)) ?_
    rw [Bool.eq_iff_iff]
    simp [flowB] at *
    try omega
end Go.Proofs.Ytnaoichhjnggaaa
