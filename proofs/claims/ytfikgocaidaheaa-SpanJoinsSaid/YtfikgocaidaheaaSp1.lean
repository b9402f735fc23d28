/- The small functions of span and of the statements about it: one contract a function. -/
import Derived.Test.YtfikgocaidaheaaSpn
import Derived.WalkLawsBesides
import Derived.WalkSpells
import Derived.Outline
namespace Go.Proofs.Ytfikgocaidaheaa
open Go.RowKit

/-- A number brought within n. -/
def wit (x n : Int) : Int := if x.tmod n < 0 then x.tmod n + n else x.tmod n
theorem wit_bd (x n : Int) (h : 0 < n) : 0 ≤ wit x n ∧ wit x n < n := by
  have h1 := Int.tmod_lt_of_pos x h
  have h2 : -n < x.tmod n := by
    have := Int.tmod_lt_of_pos (-x) h
    rw [Int.neg_tmod] at this
    omega
  unfold wit
  split <;> omega
set_option maxHeartbeats 400000 in
theorem within_any (x n : Int) (w : World) (h1 : 1 ≤ n) (h2 : n ≤ 1000) :
    Calls Try.prog 19 #[.int .i64 x, .int .i64 n] w fun e w' => e = .returned (.int .i64 (wit x n)) ∧ w = w' := by
  have hb1 := Int.tmod_lt_of_pos x (show 0 < n by omega)
  have hb2 : -n < x.tmod n := by
    have := Int.tmod_lt_of_pos (-x) (show 0 < n by omega)
    rw [Int.neg_tmod] at this
    omega
  have hz : (n == 0) = false := by simp; omega
  have hn1 : n ≠ 0 := by omega
  unfold wit
  by_cases hc : x.tmod n < 0
  · rw [if_pos hc]
    go_enter Try.func19, Try.ntmps19
    go_wp2
    go_ret
    exact ⟨rfl, rfl⟩
  · rw [if_neg hc]
    go_enter Try.func19, Try.ntmps19
    go_wp2
    go_ret
    exact ⟨rfl, rfl⟩

def inB (a b c d : Int) : Bool := decide (c ≤ a ∧ b ≤ d)
def meetB (a b c d : Int) : Bool := decide (a < d ∧ c < b)

set_option maxHeartbeats 400000 in
theorem spanIn (a b c d : Int) (w : World) :
    Calls Try.prog 10 #[.agg #[.int .i64 a, .int .i64 b], .agg #[.int .i64 c, .int .i64 d]] w fun e w' => e = .returned (.bool (inB a b c d)) ∧ Below w.heap.size w w' := by
  unfold inB
  by_cases h1 : c ≤ a
  all_goals
    by_cases h2 : b ≤ d
    all_goals
      go_enter Try.func10, Try.ntmps10
      go_wp2
      go_ret
      exact ⟨by simp [h1, h2], ((Below.refl _ _).alloc (Nat.le_refl _) _).alloc (by simp) _⟩
set_option maxHeartbeats 400000 in
theorem refIn (a b c d : Int) (w : World) :
    Calls Try.prog 11 #[.agg #[.int .i64 a, .int .i64 b], .agg #[.int .i64 c, .int .i64 d]] w fun e w' => e = .returned (.bool (inB a b c d)) ∧ Below w.heap.size w w' := by
  unfold inB
  by_cases h1 : c ≤ a
  all_goals
    by_cases h2 : b ≤ d
    all_goals
      go_enter Try.func11, Try.ntmps11
      go_wp2
      go_ret
      exact ⟨by simp [h1, h2], ((Below.refl _ _).alloc (Nat.le_refl _) _).alloc (by simp) _⟩
set_option maxHeartbeats 400000 in
theorem spanMeet (a b c d : Int) (w : World) :
    Calls Try.prog 12 #[.agg #[.int .i64 a, .int .i64 b], .agg #[.int .i64 c, .int .i64 d]] w fun e w' => e = .returned (.bool (meetB a b c d)) ∧ Below w.heap.size w w' := by
  unfold meetB
  by_cases h1 : a < d
  all_goals
    by_cases h2 : c < b
    all_goals
      go_enter Try.func12, Try.ntmps12
      go_wp2
      go_ret
      exact ⟨by simp [h1, h2], ((Below.refl _ _).alloc (Nat.le_refl _) _).alloc (by simp) _⟩
set_option maxHeartbeats 400000 in
theorem refMeet (a b c d : Int) (w : World) :
    Calls Try.prog 13 #[.agg #[.int .i64 a, .int .i64 b], .agg #[.int .i64 c, .int .i64 d]] w fun e w' => e = .returned (.bool (meetB a b c d)) ∧ Below w.heap.size w w' := by
  unfold meetB
  by_cases h1 : a < d
  all_goals
    by_cases h2 : c < b
    all_goals
      go_enter Try.func13, Try.ntmps13
      go_wp2
      go_ret
      exact ⟨by simp [h1, h2], ((Below.refl _ _).alloc (Nat.le_refl _) _).alloc (by simp) _⟩
set_option maxHeartbeats 400000 in
theorem spanJoin (a b c d : Int) (w : World) :
    Calls Try.prog 14 #[.agg #[.int .i64 a, .int .i64 b], .agg #[.int .i64 c, .int .i64 d]] w fun e w' => e = .returned (.agg #[.int .i64 (min a c), .int .i64 (max b d)]) ∧ Below w.heap.size w w' := by
  have k1 : min a c = if c < a then c else a := by split <;> omega
  have k2 : max b d = if b < d then d else b := by split <;> omega
  rw [k1, k2]
  clear k1 k2
  by_cases h1 : c < a
  all_goals
    by_cases h2 : b < d
    all_goals
      first | rw [if_pos h1] | rw [if_neg h1]
      first | rw [if_pos h2] | rw [if_neg h2]
      go_enter Try.func14, Try.ntmps14
      go_wp2
      refine bodyPost_ret (v := _) ?_ rfl ⟨rfl, ?_⟩
      · simp [results, Try.results14, go_sem]
      · repeat (first | exact Below.refl _ _ | refine Below.alloc ?_ (by simp; try omega) _ | refine Below.setCell ?_ (by simp) _)
set_option maxHeartbeats 400000 in
theorem refJoin (a b c d : Int) (w : World) :
    Calls Try.prog 15 #[.agg #[.int .i64 a, .int .i64 b], .agg #[.int .i64 c, .int .i64 d]] w fun e w' => e = .returned (.agg #[.int .i64 (min a c), .int .i64 (max b d)]) ∧ Below w.heap.size w w' := by
  have k1 : min a c = if c < a then c else a := by split <;> omega
  have k2 : max b d = if b < d then d else b := by split <;> omega
  rw [k1, k2]
  clear k1 k2
  by_cases h1 : c < a
  all_goals
    by_cases h2 : b < d
    all_goals
      first | rw [if_pos h1] | rw [if_neg h1]
      first | rw [if_pos h2] | rw [if_neg h2]
      go_enter Try.func15, Try.ntmps15
      go_wp2
      refine bodyPost_ret (v := _) ?_ rfl ⟨rfl, ?_⟩
      · simp [results, Try.results15, go_sem]
      · repeat (first | exact Below.refl _ _ | refine Below.alloc ?_ (by simp; try omega) _ | refine Below.setCell ?_ (by simp) _)
set_option maxHeartbeats 400000 in
theorem refLess (a b c d : Int) (w : World) :
    Calls Try.prog 23 #[.agg #[.int .i64 a, .int .i64 b], .agg #[.int .i64 c, .int .i64 d]] w fun e w' => e = .returned (.bool (ltB (a, b) (c, d))) ∧ Below w.heap.size w w' := by
  unfold ltB
  by_cases h1 : a < c
  · go_enter Try.func23, Try.ntmps23
    go_wp2
    go_ret
    exact ⟨by simp [h1], ((Below.refl _ _).alloc (Nat.le_refl _) _).alloc (by simp) _⟩
  · by_cases h2 : a = c
    · subst h2
      by_cases h3 : b < d
      all_goals
        go_enter Try.func23, Try.ntmps23
        go_wp2
        go_ret
        exact ⟨by simp [h3], ((Below.refl _ _).alloc (Nat.le_refl _) _).alloc (by simp) _⟩
    · have h2' : (a == c) = false := by simp [h2]
      go_enter Try.func23, Try.ntmps23
      go_wp2
      go_ret
      exact ⟨by simp [h1], ((Below.refl _ _).alloc (Nat.le_refl _) _).alloc (by simp) _⟩
/-- A raw span made a span. -/
def g1 (a : Int) : Int := wit a 60
def g2 (a b : Int) : Int := wit a 60 + wit b 20
theorem g_bd (a b : Int) : 0 ≤ g1 a ∧ g1 a < 60 ∧ g1 a ≤ g2 a b ∧ g2 a b < 80 := by
  have h1 := wit_bd a 60 (by omega)
  have h2 := wit_bd b 20 (by omega)
  unfold g1 g2
  omega
set_option maxHeartbeats 400000 in
theorem good_any (a b : Int) (w : World) :
    Calls Try.prog 9 #[.agg #[.int .i64 a, .int .i64 b]] w fun e w' => e = .returned (.agg #[.int .i64 (g1 a), .int .i64 (g2 a b)]) ∧ Below w.heap.size w w' := by
  have h1 := wit_bd a 60 (by omega)
  have h2 := wit_bd b 20 (by omega)
  go_enter Try.func9, Try.ntmps9
  go_wp2_with fail
  refine (within_any a 60 _ (by omega) (by omega)).mono ?_
  rintro e w1 ⟨rfl, rfl⟩
  go_wp2_with fail
  refine (within_any b 20 _ (by omega) (by omega)).mono ?_
  rintro e w2 ⟨rfl, rfl⟩
  go_wp2
  refine bodyPost_ret (v := .agg #[.int .i64 (g1 a), .int .i64 (g2 a b)]) ?_ rfl ⟨rfl, ?_⟩
  · simp [results, Try.results9, go_sem, g1, g2]
  · repeat (first | exact Below.refl _ _ | refine Below.alloc ?_ (by simp; try omega) _ | refine Below.setCell ?_ (by simp) _)
set_option maxHeartbeats 400000 in
theorem known_true (w : World) :
    Calls Try.prog 8 #[] w fun e w' => e = .returned (.bool true) ∧ Below w.heap.size w w' := by
  have hM := fun w => spanMeet 0 2 2 3 w
  have hI := fun w => spanIn 1 2 0 2 w
  have e1 : meetB 0 2 2 3 = false := by decide
  have e2 : inB 1 2 0 2 = true := by decide
  rw [e1] at hM
  rw [e2] at hI
  have HM := Lib.hid hM
  have HI := Lib.hid hI
  clear e1 e2 hM hI
  go_enter Try.func8, Try.ntmps8
  go_wp2_with fail
  refine (HM.out _).mono ?_
  rintro e w1 ⟨rfl, hb⟩
  go_wp2_with fail
  refine (HI.out _).mono ?_
  rintro e w2 ⟨rfl, hb2⟩
  go_wp2
  go_ret
  exact ⟨rfl, hb.trans (hb2.mono hb.size)⟩
end Go.Proofs.Ytfikgocaidaheaa
