/- package edit's small functions: checkOne, growth, place, upon; span.Meet; the statements' within. -/
import Derived.Test.YtomihekgcnilhaaE3
import Derived.Laws.StructEq
namespace Go.Proofs.Ytomihekgcnilhaa
open Go.RowKit
open Go.Proofs.Ytomihekgcnilhaa.Sq

/-- A number brought within n. -/
def wit (x n : Int) : Int := if x.tmod n < 0 then x.tmod n + n else x.tmod n
theorem wit_bd (x n : Int) (h : 0 < n) : 0 ≤ wit x n ∧ wit x n < n := by
  have h1 := Int.tmod_lt_of_pos x h
  have h2 : -n < x.tmod n := by
    have := Int.tmod_lt_of_pos (-x) h
    rw [Int.neg_tmod] at this
    omega
  unfold wit
  split <;> omega
set_option maxHeartbeats 400000 in
theorem within_any (x n : Int) (w : World) (h1 : 1 ≤ n) (h2 : n ≤ 1000) :
    Calls Try.prog 20 #[.int .i64 x, .int .i64 n] w fun e w' => e = .returned (.int .i64 (wit x n)) ∧ w = w' := by
  have hb1 := Int.tmod_lt_of_pos x (show 0 < n by omega)
  have hb2 : -n < x.tmod n := by
    have := Int.tmod_lt_of_pos (-x) (show 0 < n by omega)
    rw [Int.neg_tmod] at this
    omega
  have hz : (n == 0) = false := by simp; omega
  have hn1 : n ≠ 0 := by omega
  unfold wit
  by_cases hc : x.tmod n < 0
  · rw [if_pos hc]
    go_enter Try.func20, Try.ntmps20
    go_wp2
    go_ret
    exact ⟨rfl, rfl⟩
  · rw [if_neg hc]
    go_enter Try.func20, Try.ntmps20
    go_wp2
    go_ret
    exact ⟨rfl, rfl⟩
set_option maxHeartbeats 1600000 in
theorem checkOne_any (n : Int) (e : Et) (w : World) (hs : e.p.size ≤ maxLen) :
    Calls Try.prog 31 #[.int .i64 n, e.val] w fun r w' => r = .returned (.int .i64 (Ed.one n e.ed)) ∧ Below w.heap.size w w' := by
  obtain ⟨r, hr⟩ : ∃ r, Ed.one n e.ed = r := ⟨_, rfl⟩
  have hp : e.ed.p.length = e.p.size := Et.plen e
  obtain ⟨f, t, p⟩ := e
  simp only at hp hs
  have hf : (Et.ed ⟨f, t, p⟩).f = f := rfl
  have ht : (Et.ed ⟨f, t, p⟩).t = t := rfl
  rw [hr]
  simp only [maxLen] at hs
  by_cases h1 : f < 0
  · have hR : r = 1 := by rw [← hr]; exact is_out (.inl h1)
    subst hR
    clear hr hp hf ht
    go_enter Try.func31, Try.ntmps31
    go_wp2
    go_ret
    exact ⟨rfl, (Below.refl _ _).alloc (Nat.le_refl _) _⟩
  · by_cases h2 : t < f
    · have hR : r = 1 := by rw [← hr]; exact is_out (.inr (.inl h2))
      subst hR
      clear hr hp hf ht
      go_enter Try.func31, Try.ntmps31
      go_wp2
      go_ret
      exact ⟨rfl, (Below.refl _ _).alloc (Nat.le_refl _) _⟩
    · by_cases h3 : n < t
      · have hR : r = 1 := by rw [← hr]; exact is_out (.inr (.inr h3))
        subst hR
        clear hr hp hf ht
        go_enter Try.func31, Try.ntmps31
        go_wp2
        go_ret
        exact ⟨rfl, (Below.refl _ _).alloc (Nat.le_refl _) _⟩
      · have hno : ¬ ((Et.ed ⟨f, t, p⟩).f < 0 ∨ (Et.ed ⟨f, t, p⟩).t < (Et.ed ⟨f, t, p⟩).f ∨ n < (Et.ed ⟨f, t, p⟩).t) := by rw [hf, ht]; omega
        by_cases h4 : 1000 < p.size
        · have hR : r = 4 := by rw [← hr]; exact is_long hno (by rw [hp]; exact h4)
          subst hR
          have h4' : (1000 : Int) < (p.size : Int) := by omega
          clear hr hp hf ht hno
          go_enter Try.func31, Try.ntmps31
          go_wp2
          go_ret
          exact ⟨rfl, (Below.refl _ _).alloc (Nat.le_refl _) _⟩
        · have hR : r = 0 := by rw [← hr]; exact is_fine hno (by rw [hp]; exact h4)
          subst hR
          have h4' : ¬ ((1000 : Int) < (p.size : Int)) := by omega
          clear hr hp hf ht hno
          go_enter Try.func31, Try.ntmps31
          go_wp2
          go_ret
          exact ⟨rfl, (Below.refl _ _).alloc (Nat.le_refl _) _⟩
/-- How much longer an edit makes a text. -/
def grow (e : Et) : Int := e.p.size - (e.t - e.f)
set_option maxHeartbeats 400000 in
theorem growth_any (e : Et) (w : World) (h0 : 0 ≤ e.f) (h1 : e.f ≤ e.t) (h2 : e.t ≤ 1000000) (hs : e.p.size ≤ 1000) :
    Calls Try.prog 28 #[e.val] w fun r w' => r = .returned (.int .i64 (grow e)) ∧ Below w.heap.size w w' := by
  obtain ⟨f, t, p⟩ := e
  unfold grow
  simp only at h0 h1 h2 hs ⊢
  go_enter Try.func28, Try.ntmps28
  go_wp2
  go_ret
  exact ⟨rfl, (Below.refl _ _).alloc (Nat.le_refl _) _⟩
def meetB (a b c d : Int) : Bool := decide (a < d ∧ c < b)
set_option maxHeartbeats 400000 in
theorem spanMeet (a b c d : Int) (w : World) :
    Calls Try.prog 38 #[.agg #[.int .i64 a, .int .i64 b], .agg #[.int .i64 c, .int .i64 d]] w fun e w' => e = .returned (.bool (meetB a b c d)) ∧ Below w.heap.size w w' := by
  unfold meetB
  by_cases h1 : a < d
  all_goals
    by_cases h2 : c < b
    all_goals
      go_enter Try.func38, Try.ntmps38
      go_wp2
      go_ret
      exact ⟨by simp [h1, h2], ((Below.refl _ _).alloc (Nat.le_refl _) _).alloc (by simp) _⟩
set_option maxHeartbeats 400000 in
theorem place_any (e : Et) (w : World) :
    Calls Try.prog 35 #[e.val] w fun r w' => r = .returned (.agg #[.int .i64 e.f, .int .i64 e.t]) ∧ Below w.heap.size w w' := by
  obtain ⟨f, t, p⟩ := e
  go_enter Try.func35, Try.ntmps35
  go_wp2
  refine bodyPost_ret (v := .agg #[.int .i64 f, .int .i64 t]) ?_ rfl ⟨rfl, ?_⟩
  · simp [results, Try.results35, go_sem]
  · repeat (first | exact Below.refl _ _ | refine Below.alloc ?_ (by simp; try omega) _ | refine Below.setCell ?_ (by simp) _)
theorem eql_span (a b c d : Int) (w : World) : (binOp .eql 60 (.agg #[.int .i64 a, .int .i64 b]) (.agg #[.int .i64 c, .int .i64 d])).run Try.prog w = .ok (.bool ((a == c) && (b == d))) w := by
  have u3 := Try.underlying3
  have hS : Try.prog.underlying 60 = some (.struct (Try.prog.fieldsOf 60)) := by kernel_rfl
  have hp : Try.prog.stoodInHeld 60 = false := by kernel_rfl
  rw [run_eql_struct, show (10000 : Nat) = 9999 + 1 from rfl, run_equalIn_agg w 9999 60 _ _ hS hp]
  simp only [Program.fieldsOf, Try.underlying60]
  go_simp
  by_cases h1 : a = c <;> by_cases h2 : b = d <;> simp [h1, h2]
theorem bcell {W w1 : World} (hb : Below W.heap.size W w1) : (∀ b o, b < W.heap.size → w1.cell? ⟨b, o, none⟩ = W.cell? ⟨b, o, none⟩) ∧ (∀ b o, b < W.heap.size → w1.frozen? ⟨b, o, none⟩ = W.frozen? ⟨b, o, none⟩) :=
  ⟨fun b o h => hb.cell (p := ⟨b, o, none⟩) h, fun b o h => hb.frozen (p := ⟨b, o, none⟩) h⟩
theorem guard_span : Try.prog.eqGuardType Try.prog.depth 60 = false := by kernel_rfl
set_option maxHeartbeats 800000 in
theorem upon_any (x y : Et) (w : World) :
    Calls Try.prog 34 #[.agg #[.int .i64 x.f, .int .i64 x.t], .agg #[.int .i64 y.f, .int .i64 y.t]] w fun e w' => e = .returned (.bool (Ed.upon x.ed y.ed)) ∧ Below w.heap.size w w' := by
  obtain ⟨a, b, p⟩ := x
  obtain ⟨c, d, q⟩ := y
  simp only
  have HM := Lib.hid (fun W => spanMeet a b c d W)
  obtain ⟨m, hm⟩ : ∃ m, meetB a b c d = m := ⟨_, rfl⟩
  obtain ⟨u, hu⟩ : ∃ u, Ed.upon (Et.ed ⟨a, b, p⟩) (Et.ed ⟨c, d, q⟩) = u := ⟨_, rfl⟩
  have hd : u = (m || ((a == c) && (b == d))) := by
    rw [← hu, ← hm]
    have e1 : Ed.upon (Et.ed ⟨a, b, p⟩) (Et.ed ⟨c, d, q⟩) = decide ((a < d ∧ c < b) ∨ (a = c ∧ b = d)) := rfl
    rw [e1, meetB]
    by_cases h1 : a < d <;> by_cases h2 : c < b <;> by_cases h3 : a = c <;> by_cases h4 : b = d <;> simp [h1, h2, h3, h4]
  rw [hu]
  rw [hm] at HM
  clear hm hu
  subst hd
  have he := eql_span a b c d
  have hg := guard_span
  cases m with
  | true =>
    go_enter Try.func34, Try.ntmps34
    go_wp2_with fail
    refine (HM.out _).mono ?_
    rintro e w1 ⟨rfl, hb⟩
    go_wp2
    go_ret
    exact ⟨rfl, (((Below.refl _ _).alloc (Nat.le_refl _) _).alloc (by simp) _).trans (hb.mono (by simp; omega))⟩
  | false =>
    go_enter Try.func34, Try.ntmps34
    go_wp2_with fail
    refine (HM.out _).mono ?_
    rintro e w1 ⟨rfl, hb⟩
    obtain ⟨hc, _hf⟩ := bcell hb
    go_wp2
    go_ret
    exact ⟨by simp, (((Below.refl _ _).alloc (Nat.le_refl _) _).alloc (by simp) _).trans (hb.mono (by simp; omega))⟩
end Go.Proofs.Ytomihekgcnilhaa
