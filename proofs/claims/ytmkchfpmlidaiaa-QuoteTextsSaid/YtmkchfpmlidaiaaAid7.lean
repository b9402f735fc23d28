/- The statements' own small functions (correctorlaw7.known, within, ints). -/
import Derived.Test.YtmkchfpmlidaiaaQe
import Derived.Deep.QuietTactic
import Derived.BigQuiet
import Derived.Laws.AppendOwnNone
namespace Go.Proofs.Ytmkchfpmlidaiaa
open Go.RowKit
open Go.Proofs.Ytmkchfpmlidaiaa.Sg
set_option linter.unusedVariables false

/-- A number brought within n. -/
def wit (x n : Int) : Int := if x.tmod n < 0 then x.tmod n + n else x.tmod n
theorem wit_bd (x n : Int) (h : 0 < n) : 0 ≤ wit x n ∧ wit x n < n := by
  have h1 := Int.tmod_lt_of_pos x h
  have h2 : -n < x.tmod n := by
    have := Int.tmod_lt_of_pos (-x) h
    rw [Int.neg_tmod] at this
    omega
  unfold wit
  split <;> omega
set_option maxHeartbeats 400000 in
theorem within_any (x n : Int) (w : World) (h1 : 1 ≤ n) (h2 : n ≤ 1000) :
    Calls Try.prog 10 #[.int .i64 x, .int .i64 n] w fun e w' => e = .returned (.int .i64 (wit x n)) ∧ w = w' := by
  have hb1 := Int.tmod_lt_of_pos x (show 0 < n by omega)
  have hb2 : -n < x.tmod n := by
    have := Int.tmod_lt_of_pos (-x) (show 0 < n by omega)
    rw [Int.neg_tmod] at this
    omega
  have hz : (n == 0) = false := by simp; omega
  have hn1 : n ≠ 0 := by omega
  unfold wit
  by_cases hc : x.tmod n < 0
  · rw [if_pos hc]
    go_enter Try.func10, Try.ntmps10
    go_wp2
    go_ret
    exact ⟨rfl, rfl⟩
  · rw [if_neg hc]
    go_enter Try.func10, Try.ntmps10
    go_wp2
    go_ret
    exact ⟨rfl, rfl⟩
/-- within, as a place. -/
theorem within_nat (x : Int) (n : Nat) (h1 : 1 ≤ n) (h2 : n ≤ 1000) : ∃ k : Nat, k < n ∧ ∀ w : World, Calls Try.prog 10 #[.int .i64 x, .int .i64 n] w fun e w' => e = .returned (.int .i64 k) ∧ w = w' := by
  have hb := wit_bd x n (by omega)
  refine ⟨(wit x n).toNat, by omega, fun w => ?_⟩
  have := within_any x n w (by omega) (by omega)
  rw [show ((wit x n).toNat : Int) = wit x n from by omega]
  exact this
set_option maxHeartbeats 1000000 in
set_option maxRecDepth 100000 in
theorem ints_none (a1 a2 : Option Addr) (c1 c2 : Nat) (w : World) :
    Calls Try.prog 13 #[.slice a1 0 c1, .slice a2 0 c2] w fun e w' => e = .returned (.bool true) ∧ Below w.heap.size w w' := by
  go_enter Try.func13, Try.ntmps13
  go_wp2
  refine wp_loop_rounds 1 ?_
  rw [rounds_succ]
  go_wp2
  go_ret
  exact ⟨rfl, Below.refl _ w⟩

set_option maxHeartbeats 1000000 in
set_option maxRecDepth 100000 in
theorem ints_row (b1 o1 c1 b2 o2 c2 : Nat) (l : List Int) (w : World) (hm : l.length ≤ 9223372036854775807)
    (h1 : ∀ j, j < l.length → w.cell? ⟨b1, o1 + j, none⟩ = some (.int .i64 (l.getD j 0))) (h2 : ∀ j, j < l.length → w.cell? ⟨b2, o2 + j, none⟩ = some (.int .i64 (l.getD j 0))) :
    Calls Try.prog 13 #[.slice (some ⟨b1, o1, none⟩) l.length c1, .slice (some ⟨b2, o2, none⟩) l.length c2] w fun e w' => e = .returned (.bool true) ∧ Below w.heap.size w w' := by
  have hne : ((l.length : Int) != (l.length : Int)) = false := by simp
  go_enter Try.func13, Try.ntmps13
  go_wp2
  go_loopw [5] (fun i wr => ∃ k : Nat, i = .int .i64 k ∧ k ≤ l.length ∧ ∃ q, wr = w.drewN q) (fun i _ => l.length - (intOf i).toNat)
  case atStart => exact ⟨0, rfl, Nat.zero_le _, 0, rfl⟩
  case round =>
    obtain ⟨k, rfl, hk, q, rfl⟩ := hrel
    by_cases hlt : k < l.length
    · have g1 := h1 k hlt
      have g2 := h2 k hlt
      have hi : (k : Int) < (l.length : Int) := by omega
      clear h1 h2
      go_wp2_with fail
      go_quiet (fail)
      go_wp2
      go_roundw
      case rel => exact ⟨k + 1, by go_num, by omega, q + _, rfl⟩
      case measure => simp [intOf]; omega
    · have hge : ¬ ((k : Int) < (l.length : Int)) := by omega
      clear h1 h2
      go_wp2
      go_ret
      exact ⟨rfl, below_drewN (Below.refl _ w) q⟩

theorem ints_same (v1 v2 : Value) (l : List Int) (w : World) (h1 : Ints w v1 l) (h2 : Ints w v2 l) :
    Calls Try.prog 13 #[v1, v2] w fun e w' => e = .returned (.bool true) ∧ Below w.heap.size w w' := by
  by_cases hl : l = []
  · subst hl
    obtain ⟨a1, c1, rfl⟩ : ∃ a c, v1 = .slice a 0 c := by
      rcases h1 with ⟨h, _⟩ | ⟨b, off, cap, h, _⟩ <;> exact ⟨_, _, h⟩
    obtain ⟨a2, c2, rfl⟩ : ∃ a c, v2 = .slice a 0 c := by
      rcases h2 with ⟨h, _⟩ | ⟨b, off, cap, h, _⟩ <;> exact ⟨_, _, h⟩
    exact ints_none a1 a2 c1 c2 w
  · rcases h1 with ⟨_, h⟩ | ⟨b1, o1, c1, rfl, h11, h12, h13⟩
    · exact absurd h hl
    · rcases h2 with ⟨_, h⟩ | ⟨b2, o2, c2, rfl, _, _, h23⟩
      · exact absurd h hl
      · simp only [maxLen] at h12
        exact ints_row b1 o1 c1 b2 o2 c2 l w (by omega) h13 h23
/-- What is told, to be read. -/
theorem Told.open' {x : List UInt8 × List Nat × Bool} {w w' : World} {e : Ending} (h : Told x w e w') : ∃ a cap, e = .returned (.tuple #[.string (ba x.1), .slice a x.2.1.length cap, .bool x.2.2]) ∧ w'.ownsRow w.heap.size 3 1 (.slice a x.2.1.length cap) x.2.1.length (places x.2.1) ∧ Below w.heap.size w w' := by
  obtain ⟨v, rfl, h1, h2⟩ := h
  obtain ⟨a, cap, rfl⟩ : ∃ a cap, v = .slice a x.2.1.length cap := by
    rcases h1.2 with ⟨rfl, h0⟩ | ⟨g, cap, cur, rfl, -⟩
    · rw [h0]; exact ⟨none, 0, rfl⟩
    · exact ⟨_, cap, rfl⟩
  exact ⟨a, cap, rfl, h1, h2⟩
/-- Where no bad place is told. -/
theorem Told.none' {l : List UInt8} {b : Bool} {w w' : World} {e : Ending} (h : Told (l, [], b) w e w') : ∃ a cap, e = .returned (.tuple #[.string (ba l), .slice a 0 cap, .bool b]) ∧ Below w.heap.size w w' := by
  obtain ⟨a, cap, rfl, -, hb⟩ := h.open'
  exact ⟨a, cap, rfl, hb⟩
theorem known_text : Qo.textT 16 [39, 97, 39, 39, 98, 39] = ([97, 39, 98], [], true) := by rfl
set_option maxHeartbeats 400000 in
set_option maxRecDepth 100000 in
theorem known_true (w : World) :
    Calls Try.prog 9 #[] w fun e w' => e = .returned (.bool true) ∧ Below w.heap.size w w' := by
  have h := pText 16 ⟨#[39, 97, 39, 39, 98, 39]⟩ w (by decide)
  rw [show (⟨#[39, 97, 39, 39, 98, 39]⟩ : ByteArray).data.toList = [39, 97, 39, 39, 98, 39] from rfl, known_text] at h
  have H := Lib.hid h
  clear h
  go_enter Try.func9, Try.ntmps9
  go_wp2_with fail
  refine H.out.mono ?_
  intro e w1 hg
  obtain ⟨a, cap, rfl, hO, hb⟩ := hg.open'
  clear hg hO
  have e1 : ba [97, 39, 98] = ⟨#[97, 39, 98]⟩ := rfl
  simp only [e1, List.length_nil]
  go_wp2
  go_ret
  exact ⟨rfl, hb⟩
end Go.Proofs.Ytmkchfpmlidaiaa
