/- Words and numbers as texts: diag.Text, place.text; the chapter's own Text and Digits. -/
import Derived.Test.YtdngcihjfbmbpaaDoorShi
import Derived.Test.YtdngcihjfbmbpaaDoorZow
import Derived.Test.YtdngcihjfbmbpaaDoorZdb
import Derived.Test.YtdngcihjfbmbpaaDoorCv1
import Derived.Test.YtdngcihjfbmbpaaDoorDri
import Derived.Lib.ItoaMem
import Derived.Lib.ItoaLen
import Derived.Deep.DeepMust
import Derived.BigQuiet
import Derived.WalkSpells
namespace Go.Proofs.YtdngcihjfbmbpaaDoor.Zm
open Go.RowKit
open Go.Proofs.YtdngcihjfbmbpaaDoor.Sq
set_option linter.unusedVariables false
set_option linter.unusedSimpArgs false

/-- A code's word. -/
def word (c : Int) : ByteArray := if c = 1 then ⟨#[98, 121, 116, 101]⟩ else if c = 2 then ⟨#[116, 97, 98]⟩ else if c = 3 then ⟨#[113, 117, 111, 116, 101]⟩ else if c = 4 then ⟨#[101, 115, 99, 97, 112, 101]⟩ else if c = 5 then ⟨#[109, 105, 120, 101, 100]⟩ else if c = 6 then ⟨#[105, 110, 100, 101, 110, 116]⟩ else if c = 7 then ⟨#[115, 101, 99, 111, 110, 100]⟩ else if c = 8 then ⟨#[115, 116, 114, 97, 121]⟩ else if c = 9 then ⟨#[111, 112, 101, 110]⟩ else if c = 10 then ⟨#[100, 101, 101, 112]⟩ else if c = 11 then ⟨#[97, 108, 105, 97, 115]⟩ else ⟨#[119, 104, 97, 116]⟩
theorem word_size (c : Int) : (word c).size ≤ 6 := by
  unfold word
  repeat' split
  all_goals decide
set_option maxHeartbeats 1000000 in
theorem text_any (c : Int) (w : World) : Calls Tryd.prog 6 #[.int .i64 c] w fun e w' => e = .returned (.string (word c)) ∧ w = w' := by
  go_enter Tryd.func6, Tryd.ntmps6
  go_wp2
  all_goals
    go_ret
    refine ⟨?_, rfl⟩
    simp only [beq_iff_eq, beq_eq_false_iff_ne, ne_eq] at *
    simp [word, *]
/-- The chapter's row of words. -/
abbrev wordsV : Array Value := #[.string ⟨#[119, 104, 97, 116]⟩, .string ⟨#[98, 121, 116, 101]⟩, .string ⟨#[116, 97, 98]⟩, .string ⟨#[113, 117, 111, 116, 101]⟩, .string ⟨#[101, 115, 99, 97, 112, 101]⟩, .string ⟨#[109, 105, 120, 101, 100]⟩, .string ⟨#[105, 110, 100, 101, 110, 116]⟩, .string ⟨#[115, 101, 99, 111, 110, 100]⟩, .string ⟨#[115, 116, 114, 97, 121]⟩, .string ⟨#[111, 112, 101, 110]⟩, .string ⟨#[100, 101, 101, 112]⟩, .string ⟨#[97, 108, 105, 97, 115]⟩]
theorem words_at (k : Nat) (hk : k < 12) : wordsV[k]? = some (.string (word (k : Int))) := by
  match k, hk with
  | 0, _ => rfl
  | 1, _ => rfl
  | 2, _ => rfl
  | 3, _ => rfl
  | 4, _ => rfl
  | 5, _ => rfl
  | 6, _ => rfl
  | 7, _ => rfl
  | 8, _ => rfl
  | 9, _ => rfl
  | 10, _ => rfl
  | 11, _ => rfl
theorem word_out (c : Int) (h : c < 1 ∨ 12 ≤ c) : word c = ⟨#[119, 104, 97, 116]⟩ := by
  unfold word
  repeat' split
  all_goals first | omega | rfl
set_option maxHeartbeats 1000000 in
theorem refText (c : Int) (w : World) : Calls Tryd.prog 7 #[.int .i64 c] w fun e w' => e = .returned (.string (word c)) ∧ Below w.heap.size w w' := by
  obtain ⟨W, hW⟩ : ∃ W, w.alloc (.cells wordsV 9) = W := ⟨_, rfl⟩
  have hb : Below w.heap.size w W := hW ▸ below_alloc w _
  have hc : ∀ k, k < 12 → W.cell? ⟨w.heap.size, k, none⟩ = some (.string (word (k : Int))) := fun k hk => by rw [← hW]; exact at_new (words_at k hk)
  by_cases h : c < 1 ∨ 12 ≤ c
  · have c0 := hc 0 (by decide)
    have e0 : word ((0 : Nat) : Int) = word c := by rw [word_out c h]; rfl
    rw [e0] at c0
    have HB := Lib.hid hb
    clear hc e0 hb
    by_cases h1 : c < 1
    · clear h
      go_enter Tryd.func7, Tryd.ntmps7
      go_wp2_with fail
      go_ret
      exact ⟨rfl, HB.out⟩
    · have h2 : 12 ≤ c := by omega
      clear h
      go_enter Tryd.func7, Tryd.ntmps7
      go_wp2_with fail
      go_ret
      exact ⟨rfl, HB.out⟩
  · obtain ⟨k, rfl⟩ : ∃ k : Nat, c = (k : Int) := ⟨c.toNat, by omega⟩
    have hk : k < 12 := by omega
    have c0 := hc k hk
    obtain ⟨X, hX⟩ : ∃ X, word (k : Int) = X := ⟨_, rfl⟩
    rw [hX] at c0 ⊢
    have h1 : ¬ ((k : Int) < 1) := by omega
    have h2 : ¬ ((12 : Int) ≤ (k : Int)) := by omega
    have h3 : (k : Int) < 12 := by omega
    have h4 : (0 : Int) ≤ (k : Int) := by omega
    have HB := Lib.hid hb
    clear hc h hX hb
    go_enter Tryd.func7, Tryd.ntmps7
    go_wp2_with fail
    go_ret
    exact ⟨rfl, HB.out⟩
/-- A number's digits. -/
def dig (n : Int) : ByteArray := ⟨(Lib.itoa n).toArray⟩
theorem dig_size (n : Int) (h0 : -9223372036854775808 ≤ n) (h1 : n ≤ 9223372036854775807) : (dig n).size ≤ 21 := by
  show (Lib.itoa n).toArray.size ≤ 21
  simpa using Lib.itoa_length_le n h0 h1
theorem dig_small (n : Nat) (h : n < 10) : dig (n : Int) = ⟨#[UInt8.ofNat ((48 + (n : Int)).toNat)]⟩ := by
  unfold dig
  rw [Lib.itoa_nonneg, Lib.decDigits_one h]
  rw [show (48 + (n : Int)).toNat = 48 + n from by omega]
theorem dig_big (n : Nat) (h : ¬ n < 10) : dig ((n / 10 : Nat) : Int) ++ dig ((n % 10 : Nat) : Int) = dig (n : Int) := by
  unfold dig
  rw [Lib.itoa_nonneg, Lib.itoa_nonneg, Lib.itoa_nonneg]
  have e : Lib.decDigits n = Lib.decDigits (n / 10) ++ [UInt8.ofNat (48 + n % 10)] := by rw [Lib.decDigits, dif_neg h]
  rw [e, Lib.decDigits_one (show n % 10 < 10 by omega)]
  apply ByteArray.ext
  simp
set_option maxHeartbeats 1000000 in
theorem refDigits (n : Nat) (hn : n ≤ 1000000000) (w : World) : Calls Tryd.prog 17 #[.int .i64 (n : Int)] w fun e w' => e = .returned (.string (dig (n : Int))) ∧ Below w.heap.size w w' := by
  induction n using Nat.strongRecOn generalizing w with
  | ind n ih =>
    have h0 : ¬ ((n : Int) < 0) := by omega
    by_cases hs : n < 10
    · have h1 : ¬ ((10 : Int) ≤ (n : Int)) := by omega
      have hcv := conv_one (48 + (n : Int)) w (by omega) (by omega)
      rw [← dig_small n hs] at hcv
      obtain ⟨D, hD⟩ : ∃ D, dig (n : Int) = D := ⟨_, rfl⟩
      rw [hD] at hcv ⊢
      clear hD ih
      go_enter Tryd.func17, Tryd.ntmps17
      go_wp2_with fail
      go_ret
      exact ⟨rfl, below_alloc w _⟩
    · have h1 : (10 : Int) ≤ (n : Int) := by omega
      have i1 := fun w => ih (n / 10) (by omega) (by omega) w
      have i2 := fun w => ih (n % 10) (by omega) (by omega) w
      have s1 := dig_size ((n / 10 : Nat) : Int) (by omega) (by omega)
      have s2 := dig_size ((n % 10 : Nat) : Int) (by omega) (by omega)
      have hcat := dig_big n hs
      obtain ⟨A, hA⟩ : ∃ A, dig ((n / 10 : Nat) : Int) = A := ⟨_, rfl⟩
      obtain ⟨B, hB⟩ : ∃ B, dig ((n % 10 : Nat) : Int) = B := ⟨_, rfl⟩
      rw [hA] at i1 s1 hcat
      rw [hB] at i2 s2 hcat
      rw [← hcat]
      have e1 : (n : Int).tdiv 10 = ((n / 10 : Nat) : Int) := by rw [Int.tdiv_eq_ediv_of_nonneg (by omega)]; omega
      have e2 : (n : Int).tmod 10 = ((n % 10 : Nat) : Int) := by rw [Int.tmod_eq_emod_of_nonneg (by omega)]; omega
      rw [← e1] at i1
      rw [← e2] at i2
      have hsz : ¬ (9223372036854775807 < A.size + B.size) := by omega
      have I1 := Lib.hid i1
      have I2 := Lib.hid i2
      clear ih i1 i2 hcat hA hB e1 e2 hs
      go_enter Tryd.func17, Tryd.ntmps17
      go_wp2_with fail
      refine (I1.out w).mono ?_
      rintro e w1 ⟨rfl, hb1⟩
      go_wp2_with fail
      refine (I2.out w1).mono ?_
      rintro e w2 ⟨rfl, hb2⟩
      go_wp2_with fail
      go_ret
      exact ⟨rfl, below_from hb1 hb2⟩
end Go.Proofs.YtdngcihjfbmbpaaDoor.Zm
