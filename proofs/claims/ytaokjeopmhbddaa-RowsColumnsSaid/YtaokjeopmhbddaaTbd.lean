/- The tokens of a text: how far they reach, how many they are (plain). -/
import Derived.Test.YtaokjeopmhbddaaTkn
import Derived.Test.YtaokjeopmhbddaaSn
namespace Go.Proofs.Ytaokjeopmhbddaa
open Go.RowKit
set_option linter.unusedVariables false

theorem toks_bd : ∀ (f : Nat) (s : Sc.St) (p : Nat) (l : List Nat), ∀ x ∈ Sc.toks f s p l, x.2.1 ≤ p + l.length ∧ x.2.2 ≤ p + l.length
  | 0, _, _, _ => fun x h => by cases h
  | f + 1, s, p, l => fun x h => by
    rw [Sc.toks] at h
    by_cases hl : l = []
    · rw [if_pos hl] at h; cases h
    · rw [if_neg hl] at h
      have hp := Sc.step_pos s l hl
      rcases List.mem_cons.1 h with rfl | h
      · exact ⟨by show p ≤ _; omega, by show p + (Sc.step s l).2.1 ≤ _; omega⟩
      · have := toks_bd f _ _ _ x h
        rw [List.length_drop] at this
        omega
theorem tokens_bd (l : List Nat) (x : Tk) (h : x ∈ Sc.tokens l) : x.2.1 ≤ l.length ∧ x.2.2 ≤ l.length := by
  unfold Sc.tokens at h
  split at h
  · cases h
  · have := toks_bd _ _ _ _ x h; omega
theorem toks_len : ∀ (f : Nat) (s : Sc.St) (p : Nat) (l : List Nat), (Sc.toks f s p l).length ≤ f
  | 0, _, _, _ => by simp [Sc.toks]
  | f + 1, s, p, l => by
    rw [Sc.toks]
    split
    · simp
    · rw [List.length_cons]; have := toks_len f (Sc.step s l).2.2 (p + (Sc.step s l).2.1) (l.drop (Sc.step s l).2.1); omega
theorem tokens_len (l : List Nat) : (Sc.tokens l).length ≤ l.length := by
  unfold Sc.tokens
  split
  · simp
  · exact toks_len _ _ _ _
end Go.Proofs.Ytaokjeopmhbddaa
