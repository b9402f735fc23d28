/- Plain facts on the tokens of a text, step by step. -/
import Derived.Test.YtaokjeopmhbddaaSm
namespace Go.Proofs.Ytaokjeopmhbddaa.Sc
open Go.Proofs.Ytaokjeopmhbddaa.Sg

theorem sing_le (l : List Nat) : sing l ≤ l.length := by
  fun_induction sing l <;> simp_all <;> omega
theorem doub_le (l : List Nat) : doub l ≤ l.length := by
  fun_induction doub l <;> simp_all <;> omega
theorem named_le (l : List Nat) (h : 0 < (named l).1) : 0 < (named l).2 ∧ (named l).2 ≤ l.length := by
  cases l with
  | nil => exact absurd h (by decide)
  | cons c r =>
    have h1 := run_le nam r
    have h2 := run_le tgc r
    unfold named at h ⊢
    (repeat' split at h) <;> (repeat' split) <;> simp_all <;> omega
theorem quoted_le (l : List Nat) (h : 0 < (quoted l).1) : 0 < (quoted l).2 ∧ (quoted l).2 ≤ l.length := by
  cases l with
  | nil => exact absurd h (by decide)
  | cons c r =>
    have h1 := sing_le r
    have h2 := doub_le r
    unfold quoted at h ⊢
    (repeat' split at h) <;> (repeat' split) <;> simp_all <;> omega
theorem headS_le (r : List Nat) : headS r ≤ r.length + 1 := by
  cases r with
  | nil => decide
  | cons c t => rw [headS]; (repeat' split) <;> simp
theorem headN_le (l : List Nat) : headN l ≤ l.length := by
  cases l with
  | nil => decide
  | cons c r =>
    have := headS_le r
    rw [headN]
    split
    · split
      · simpa using this
      · exact Nat.zero_le _
    · exact Nat.zero_le _
theorem trim_pos (c : Nat) (r : List Nat) (h : blk c = false) : 0 < trim (c :: r) := by
  rw [trim]
  by_cases h1 : trim r = 0
  · rw [if_pos h1, h]; decide
  · rw [if_neg h1]; omega
theorem plainN_pos (op : Bool) (c : Nat) (r : List Nat) (h : blk c = false) : 0 < plainN op (c :: r) := by
  rw [plainN_eq]
  obtain ⟨k, hk⟩ : ∃ k, (nxL (c :: r)).2 + goesN op ((c :: r).getD ((nxL (c :: r)).2 - 1) 0) ((c :: r).drop (nxL (c :: r)).2) = k + 1 := ⟨_, (Nat.succ_pred_eq_of_pos (by have := nxL_pos c r; omega)).symm⟩
  rw [hk, List.take_succ_cons]
  exact trim_pos c _ h
theorem plainN_le (op : Bool) (r : List Nat) : plainN op r ≤ r.length := by
  rw [plainN_eq]
  refine Nat.le_trans (trim_le _) ?_
  rw [List.length_take]
  exact Nat.min_le_right _ _
theorem word_le (op : Nat) (dash : Bool) (c : Nat) (r : List Nat) (h : blk c = false) : 0 < (word op dash (c :: r)).2 ∧ (word op dash (c :: r)).2 ≤ (c :: r).length := by
  have h1 := named_le (c :: r)
  have h2 := quoted_le (c :: r)
  have h3 := headN_le (c :: r)
  have h4 := plainN_pos (decide (0 < op)) c r h
  have h5 := plainN_le (decide (0 < op)) (c :: r)
  unfold word
  (repeat' split) <;> simp_all
theorem mark_len (r : List Nat) (h : 0 < mark r) : 3 ≤ r.length := by
  unfold mark at h
  have key : ∀ l : List Nat, l.length = 3 → r.take 3 = l → 3 ≤ r.length := by
    intro l hl e
    have : (r.take 3).length = 3 := by rw [e, hl]
    rw [List.length_take] at this
    omega
  split at h
  · rename_i e; exact key _ rfl e
  · split at h
    · rename_i e; exact key _ rfl e
    · exact absurd h (by decide)
theorem run_zero (p : Nat → Bool) (c : Nat) (r : List Nat) (h : ¬ 0 < run p (c :: r)) : p c = false := by
  cases hp : p c with
  | false => rfl
  | true => rw [run, if_pos hp] at h; omega
theorem next_le (op : Nat) (dash blank first : Bool) (c : Nat) (r : List Nat) : 0 < (next op dash blank first (c :: r)).2 ∧ (next op dash blank first (c :: r)).2 ≤ (c :: r).length := by
  have h1 := mark_len (c :: r)
  have h2 := run_le spc (c :: r)
  have h3 := run_le blk (c :: r)
  unfold next
  split
  · rename_i h; exact ⟨(by decide : (0 : Nat) < 3), h1 h.2⟩
  split
  · rename_i h; exact ⟨h.2, h2⟩
  split
  · rename_i h; exact ⟨h, h3⟩
  split
  · exact ⟨by simp, Nat.le_refl _⟩
  · rename_i h _
    exact word_le op dash c r (run_zero blk c r h)
theorem rowN_le (l : List Nat) : rowN l ≤ l.length := run_le _ _
theorem rowL_len (l : List Nat) : (rowL l).length = rowN l := by
  rw [rowL, List.length_take]; have := rowN_le l; omega
theorem rowN_drop (l : List Nat) (j : Nat) (h : j ≤ rowN l) : rowN (l.drop j) = rowN l - j := by
  induction l generalizing j with
  | nil =>
    have : j = 0 := by have := rowN_le ([] : List Nat); simp at this; omega
    subst this; rfl
  | cons c r ih =>
    cases j with
    | zero => rfl
    | succ j =>
      have hc : (!brk c) = true := by
        unfold rowN at h
        rw [run] at h
        split at h
        · assumption
        · omega
      have e : rowN (c :: r) = rowN r + 1 := by unfold rowN; rw [run, if_pos hc]
      rw [List.drop_succ_cons, e, ih j (by omega)]
      omega
theorem brkS_pos (l : List Nat) (h : l ≠ []) (h0 : rowN l = 0) : 0 < brkS l := by
  cases l with
  | nil => exact absurd rfl h
  | cons c r =>
    have hc : brk c = true := by
      cases hb : brk c with
      | true => rfl
      | false =>
        unfold rowN at h0
        rw [run, if_pos (by rw [hb]; rfl)] at h0
        omega
    have : c = 10 ∨ c = 13 := by simpa [brk] using hc
    cases r with
    | nil => rcases this with rfl | rfl <;> decide
    | cons d t => rcases this with rfl | rfl <;> simp [brkS] <;> split <;> omega
theorem brkS_le (l : List Nat) : brkS l ≤ l.length := by
  cases l with
  | nil => decide
  | cons c r =>
    cases r with
    | nil => rw [brkS]; (repeat' split) <;> simp
    | cons d t => rw [brkS]; (repeat' split) <;> simp
theorem mid_pos (s : St) (l : List Nat) (h : l ≠ []) : 0 < (mid s l).2.1 ∧ (mid s l).2.1 ≤ l.length := by
  unfold mid
  split
  · rename_i h0; exact ⟨brkS_pos l h h0, brkS_le l⟩
  · rename_i h0
    have hl := rowL_len l
    have hle := rowN_le l
    cases hr : rowL l with
    | nil => rw [hr] at hl; exact absurd hl.symm h0
    | cons c r =>
      have := next_le s.op s.dash s.blank (s.col == 0) c r
      rw [← hr] at this ⊢
      exact ⟨this.1, by rw [hl] at this; exact Nat.le_trans this.2 hle⟩
theorem step_pos (s : St) (l : List Nat) (h : l ≠ []) : 0 < (step s l).2.1 ∧ (step s l).2.1 ≤ l.length := by
  unfold step
  split
  · split
    · have h1 := rowN_le l
      have h2 := brkS_le (l.drop (rowN l))
      rw [List.length_drop] at h2
      refine ⟨?_, by simp only; omega⟩
      by_cases h0 : rowN l = 0
      · have := brkS_pos l h h0
        simp only [h0, List.drop_zero]; omega
      · simp only; omega
    · exact mid_pos _ l h
  · exact mid_pos _ l h
theorem toks_fuel : ∀ (f g : Nat) (s : St) (at' : Nat) (l : List Nat), l.length ≤ f → l.length ≤ g → toks f s at' l = toks g s at' l
  | 0, g, s, at', l, h, _ => by
    obtain rfl : l = [] := List.eq_nil_of_length_eq_zero (by omega)
    cases g <;> rfl
  | f + 1, 0, s, at', l, _, h => by
    obtain rfl : l = [] := List.eq_nil_of_length_eq_zero (by omega)
    rfl
  | f + 1, g + 1, s, at', l, hf, hg => by
    rw [toks, toks]
    by_cases hl : l = []
    · rw [if_pos hl, if_pos hl]
    · rw [if_neg hl, if_neg hl]
      have := step_pos s l hl
      rw [toks_fuel f g _ _ _ (by rw [List.length_drop]; omega) (by rw [List.length_drop]; omega)]
def toksN (s : St) (at' : Nat) (l : List Nat) : List (Nat × Nat × Nat) := toks l.length s at' l
theorem toksN_nil (s : St) (at' : Nat) : toksN s at' [] = [] := rfl
theorem toksN_step (s : St) (at' : Nat) (l : List Nat) (h : l ≠ []) : toksN s at' l = ((step s l).1, at', at' + (step s l).2.1) :: toksN (step s l).2.2 (at' + (step s l).2.1) (l.drop (step s l).2.1) := by
  unfold toksN
  cases hl : l.length with
  | zero => exact absurd (List.eq_nil_of_length_eq_zero hl) h
  | succ n =>
    have := step_pos s l h
    rw [toks, if_neg h, toks_fuel n (l.drop (step s l).2.1).length _ _ _ (by rw [List.length_drop]; omega) (Nat.le_refl _)]
theorem tokens_eq (l : List Nat) : tokens l = if 16384 < l.length then [] else toksN (fresh 0 (-1)) 0 l := rfl
end Go.Proofs.Ytaokjeopmhbddaa.Sc
