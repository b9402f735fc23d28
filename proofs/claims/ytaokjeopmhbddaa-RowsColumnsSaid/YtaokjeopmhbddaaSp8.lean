/- Plain facts on rows: what stands behind a row's end bears on none of its tokens; rows of no brackets and no heads leave nothing behind. -/
import Derived.Test.YtaokjeopmhbddaaSp7
namespace Go.Proofs.Ytaokjeopmhbddaa.Sc
open Go.Proofs.Ytaokjeopmhbddaa.Sg

/-- What is known behind all of it. -/
def fin : Nat → St → List Nat → St
  | 0, s, _ => s
  | f + 1, s, l => if l = [] then s else fin f (step s l).2.2 (l.drop (step s l).2.1)
theorem fin_fuel : ∀ (f g : Nat) (s : St) (l : List Nat), l.length ≤ f → l.length ≤ g → fin f s l = fin g s l
  | 0, g, s, l, h, _ => by
    obtain rfl : l = [] := List.eq_nil_of_length_eq_zero (by omega)
    cases g <;> rfl
  | f + 1, 0, s, l, _, h => by
    obtain rfl : l = [] := List.eq_nil_of_length_eq_zero (by omega)
    rfl
  | f + 1, g + 1, s, l, hf, hg => by
    rw [fin, fin]
    by_cases hl : l = []
    · rw [if_pos hl, if_pos hl]
    · rw [if_neg hl, if_neg hl]
      have := step_pos s l hl
      rw [fin_fuel f g _ _ (by rw [List.length_drop]; omega) (by rw [List.length_drop]; omega)]
def finN (s : St) (l : List Nat) : St := fin l.length s l
theorem finN_step (s : St) (l : List Nat) (h : l ≠ []) : finN s l = finN (step s l).2.2 (l.drop (step s l).2.1) := by
  unfold finN
  cases hl : l.length with
  | zero => exact absurd (List.eq_nil_of_length_eq_zero hl) h
  | succ n =>
    have := step_pos s l h
    rw [fin, if_neg h, fin_fuel n (l.drop (step s l).2.1).length _ _ (by rw [List.length_drop]; omega) (Nat.le_refl _)]
theorem run_app (p : Nat → Bool) (a b : List Nat) (h : ∃ c ∈ a, p c = false) : run p (a ++ b) = run p a ∧ run p a < a.length := by
  induction a with
  | nil => obtain ⟨c, hc, _⟩ := h; exact absurd hc (by simp)
  | cons c r ih =>
    rw [List.cons_append, run, run]
    by_cases hp : p c = true
    · rw [if_pos hp, if_pos hp]
      have : ∃ d ∈ r, p d = false := by
        obtain ⟨d, hd, hd2⟩ := h
        rcases List.mem_cons.1 hd with rfl | hd
        · rw [hp] at hd2; cases hd2
        · exact ⟨d, hd, hd2⟩
      obtain ⟨h1, h2⟩ := ih this
      exact ⟨by rw [h1], by rw [List.length_cons]; omega⟩
    · rw [if_neg hp, if_neg hp]
      exact ⟨rfl, by simp⟩
/-- Whole rows. -/
def ends (a : List Nat) : Prop := a.getLast? = some 10
theorem ends_ne {a : List Nat} (h : ends a) : a ≠ [] := fun e => by rw [e] at h; cases h
theorem ends_mem {a : List Nat} (h : ends a) : 10 ∈ a := List.mem_of_getLast? h
theorem ends_drop {a : List Nat} {n : Nat} (h : ends a) (hn : n < a.length) : ends (a.drop n) := by
  unfold ends at *
  rw [List.getLast?_drop, if_neg (by omega), h]
theorem brkS_app (a b : List Nat) (h : ends a) : brkS (a ++ b) = brkS a := by
  match a, h with
  | [c], h =>
    obtain rfl : c = 10 := by simpa [ends] using h
    cases b <;> rfl
  | c :: d :: t, _ => rfl
theorem rowN_app (a b : List Nat) (h : ends a) : rowN (a ++ b) = rowN a ∧ rowN a < a.length := run_app _ a b ⟨10, ends_mem h, rfl⟩
theorem rowL_app (a b : List Nat) (h : ends a) : rowL (a ++ b) = rowL a := by
  obtain ⟨h1, h2⟩ := rowN_app a b h
  rw [rowL, rowL, h1, List.take_append_of_le_length (by omega)]
theorem mid_app (s : St) (a b : List Nat) (h : ends a) : mid s (a ++ b) = mid s a := by
  unfold mid
  rw [(rowN_app a b h).1, rowL_app a b h, brkS_app a b h]
theorem step_app (s : St) (a b : List Nat) (h : ends a) : step s (a ++ b) = step s a := by
  obtain ⟨h1, h2⟩ := rowN_app a b h
  unfold step
  rw [h1, rowL_app a b h, mid_app _ a b h, mid_app _ a b h, List.drop_append_of_le_length (by omega), brkS_app _ b (ends_drop h h2)]
theorem toksN_app : ∀ (n : Nat) (s : St) (p : Nat) (a b : List Nat), a.length ≤ n → (a = [] ∨ ends a) → toksN s p (a ++ b) = toksN s p a ++ toksN (finN s a) (p + a.length) b := by
  intro n
  induction n with
  | zero =>
    intro s p a b hl _
    obtain rfl : a = [] := List.eq_nil_of_length_eq_zero (by omega)
    rfl
  | succ n ih =>
    intro s p a b hl h
    rcases h with rfl | h
    · rfl
    · have hne := ends_ne h
      have hp := step_pos s a hne
      rw [toksN_step s p (a ++ b) (by simp [hne]), toksN_step s p a hne, finN_step s a hne, step_app s a b h, List.drop_append_of_le_length hp.2, List.cons_append]
      congr 1
      rw [ih _ _ _ b (by rw [List.length_drop]; omega) (by
        by_cases he : (step s a).2.1 < a.length
        · exact .inr (ends_drop h he)
        · exact .inl (List.drop_of_length_le (by omega))), List.length_drop]
      congr 2
      omega
/-- A token so many bytes further on. -/
def shift (q : Nat) (x : Nat × Nat × Nat) : Nat × Nat × Nat := (x.1, x.2.1 + q, x.2.2 + q)
theorem toks_shift (q : Nat) : ∀ (f : Nat) (s : St) (p : Nat) (l : List Nat), toks f s (p + q) l = (toks f s p l).map (shift q)
  | 0, _, _, _ => rfl
  | f + 1, s, p, l => by
    rw [toks, toks]
    by_cases hl : l = []
    · rw [if_pos hl, if_pos hl]; rfl
    · rw [if_neg hl, if_neg hl, List.map_cons, ← toks_shift q f]
      rw [show p + q + (step s l).2.1 = p + (step s l).2.1 + q by omega]
      rfl
theorem toksN_shift (s : St) (q : Nat) (l : List Nat) : toksN s q l = (toksN s 0 l).map (shift q) := by
  unfold toksN
  rw [← toks_shift q, Nat.zero_add]
/-- A byte that opens nothing. -/
def still (c : Nat) : Prop := c ≠ 91 ∧ c ≠ 123 ∧ c ≠ 124 ∧ c ≠ 62
theorem word_still (dash : Bool) (l : List Nat) (h : ∀ c ∈ l, still c) : (word 0 dash l).1 ≠ 8 ∧ (word 0 dash l).1 ≠ 9 ∧ (word 0 dash l).1 ≠ 18 := by
  cases l with
  | nil => cases dash <;> decide
  | cons c r =>
    obtain ⟨h1, h2, h3, h4⟩ := h c (by simp)
    have e1 : headN (c :: r) = 0 := by rw [headN, if_neg (by omega)]
    have e2 : sign 0 dash (c :: r) ≠ 8 ∧ sign 0 dash (c :: r) ≠ 9 ∧ sign 0 dash (c :: r) ≠ 18 := by
      rw [sign, if_neg h1, if_neg h2]
      (repeat' split) <;> exact ⟨by simp, by simp, by simp⟩
    have e3 : (named (c :: r)).1 ≠ 8 ∧ (named (c :: r)).1 ≠ 9 ∧ (named (c :: r)).1 ≠ 18 := by
      rw [named]
      (repeat' split) <;> exact ⟨by simp, by simp, by simp⟩
    have e4 : (quoted (c :: r)).1 ≠ 8 ∧ (quoted (c :: r)).1 ≠ 9 ∧ (quoted (c :: r)).1 ≠ 18 := by
      rw [quoted]
      (repeat' split) <;> exact ⟨by simp, by simp, by simp⟩
    unfold word
    rw [e1]
    split
    · exact e2
    split
    · exact e3
    split
    · exact e4
    rw [if_neg (by omega)]
    split <;> exact ⟨by simp, by simp, by simp⟩
theorem next_still (dash blank first : Bool) (l : List Nat) (h : ∀ c ∈ l, still c) : (next 0 dash blank first l).1 ≠ 8 ∧ (next 0 dash blank first l).1 ≠ 9 ∧ (next 0 dash blank first l).1 ≠ 18 := by
  have hw := word_still dash l h
  have hm : mark l ≠ 8 ∧ mark l ≠ 9 ∧ mark l ≠ 18 := by
    unfold mark
    (repeat' split) <;> exact ⟨by simp, by simp, by simp⟩
  unfold next
  split
  · exact hm
  split
  · exact ⟨by simp, by simp, by simp⟩
  split
  · exact ⟨by simp, by simp, by simp⟩
  split
  · exact ⟨by simp, by simp, by simp⟩
  · exact hw
theorem fin_still : ∀ (n : Nat) (s : St) (a : List Nat), a.length ≤ n → ends a → (∀ c ∈ a, still c) → s.op = 0 → s.least = -1 → finN s a = fresh 0 (-1) := by
  intro n
  induction n with
  | zero =>
    intro s a hl h
    exact absurd (List.eq_nil_of_length_eq_zero (by omega)) (ends_ne h)
  | succ n ih =>
    intro s a hl h hs ho hm
    have hne := ends_ne h
    have hp := step_pos s a hne
    have hst := step_mid s a (fun _ => hm)
    rw [finN_step s a hne]
    by_cases h0 : rowN a = 0
    · rw [hst, mid_end s a h0] at hp ⊢
      show finN (fresh s.op s.least) (a.drop (brkS a)) = _
      rw [ho, hm]
      by_cases he : brkS a < a.length
      · have hb : 0 < brkS a := hp.1
        exact ih _ _ (by rw [List.length_drop]; omega) (ends_drop h he) (fun c hc => hs c (List.mem_of_mem_drop hc)) rfl rfl
      · rw [List.drop_of_length_le (by omega)]; rfl
    · have hk := next_still s.dash s.blank (s.col == 0) (rowL a) (fun c hc => hs c (List.mem_of_mem_take hc))
      have hr := (rowN_app a [] h).2
      have hn : (next 0 s.dash s.blank (s.col == 0) (rowL a)).2 ≤ rowN a := by
        have hl := rowL_len a
        cases hrl : rowL a with
        | nil => rw [hrl] at hl; exact absurd hl.symm h0
        | cons c r =>
          have := (next_le 0 s.dash s.blank (s.col == 0) c r).2
          rw [← hrl, hl] at this
          rw [← hrl]; exact this
      rw [hst, mid_in s a h0, ho] at hp ⊢
      obtain ⟨k, m, hkm⟩ : ∃ k m, next 0 s.dash s.blank (s.col == 0) (rowL a) = (k, m) := ⟨_, _, rfl⟩
      rw [hkm] at hp hk hn ⊢
      show finN (take s k m) (a.drop m) = _
      have hp1 : 0 < m := hp.1
      have hn1 : m ≤ rowN a := hn
      obtain ⟨k1, k2, k3⟩ : k ≠ 8 ∧ k ≠ 9 ∧ k ≠ 18 := hk
      refine ih _ _ (by rw [List.length_drop]; omega) (ends_drop h (by omega)) (fun c hc => hs c (List.mem_of_mem_drop hc)) ?_ ?_
      · show opens s.op k = 0
        unfold opens
        rw [ho, if_neg (by omega)]
        (repeat' split) <;> rfl
      · show (if k = 18 then _ else s.least) = -1
        rw [if_neg k3, hm]
/-- Rows of no brackets and no heads are read alone as among others. -/
theorem tokens_rows (x y : List Nat) (h : ∀ c ∈ x, still c) (hl : x.length + 1 + y.length ≤ 16384) :
    tokens (x ++ [10] ++ y) = tokens (x ++ [10]) ++ (tokens y).map (shift (x.length + 1)) := by
  have he : ends (x ++ [10]) := by unfold ends; rw [List.getLast?_append]; rfl
  have hz : (x ++ [10]).length = x.length + 1 := by simp
  rw [tokens_eq, tokens_eq, tokens_eq, if_neg (by rw [List.length_append, hz]; omega), if_neg (by rw [hz]; omega), if_neg (by omega),
    toksN_app _ _ _ _ y (Nat.le_refl _) (.inr he), fin_still _ _ _ (Nat.le_refl _) he (fun c hc => by
      rcases List.mem_append.1 hc with hc | hc
      · exact h c hc
      · obtain rfl : c = 10 := by simpa using hc
        exact ⟨by decide, by decide, by decide, by decide⟩) rfl rfl, Nat.zero_add, hz, toksN_shift _ (x.length + 1) y]
end Go.Proofs.Ytaokjeopmhbddaa.Sc
