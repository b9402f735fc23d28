/- Rows token by token: what is known of a row of which so many tokens have been seen (plain; for the walks of Rows and Entries; no program text). -/
import Derived.Test.YtaokjeopmhbddaaRwq
namespace Go.Proofs.Ytaokjeopmhbddaa.Rw

/-- The kind, as far as it has been seen: 1 (nothing counts yet), 4 (a mark), 5. -/
def kindP (ts : List Tk) : Nat := match firstC ts with
  | none => 1
  | some x => if isMark x.1 = true then 4 else 5
theorem kindOf_P (b : Bool) (ts : List Tk) : kindOf b ts = if headK ts = 19 then 2 else if b = true ∧ kindP ts ≠ 4 then 3 else kindP ts := by
  unfold kindOf kindP
  split
  · rfl
  · cases firstC ts with
    | none => cases b <;> rfl
    | some x =>
      dsimp only
      by_cases hm : isMark x.1 = true <;> cases b <;> simp [hm]
theorem seen_next (l : List Tk) (fr i : Nat) (x : Tk) (h : l[fr + i]? = some x) : (l.drop fr).take (i + 1) = (l.drop fr).take i ++ [x] := by
  rw [List.take_add_one, List.getElem?_drop, h]
  rfl
theorem seen_len (l : List Tk) (fr i : Nat) (h : fr + i ≤ l.length) : ((l.drop fr).take i).length = i := by
  rw [List.length_take, List.length_drop]; omega
theorem headF_seen (l : List Tk) (fr i : Nat) (y : Tk) (h : l[fr]? = some y) (hi : 0 < i) : headF ((l.drop fr).take i) = y.2.1 := by
  have hf := (List.getElem?_eq_some_iff.1 h).1
  have e : l[fr] = y := (List.getElem?_eq_some_iff.1 h).2
  obtain ⟨j, rfl⟩ : ∃ j, i = j + 1 := ⟨i - 1, by omega⟩
  rw [List.drop_eq_getElem_cons hf, e, List.take_succ_cons]
  rfl
theorem headK_seen (l : List Tk) (fr i : Nat) (y : Tk) (h : l[fr]? = some y) (hi : 0 < i) : headK ((l.drop fr).take i) = y.1 := by
  have hf := (List.getElem?_eq_some_iff.1 h).1
  have e : l[fr] = y := (List.getElem?_eq_some_iff.1 h).2
  obtain ⟨j, rfl⟩ : ∃ j, i = j + 1 := ⟨i - 1, by omega⟩
  rw [List.drop_eq_getElem_cons hf, e, List.take_succ_cons]
  rfl
/-- The step of the kind and the column. -/
theorem kind_step (ts : List Tk) (x : Tk) : kindP (ts ++ [x]) = if (firstC ts).isNone = true ∧ Sc.counts x.1 = true then (if isMark x.1 = true then 4 else 5) else kindP ts := by
  unfold kindP
  rw [firstC_snoc]
  cases firstC ts with
  | some y => simp
  | none =>
    dsimp only
    by_cases hc : Sc.counts x.1 = true
    · rw [if_pos hc, if_pos ⟨rfl, hc⟩]
    · rw [if_neg hc, if_neg (fun h => hc h.2)]
theorem col_step (ts : List Tk) (x : Tk) : colOf (ts ++ [x]) = if (firstC ts).isNone = true ∧ Sc.counts x.1 = true then (x.2.1 : Int) - (headF (ts ++ [x]) : Int) else colOf ts := by
  unfold colOf
  rw [firstC_snoc]
  cases hf : firstC ts with
  | some y =>
    have hne : ts ≠ [] := fun e => by rw [e] at hf; cases hf
    have : headF (ts ++ [x]) = headF ts := by
      cases ts with
      | nil => exact absurd rfl hne
      | cons z r => rfl
    simp [this]
  | none =>
    dsimp only
    by_cases hc : Sc.counts x.1 = true
    · rw [if_pos hc, if_pos ⟨rfl, hc⟩]
    · rw [if_neg hc, if_neg (fun h => hc h.2)]
/-- With tokens of a text: a column is below 0 just where nothing counts yet. -/
theorem col_neg {p : Nat} {ts : List Tk} (h : Tile p ts) : (colOf ts < 0) ↔ (firstC ts).isNone = true := by
  have := col_is h
  cases hf : firstC ts with
  | none => rw [hf] at this; simp at this; simp; omega
  | some x => rw [hf] at this; simp at this; simp; omega
theorem col_bd {p : Nat} {ts : List Tk} (h : Tile p ts) (N : Nat) (hN : ∀ x ∈ ts, x.2.2 ≤ N) : -1 ≤ colOf ts ∧ colOf ts ≤ N := by
  have h1 := col_is h
  unfold colOf at *
  cases hf : firstC ts with
  | none => dsimp only; omega
  | some x =>
    rw [hf] at h1
    dsimp only at *
    have h2 := h1.2 rfl
    have hm := (firstC_some ts x hf).1
    obtain ⟨j, hj⟩ := List.getElem?_of_mem hm
    have h3 := (h.le j x hj).2
    have := hN x hm
    omega
/-- The row's end. -/
theorem row_ends (l : List Tk) (fr i : Nat) (hi : 0 < i) (h : ∀ j x, j + 1 < i → l[fr + j]? = some x → ends x = false) (hn : fr + i = l.length ∨ ∃ x, l[fr + i - 1]? = some x ∧ ends x = true) : rlen (l.drop fr) = i := by
  refine rlen_is _ i hi (fun j x hj hx => h j x hj (by rw [List.getElem?_drop] at hx; exact hx)) ?_
  rcases hn with h1 | ⟨x, h1, h2⟩
  · left; rw [List.length_drop]; omega
  · right; refine ⟨x, ?_, h2⟩; rw [List.getElem?_drop, show fr + (i - 1) = fr + i - 1 by omega]; exact h1
/-- From row to row: what is still to come. -/
theorem rows_from (l : List Tk) (op fr : Nat) (h : fr < l.length) : rowsAt op fr (l.drop fr) =
    ⟨kindOf (decide (0 < op)) ((l.drop fr).take (rlen (l.drop fr))), fr, fr + rlen (l.drop fr), colOf ((l.drop fr).take (rlen (l.drop fr)))⟩ :: rowsAt (opnL op ((l.drop fr).take (rlen (l.drop fr)))) (fr + rlen (l.drop fr)) (l.drop (fr + rlen (l.drop fr))) := by
  rw [rowsAt_step op fr (l.drop fr) (by intro e; have := congrArg List.length e; rw [List.length_drop] at this; simp at this; omega), List.drop_drop]
theorem rows_done (l : List Tk) (op fr : Nat) (h : l.length ≤ fr) : rowsAt op fr (l.drop fr) = [] := by
  rw [List.drop_eq_nil_of_le h]; rfl
/-- Over blanks; over what does not count. -/
theorem blanks_is (l : List Tk) (n : Nat) (h : ∀ j x, j < n → l[j]? = some x → x.1 = 3) (hn : n = l.length ∨ ∃ x, l[n]? = some x ∧ x.1 ≠ 3) : blanks l = n := by
  induction l generalizing n with
  | nil =>
    rcases hn with h1 | ⟨x, h1, _⟩
    · exact h1.symm
    · simp at h1
  | cons y r ih =>
    rw [blanks]
    cases n with
    | zero =>
      rcases hn with h1 | ⟨x, h1, h2⟩
      · simp at h1
      · obtain rfl : y = x := by simpa using h1
        rw [if_neg h2]
    | succ n =>
      rw [if_pos (h 0 y (by omega) rfl), ih n (fun j x hj hx => h (j + 1) x (by omega) (by simpa using hx)) (by
        rcases hn with h1 | ⟨x, h1, h2⟩
        · left; rw [List.length_cons] at h1; omega
        · right; exact ⟨x, by simpa using h1, h2⟩)]
theorem lead_is (l : List Tk) (n : Nat) (h : ∀ j x, j < n → l[j]? = some x → Sc.counts x.1 = false) (hn : n = l.length ∨ ∃ x, l[n]? = some x ∧ Sc.counts x.1 = true) : leadN l = n := by
  induction l generalizing n with
  | nil =>
    rcases hn with h1 | ⟨x, h1, _⟩
    · exact h1.symm
    · simp at h1
  | cons y r ih =>
    rw [leadN]
    cases n with
    | zero =>
      rcases hn with h1 | ⟨x, h1, h2⟩
      · simp at h1
      · obtain rfl : y = x := by simpa using h1
        rw [if_pos h2]
    | succ n =>
      rw [if_neg (by rw [h 0 y (by omega) rfl]; decide), ih n (fun j x hj hx => h (j + 1) x (by omega) (by simpa using hx)) (by
        rcases hn with h1 | ⟨x, h1, h2⟩
        · left; rw [List.length_cons] at h1; omega
        · right; exact ⟨x, by simpa using h1, h2⟩)]
/-- The recursions' fuel does not bear. -/
theorem dash_fuel : ∀ (f g : Nat) (l : List Tk), l.length ≤ f → l.length ≤ g → dashF f l = dashF g l ∧ dashN f l = dashN g l
  | 0, g, l => fun h _ => by
    obtain rfl : l = [] := List.eq_nil_of_length_eq_zero (by omega)
    cases g with
    | zero => exact ⟨rfl, rfl⟩
    | succ g => rw [dashF, dashF, dashN, dashN]; exact ⟨by rw [if_neg (by decide)], by rw [if_neg (by decide)]⟩
  | f + 1, 0, l => fun _ h => by
    obtain rfl : l = [] := List.eq_nil_of_length_eq_zero (by omega)
    rw [dashF, dashF, dashN, dashN]; exact ⟨by rw [if_neg (by decide)], by rw [if_neg (by decide)]⟩
  | f + 1, g + 1, l => fun h1 h2 => by
    rw [dashF, dashF, dashN, dashN]
    by_cases hk : headK l = 5
    · rw [if_pos hk, if_pos hk, if_pos hk, if_pos hk]
      have ih := dash_fuel f g (l.drop (blanks (l.drop 1) + 1)) (by rw [List.length_drop]; omega) (by rw [List.length_drop]; omega)
      rw [ih.1, ih.2]
      exact ⟨rfl, rfl⟩
    · rw [if_neg hk, if_neg hk, if_neg hk, if_neg hk]
      exact ⟨rfl, rfl⟩
theorem prop_fuel : ∀ (f g : Nat) (l : List Tk), l.length ≤ f → l.length ≤ g → propN f l = propN g l
  | 0, g, l => fun h _ => by
    obtain rfl : l = [] := List.eq_nil_of_length_eq_zero (by omega)
    cases g with
    | zero => rfl
    | succ g => rw [propN, propN, if_neg (by decide)]
  | f + 1, 0, l => fun _ h => by
    obtain rfl : l = [] := List.eq_nil_of_length_eq_zero (by omega)
    rw [propN, propN, if_neg (by decide)]
  | f + 1, g + 1, l => fun h1 h2 => by
    rw [propN, propN]
    by_cases hk : isProp (headK l) = true
    · rw [if_pos hk, if_pos hk, prop_fuel f g _ (by rw [List.length_drop]; omega) (by rw [List.length_drop]; omega)]
    · rw [if_neg hk, if_neg hk]
/-- Dashes, one step. -/
theorem dash_step (l : List Tk) (h : headK l = 5) : dashF l.length l = 0 :: (dashF (l.drop (blanks (l.drop 1) + 1)).length (l.drop (blanks (l.drop 1) + 1))).map (· + (blanks (l.drop 1) + 1)) ∧ dashN l.length l = dashN (l.drop (blanks (l.drop 1) + 1)).length (l.drop (blanks (l.drop 1) + 1)) + (blanks (l.drop 1) + 1) := by
  have hne := headK_pos l 5 h (by decide)
  cases hl : l.length with
  | zero => exact absurd (List.eq_nil_of_length_eq_zero hl) hne
  | succ f =>
    rw [dashF, dashN, if_pos h, if_pos h]
    have := dash_fuel f (l.drop (blanks (l.drop 1) + 1)).length (l.drop (blanks (l.drop 1) + 1)) (by rw [List.length_drop]; omega) (Nat.le_refl _)
    rw [this.1, this.2]
    exact ⟨rfl, rfl⟩
theorem dash_stop (l : List Tk) (h : headK l ≠ 5) : dashF l.length l = [] ∧ dashN l.length l = 0 := by
  cases hl : l.length with
  | zero => exact ⟨rfl, rfl⟩
  | succ f => rw [dashF, dashN, if_neg h, if_neg h]; exact ⟨rfl, rfl⟩
theorem prop_step (l : List Tk) (h : isProp (headK l) = true) : propN l.length l = propN (l.drop (blanks (l.drop 1) + 1)).length (l.drop (blanks (l.drop 1) + 1)) + (blanks (l.drop 1) + 1) := by
  have hne : l ≠ [] := fun e => by rw [e] at h; exact absurd h (by decide)
  cases hl : l.length with
  | zero => exact absurd (List.eq_nil_of_length_eq_zero hl) hne
  | succ f => rw [propN, if_pos h, prop_fuel f (l.drop (blanks (l.drop 1) + 1)).length _ (by rw [List.length_drop]; omega) (Nat.le_refl _)]
theorem prop_stop (l : List Tk) (h : isProp (headK l) = false) : propN l.length l = 0 := by
  cases hl : l.length with
  | zero => rfl
  | succ f => rw [propN, if_neg (by rw [h]; decide)]
end Go.Proofs.Ytaokjeopmhbddaa.Rw
