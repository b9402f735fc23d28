/- Rows of tokens, plainly (chapter 9; no program text): rows, entries, and what the statements ask of them. -/
import Derived.Test.YtaokjeopmhbddaaSn
namespace Go.Proofs.Ytaokjeopmhbddaa.Rw

abbrev Tk := Nat × Nat × Nat
/-- A row: its kind, its tokens from one on to ahead of another one, its column (-1: none). -/
structure R where
  kind : Nat
  from' : Nat
  to : Nat
  col : Int
/-- Does a row end with this token? -/
def ends (x : Tk) : Bool := x.1 == 1 || x.1 == 19
/-- How many tokens the row at the front has. -/
def rlen : List Tk → Nat
  | [] => 0
  | x :: r => if ends x = true then 1 else rlen r + 1
def opnL (op : Nat) (ts : List Tk) : Nat := ts.foldl (fun o x => Sc.opens o x.1) op
/-- The first one that counts. -/
def firstC : List Tk → Option Tk
  | [] => none
  | x :: r => if Sc.counts x.1 = true then some x else firstC r
def isMark (k : Nat) : Bool := k == 20 || k == 21
def headK : List Tk → Nat
  | [] => 0
  | x :: _ => x.1
def headF : List Tk → Nat
  | [] => 0
  | x :: _ => x.2.1
def kindOf (begun : Bool) (ts : List Tk) : Nat :=
  if headK ts = 19 then 2
  else match firstC ts with
    | none => if begun = true then 3 else 1
    | some x => if isMark x.1 = true then 4 else if begun = true then 3 else 5
def colOf (ts : List Tk) : Int := match firstC ts with
  | none => -1
  | some x => (x.2.1 : Int) - (headF ts : Int)
def rowsF : Nat → Nat → Nat → List Tk → List R
  | 0, _, _, _ => []
  | f + 1, op, at', l => if l = [] then [] else ⟨kindOf (decide (0 < op)) (l.take (rlen l)), at', at' + rlen l, colOf (l.take (rlen l))⟩ :: rowsF f (opnL op (l.take (rlen l))) (at' + rlen l) (l.drop (rlen l))
/-- The rows of tokens. -/
def rowsN (l : List Tk) : List R := rowsF l.length 0 0 l

theorem rlen_le (l : List Tk) : rlen l ≤ l.length := by
  induction l with
  | nil => exact Nat.le_refl _
  | cons x r ih => rw [rlen]; split <;> simp <;> omega
theorem rlen_pos (l : List Tk) (h : l ≠ []) : 0 < rlen l := by
  cases l with
  | nil => exact absurd rfl h
  | cons x r => rw [rlen]; split <;> omega
/-- Its last token ends it, or nothing is behind it. -/
theorem rlen_end (l : List Tk) (h : l ≠ []) : rlen l = l.length ∨ ∃ x, l[rlen l - 1]? = some x ∧ ends x = true := by
  induction l with
  | nil => exact absurd rfl h
  | cons x r ih =>
    rw [rlen]
    by_cases he : ends x = true
    · rw [if_pos he]; exact .inr ⟨x, rfl, he⟩
    · rw [if_neg he]
      by_cases hr : r = []
      · subst hr; exact .inl rfl
      · rcases ih hr with h1 | ⟨y, h1, h2⟩
        · left; rw [List.length_cons, h1]
        · right
          have := rlen_pos r hr
          refine ⟨y, ?_, h2⟩
          rw [show rlen r + 1 - 1 = (rlen r - 1) + 1 by omega, List.getElem?_cons_succ]
          exact h1
/-- None ahead of its last one ends it. -/
theorem rlen_in (l : List Tk) (j : Nat) (x : Tk) (hj : j + 1 < rlen l) (hx : l[j]? = some x) : ends x = false := by
  induction l generalizing j with
  | nil => simp at hx
  | cons y r ih =>
    rw [rlen] at hj
    by_cases he : ends y = true
    · rw [if_pos he] at hj; omega
    · rw [if_neg he] at hj
      cases j with
      | zero =>
        obtain rfl : y = x := by simpa using hx
        simpa using he
      | succ j => exact ih j (by omega) (by simpa using hx)
theorem rlen_is (l : List Tk) (n : Nat) (h0 : 0 < n) (h : ∀ j x, j + 1 < n → l[j]? = some x → ends x = false) (hn : n = l.length ∨ ∃ x, l[n - 1]? = some x ∧ ends x = true) : rlen l = n := by
  induction l generalizing n with
  | nil =>
    rcases hn with h1 | ⟨x, h1, _⟩
    · exact h1.symm
    · simp at h1
  | cons y r ih =>
    rw [rlen]
    by_cases he : ends y = true
    · rw [if_pos he]
      rcases Nat.lt_or_ge 1 n with h1 | h1
      · have := h 0 y (by omega) rfl
        rw [he] at this; cases this
      · omega
    · rw [if_neg he]
      rcases Nat.lt_or_ge 1 n with h1 | h1
      · rw [ih (n - 1) (by omega) (fun j x hj hx => h (j + 1) x (by omega) (by simpa using hx)) (by
          rcases hn with h2 | ⟨x, h2, h3⟩
          · left; rw [List.length_cons] at h2; omega
          · right
            refine ⟨x, ?_, h3⟩
            rw [show n - 1 = (n - 1 - 1) + 1 by omega, List.getElem?_cons_succ] at h2
            exact h2)]
        omega
      · obtain rfl : n = 1 := by omega
        rcases hn with h2 | ⟨x, h2, h3⟩
        · rw [List.length_cons] at h2
          obtain rfl : r = [] := List.eq_nil_of_length_eq_zero (by omega)
          rfl
        · obtain rfl : y = x := by simpa using h2
          exact absurd h3 he
theorem opnL_snoc (op : Nat) (ts : List Tk) (x : Tk) : opnL op (ts ++ [x]) = Sc.opens (opnL op ts) x.1 := by unfold opnL; rw [List.foldl_append]; rfl
theorem firstC_snoc (ts : List Tk) (x : Tk) : firstC (ts ++ [x]) = match firstC ts with
    | some y => some y
    | none => if Sc.counts x.1 = true then some x else none := by
  induction ts with
  | nil => rfl
  | cons y r ih =>
    rw [List.cons_append, firstC, firstC]
    split
    · rfl
    · exact ih
theorem firstC_some (ts : List Tk) (x : Tk) (h : firstC ts = some x) : x ∈ ts ∧ Sc.counts x.1 = true := by
  induction ts with
  | nil => cases h
  | cons y r ih =>
    rw [firstC] at h
    by_cases hc : Sc.counts y.1 = true
    · rw [if_pos hc] at h; injection h with h; subst h; exact ⟨by simp, hc⟩
    · rw [if_neg hc] at h; have := ih h; exact ⟨by simp [this.1], this.2⟩
theorem firstC_none (ts : List Tk) (h : firstC ts = none) : ∀ x ∈ ts, Sc.counts x.1 = false := by
  induction ts with
  | nil => intro x hx; cases hx
  | cons y r ih =>
    rw [firstC] at h
    by_cases hc : Sc.counts y.1 = true
    · rw [if_pos hc] at h; cases h
    · rw [if_neg hc] at h
      intro x hx
      rcases List.mem_cons.1 hx with rfl | hx
      · simpa using hc
      · exact ih h x hx
/-- The tokens ahead of the first one that counts. -/
theorem firstC_is (ts : List Tk) (k : Nat) (x : Tk) (h : ∀ j y, j < k → ts[j]? = some y → Sc.counts y.1 = false) (hx : ts[k]? = some x) (hc : Sc.counts x.1 = true) : firstC ts = some x := by
  induction ts generalizing k with
  | nil => simp at hx
  | cons y r ih =>
    rw [firstC]
    cases k with
    | zero =>
      obtain rfl : y = x := by simpa using hx
      rw [if_pos hc]
    | succ k =>
      rw [if_neg (by rw [h 0 y (by omega) rfl]; decide)]
      exact ih k (fun j z hj hz => h (j + 1) z (by omega) (by simpa using hz)) (by simpa using hx)
theorem rowsF_fuel : ∀ (f g op at' : Nat) (l : List Tk), l.length ≤ f → l.length ≤ g → rowsF f op at' l = rowsF g op at' l
  | 0, g, _, _, l => fun h _ => by
    obtain rfl : l = [] := List.eq_nil_of_length_eq_zero (by omega)
    cases g with
    | zero => rfl
    | succ g => rw [rowsF, rowsF, if_pos rfl]
  | f + 1, 0, _, _, l => fun _ h => by
    obtain rfl : l = [] := List.eq_nil_of_length_eq_zero (by omega)
    rw [rowsF, rowsF, if_pos rfl]
  | f + 1, g + 1, op, at', l => fun h1 h2 => by
    rw [rowsF, rowsF]
    by_cases hl : l = []
    · rw [if_pos hl, if_pos hl]
    · rw [if_neg hl, if_neg hl]
      have hp := rlen_pos l hl
      rw [rowsF_fuel f g _ _ _ (by rw [List.length_drop]; omega) (by rw [List.length_drop]; omega)]
/-- The rows from a place on. -/
def rowsAt (op at' : Nat) (l : List Tk) : List R := rowsF l.length op at' l
theorem rowsAt_nil (op at' : Nat) : rowsAt op at' [] = [] := rfl
theorem rowsAt_step (op at' : Nat) (l : List Tk) (h : l ≠ []) : rowsAt op at' l = ⟨kindOf (decide (0 < op)) (l.take (rlen l)), at', at' + rlen l, colOf (l.take (rlen l))⟩ :: rowsAt (opnL op (l.take (rlen l))) (at' + rlen l) (l.drop (rlen l)) := by
  unfold rowsAt
  cases hl : l.length with
  | zero => exact absurd (List.eq_nil_of_length_eq_zero hl) h
  | succ f =>
    rw [rowsF, if_neg h]
    have hp := rlen_pos l h
    rw [rowsF_fuel f (l.drop (rlen l)).length _ _ _ (by rw [List.length_drop]; omega) (Nat.le_refl _)]
theorem rowsN_at (l : List Tk) : rowsN l = rowsAt 0 0 l := rfl
theorem rowsF_len : ∀ (f op at' : Nat) (l : List Tk), (rowsF f op at' l).length ≤ l.length
  | 0, _, _, _ => Nat.zero_le _
  | f + 1, op, at', l => by
    rw [rowsF]
    split
    · exact Nat.zero_le _
    · rename_i h
      have hp := rlen_pos l h
      have := rowsF_len f (opnL op (l.take (rlen l))) (at' + rlen l) (l.drop (rlen l))
      rw [List.length_drop] at this
      have := rlen_le l
      rw [List.length_cons]
      omega
/-- Tokens that lie one behind the other, none empty. -/
def Tile : Nat → List Tk → Prop
  | _, [] => True
  | p, x :: r => x.2.1 = p ∧ p < x.2.2 ∧ Tile x.2.2 r
theorem Tile.le {p : Nat} {l : List Tk} (h : Tile p l) : ∀ (j : Nat) (x : Tk), l[j]? = some x → p ≤ x.2.1 ∧ x.2.1 < x.2.2 := by
  induction l generalizing p with
  | nil => intro j x hx; simp at hx
  | cons y r ih =>
    obtain ⟨h1, h2, h3⟩ := h
    intro j x hx
    cases j with
    | zero =>
      obtain rfl : y = x := by simpa using hx
      exact ⟨by omega, by omega⟩
    | succ j =>
      have := ih h3 j x (by simpa using hx)
      exact ⟨by omega, this.2⟩
theorem Tile.lt {p : Nat} {l : List Tk} (h : Tile p l) : ∀ (i j : Nat) (x y : Tk), i < j → l[i]? = some x → l[j]? = some y → x.2.2 ≤ y.2.1 := by
  induction l generalizing p with
  | nil => intro i j x y _ hx; simp at hx
  | cons z r ih =>
    obtain ⟨h1, h2, h3⟩ := h
    intro i j x y hij hx hy
    cases j with
    | zero => omega
    | succ j =>
      cases i with
      | zero =>
        obtain rfl : z = x := by simpa using hx
        exact (h3.le j y (by simpa using hy)).1
      | succ i => exact ih h3 i j x y (by omega) (by simpa using hx) (by simpa using hy)
theorem tile_toks : ∀ (n : Nat) (s : Sc.St) (p : Nat) (l : List Nat), l.length ≤ n → Tile p (Sc.toksN s p l)
  | 0, s, p, l => fun h => by
    obtain rfl : l = [] := List.eq_nil_of_length_eq_zero (by omega)
    rw [Sc.toksN_nil]; trivial
  | n + 1, s, p, l => fun h => by
    by_cases hl : l = []
    · subst hl; rw [Sc.toksN_nil]; trivial
    · rw [Sc.toksN_step s p l hl]
      have := Sc.step_pos s l hl
      exact ⟨rfl, by show p < p + _; omega, tile_toks n _ _ _ (by rw [List.length_drop]; omega)⟩
theorem tile_tokens (l : List Nat) : Tile 0 (Sc.tokens l) := by
  rw [Sc.tokens_eq]
  split
  · trivial
  · exact tile_toks _ _ _ _ (Nat.le_refl _)
theorem Tile.drop {p : Nat} {l : List Tk} (h : Tile p l) (n : Nat) : ∃ q, Tile q (l.drop n) := by
  induction n generalizing p l with
  | zero => exact ⟨p, h⟩
  | succ n ih =>
    cases l with
    | nil => exact ⟨p, h⟩
    | cons x r => obtain ⟨_, _, h3⟩ := h; exact ih h3
theorem tile_take {l : List Tk} : ∀ (n p : Nat), Tile p l → Tile p (l.take n) := by
  induction l with
  | nil => intro n p _; rw [List.take_nil]; trivial
  | cons x r ih =>
    intro n p h
    cases n with
    | zero => trivial
    | succ n => exact ⟨h.1, h.2.1, ih n _ h.2.2⟩
/-- A column is none just where nothing counts. -/
theorem col_is {p : Nat} {ts : List Tk} (h : Tile p ts) : (0 ≤ colOf ts ↔ (firstC ts).isSome = true) := by
  unfold colOf
  cases hf : firstC ts with
  | none => simp
  | some x =>
    have hm := (firstC_some ts x hf).1
    obtain ⟨j, hj⟩ := List.getElem?_of_mem hm
    cases ts with
    | nil => simp at hm
    | cons y r =>
      have h0 : (y :: r)[0]? = some y := rfl
      have hle : y.2.1 ≤ x.2.1 := by
        rcases Nat.eq_zero_or_pos j with rfl | hp
        · rw [h0] at hj; injection hj with hj; subst hj; exact Nat.le_refl _
        · have h1 := h.lt 0 j y x hp h0 hj
          have h2 := (h.le 0 y h0).2
          omega
      simp [headF]
      omega
/-- A blank row has nothing that counts. -/
theorem blank_is (b : Bool) (ts : List Tk) (h : kindOf b ts = 1) : firstC ts = none := by
  unfold kindOf at h
  split at h
  · cases h
  · cases hf : firstC ts with
    | none => rfl
    | some x =>
      rw [hf] at h
      dsimp only at h
      split at h
      · cases h
      · split at h <;> cases h

/-- An entry: a dash, or a key with its colon. -/
structure E where
  dash : Bool
  col : Int
  from' : Nat
  to : Nat
/-- How many blanks stand at the front. -/
def blanks : List Tk → Nat
  | [] => 0
  | x :: r => if x.1 = 3 then blanks r + 1 else 0
/-- Dashes, with what is between them: each one's place. -/
def dashF : Nat → List Tk → List Nat
  | 0, _ => []
  | f + 1, l => if headK l = 5 then 0 :: (dashF f (l.drop (blanks (l.drop 1) + 1))).map (· + (blanks (l.drop 1) + 1)) else []
/-- How many tokens the dashes have, with the blanks behind them. -/
def dashN : Nat → List Tk → Nat
  | 0, _ => 0
  | f + 1, l => if headK l = 5 then dashN f (l.drop (blanks (l.drop 1) + 1)) + (blanks (l.drop 1) + 1) else 0
def isProp (k : Nat) : Bool := k == 12 || k == 14
def isScal (k : Nat) : Bool := k == 15 || k == 16 || k == 17 || k == 13
def propN : Nat → List Tk → Nat
  | 0, _ => 0
  | f + 1, l => if isProp (headK l) = true then propN f (l.drop (blanks (l.drop 1) + 1)) + (blanks (l.drop 1) + 1) else 0
def scalN (l : List Tk) : Nat := if isScal (headK l) = true then blanks (l.drop 1) + 1 else 0
/-- How many tokens stand ahead of where a key's colon must be. -/
def aheadN (l : List Tk) : Nat := propN l.length l + scalN (l.drop (propN l.length l))
/-- A key: how many tokens it has, with its colon. -/
def keyN (l : List Tk) : Option Nat := if headK (l.drop (aheadN l)) = 6 then some (aheadN l + 1) else none
/-- How many do not count at the front. -/
def leadN : List Tk → Nat
  | [] => 0
  | x :: r => if Sc.counts x.1 = true then 0 else leadN r + 1
def fromAt (l : List Tk) (i : Nat) : Nat := headF (l.drop i)
/-- The entries of a body's tokens, that begin at the place at'. -/
def entsB (at' : Nat) (ts : List Tk) : List E :=
  (dashF (ts.drop (leadN ts)).length (ts.drop (leadN ts))).map (fun i => ⟨true, (fromAt ts (leadN ts + i) : Int) - (headF ts : Int), at' + leadN ts + i, at' + leadN ts + i + 1⟩) ++
  (match keyN (ts.drop (leadN ts + dashN (ts.drop (leadN ts)).length (ts.drop (leadN ts)))) with
    | some n => [⟨false, (fromAt ts (leadN ts + dashN (ts.drop (leadN ts)).length (ts.drop (leadN ts))) : Int) - (headF ts : Int), at' + leadN ts + dashN (ts.drop (leadN ts)).length (ts.drop (leadN ts)), at' + leadN ts + dashN (ts.drop (leadN ts)).length (ts.drop (leadN ts)) + n⟩]
    | none => [])
/-- Where the rest begins. -/
def restB (at' : Nat) (ts : List Tk) : Nat := match (entsB at' ts).getLast? with
  | some e => e.to
  | none => at' + leadN ts
/-- Entries of a row of tokens. -/
def ents (l : List Tk) (r : R) : List E × Nat := if r.kind = 5 then (entsB r.from' ((l.drop r.from').take (r.to - r.from')), restB r.from' ((l.drop r.from').take (r.to - r.from'))) else ([], r.from')
end Go.Proofs.Ytaokjeopmhbddaa.Rw
