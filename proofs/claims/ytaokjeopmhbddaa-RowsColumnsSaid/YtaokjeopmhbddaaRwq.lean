/- Plain facts that chapter 9's statements ask: entries in order; the rows of known texts; a row's column (no program text). -/
import Derived.Test.YtaokjeopmhbddaaRwp
import Derived.Test.YtaokjeopmhbddaaSp8
namespace Go.Proofs.Ytaokjeopmhbddaa.Rw
open Go.Proofs.Ytaokjeopmhbddaa.Sc (toksN fresh rowN rowL)

theorem blanks_le (l : List Tk) : blanks l ≤ l.length := by
  induction l with
  | nil => exact Nat.le_refl _
  | cons x r ih => rw [blanks]; split <;> simp <;> omega
theorem headK_pos (l : List Tk) (k : Nat) (h : headK l = k) (hk : k ≠ 0) : l ≠ [] := fun e => by rw [e] at h; exact hk h.symm
/-- Entries in order: each behind the one ahead, its column further in; only the last one may be a key. -/
def Ord : Nat → Int → List E → Prop
  | _, _, [] => True
  | p, c, e :: r => p ≤ e.from' ∧ e.from' < e.to ∧ c < e.col ∧ (e.dash = true ∨ r = []) ∧ Ord e.to e.col r
/-- The column of a place within a row. -/
def cAt (ts : List Tk) (i : Nat) : Int := (fromAt ts i : Int) - (headF ts : Int)
theorem fromAt_get (ts : List Tk) (i : Nat) (x : Tk) (h : ts[i]? = some x) : fromAt ts i = x.2.1 := by
  have hi := (List.getElem?_eq_some_iff.1 h).1
  have e : ts[i] = x := (List.getElem?_eq_some_iff.1 h).2
  unfold fromAt
  rw [List.drop_eq_getElem_cons hi, e]
  rfl
theorem cAt_lt {p : Nat} {ts : List Tk} (h : Tile p ts) (i j : Nat) (hij : i < j) (hj : j < ts.length) : cAt ts i < cAt ts j := by
  have hx := List.getElem?_eq_getElem (show i < ts.length by omega)
  have hy := List.getElem?_eq_getElem hj
  unfold cAt
  rw [fromAt_get ts i _ hx, fromAt_get ts j _ hy]
  have h1 := h.lt i j _ _ hij hx hy
  have h2 := (h.le i _ hx).2
  omega
theorem cAt_pos {p : Nat} {ts : List Tk} (h : Tile p ts) (i : Nat) (hi : i < ts.length) : -1 < cAt ts i := by
  rcases Nat.eq_zero_or_pos i with rfl | hp
  · unfold cAt fromAt; rw [List.drop_zero]; omega
  · have := cAt_lt h 0 i hp hi
    have e : cAt ts 0 = 0 := by unfold cAt fromAt; rw [List.drop_zero]; omega
    omega
def dashE (at' : Nat) (ts : List Tk) (i : Nat) : E := ⟨true, cAt ts i, at' + i, at' + i + 1⟩
/-- Dashes in order, and what follows behind them. -/
theorem ord_dash {q : Nat} {ts : List Tk} (ht : Tile q ts) (at' : Nat) (tail : List E) : ∀ (f p : Nat) (a : Nat) (c : Int), a ≤ at' + p → (p < ts.length → c < cAt ts p) →
    (∀ (a : Nat) (c : Int), a ≤ at' + (p + dashN f (ts.drop p)) → (p + dashN f (ts.drop p) < ts.length → c < cAt ts (p + dashN f (ts.drop p))) → Ord a c tail) →
    Ord a c ((dashF f (ts.drop p)).map (fun i => dashE at' ts (p + i)) ++ tail)
  | 0, p, a, c => fun h1 h2 h3 => by
    rw [dashF, List.map_nil, List.nil_append]
    exact h3 a c (by rw [dashN]; exact h1) (by rw [dashN]; exact h2)
  | f + 1, p, a, c => fun h1 h2 h3 => by
    rw [dashF]
    rw [dashN] at h3
    by_cases hk : headK (ts.drop p) = 5
    · rw [if_pos hk] at h3 ⊢
      have hp : p < ts.length := by
        have := headK_pos _ 5 hk (by decide)
        rcases Nat.lt_or_ge p ts.length with h | h
        · exact h
        · exact absurd (List.drop_eq_nil_of_le h) this
      obtain ⟨n, hn⟩ : ∃ n, blanks ((ts.drop p).drop 1) + 1 = n := ⟨_, rfl⟩
      have hn1 : 1 ≤ n := by omega
      rw [hn] at h3 ⊢
      rw [List.map_cons, List.cons_append, Nat.add_zero, List.map_map]
      have e1 : (ts.drop p).drop n = ts.drop (p + n) := by rw [List.drop_drop]
      rw [e1] at h3 ⊢
      have e2 : ((fun i => dashE at' ts (p + i)) ∘ fun x => x + n) = fun i => dashE at' ts (p + n + i) := by
        funext i
        show dashE at' ts (p + (i + n)) = _
        rw [show p + (i + n) = p + n + i by omega]
      rw [e2]
      refine ⟨h1, by show at' + p < at' + p + 1; omega, h2 hp, .inl rfl, ord_dash ht at' tail f (p + n) _ _ (by show at' + p + 1 ≤ _; omega) (fun hlt => cAt_lt ht p (p + n) (by omega) hlt) ?_⟩
      intro a2 c2 g1 g2
      rw [show p + n + dashN f (ts.drop (p + n)) = p + (dashN f (ts.drop (p + n)) + n) by omega] at g1 g2
      exact h3 a2 c2 g1 g2
    · rw [if_neg hk] at h3 ⊢
      rw [List.map_nil, List.nil_append]
      exact h3 a c h1 h2
theorem dash_in (ts : List Tk) : ∀ (f p : Nat), ∀ i ∈ dashF f (ts.drop p), p + i < ts.length
  | 0, _ => fun i hi => by cases hi
  | f + 1, p => fun i hi => by
    rw [dashF] at hi
    by_cases hk : headK (ts.drop p) = 5
    · rw [if_pos hk] at hi
      have hp : p < ts.length := by
        have := headK_pos _ 5 hk (by decide)
        rcases Nat.lt_or_ge p ts.length with h | h
        · exact h
        · exact absurd (List.drop_eq_nil_of_le h) this
      rcases List.mem_cons.1 hi with rfl | hi
      · omega
      · obtain ⟨j, hj, rfl⟩ := List.mem_map.1 hi
        rw [List.drop_drop] at hj
        have := dash_in ts f _ j hj
        omega
    · rw [if_neg hk] at hi; cases hi
theorem key_in (l : List Tk) (n : Nat) (h : keyN l = some n) : 1 ≤ n ∧ n ≤ l.length ∧ l ≠ [] := by
  unfold keyN at h
  by_cases hk : headK (l.drop (aheadN l)) = 6
  · rw [if_pos hk] at h
    injection h with h
    have hne := headK_pos _ 6 hk (by decide)
    have hlt : aheadN l < l.length := by
      rcases Nat.lt_or_ge (aheadN l) l.length with g | g
      · exact g
      · exact absurd (List.drop_eq_nil_of_le g) hne
    refine ⟨by omega, by omega, fun e => by rw [e] at hlt; exact absurd hlt (Nat.not_lt_zero _)⟩
  · rw [if_neg hk] at h; cases h
theorem lead_le (l : List Tk) : leadN l ≤ l.length := by
  induction l with
  | nil => exact Nat.le_refl _
  | cons x r ih => rw [leadN]; split <;> simp <;> omega
/-- Where the dashes end. -/
def qOf (ts : List Tk) : Nat := leadN ts + dashN (ts.drop (leadN ts)).length (ts.drop (leadN ts))
def keyL (at' : Nat) (ts : List Tk) : List E := match keyN (ts.drop (qOf ts)) with
  | some n => [⟨false, cAt ts (qOf ts), at' + qOf ts, at' + qOf ts + n⟩]
  | none => []
theorem ents_form (at' : Nat) (ts : List Tk) : entsB at' ts = (dashF (ts.drop (leadN ts)).length (ts.drop (leadN ts))).map (fun i => dashE at' ts (leadN ts + i)) ++ keyL at' ts := by
  unfold entsB keyL
  congr 1
  · refine List.map_congr_left fun i _ => ?_
    unfold dashE cAt
    congr 1 <;> omega
  · show (match keyN (ts.drop (qOf ts)) with | some n => _ | none => _) = _
    cases keyN (ts.drop (qOf ts)) with
    | none => rfl
    | some n =>
      dsimp only
      congr 2
      · unfold qOf; omega
      · unfold qOf; omega
theorem ents_ord {q : Nat} {ts : List Tk} (ht : Tile q ts) (at' : Nat) : Ord at' (-1) (entsB at' ts) := by
  rw [ents_form]
  refine ord_dash ht at' (keyL at' ts) _ (leadN ts) at' (-1) (by omega) (fun h => cAt_pos ht _ h) ?_
  intro a c h1 h2
  change a ≤ at' + qOf ts at h1
  change qOf ts < ts.length → c < cAt ts (qOf ts) at h2
  unfold keyL
  cases hk : keyN (ts.drop (qOf ts)) with
  | none => trivial
  | some n =>
    obtain ⟨k1, k2, k3⟩ := key_in _ n hk
    have hq : qOf ts < ts.length := by
      rcases Nat.lt_or_ge (qOf ts) ts.length with g | g
      · exact g
      · exact absurd (List.drop_eq_nil_of_le g) k3
    exact ⟨h1, by show at' + qOf ts < at' + qOf ts + n; omega, h2 hq, .inr rfl, trivial⟩
theorem ents_to (at' : Nat) (ts : List Tk) : ∀ e ∈ entsB at' ts, e.to ≤ at' + ts.length := by
  rw [ents_form]
  intro e he
  rcases List.mem_append.1 he with he | he
  · obtain ⟨i, hi, rfl⟩ := List.mem_map.1 he
    have := dash_in ts _ _ i hi
    show at' + (leadN ts + i) + 1 ≤ _
    omega
  · unfold keyL at he
    cases hk : keyN (ts.drop (qOf ts)) with
    | none => rw [hk] at he; cases he
    | some n =>
      rw [hk] at he
      obtain rfl := List.mem_singleton.1 he
      obtain ⟨k1, k2, k3⟩ := key_in _ n hk
      have hq : qOf ts < ts.length := by
        rcases Nat.lt_or_ge (qOf ts) ts.length with g | g
        · exact g
        · exact absurd (List.drop_eq_nil_of_le g) k3
      rw [List.length_drop] at k2
      show at' + qOf ts + n ≤ _
      omega
theorem rest_in (at' : Nat) (ts : List Tk) : (entsB at' ts = [] → restB at' ts = at' + leadN ts) ∧ (∀ e, (entsB at' ts).getLast? = some e → restB at' ts = e.to) ∧ restB at' ts ≤ at' + ts.length := by
  have hl := lead_le ts
  refine ⟨fun h => by unfold restB; rw [h]; rfl, fun e h => by unfold restB; rw [h], ?_⟩
  unfold restB
  cases h : (entsB at' ts).getLast? with
  | none => show at' + leadN ts ≤ _; omega
  | some e => exact ents_to at' ts e (List.mem_of_getLast? h)
theorem ord_last : ∀ (l : List E) (p : Nat) (c : Int) (e : E), Ord p c l → l.getLast? = some e → p ≤ e.to
  | [], _, _, _ => fun _ h => by cases h
  | [x], p, c, e => fun h he => by
    obtain rfl : x = e := by simpa using he
    obtain ⟨h1, h2, _⟩ := h
    omega
  | x :: y :: r, p, c, e => fun h he => by
    obtain ⟨h1, h2, _, _, h5⟩ := h
    have := ord_last (y :: r) _ _ e h5 (by simpa using he)
    omega
theorem rest_ge {q : Nat} {ts : List Tk} (ht : Tile q ts) (at' : Nat) : at' ≤ restB at' ts := by
  unfold restB
  cases h : (entsB at' ts).getLast? with
  | none => show at' ≤ at' + leadN ts; omega
  | some e => exact ord_last _ _ _ e (ents_ord ht at') h
/-- The rows of known texts. -/
def kindsT : List (List Nat × List Nat) := [([97, 10], [5]), ([10, 10], [1, 1]), ([35, 32, 99, 10, 45, 32, 98], [1, 5]), ([45, 45, 45, 10, 97], [4, 5]), ([91, 10, 49, 10, 93, 10, 98], [5, 3, 3, 5]),
  ([97, 58, 32, 124, 10, 32, 32, 120, 10, 32, 32, 121, 10, 122], [5, 2, 2, 5]), ([46, 46, 46], [4]), ([32, 32, 9, 10], [1]), ([91, 10, 45, 45, 45, 10, 93], [5, 4, 5]), ([], [])]
theorem kinds_ok : ∀ x ∈ kindsT, (rowsN (Sc.tokens x.1)).map R.kind = x.2 := by decide +kernel
end Go.Proofs.Ytaokjeopmhbddaa.Rw
