/- Plain facts for the walk of a row: what is known on the way, and what it becomes. -/
import Derived.Test.YtaokjeopmhbddaaSn
namespace Go.Proofs.Ytaokjeopmhbddaa.Sc
open Go.Proofs.Ytaokjeopmhbddaa.Sg

theorem step_text (op : Nat) (least : Int) (l : List Nat) (h : isText least (rowL l) = true) : step (fresh op least) l = (19, rowN l + brkS (l.drop (rowN l)), fresh op least) := by
  unfold step
  rw [if_pos (show (fresh op least).col = 0 from rfl), if_pos (show isText (fresh op least).least (rowL l) = true from h)]
  rfl
theorem step_mid (s : St) (l : List Nat) (h : s.col = 0 → s.least = -1) : step s l = mid s l := by
  unfold step
  by_cases hc : s.col = 0
  · have hl := h hc
    rw [if_pos hc, if_neg (by rw [hl]; simp [isText])]
    congr 1
    cases s
    simp only at hl
    rw [hl]
  · rw [if_neg hc]
theorem step_fresh (op : Nat) (least : Int) (l : List Nat) (h : isText least (rowL l) = false) : step (fresh op least) l = step (fresh op (-1)) l := by
  rw [step_mid (fresh op (-1)) l (fun _ => rfl)]
  unfold step
  rw [if_pos (show (fresh op least).col = 0 from rfl), if_neg (by rw [show (fresh op least).least = least from rfl, h]; simp)]
  rfl
theorem toksN_fresh (op : Nat) (least : Int) (p : Nat) (l : List Nat) (h : isText least (rowL l) = false) : toksN (fresh op least) p l = toksN (fresh op (-1)) p l := by
  cases l with
  | nil => rfl
  | cons c r => rw [toksN_step (fresh op least) p (c :: r) (by simp), toksN_step (fresh op (-1)) p (c :: r) (by simp), step_fresh op least _ h]
theorem mid_in (s : St) (l : List Nat) (h : rowN l ≠ 0) : mid s l = ((next s.op s.dash s.blank (s.col == 0) (rowL l)).1, (next s.op s.dash s.blank (s.col == 0) (rowL l)).2, take s (next s.op s.dash s.blank (s.col == 0) (rowL l)).1 (next s.op s.dash s.blank (s.col == 0) (rowL l)).2) := by
  unfold mid; rw [if_neg h]
theorem mid_end (s : St) (l : List Nat) (h : rowN l = 0) : mid s l = (1, brkS l, fresh s.op s.least) := by
  unfold mid; rw [if_pos h]
theorem opens_le (op k : Nat) : opens op k ≤ op + 1 := by
  unfold opens; (repeat' split) <;> omega
/-- On the way through a row. -/
structure Good (L : List Nat) (Tot l : List (Nat × Nat × Nat)) (st : St) (at' : Nat) : Prop where
  tot : l ++ toksN st at' (L.drop at') = Tot
  zero : st.col = 0 → st.least = -1
  op : st.op ≤ at'
  base : -1 ≤ st.base ∧ st.base ≤ at'
  least : -1 ≤ st.least
  len : l.length ≤ at'
  col : st.col ≤ at'
  last : st.col ≠ 0 → ∃ l0 x, l = l0 ++ [x] ∧ st.blank = (x.1 == 2 || x.1 == 3)
/-- At the beginning of a row. -/
structure GoodR (L : List Nat) (Tot l : List (Nat × Nat × Nat)) (op : Nat) (least : Int) (p : Nat) : Prop where
  tot : l ++ toksN (fresh op least) p (L.drop p) = Tot
  op : op ≤ p
  least : -1 ≤ least
  len : l.length ≤ p
theorem GoodR.text {L : List Nat} {Tot l : List (Nat × Nat × Nat)} {op : Nat} {least : Int} {p n : Nat} (h : GoodR L Tot l op least p) (hp : p < L.length) (ht : isText least (rowL (L.drop p)) = true) (hn : rowN (L.drop p) + brkS ((L.drop p).drop (rowN (L.drop p))) = n) :
    GoodR L Tot (l ++ [(19, p, p + n)]) op least (p + n) ∧ 0 < n ∧ p + n ≤ L.length := by
  have hne : L.drop p ≠ [] := fun e => by have := congrArg List.length e; rw [List.length_drop] at this; simp at this; omega
  have hs := step_text op least (L.drop p) ht
  rw [hn] at hs
  have hp2 := step_pos (fresh op least) (L.drop p) hne
  rw [hs, List.length_drop] at hp2
  obtain ⟨q1, q2⟩ : 0 < n ∧ n ≤ L.length - p := hp2
  have h1 := h.op
  have h2 := h.len
  refine ⟨⟨?_, by omega, h.least, by simp; omega⟩, q1, by omega⟩
  rw [List.append_assoc, List.singleton_append, ← h.tot, toksN_step _ _ _ hne, hs, List.drop_drop]
theorem GoodR.row {L : List Nat} {Tot l : List (Nat × Nat × Nat)} {op : Nat} {least : Int} {p : Nat} (h : GoodR L Tot l op least p) (ht : isText least (rowL (L.drop p)) = false) : Good L Tot l (fresh op (-1)) p :=
  ⟨by rw [← h.tot, toksN_fresh op least p _ ht], fun _ => rfl, h.op, ⟨Int.le_refl _, by show (-1 : Int) ≤ (p : Int); omega⟩, Int.le_refl _, h.len, Nat.zero_le _, fun hc => absurd rfl hc⟩
theorem Good.on {L : List Nat} {Tot l : List (Nat × Nat × Nat)} {st : St} {at' k n : Nat} (h : Good L Tot l st at') (hr : rowN (L.drop at') ≠ 0) (hn : next st.op st.dash st.blank (st.col == 0) (rowL (L.drop at')) = (k, n)) :
    Good L Tot (l ++ [(k, at', at' + n)]) (take st k n) (at' + n) ∧ 0 < n ∧ n ≤ rowN (L.drop at') := by
  have hne : L.drop at' ≠ [] := fun e => by rw [e] at hr; exact hr rfl
  have hs := step_mid st (L.drop at') h.zero
  rw [mid_in st _ hr, hn] at hs
  have hle : 0 < n ∧ n ≤ rowN (L.drop at') := by
    have hl := rowL_len (L.drop at')
    cases hrl : rowL (L.drop at') with
    | nil => rw [hrl] at hl; exact absurd hl.symm hr
    | cons c r =>
      rw [hrl] at hn hl
      have := next_le st.op st.dash st.blank (st.col == 0) c r
      rw [hn, hl] at this
      exact this
  have h1 := h.op
  have h2 := h.len
  have h3 := opens_le st.op k
  have h4 := h.base
  have h5 := h.least
  have h6 := h.col
  refine ⟨⟨?_, fun hc => ?_, ?_, ?_, ?_, by simp; omega, ?_, fun _ => ⟨l, _, rfl, rfl⟩⟩, hle⟩
  · rw [List.append_assoc, List.singleton_append, ← h.tot, toksN_step _ _ _ hne, hs, List.drop_drop]
  · have : st.col + n = 0 := hc
    omega
  · show opens st.op k ≤ at' + n; omega
  · show -1 ≤ (if st.base = -1 ∧ counts k = true then (st.col : Int) else st.base) ∧ (if st.base = -1 ∧ counts k = true then (st.col : Int) else st.base) ≤ ((at' + n : Nat) : Int)
    split <;> omega
  · show -1 ≤ (if k = 18 then (if st.base = -1 then (st.col : Int) else st.base + 1) else st.least)
    (repeat' split) <;> omega
  · show st.col + n ≤ at' + n; omega
theorem Good.brk {L : List Nat} {Tot l : List (Nat × Nat × Nat)} {st : St} {at' : Nat} (h : Good L Tot l st at') (hr : rowN (L.drop at') = 0) (hb : 0 < brkS (L.drop at')) :
    GoodR L Tot (l ++ [(1, at', at' + brkS (L.drop at'))]) st.op st.least (at' + brkS (L.drop at')) ∧ at' + brkS (L.drop at') ≤ L.length := by
  have hne : L.drop at' ≠ [] := fun e => by rw [e] at hb; exact absurd hb (by decide)
  have hs := step_mid st (L.drop at') h.zero
  rw [mid_end st _ hr] at hs
  have h1 := h.op
  have h2 := h.len
  have h3 := brkS_le (L.drop at')
  rw [List.length_drop] at h3
  refine ⟨⟨?_, by omega, h.least, by simp; omega⟩, by omega⟩
  rw [List.append_assoc, List.singleton_append, ← h.tot, toksN_step _ _ _ hne, hs, List.drop_drop]
theorem Good.stop {L : List Nat} {Tot l : List (Nat × Nat × Nat)} {st : St} {at' : Nat} (h : Good L Tot l st at') (hr : rowN (L.drop at') = 0) (hb : ¬ 0 < brkS (L.drop at')) : L.drop at' = [] ∧ GoodR L Tot l st.op st.least at' := by
  have hne : L.drop at' = [] := by
    cases hl : L.drop at' with
    | nil => rfl
    | cons c r => rw [hl] at hr hb; exact absurd (brkS_pos (c :: r) (by simp) hr) hb
  refine ⟨hne, ⟨?_, h.op, h.least, h.len⟩⟩
  have := h.tot
  rw [hne] at this ⊢
  exact this
end Go.Proofs.Ytaokjeopmhbddaa.Sc
