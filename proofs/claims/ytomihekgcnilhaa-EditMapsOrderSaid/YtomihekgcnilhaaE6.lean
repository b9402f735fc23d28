/- Chapter 4's reference: Choose, plainly, over edits as they lie in memory. -/
import Derived.Test.YtomihekgcnilhaaE1
namespace Go.Proofs.Ytomihekgcnilhaa
open Go.RowKit

/-- May it be kept beside the first k of those that are? -/
def freeN (n : Int) (out : List Et) (e : Et) (k : Nat) : Bool := decide (Ed.one n e.ed = 0) && (out.take k).all fun x => !Ed.upon e.ed x.ed
/-- One put in where it belongs. -/
def insT (e : Et) : List Et → List Et
  | [] => [e]
  | x :: r => if Ed.ahead x.ed e.ed = true then x :: insT e r else e :: x :: r
def stepT (n : Int) (out : List Et) (e : Et) : List Et := if out.length < 200 ∧ freeN n out e out.length = true then insT e out else out
def chooseT (n : Int) (l : List Et) : List Et := l.foldl (stepT n) []
theorem insT_ed (e : Et) (l : List Et) : (insT e l).map Et.ed = Ed.ins e.ed (l.map Et.ed) := by
  induction l with
  | nil => rfl
  | cons x r ih =>
    rw [insT, List.map_cons, Ed.ins]
    by_cases h : Ed.ahead x.ed e.ed = true
    · rw [if_pos h, if_pos h, List.map_cons, ih]
    · rw [if_neg h, if_neg h]; rfl
theorem free_ed (n : Int) (out : List Et) (e : Et) : freeN n out e out.length = true ↔ (Ed.one n e.ed = 0 ∧ ∀ k ∈ out.map Et.ed, Ed.upon e.ed k = false) := by
  unfold freeN
  rw [List.take_length]
  simp [List.all_eq_true]
theorem stepT_ed (n : Int) (out : List Et) (e : Et) : (stepT n out e).map Et.ed = Ed.step n (out.map Et.ed) e.ed := by
  unfold stepT Ed.step
  rw [List.length_map]
  by_cases h : out.length < 200 ∧ freeN n out e out.length = true
  · rw [if_pos h, if_pos ⟨h.1, (free_ed n out e).1 h.2⟩, insT_ed]
  · rw [if_neg h, if_neg (fun k => h ⟨k.1, (free_ed n out e).2 k.2⟩)]
theorem foldT_ed (n : Int) (l : List Et) : ∀ out, (l.foldl (stepT n) out).map Et.ed = (l.map Et.ed).foldl (Ed.step n) (out.map Et.ed) := by
  induction l with
  | nil => intro out; rfl
  | cons e r ih => intro out; rw [List.foldl_cons, ih, stepT_ed]; rfl
theorem chooseT_ed (n : Int) (l : List Et) : (chooseT n l).map Et.ed = Ed.choose n (l.map Et.ed) := foldT_ed n l []
theorem insT_len (e : Et) (l : List Et) : (insT e l).length = l.length + 1 := by
  rw [← List.length_map (f := Et.ed), insT_ed, Ed.ins_len, List.length_map]
/-- Where it goes. -/
theorem insT_at (e : Et) (l : List Et) : ∀ k : Nat, k ≤ l.length → (∀ x ∈ l.take k, Ed.ahead x.ed e.ed = true) → (∀ x, l[k]? = some x → Ed.ahead x.ed e.ed = false) → insT e l = l.take k ++ e :: l.drop k := by
  induction l with
  | nil => intro k _ _ _; simp [insT]
  | cons x r ih =>
    intro k hk h1 h2
    cases k with
    | zero =>
      have := h2 x rfl
      rw [insT, if_neg (by simp [this])]; rfl
    | succ k =>
      have := h1 x (by simp)
      rw [insT, if_pos this, ih k (by simpa using hk) (fun y hy => h1 y (by simp [hy])) (fun y hy => h2 y (by simpa using hy))]; rfl
theorem take_snoc {l : List Et} {k : Nat} {x : Et} (h : l[k]? = some x) : l.take (k + 1) = l.take k ++ [x] := by
  rw [List.take_add_one, h]; rfl
theorem free_zero (n : Int) (out : List Et) (e : Et) : freeN n out e 0 = decide (Ed.one n e.ed = 0) := by simp [freeN]
theorem free_next {n : Int} {out : List Et} {e x : Et} {k : Nat} (h : out[k]? = some x) : freeN n out e (k + 1) = (freeN n out e k && !Ed.upon e.ed x.ed) := by
  unfold freeN
  rw [take_snoc h, List.all_append, ← Bool.and_assoc]
  simp
theorem fold_full {n : Int} (l : List Et) : ∀ out : List Et, 200 ≤ out.length → l.foldl (stepT n) out = out := by
  induction l with
  | nil => intro out _; rfl
  | cons e r ih =>
    intro out h
    have : stepT n out e = out := by unfold stepT; rw [if_neg (by omega)]
    rw [List.foldl_cons, this, ih out h]
theorem chooseT_len (n : Int) (l : List Et) : (chooseT n l).length ≤ 200 := by
  have h := (Ed.choose_good n (l.map Et.ed)).2.2
  rw [← chooseT_ed, List.length_map] at h
  exact h
theorem stepT_len {n : Int} {out : List Et} {e : Et} (h : out.length ≤ 200) : (stepT n out e).length ≤ 200 := by
  unfold stepT
  split
  · rename_i k; rw [insT_len]; omega
  · exact h
end Go.Proofs.Ytomihekgcnilhaa
