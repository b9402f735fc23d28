/- Entries, place by place (plain); package rows: lies. -/
import Derived.Test.YtaokjeopmhbddaaEn3
import Derived.Test.YtaokjeopmhbddaaEn2
namespace Go.Proofs.Ytaokjeopmhbddaa.Rw
theorem blanks_past : ∀ (l : List Tk), blanks (l.drop (blanks l)) = 0 := by
  intro l
  induction l with
  | nil => rfl
  | cons x r ih =>
    rw [blanks]
    by_cases h : x.1 = 3
    · rw [if_pos h, List.drop_succ_cons]; exact ih
    · rw [if_neg h, List.drop_zero, blanks, if_neg h]
theorem past_blank (ts : List Tk) (p : Nat) : blanks (ts.drop (p + blanks (ts.drop p))) = 0 := by
  have := blanks_past (ts.drop p)
  rw [List.drop_drop] at this
  exact this
theorem lead_blank (ts : List Tk) : blanks (ts.drop (leadN ts)) = 0 := by
  induction ts with
  | nil => rfl
  | cons x r ih =>
    rw [leadN]
    by_cases h : Sc.counts x.1 = true
    · rw [if_pos h, List.drop_zero, blanks, if_neg]
      intro e; rw [e] at h; cases h
    · rw [if_neg h, List.drop_succ_cons]; exact ih
/-- The dashes from a place on, as entries; where they end. -/
def dashesE (F : Nat) (ts : List Tk) (p : Nat) : List E := (dashF (ts.drop p).length (ts.drop p)).map (fun i => dashE F ts (p + i))
def dashesN (ts : List Tk) (p : Nat) : Nat := p + dashN (ts.drop p).length (ts.drop p)
theorem dashes_step (F : Nat) (ts : List Tk) (p : Nat) (h : headK (ts.drop p) = 5) : dashesE F ts p = dashE F ts p :: dashesE F ts (p + 1 + blanks (ts.drop (p + 1))) ∧ dashesN ts p = dashesN ts (p + 1 + blanks (ts.drop (p + 1))) := by
  have hd := dash_step (ts.drop p) h
  rw [List.drop_drop, List.drop_drop] at hd
  obtain ⟨n, hn⟩ : ∃ n, blanks (ts.drop (p + 1)) = n := ⟨_, rfl⟩
  rw [hn] at hd ⊢
  have e1 : p + (n + 1) = p + 1 + n := by omega
  rw [e1] at hd
  constructor
  · unfold dashesE
    rw [hd.1, List.map_cons, List.map_map, Nat.add_zero]
    congr 1
    apply List.map_congr_left
    intro i _
    show dashE F ts (p + (i + (n + 1))) = dashE F ts (p + 1 + n + i)
    congr 1; omega
  · unfold dashesN
    rw [hd.2]; omega
theorem dashes_stop (F : Nat) (ts : List Tk) (p : Nat) (h : headK (ts.drop p) ≠ 5) : dashesE F ts p = [] ∧ dashesN ts p = p := by
  have hd := dash_stop (ts.drop p) h
  unfold dashesE dashesN
  rw [hd.1, hd.2]
  exact ⟨rfl, rfl⟩
theorem dashes_end (F : Nat) (ts : List Tk) (p : Nat) (h : ts.length ≤ p) : dashesE F ts p = [] ∧ dashesN ts p = p := by
  refine dashes_stop F ts p ?_
  rw [List.drop_eq_nil_of_le h]
  decide
theorem colA_in (ts : List Tk) (p : Nat) (h : p < ts.length) : colA ts p = cAt ts p := by
  unfold colA cAt; rw [if_neg (by omega)]
/-- Where the rest begins behind entries. -/
def restOf (A : Nat) (es : List E) : Nat := match es.getLast? with
  | some e => e.to
  | none => A
theorem restOf_snoc (A : Nat) (es : List E) (x : E) : restOf A (es ++ [x]) = x.to := by
  unfold restOf; rw [List.getLast?_concat]
/-- The key, as an entry. -/
def keyE (F : Nat) (ts : List Tk) (k : Nat) : List E := match keyN (ts.drop k) with
  | some n => [⟨false, cAt ts k, F + k, F + k + n⟩]
  | none => []
theorem ents_all (F : Nat) (ts : List Tk) : entsB F ts = dashesE F ts (leadN ts) ++ keyE F ts (dashesN ts (leadN ts)) := by rw [ents_form]; rfl
theorem rest_all (F : Nat) (ts : List Tk) : restB F ts = restOf (F + leadN ts) (entsB F ts) := rfl
theorem key_none (F : Nat) (ts : List Tk) (k : Nat) (h : keyV ts k = -1) : keyE F ts k = [] := by
  unfold keyV at h
  unfold keyE
  cases hk : keyN (ts.drop k) with
  | none => rfl
  | some n => rw [hk] at h; dsimp only at h; omega
theorem key_some (F : Nat) (ts : List Tk) (k : Nat) (h : keyV ts k ≠ -1) : ∃ q : Nat, keyV ts k = (q : Int) ∧ k < q ∧ q ≤ ts.length ∧ k < ts.length ∧ keyE F ts k = [⟨false, cAt ts k, F + k, F + q⟩] := by
  unfold keyV at h
  unfold keyV keyE
  cases hk : keyN (ts.drop k) with
  | none => rw [hk] at h; exact absurd rfl h
  | some n =>
    have hi := key_in (ts.drop k) n hk
    rw [List.length_drop] at hi
    have hlt : k < ts.length := by
      rcases Nat.lt_or_ge k ts.length with h | h
      · exact h
      · exact absurd (List.drop_eq_nil_of_le h) hi.2.2
    refine ⟨k + n, rfl, by omega, by omega, hlt, ?_⟩
    dsimp only
    rw [Nat.add_assoc]
end Go.Proofs.Ytaokjeopmhbddaa.Rw
namespace Go.Proofs.Ytaokjeopmhbddaa
open Go.RowKit
open Go.Proofs.Ytaokjeopmhbddaa.Sg
open Go.Proofs.Ytaokjeopmhbddaa.Sq
set_option linter.unusedVariables false

set_option maxHeartbeats 1000000 in
theorem pLies (x : Rw.R) (n : Nat) (w : World) (h1 : x.from' ≤ x.to) (h2 : x.to ≤ n) :
    Calls Try.prog 30 #[rAgg x, .int .i64 n] w fun e w' => e = .returned (.bool true) ∧ Below w.heap.size w w' := by
  obtain ⟨k, f, t, c⟩ := x
  dsimp only at h1 h2 ⊢
  have g1 : (0 : Int) ≤ (f : Int) := by omega
  have g2 : (f : Int) ≤ (t : Int) := by omega
  have g3 : (t : Int) ≤ (n : Int) := by omega
  go_enter Try.func30, Try.ntmps30
  go_wp2
  go_ret
  exact ⟨rfl, below_alloc _ _⟩
end Go.Proofs.Ytaokjeopmhbddaa
