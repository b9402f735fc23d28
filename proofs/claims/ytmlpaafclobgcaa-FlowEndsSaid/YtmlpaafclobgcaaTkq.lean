/- Tokens of the chapter's scanner: none is without a kind; no THead where no '|' and no '>' stands (plain). -/
import Derived.Test.YtmlpaafclobgcaaMgB
import Derived.Test.YtmlpaafclobgcaaMgI
namespace Go.Proofs.Ytmlpaafclobgcaa
open Go.RowKit
set_option linter.unusedVariables false

theorem next_kind (op : Nat) (dash blank first : Bool) (r : List Nat) : (Sc.next op dash blank first r).1 ≠ 0 := by
  unfold Sc.next
  split
  · rename_i h; show Sc.mark r ≠ 0; omega
  split
  · simp
  split
  · simp
  split
  · simp
  unfold Sc.word
  split
  · rename_i h; show Sc.sign op dash r ≠ 0; omega
  split
  · rename_i h; omega
  split
  · rename_i h; omega
  split
  · simp
  split <;> simp
theorem sign_18 (op : Nat) (dash : Bool) (r : List Nat) : Sc.sign op dash r ≠ 18 := by
  unfold Sc.sign
  split
  · simp
  · repeat' split
    all_goals decide
theorem step_kind (s : Sc.St) (l : List Nat) : (Sc.step s l).1 ≠ 0 := by
  unfold Sc.step Sc.mid
  repeat' split
  all_goals first | exact next_kind _ _ _ _ _ | simp
theorem toks_kind : ∀ (f : Nat) (s : Sc.St) (p : Nat) (l : List Nat), ∀ x ∈ Sc.toks f s p l, x.1 ≠ 0
  | 0, _, _, _ => fun x h => by cases h
  | f + 1, s, p, l => fun x h => by
    rw [Sc.toks] at h
    by_cases hl : l = []
    · rw [if_pos hl] at h; cases h
    · rw [if_neg hl] at h
      rcases List.mem_cons.1 h with rfl | h
      · exact step_kind s l
      · exact toks_kind f _ _ _ x h
def Tame (l : List Nat) : Prop := ∀ x ∈ l, x ≠ 124 ∧ x ≠ 62
theorem rowL_sub : ∀ l, ∀ x ∈ Sc.rowL l, x ∈ l := by
  intro l x h
  unfold Sc.rowL at h
  exact List.mem_of_mem_take h
theorem headN_tame (r : List Nat) (h : Tame r) : Sc.headN r = 0 := by
  cases r with
  | nil => rfl
  | cons c r =>
    have := h c List.mem_cons_self
    unfold Sc.headN
    simp [this.1, this.2]
theorem next_18 (op : Nat) (dash blank first : Bool) (r : List Nat) (h : Tame r) : (Sc.next op dash blank first r).1 ≠ 18 := by
  unfold Sc.next
  split
  · show Sc.mark r ≠ 18
    unfold Sc.mark
    repeat' split
    all_goals decide
  split
  · simp
  split
  · simp
  split
  · simp
  unfold Sc.word
  split
  · exact sign_18 op dash r
  split
  · unfold Sc.named
    repeat' split
    all_goals first | decide | simp
  split
  · unfold Sc.quoted
    repeat' split
    all_goals first | decide | simp
  rw [headN_tame r h]
  split
  · rename_i h; omega
  split <;> simp
theorem step_18 (s : Sc.St) (l : List Nat) (h : Tame l) : (Sc.step s l).1 ≠ 18 := by
  have hr : Tame (Sc.rowL l) := fun x hx => h x (rowL_sub l x hx)
  unfold Sc.step Sc.mid
  repeat' split
  all_goals first | exact next_18 _ _ _ _ _ hr | simp
theorem toks_18 : ∀ (f : Nat) (s : Sc.St) (p : Nat) (l : List Nat), Tame l → ∀ x ∈ Sc.toks f s p l, x.1 ≠ 18
  | 0, _, _, _ => fun _ x h => by cases h
  | f + 1, s, p, l => fun ht x h => by
    rw [Sc.toks] at h
    by_cases hl : l = []
    · rw [if_pos hl] at h; cases h
    · rw [if_neg hl] at h
      rcases List.mem_cons.1 h with rfl | h
      · exact step_18 s l ht
      · exact toks_18 f _ _ _ (fun x hx => ht x (List.mem_of_mem_drop hx)) x h
theorem raw_mem {l : List Tk} {i : Nat} (h : i < l.length) : ∃ x ∈ l, Fl.raw l i = x.1 := by
  refine ⟨l[i], List.getElem_mem h, ?_⟩
  unfold Fl.raw
  rw [List.getElem?_eq_getElem h]
/-- The tokens of a tame text. -/
theorem toks_ok (L : List Nat) (h : Tame L) : TokOk (Sc.tokens L) := by
  have hk : ∀ x ∈ Sc.tokens L, x.1 ≠ 0 ∧ x.1 ≠ 18 := fun x hx => by
    unfold Sc.tokens at hx
    split at hx
    · cases hx
    · exact ⟨toks_kind _ _ _ _ x hx, toks_18 _ _ _ _ h x hx⟩
  refine ⟨fun i hi => ?_, fun i j hr hij _ => ?_⟩
  · obtain ⟨x, hx, e⟩ := raw_mem hi
    rw [e]; exact (hk x hx).1
  · exfalso
    by_cases hi : i < (Sc.tokens L).length
    · obtain ⟨x, hx, e⟩ := raw_mem hi
      rw [e] at hr; exact (hk x hx).2 hr
    · unfold Fl.raw at hr
      rw [List.getElem?_eq_none (by omega)] at hr
      revert hr; decide
end Go.Proofs.Ytmlpaafclobgcaa
