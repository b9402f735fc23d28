/- What is told, a line each, plainly. -/
import Derived.Test.YtdngcihjfbmbpaaDoorPlz
import Derived.Test.YtdngcihjfbmbpaaDoorZpt
import Derived.Test.YtdngcihjfbmbpaaDoorZda
namespace Go.Proofs.YtdngcihjfbmbpaaDoor.Zm
open Go.RowKit
open Go.Proofs.YtdngcihjfbmbpaaDoor.Sg
open Go.Proofs.YtdngcihjfbmbpaaDoor.Zd
set_option linter.unusedVariables false

theorem cntF_le (s : ByteArray) : ∀ f p, cntF s f p ≤ f
  | 0, _ => Nat.le_refl _
  | f + 1, p => by
    unfold cntF
    split
    · have := cntF_le s f (p + (nx s p).2); omega
    · omega
theorem pl_bd (s : ByteArray) (x : Int) (hm : s.size ≤ 1000000) : 0 ≤ (pl s x).1 ∧ (pl s x).1 ≤ 1000001 ∧ 0 ≤ (pl s x).2 ∧ (pl s x).2 ≤ 1000001 := by
  by_cases h : 0 ≤ x ∧ x ≤ s.size
  · obtain ⟨k, rfl⟩ : ∃ k : Nat, x = k := ⟨x.toNat, by omega⟩
    rw [pl_in s k (by omega)]
    have h1 := stN_len s k
    have h2 := cntF_le (s.extract (ls s k) k) (s.extract (ls s k) k).size 0
    have h3 : (s.extract (ls s k) k).size ≤ s.size := by rw [ByteArray.size_extract]; omega
    have h4 : cnt (s.extract (ls s k) k) = cntF (s.extract (ls s k) k) (s.extract (ls s k) k).size 0 := rfl
    dsimp only
    omega
  · rw [pl_out s x h]
    exact ⟨by decide, by decide, by decide, by decide⟩
abbrev sp : ByteArray := ⟨#[32]⟩
abbrev nl : ByteArray := ⟨#[10]⟩
abbrev co : ByteArray := ⟨#[58]⟩
/-- A line of one that lies in the text; of another one nothing. -/
def lineT (s : ByteArray) (d : Dg) : ByteArray :=
  if 0 < (pl s d.f).1 ∧ 0 < (pl s d.t).1 then ((((ptxt (pl s d.f).1 (pl s d.f).2 ++ sp) ++ ptxt (pl s d.t).1 (pl s d.t).2) ++ sp) ++ word d.code) ++ nl else ⟨#[]⟩
theorem lineT_size (s : ByteArray) (d : Dg) (hm : s.size ≤ 1000000) : (lineT s d).size ≤ 100 := by
  have h1 := pl_bd s d.f hm
  have h2 := pl_bd s d.t hm
  have s1 := ptxt_size (pl s d.f).1 (pl s d.f).2 (by omega) (by omega) (by omega) (by omega)
  have s2 := ptxt_size (pl s d.t).1 (pl s d.t).2 (by omega) (by omega) (by omega) (by omega)
  have s3 := word_size d.code
  have e1 : sp.size = 1 := rfl
  have e2 : nl.size = 1 := rfl
  unfold lineT
  split
  · simp only [ByteArray.size_append]; omega
  · decide
/-- All of them. -/
def rlL (s : ByteArray) (l : List Dg) : List UInt8 := l.flatMap fun d => (lineT s d).data.toList
theorem rlL_more (s : ByteArray) (l : List Dg) (k : Nat) (x : Dg) (hx : l[k]? = some x) : rlL s (l.take (k + 1)) = rlL s (l.take k) ++ (lineT s x).data.toList := by
  obtain ⟨h1, h2⟩ := List.getElem?_eq_some_iff.1 hx
  unfold rlL
  rw [List.take_succ_eq_append_getElem h1, List.flatMap_append, h2]
  simp
theorem rlL_size (s : ByteArray) (hm : s.size ≤ 1000000) : ∀ l : List Dg, (rlL s l).length ≤ 100 * l.length
  | [] => by simp [rlL]
  | d :: r => by
    have h1 := rlL_size s hm r
    have h2 := lineT_size s d hm
    have h3 : (rlL s (d :: r)).length = (lineT s d).data.toList.length + (rlL s r).length := by simp [rlL]
    have h4 : (lineT s d).data.toList.length = (lineT s d).size := by rw [Array.length_toList]; rfl
    rw [h3, h4, List.length_cons]
    omega
/-- .. as a text. -/
def rlB (s : ByteArray) (l : List Dg) : ByteArray := ⟨(rlL s l).toArray⟩
theorem rlB_more (s : ByteArray) (l : List Dg) (k : Nat) (x : Dg) (hx : l[k]? = some x) : rlB s (l.take (k + 1)) = rlB s (l.take k) ++ lineT s x := by
  unfold rlB
  rw [rlL_more s l k x hx]
  apply ByteArray.ext
  simp
theorem rlB_size (s : ByteArray) (hm : s.size ≤ 1000000) (l : List Dg) : (rlB s l).size ≤ 100 * l.length := by
  have := rlL_size s hm l
  show (rlL s l).toArray.size ≤ _
  simpa using this
theorem lineT_yes (s : ByteArray) (d : Dg) (h1 : 0 < (pl s d.f).1) (h2 : 0 < (pl s d.t).1) : lineT s d = ((((ptxt (pl s d.f).1 (pl s d.f).2 ++ sp) ++ ptxt (pl s d.t).1 (pl s d.t).2) ++ sp) ++ word d.code) ++ nl := by
  unfold lineT; rw [if_pos ⟨h1, h2⟩]
theorem lineT_no (s : ByteArray) (d : Dg) (h : ¬ (0 < (pl s d.f).1 ∧ 0 < (pl s d.t).1)) : lineT s d = ⟨#[]⟩ := by
  unfold lineT; rw [if_neg h]
/-- The chapter's own way to put it on. -/
theorem line_puts (o A B C D W : ByteArray) : ((((((((o ++ A) ++ co) ++ B) ++ sp) ++ C) ++ co) ++ D) ++ sp) ++ W ++ nl = o ++ (((((((A ++ co) ++ B) ++ sp) ++ ((C ++ co) ++ D)) ++ sp) ++ W) ++ nl) := by
  simp only [ByteArray.append_assoc]
end Go.Proofs.YtdngcihjfbmbpaaDoor.Zm
