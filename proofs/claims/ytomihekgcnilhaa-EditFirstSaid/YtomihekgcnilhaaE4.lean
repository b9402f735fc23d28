/- Chapter 4's reference: Apply. -/
import Derived.Test.YtomihekgcnilhaaE3
import Derived.Test.YtomihekgcnilhaaStp
namespace Go.Proofs.Ytomihekgcnilhaa
open Go.RowKit
open Go.Proofs.Ytomihekgcnilhaa.Sq

theorem tol_app (a b : ByteArray) : (a ++ b).data.toList = a.data.toList ++ b.data.toList := by simp
theorem tol_ext (s : ByteArray) (a i : Nat) : (s.extract a i).data.toList = (s.data.toList.drop a).take (i - a) := by
  simp [ByteArray.data_extract, List.extract_eq_take_drop]
theorem on_next {n : Int} {q : Option Int} {e : Ed.E} {r : List Ed.E} (h : Ed.checkFrom n q (e :: r) = 0) : Ed.one n e = 0 ∧ Ed.low q e.f = false ∧ Ed.checkFrom n (some e.t) r = 0 := by
  by_cases h1 : Ed.one n e = 0
  · cases h2 : Ed.low q e.f with
    | true => rw [from_low h1 h2] at h; omega
    | false => rw [from_on h1 h2] at h; exact ⟨h1, rfl, h⟩
  · rw [from_bad h1] at h; exact absurd h h1
/-- What is left to be done from a place on; where one stands. -/
def Left (n : Nat) (A : Nat) (l : List Ed.E) : Prop := ∃ q, Ed.checkFrom n q l = 0 ∧ ((q = none ∧ A = 0) ∨ q = some (A : Int))
theorem left_start {n : Nat} {l : List Ed.E} (h : Ed.check n l = 0) : Left n 0 l := by
  refine ⟨none, ?_, .inl ⟨rfl, rfl⟩⟩
  unfold Ed.check at h
  split at h
  · omega
  · exact h
theorem left_next {n A : Nat} {e : Ed.E} {r : List Ed.E} (h : Left n A (e :: r)) : ∃ F T : Nat, e.f = F ∧ e.t = T ∧ A ≤ F ∧ F ≤ T ∧ T ≤ n ∧ e.p.length ≤ 1000 ∧ Left n T r := by
  obtain ⟨q, h1, h2⟩ := h
  obtain ⟨g1, g2, g3⟩ := on_next h1
  obtain ⟨o1, o2, o3, o4⟩ := Ed.one_ok g1
  refine ⟨e.f.toNat, e.t.toNat, by omega, by omega, ?_, by omega, by omega, o4, some e.t, g3, .inr (by congr 1; omega)⟩
  rcases h2 with ⟨rfl, rfl⟩ | rfl
  · omega
  · simp only [Ed.low, decide_eq_false_iff_not] at g2
    omega
theorem apply_next {b : List UInt8} {A F T : Nat} {e : Ed.E} {r : List Ed.E} (hf : e.f = F) (ht : e.t = T) : Ed.applyFrom b A (e :: r) = (b.drop A).take (F - A) ++ e.p ++ Ed.applyFrom b T r := by
  rw [Ed.applyFrom, hf, ht]; rfl
theorem step_out {s out p : ByteArray} {A F T : Nat} {e : Ed.E} {r : List Ed.E} {R : List UInt8} (hf : e.f = F) (ht : e.t = T) (hp : e.p = p.data.toList) (h : out.data.toList ++ Ed.applyFrom s.data.toList A (e :: r) = R) :
    (out ++ s.extract A F ++ p).data.toList ++ Ed.applyFrom s.data.toList T r = R := by
  rw [← h, apply_next hf ht, tol_app, tol_app, tol_ext, hp]
  simp [List.append_assoc]
theorem end_out {s out : ByteArray} {A : Nat} {R : List UInt8} (h : out.data.toList ++ Ed.applyFrom s.data.toList A [] = R) : (out ++ s.extract A s.size).data.toList = R := by
  rw [← h, tol_app, tol_ext, Ed.applyFrom]
  congr 1
  exact List.take_of_length_le (by rw [List.length_drop, ← Lib.size_eq]; exact Nat.le_refl _)
/-- What Apply yields. -/
def Yields (w w' : World) (s : ByteArray) (l : List Ed.E) (r : Ending) : Prop :=
  (Ed.check s.size l ≠ 0 ∧ r = .returned (.tuple #[.slice none 0 0, .int .i64 (Ed.check s.size l)])) ∨
  (Ed.check s.size l = 0 ∧ 16384 < (Ed.apply s.data.toList l).length ∧ r = .returned (.tuple #[.slice none 0 0, .int .i64 4])) ∨
  (Ed.check s.size l = 0 ∧ (Ed.apply s.data.toList l).length ≤ 16384 ∧ ∃ v t, r = .returned (.tuple #[v, .int .i64 0]) ∧ t.data.toList = Ed.apply s.data.toList l ∧ w'.ownsRow w.heap.size 5 1 v t.size (cellsOf t))
end Go.Proofs.Ytomihekgcnilhaa
