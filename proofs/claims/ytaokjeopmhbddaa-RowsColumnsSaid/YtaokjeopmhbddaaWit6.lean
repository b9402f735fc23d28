/- correctorlaw6's own small function within (for seats that call its texts); the bytes of a short row that was just laid. -/
import Derived.Test.YtaokjeopmhbddaaConv
import Derived.Test.YtaokjeopmhbddaaSk
import Derived.Test.YtaokjeopmhbddaaSeq
import Derived.Lib.SlBytesConst
namespace Go.Proofs.Ytaokjeopmhbddaa
open Go.RowKit
open Go.Proofs.Ytaokjeopmhbddaa.Sg
open Go.Proofs.Ytaokjeopmhbddaa.Sq
set_option linter.unusedVariables false

/-- A number brought within n. -/
def wit6 (x n : Int) : Int := if x.tmod n < 0 then x.tmod n + n else x.tmod n
theorem wit6_bd (x n : Int) (h : 0 < n) : 0 ≤ wit6 x n ∧ wit6 x n < n := by
  have h1 := Int.tmod_lt_of_pos x h
  have h2 : -n < x.tmod n := by
    have := Int.tmod_lt_of_pos (-x) h
    rw [Int.neg_tmod] at this
    omega
  unfold wit6
  split <;> omega
set_option maxHeartbeats 400000 in
theorem within6_any (x n : Int) (w : World) (h1 : 1 ≤ n) (h2 : n ≤ 1000) :
    Calls Try.prog 36 #[.int .i64 x, .int .i64 n] w fun e w' => e = .returned (.int .i64 (wit6 x n)) ∧ w = w' := by
  have hb1 := Int.tmod_lt_of_pos x (show 0 < n by omega)
  have hb2 : -n < x.tmod n := by
    have := Int.tmod_lt_of_pos (-x) (show 0 < n by omega)
    rw [Int.neg_tmod] at this
    omega
  have hz : (n == 0) = false := by simp; omega
  have hn1 : n ≠ 0 := by omega
  unfold wit6
  by_cases hc : x.tmod n < 0
  · rw [if_pos hc]
    go_enter Try.func36, Try.ntmps36
    go_wp2
    go_ret
    exact ⟨rfl, rfl⟩
  · rw [if_neg hc]
    go_enter Try.func36, Try.ntmps36
    go_wp2
    go_ret
    exact ⟨rfl, rfl⟩
/-- within, as a place. -/
theorem within6_nat (x : Int) (n : Nat) (h1 : 1 ≤ n) (h2 : n ≤ 1000) : ∃ k : Nat, k < n ∧ ∀ w : World, Calls Try.prog 36 #[.int .i64 x, .int .i64 n] w fun e w' => e = .returned (.int .i64 k) ∧ w = w' := by
  have hb := wit6_bd x n (by omega)
  refine ⟨(wit6 x n).toNat, by omega, fun w => ?_⟩
  have := within6_any x n w (by omega) (by omega)
  rw [show ((wit6 x n).toNat : Int) = wit6 x n from by omega]
  exact this
/-- The bytes of a short row that was just laid. -/
theorem bys_laid (w : World) (l : List UInt8) (C : Array Value) (n : Nat) (fr : Nat × Nat) (hn : l.length = n) (hl : n ≤ 1000) (hC : C = (l.map fun (x : UInt8) => Value.int .u8 (x.toNat : Int)).toArray) : Bys (w.alloc (.cells C 5 fr)) (.slice (some ⟨w.heap.size, 0, none⟩) n n) ⟨l.toArray⟩ := by
  subst hC
  refine .inr ⟨w.heap.size, 0, n, by rw [size_at, hn], by rw [size_at, hn]; exact Nat.le_refl _, by simp only [maxLen]; omega, fun j hj => ?_⟩
  rw [size_at] at hj
  rw [World.cell?_alloc_mark, Sg.get_at, List.getElem?_toArray, List.getElem?_map, Nat.zero_add, List.getElem?_eq_getElem hj, List.getD_eq_getElem?_getD, List.getElem?_eq_getElem hj]
  rfl
end Go.Proofs.Ytaokjeopmhbddaa
