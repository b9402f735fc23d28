/- The heap of spans in memory: Swap. -/
import Derived.Test.YtfikgocaidaheaaLe
import Derived.Laws.Rows
namespace Go.Proofs.Ytfikgocaidaheaa
open Go.RowKit
open Go.Proofs.Ytfikgocaidaheaa.Hp

/-- Two spans of a row exchanged in memory. -/
def put2 (w : World) (g k : Nat) (p : Int × Int) : World := (w.setCell ⟨g, k * 2, none⟩ (.int .i64 p.1)).setCell ⟨g, k * 2 + 1, none⟩ (.int .i64 p.2)
set_option maxHeartbeats 4000000 in
set_option maxRecDepth 100000 in
theorem swapW (w : World) (pb g n cap i j : Nat) (a0 a1 b0 b1 : Int) (c0 : w.cell? ⟨pb, 0, none⟩ = some (.slice (some ⟨g, 0, none⟩) n cap))
    (ci0 : w.cell? ⟨g, i * 2, none⟩ = some (.int .i64 a0)) (ci1 : w.cell? ⟨g, i * 2 + 1, none⟩ = some (.int .i64 a1)) (cj0 : w.cell? ⟨g, j * 2, none⟩ = some (.int .i64 b0)) (cj1 : w.cell? ⟨g, j * 2 + 1, none⟩ = some (.int .i64 b1))
    (fi0 : w.frozen? ⟨g, i * 2, none⟩ = false) (fi1 : w.frozen? ⟨g, i * 2 + 1, none⟩ = false) (fj0 : w.frozen? ⟨g, j * 2, none⟩ = false) (fj1 : w.frozen? ⟨g, j * 2 + 1, none⟩ = false)
    (hi : i < n) (hj : j < n) (hij : i ≠ j) :
    Calls Try.prog 46 #[.pointer (some ⟨pb, 0, none⟩), .int .i64 i, .int .i64 j] w fun e w' => e = .returned (.tuple #[]) ∧ w' = (put2 (put2 w g i (b0, b1)) g j (a0, a1)).drew := by
  have hi' : (i : Int) < (n : Int) := by omega
  have hj' : (j : Int) < (n : Int) := by omega
  have hi0 : (0 : Int) ≤ (i : Int) := by omega
  have hj0 : (0 : Int) ≤ (j : Int) := by omega
  go_enter Try.func46, Try.ntmps46
  go_wp2_with fail
  go_region
  go_end0
  exact ⟨rfl, rfl⟩
set_option maxHeartbeats 4000000 in
set_option maxRecDepth 100000 in
theorem swapS (w : World) (pb g n cap i : Nat) (a0 a1 : Int) (c0 : w.cell? ⟨pb, 0, none⟩ = some (.slice (some ⟨g, 0, none⟩) n cap))
    (ci0 : w.cell? ⟨g, i * 2, none⟩ = some (.int .i64 a0)) (ci1 : w.cell? ⟨g, i * 2 + 1, none⟩ = some (.int .i64 a1))
    (fi0 : w.frozen? ⟨g, i * 2, none⟩ = false) (fi1 : w.frozen? ⟨g, i * 2 + 1, none⟩ = false)
    (hi : i < n) :
    Calls Try.prog 46 #[.pointer (some ⟨pb, 0, none⟩), .int .i64 i, .int .i64 i] w fun e w' => e = .returned (.tuple #[]) ∧ w' = (put2 (put2 w g i (a0, a1)) g i (a0, a1)).drew := by
  have hi' : (i : Int) < (n : Int) := by omega
  have hi0 : (0 : Int) ≤ (i : Int) := by omega
  go_enter Try.func46, Try.ntmps46
  go_wp2_with fail
  go_region
  go_end0
  exact ⟨rfl, rfl⟩
theorem cellsS_set (l : List (Int × Int)) (k : Nat) (p : Int × Int) : cellsS (l.set k p) = ((cellsS l).set (k * 2) (.int .i64 p.1)).set (k * 2 + 1) (.int .i64 p.2) := by
  induction l generalizing k with
  | nil => rfl
  | cons a r ih =>
    cases k with
    | zero => rfl
    | succ k =>
      rw [show (k + 1) * 2 = k * 2 + 1 + 1 from by omega]
      simp [cellsS, ih]
theorem put2_row {w : World} {g k cap : Nat} {cur : Array Value} {l : List (Int × Int)} (p : Int × Int) (hc : w.heap[g]? = some (.cells cur 23 (0, 0))) (h6 : cur.size = cap * 2) (h7 : cur.toList.take (l.length * 2) = cellsS l) :
    ∃ cur', (put2 w g k p).heap[g]? = some (.cells cur' 23 (0, 0)) ∧ cur'.size = cap * 2 ∧ cur'.toList.take ((l.set k p).length * 2) = cellsS (l.set k p) := by
  refine ⟨(cur.setIfInBounds (k * 2) (.int .i64 p.1)).setIfInBounds (k * 2 + 1) (.int .i64 p.2), ?_, by simpa using h6, ?_⟩
  · unfold put2
    exact heap_setCell_same _ _ _ _ _ _ (heap_setCell_same _ _ _ _ _ _ hc)
  · rw [cellsS_set, ← h7, List.length_set, Array.toList_setIfInBounds, Array.toList_setIfInBounds, List.take_set, List.take_set]
theorem put2_other (w : World) (g k : Nat) (p : Int × Int) (b : Nat) (h : b ≠ g) : (put2 w g k p).heap[b]? = w.heap[b]? := by
  unfold put2
  rw [heap_setCell_other _ _ _ _ h, heap_setCell_other _ _ _ _ h]
theorem put2_size (w : World) (g k : Nat) (p : Int × Int) : (put2 w g k p).heap.size = w.heap.size := by simp [put2]
theorem row_free {w : World} {g o : Nat} {cur : Array Value} (hc : w.heap[g]? = some (.cells cur 23 (0, 0))) : w.frozen? ⟨g, o, none⟩ = false := free_of_block hc
/-- Swap: two exchanged. -/
theorem swapH (w : World) (pb : Nat) (rb : Option Nat) (l : List (Int × Int)) (i j : Nat) (h : HeapAt w pb rb l) (hi : i < l.length) (hj : j < l.length) :
    Calls Try.prog 46 #[.pointer (some ⟨pb, 0, none⟩), .int .i64 i, .int .i64 j] w fun e w' => e = .returned (.tuple #[]) ∧ HeapAt w' pb rb (sw l i j) ∧ Keep pb rb w w' := by
  rcases h.open_ with ⟨_, rfl, -⟩ | ⟨g, cap, cur, rfl, hpg, h1, hc, hlc, hm, h6, h7⟩
  · exact absurd hi (by simp)
  · have c0 : w.cell? ⟨pb, 0, none⟩ = some (.slice (some ⟨g, 0, none⟩) l.length cap) := cell_of_block (o := 0) h1 rfl
    obtain ⟨ci0, ci1⟩ := row_cells hc h7 rfl i hi
    obtain ⟨cj0, cj1⟩ := row_cells hc h7 rfl j hj
    have key : ∀ w', w' = (put2 (put2 w g i (at_ l j)) g j (at_ l i)).drew → HeapAt w' pb (some g) (sw l i j) ∧ Keep pb (some g) w w' := by
      rintro w' rfl
      obtain ⟨c2, e1, e2, e3⟩ := put2_row (k := i) (at_ l j) hc h6 h7
      obtain ⟨c3, e4, e5, e6⟩ := put2_row (k := j) (at_ l i) e1 e2 e3
      refine ⟨⟨.slice (some ⟨g, 0, none⟩) l.length cap, ?_, ⟨by rw [cellsS_len], .inr ⟨g, cap, c3, ?_, hpg, e4, ?_, hm, e5, e6⟩⟩, rfl⟩, rfl, rfl, rfl, ?_, ?_⟩
      · show (put2 (put2 w g i (at_ l j)) g j (at_ l i)).heap[pb]? = _
        rw [put2_other _ _ _ _ _ (by omega), put2_other _ _ _ _ _ (by omega)]
        exact h1
      · rw [sw_len]
      · rw [sw_len]; exact hlc
      · show w.heap.size ≤ (put2 (put2 w g i (at_ l j)) g j (at_ l i)).heap.size
        rw [put2_size, put2_size]; exact Nat.le_refl _
      · intro k hk h1 h2
        show (put2 (put2 w g i (at_ l j)) g j (at_ l i)).heap[k]? = _
        rw [put2_other _ _ _ _ _ (fun e => h2 (by rw [e])), put2_other _ _ _ _ _ (fun e => h2 (by rw [e]))]
    by_cases hij : i = j
    · subst hij
      refine (swapS w pb g l.length cap i _ _ c0 ci0 ci1 (row_free hc) (row_free hc) hi).mono ?_
      rintro e w' ⟨rfl, hw⟩
      exact ⟨rfl, key w' hw⟩
    · refine (swapW w pb g l.length cap i j _ _ _ _ c0 ci0 ci1 cj0 cj1 (row_free hc) (row_free hc) (row_free hc) (row_free hc) hi hj hij).mono ?_
      rintro e w' ⟨rfl, hw⟩
      exact ⟨rfl, key w' hw⟩
end Go.Proofs.Ytfikgocaidaheaa
