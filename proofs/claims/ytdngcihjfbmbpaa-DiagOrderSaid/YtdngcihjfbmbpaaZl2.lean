/- The heap of diagnostics in memory: Swap. -/
import Derived.Test.YtdngcihjfbmbpaaZl1
import Derived.Laws.Rows
namespace Go.Proofs.Ytdngcihjfbmbpaa.Zm
open Go.RowKit
open Go.Proofs.Ytdngcihjfbmbpaa.Sq
open Go.Proofs.Ytdngcihjfbmbpaa.Zd

/-- Two of a row exchanged in memory. -/
def put3 (w : World) (g k : Nat) (p : Dg) : World := ((w.setCell ⟨g, k * 3, none⟩ (.int .i64 p.code)).setCell ⟨g, k * 3 + 1, none⟩ (.int .i64 p.f)).setCell ⟨g, k * 3 + 2, none⟩ (.int .i64 p.t)
set_option maxHeartbeats 8000000 in
set_option maxRecDepth 100000 in
theorem swapW (w : World) (pb g n cap i j : Nat) (a0 a1 a2 b0 b1 b2 : Int) (c0 : w.cell? ⟨pb, 0, none⟩ = some (.slice (some ⟨g, 0, none⟩) n cap))
    (ci0 : w.cell? ⟨g, i * 3, none⟩ = some (.int .i64 a0)) (ci1 : w.cell? ⟨g, i * 3 + 1, none⟩ = some (.int .i64 a1)) (ci2 : w.cell? ⟨g, i * 3 + 2, none⟩ = some (.int .i64 a2)) (cj0 : w.cell? ⟨g, j * 3, none⟩ = some (.int .i64 b0)) (cj1 : w.cell? ⟨g, j * 3 + 1, none⟩ = some (.int .i64 b1)) (cj2 : w.cell? ⟨g, j * 3 + 2, none⟩ = some (.int .i64 b2))
    (fi0 : w.frozen? ⟨g, i * 3, none⟩ = false) (fi1 : w.frozen? ⟨g, i * 3 + 1, none⟩ = false) (fi2 : w.frozen? ⟨g, i * 3 + 2, none⟩ = false) (fj0 : w.frozen? ⟨g, j * 3, none⟩ = false) (fj1 : w.frozen? ⟨g, j * 3 + 1, none⟩ = false) (fj2 : w.frozen? ⟨g, j * 3 + 2, none⟩ = false)
    (hi : i < n) (hj : j < n) (hij : i ≠ j) :
    Calls Try.prog 39 #[.pointer (some ⟨pb, 0, none⟩), .int .i64 i, .int .i64 j] w fun e w' => e = .returned (.tuple #[]) ∧ w' = (put3 (put3 w g i ⟨b0, b1, b2⟩) g j ⟨a0, a1, a2⟩).drew := by
  have hi' : (i : Int) < (n : Int) := by omega
  have hj' : (j : Int) < (n : Int) := by omega
  have hi0 : (0 : Int) ≤ (i : Int) := by omega
  have hj0 : (0 : Int) ≤ (j : Int) := by omega
  go_enter Try.func39, Try.ntmps39
  go_wp2_with fail
  go_region
  go_end0
  exact ⟨rfl, rfl⟩
set_option maxHeartbeats 8000000 in
set_option maxRecDepth 100000 in
theorem swapS (w : World) (pb g n cap i : Nat) (a0 a1 a2 : Int) (c0 : w.cell? ⟨pb, 0, none⟩ = some (.slice (some ⟨g, 0, none⟩) n cap))
    (ci0 : w.cell? ⟨g, i * 3, none⟩ = some (.int .i64 a0)) (ci1 : w.cell? ⟨g, i * 3 + 1, none⟩ = some (.int .i64 a1)) (ci2 : w.cell? ⟨g, i * 3 + 2, none⟩ = some (.int .i64 a2))
    (fi0 : w.frozen? ⟨g, i * 3, none⟩ = false) (fi1 : w.frozen? ⟨g, i * 3 + 1, none⟩ = false) (fi2 : w.frozen? ⟨g, i * 3 + 2, none⟩ = false)
    (hi : i < n) :
    Calls Try.prog 39 #[.pointer (some ⟨pb, 0, none⟩), .int .i64 i, .int .i64 i] w fun e w' => e = .returned (.tuple #[]) ∧ w' = (put3 (put3 w g i ⟨a0, a1, a2⟩) g i ⟨a0, a1, a2⟩).drew := by
  have hi' : (i : Int) < (n : Int) := by omega
  have hi0 : (0 : Int) ≤ (i : Int) := by omega
  go_enter Try.func39, Try.ntmps39
  go_wp2_with fail
  go_region
  go_end0
  exact ⟨rfl, rfl⟩
theorem cellsS_set (l : List Dg) (k : Nat) (p : Dg) : cellsS (l.set k p) = (((cellsS l).set (k * 3) (.int .i64 p.code)).set (k * 3 + 1) (.int .i64 p.f)).set (k * 3 + 2) (.int .i64 p.t) := by
  induction l generalizing k with
  | nil => rfl
  | cons a r ih =>
    cases k with
    | zero => rfl
    | succ k =>
      rw [show (k + 1) * 3 = k * 3 + 1 + 1 + 1 from by omega]
      have e : ∀ (x : Dg) (m : List Dg), cellsS (x :: m) = .int .i64 x.code :: .int .i64 x.f :: .int .i64 x.t :: cellsS m := fun _ _ => rfl
      rw [List.set_cons_succ, e, e, ih]
      simp
theorem put3_row {w : World} {g k cap : Nat} {cur : Array Value} {l : List Dg} (p : Dg) (hc : w.heap[g]? = some (.cells cur 28 (0, 0))) (h6 : cur.size = cap * 3) (h7 : cur.toList.take (l.length * 3) = cellsS l) :
    ∃ cur', (put3 w g k p).heap[g]? = some (.cells cur' 28 (0, 0)) ∧ cur'.size = cap * 3 ∧ cur'.toList.take ((l.set k p).length * 3) = cellsS (l.set k p) := by
  refine ⟨((cur.setIfInBounds (k * 3) (.int .i64 p.code)).setIfInBounds (k * 3 + 1) (.int .i64 p.f)).setIfInBounds (k * 3 + 2) (.int .i64 p.t), ?_, by simpa using h6, ?_⟩
  · unfold put3
    exact heap_setCell_same _ _ _ _ _ _ (heap_setCell_same _ _ _ _ _ _ (heap_setCell_same _ _ _ _ _ _ hc))
  · rw [cellsS_set, ← h7, List.length_set, Array.toList_setIfInBounds, Array.toList_setIfInBounds, Array.toList_setIfInBounds, List.take_set, List.take_set, List.take_set]
theorem put3_other (w : World) (g k : Nat) (p : Dg) (b : Nat) (h : b ≠ g) : (put3 w g k p).heap[b]? = w.heap[b]? := by
  unfold put3
  rw [heap_setCell_other _ _ _ _ h, heap_setCell_other _ _ _ _ h, heap_setCell_other _ _ _ _ h]
theorem put3_os (w : World) (g k : Nat) (p : Dg) : (put3 w g k p).os = w.os ∧ (put3 w g k p).tape = w.tape ∧ (put3 w g k p).output = w.output := ⟨rfl, rfl, rfl⟩
theorem put3_size (w : World) (g k : Nat) (p : Dg) : (put3 w g k p).heap.size = w.heap.size := by simp [put3]
theorem row_free {w : World} {g o : Nat} {cur : Array Value} (hc : w.heap[g]? = some (.cells cur 28 (0, 0))) : w.frozen? ⟨g, o, none⟩ = false := free_of_block hc
set_option maxHeartbeats 1000000 in
/-- Swap: two exchanged. -/
theorem swapH (w : World) (pb : Nat) (rb : Option Nat) (l : List Dg) (i j : Nat) (h : HeapAt w pb rb l) (hi : i < l.length) (hj : j < l.length) :
    Calls Try.prog 39 #[.pointer (some ⟨pb, 0, none⟩), .int .i64 i, .int .i64 j] w fun e w' => e = .returned (.tuple #[]) ∧ HeapAt w' pb rb (sw l i j) ∧ Keep pb rb w w' := by
  rcases h.open_ with ⟨_, rfl, -⟩ | ⟨g, cap, cur, rfl, hpg, h1, hc, hlc, hm, h6, h7⟩
  · exact absurd hi (by simp)
  · have c0 : w.cell? ⟨pb, 0, none⟩ = some (.slice (some ⟨g, 0, none⟩) l.length cap) := cell_of_block (o := 0) h1 rfl
    obtain ⟨ci0, ci1, ci2⟩ := row_cells hc h7 rfl i hi
    obtain ⟨cj0, cj1, cj2⟩ := row_cells hc h7 rfl j hj
    have key : ∀ w', w' = (put3 (put3 w g i (at_ l j)) g j (at_ l i)).drew → HeapAt w' pb (some g) (sw l i j) ∧ Keep pb (some g) w w' := by
      rintro w' rfl
      obtain ⟨c2, e1, e2, e3⟩ := put3_row (k := i) (at_ l j) hc h6 h7
      obtain ⟨c3, e4, e5, e6⟩ := put3_row (k := j) (at_ l i) e1 e2 e3
      have es : (l.set i (at_ l j)).set j (at_ l i) = sw l i j := rfl
      rw [es] at e6
      have hsl : (sw l i j).length = l.length := sw_len l i j
      have hO : ∀ k, k ≠ g → (put3 (put3 w g i (at_ l j)) g j (at_ l i)).heap[k]? = w.heap[k]? := fun k hk => by
        rw [put3_other _ _ _ _ _ hk, put3_other _ _ _ _ _ hk]
      have hS : (put3 (put3 w g i (at_ l j)) g j (at_ l i)).heap.size = w.heap.size := by rw [put3_size, put3_size]
      have hos : (put3 (put3 w g i (at_ l j)) g j (at_ l i)).os = w.os ∧ (put3 (put3 w g i (at_ l j)) g j (at_ l i)).tape = w.tape ∧ (put3 (put3 w g i (at_ l j)) g j (at_ l i)).output = w.output := by
        obtain ⟨p1, p2, p3⟩ := put3_os w g i (at_ l j)
        obtain ⟨q1, q2, q3⟩ := put3_os (put3 w g i (at_ l j)) g j (at_ l i)
        exact ⟨q1.trans p1, q2.trans p2, q3.trans p3⟩
      generalize put3 (put3 w g i (at_ l j)) g j (at_ l i) = W at e4 hO hS hos ⊢
      rw [hsl] at e6
      obtain ⟨o1, o2, o3⟩ := hos
      refine ⟨⟨.slice (some ⟨g, 0, none⟩) l.length cap, (hO pb (by omega)).trans h1, ⟨cellsS_len _, .inr ⟨g, cap, c3, by rw [hsl], hpg, e4, by rw [hsl]; exact hlc, hm, e5, by rw [hsl]; exact e6⟩⟩, rfl⟩, o1, o2, o3, Nat.le_of_eq hS.symm, fun k hk h1 h2 => hO k (fun e => h2 (by rw [e]))⟩
    by_cases hij : i = j
    · subst hij
      refine (swapS w pb g l.length cap i _ _ _ c0 ci0 ci1 ci2 (row_free hc) (row_free hc) (row_free hc) hi).mono ?_
      rintro e w' ⟨rfl, hw⟩
      exact ⟨rfl, key w' hw⟩
    · refine (swapW w pb g l.length cap i j _ _ _ _ _ _ c0 ci0 ci1 ci2 cj0 cj1 cj2 (row_free hc) (row_free hc) (row_free hc) (row_free hc) (row_free hc) (row_free hc) hi hj hij).mono ?_
      rintro e w' ⟨rfl, hw⟩
      exact ⟨rfl, key w' hw⟩
end Go.Proofs.Ytdngcihjfbmbpaa.Zm
