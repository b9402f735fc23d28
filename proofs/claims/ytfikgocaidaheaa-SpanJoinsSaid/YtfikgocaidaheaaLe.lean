/- The heap of spans in memory: a struct of one slice behind a pointer; Len, Less, Swap, Push, Pop: one contract a method. -/
import Derived.Test.YtfikgocaidaheaaBox
import Derived.Test.YtfikgocaidaheaaHp
import Derived.WalkLawsBesides
import Derived.WalkSpells
import Derived.Outline
import Derived.Deep.RegionHeld3
import Derived.Deep.DeepMust
import Derived.BigRegion
import Derived.OwnWalk
import Derived.Deep.QuietTactic
import Derived.BigQuiet
namespace Go.Proofs.Ytfikgocaidaheaa
open Go.RowKit
open Go.Proofs.Ytfikgocaidaheaa.Hp

/-- The block pb holds the slice of the spans l, whose row lies in the block rb. -/
def HeapAt (w : World) (pb : Nat) (rb : Option Nat) (l : List (Int × Int)) : Prop :=
  ∃ v, w.heap[pb]? = some (.cells #[v] 36 (0, 0)) ∧ w.ownsRow (pb + 1) 23 2 v l.length (cellsS l) ∧ v.ownBlock = rb
/-- All that was there stays, but for the blocks pb and rb. -/
structure Keep (pb : Nat) (rb : Option Nat) (w w' : World) : Prop where
  os : w'.os = w.os
  tape : w'.tape = w.tape
  output : w'.output = w.output
  size : w.heap.size ≤ w'.heap.size
  block : ∀ k, k < w.heap.size → k ≠ pb → rb ≠ some k → w'.heap[k]? = w.heap[k]?
theorem Keep.refl (pb : Nat) (rb : Option Nat) (w : World) : Keep pb rb w w := ⟨rfl, rfl, rfl, Nat.le_refl _, fun _ _ _ _ => rfl⟩
theorem Keep.of_below {pb : Nat} {rb : Option Nat} {w w' : World} (h : Below w.heap.size w w') : Keep pb rb w w' := ⟨h.os, h.tape, h.output, h.size, fun k hk _ _ => h.block k hk⟩
theorem Keep.trans {pb : Nat} {rb rc : Option Nat} {a b c : World} (h : Keep pb rb a b) (k : Keep pb rc b c) (hr : rc = rb ∨ ∃ g, rc = some g ∧ a.heap.size ≤ g) : Keep pb rb a c := by
  refine ⟨k.os.trans h.os, k.tape.trans h.tape, k.output.trans h.output, Nat.le_trans h.size k.size, fun i hi h1 h2 => ?_⟩
  refine (k.block i (Nat.lt_of_lt_of_le hi h.size) h1 ?_).trans (h.block i hi h1 h2)
  rcases hr with rfl | ⟨g, rfl, hg⟩
  · exact h2
  · intro e; have := Option.some.inj e; omega
theorem Keep.drew {pb : Nat} {rb : Option Nat} {a w : World} (h : Keep pb rb a w) : Keep pb rb a w.drew := ⟨h.os, h.tape, h.output, h.size, h.block⟩
theorem Keep.setPb {pb : Nat} {rb : Option Nat} {a w : World} (h : Keep pb rb a w) (o : Nat) (v : Value) : Keep pb rb a (w.setCell ⟨pb, o, none⟩ v) :=
  ⟨h.os, h.tape, h.output, by simpa using h.size, fun k hk h1 h2 => by rw [Below.heap_setCell _ _ _ _ (by simpa using h1)]; exact h.block k hk h1 h2⟩
theorem Keep.setRb {pb g : Nat} {a w : World} (h : Keep pb (some g) a w) (o : Nat) (v : Value) : Keep pb (some g) a (w.setCell ⟨g, o, none⟩ v) :=
  ⟨h.os, h.tape, h.output, by simpa using h.size, fun k hk h1 h2 => by rw [Below.heap_setCell _ _ _ _ (by simp only [ne_eq]; intro e; exact h2 (by rw [e]))]; exact h.block k hk h1 h2⟩
theorem HeapAt.keep {w w' : World} {pb : Nat} {rb : Option Nat} {l : List (Int × Int)} (h : HeapAt w pb rb l) (hb : Below w.heap.size w w') : HeapAt w' pb rb l := by
  obtain ⟨v, h1, h2, h3⟩ := h
  have hlt : pb < w.heap.size := (Array.getElem?_eq_some_iff.1 h1).1
  exact ⟨v, (hb.block pb hlt).trans h1, own_below h2 hb, h3⟩
/-- The heap, opened: no row, or a row of a block of its own. -/
theorem HeapAt.open_ {w : World} {pb : Nat} {rb : Option Nat} {l : List (Int × Int)} (h : HeapAt w pb rb l) :
    (w.heap[pb]? = some (.cells #[.slice none 0 0] 36 (0, 0)) ∧ l = [] ∧ rb = none) ∨
    ∃ g cap cur, rb = some g ∧ pb < g ∧ w.heap[pb]? = some (.cells #[.slice (some ⟨g, 0, none⟩) l.length cap] 36 (0, 0)) ∧ w.heap[g]? = some (.cells cur 23 (0, 0)) ∧ l.length ≤ cap ∧ cap ≤ maxLen ∧ cur.size = cap * 2 ∧ cur.toList.take (l.length * 2) = cellsS l := by
  obtain ⟨v, h1, h2, h3⟩ := h
  rcases h2.2 with ⟨rfl, h0⟩ | ⟨g, cap, cur, rfl, hg, hc, h4, h5, h6, h7⟩
  · exact .inl ⟨h1, List.eq_nil_of_length_eq_zero h0, h3.symm⟩
  · exact .inr ⟨g, cap, cur, h3.symm, hg, h1, hc, h4, h5, h6, h7⟩
theorem cell_of_block {w : World} {b : Nat} {cur : Array Value} {t : TypeId} {o : Nat} {v : Value} (h : w.heap[b]? = some (.cells cur t (0, 0))) (hv : cur[o]? = some v) : w.cell? ⟨b, o, none⟩ = some v := by
  simp [World.cell?, h, hv]
theorem free_of_block {w : World} {b : Nat} {cur : Array Value} {t : TypeId} {o : Nat} (h : w.heap[b]? = some (.cells cur t (0, 0))) : w.frozen? ⟨b, o, none⟩ = false := by
  simp [World.frozen?, h]
/-- The two cells of each span in a row. -/
theorem row_cells {w : World} {g n : Nat} {cur : Array Value} {l : List (Int × Int)} (hc : w.heap[g]? = some (.cells cur 23 (0, 0))) (h7 : cur.toList.take (l.length * 2) = cellsS l) (hn : l.length = n) (k : Nat) (hk : k < n) :
    w.cell? ⟨g, k * 2, none⟩ = some (.int .i64 (at_ l k).1) ∧ w.cell? ⟨g, k * 2 + 1, none⟩ = some (.int .i64 (at_ l k).2) := by
  subst hn
  obtain ⟨e1, e2⟩ := cellsS_get l k hk
  rw [Nat.mul_comm 2 k] at e1 e2
  change _ = some (Value.int .i64 (at_ l k).1) at e1
  change _ = some (Value.int .i64 (at_ l k).2) at e2
  rw [← h7, List.getElem?_take, if_pos (by omega)] at e1
  rw [← h7, List.getElem?_take, if_pos (by omega)] at e2
  exact ⟨cell_of_block hc (by rw [← Array.getElem?_toList]; exact e1), cell_of_block hc (by rw [← Array.getElem?_toList]; exact e2)⟩

set_option maxHeartbeats 400000 in
theorem lenH (w : World) (pb : Nat) (rb : Option Nat) (l : List (Int × Int)) (h : HeapAt w pb rb l) :
    Calls Try.prog 21 #[.pointer (some ⟨pb, 0, none⟩)] w fun e w' => e = .returned (.int .i64 (l.length : Nat)) ∧ w = w' := by
  rcases h.open_ with ⟨h1, rfl, -⟩ | ⟨g, cap, cur, -, -, h1, -, -, -, -, -⟩
  · have c0 := cell_of_block (o := 0) h1 rfl
    clear h h1
    go_enter Try.func21, Try.ntmps21
    go_wp2
    go_ret
    exact ⟨rfl, rfl⟩
  · have c0 := cell_of_block (o := 0) h1 rfl
    clear h h1
    go_enter Try.func21, Try.ntmps21
    go_wp2
    go_ret
    exact ⟨rfl, rfl⟩
set_option maxHeartbeats 1000000 in
set_option maxRecDepth 100000 in
theorem lessH (w : World) (pb : Nat) (rb : Option Nat) (l : List (Int × Int)) (i j : Nat) (h : HeapAt w pb rb l) (hi : i < l.length) (hj : j < l.length) :
    Calls Try.prog 43 #[.pointer (some ⟨pb, 0, none⟩), .int .i64 i, .int .i64 j] w fun e w' => e = .returned (.bool (ltB (at_ l i) (at_ l j))) ∧ Below w.heap.size w w' := by
  rcases h.open_ with ⟨_, rfl, -⟩ | ⟨g, cap, cur, -, hpg, h1, hc, hlc, hm, -, h7⟩
  · exact absurd hi (by simp)
  · obtain ⟨n, hn⟩ : ∃ n, l.length = n := ⟨_, rfl⟩
    have c0 : w.cell? ⟨pb, 0, none⟩ = some (.slice (some ⟨g, 0, none⟩) l.length cap) := cell_of_block (o := 0) h1 rfl
    rw [hn] at c0 hi hj hlc
    obtain ⟨ci0, ci1⟩ := row_cells hc h7 hn i hi
    obtain ⟨cj0, cj1⟩ := row_cells hc h7 hn j hj
    obtain ⟨a, ha⟩ : ∃ a, at_ l i = a := ⟨_, rfl⟩
    obtain ⟨b, hb⟩ : ∃ b, at_ l j = b := ⟨_, rfl⟩
    obtain ⟨a0, a1⟩ := a
    obtain ⟨b0, b1⟩ := b
    rw [ha] at ci0 ci1
    rw [hb] at cj0 cj1
    rw [ha, hb]
    dsimp only at ci0 ci1 cj0 cj1
    have hlt := lt_of_cell ci0
    have hlp := lt_of_cell c0
    dsimp only at hlt hlp
    clear h h1 hc h7 hn ha hb
    unfold maxLen at hm
    have hi' : (i : Int) < (n : Int) := by omega
    have hj' : (j : Int) < (n : Int) := by omega
    have hi0 : (0 : Int) ≤ (i : Int) := by omega
    have hj0 : (0 : Int) ≤ (j : Int) := by omega
    by_cases t1 : a0 < b0
    · go_enter Try.func43, Try.ntmps43
      go_wp2_with fail
      go_region_held3 (fun wx => wx.cell? ⟨pb, 0, none⟩ = some (.slice (some ⟨g, 0, none⟩) n cap) ∧ wx.cell? ⟨g, i * 2, none⟩ = some (.int .i64 a0) ∧ wx.cell? ⟨g, i * 2 + 1, none⟩ = some (.int .i64 a1) ∧ wx.cell? ⟨g, j * 2, none⟩ = some (.int .i64 b0) ∧ wx.cell? ⟨g, j * 2 + 1, none⟩ = some (.int .i64 b1)) (((refine ⟨?_, ?_, ?_, ?_, ?_⟩); all_goals (repeat (first | (with_reducible exact c0) | (with_reducible exact ci0) | (with_reducible exact ci1) | (with_reducible exact cj0) | (with_reducible exact cj1) | (with_reducible refine at_far (by omega) ?_) | (with_reducible refine at_alloc ?_) | (with_reducible refine at_drew ?_))))) (fail)
      all_goals
        go_wp2
        go_ret
        exact ⟨by simp [ltB, t1], by repeat (first | exact Below.refl _ _ | refine Below.drew ?_ | refine Below.alloc ?_ (by simp; try omega) _ | refine Below.setCell ?_ (by simp) _)⟩
    · by_cases t2 : a0 = b0
      · subst t2
        by_cases t3 : a1 < b1
        · go_enter Try.func43, Try.ntmps43
          go_wp2_with fail
          go_region_held3 (fun wx => wx.cell? ⟨pb, 0, none⟩ = some (.slice (some ⟨g, 0, none⟩) n cap) ∧ wx.cell? ⟨g, i * 2, none⟩ = some (.int .i64 a0) ∧ wx.cell? ⟨g, i * 2 + 1, none⟩ = some (.int .i64 a1) ∧ wx.cell? ⟨g, j * 2, none⟩ = some (.int .i64 a0) ∧ wx.cell? ⟨g, j * 2 + 1, none⟩ = some (.int .i64 b1)) (((refine ⟨?_, ?_, ?_, ?_, ?_⟩); all_goals (repeat (first | (with_reducible exact c0) | (with_reducible exact ci0) | (with_reducible exact ci1) | (with_reducible exact cj0) | (with_reducible exact cj1) | (with_reducible refine at_far (by omega) ?_) | (with_reducible refine at_alloc ?_) | (with_reducible refine at_drew ?_))))) (fail)
          all_goals
            go_wp2
            go_ret
            exact ⟨by simp [ltB, t3], by repeat (first | exact Below.refl _ _ | refine Below.drew ?_ | refine Below.alloc ?_ (by simp; try omega) _ | refine Below.setCell ?_ (by simp) _)⟩
        · go_enter Try.func43, Try.ntmps43
          go_wp2_with fail
          go_region_held3 (fun wx => wx.cell? ⟨pb, 0, none⟩ = some (.slice (some ⟨g, 0, none⟩) n cap) ∧ wx.cell? ⟨g, i * 2, none⟩ = some (.int .i64 a0) ∧ wx.cell? ⟨g, i * 2 + 1, none⟩ = some (.int .i64 a1) ∧ wx.cell? ⟨g, j * 2, none⟩ = some (.int .i64 a0) ∧ wx.cell? ⟨g, j * 2 + 1, none⟩ = some (.int .i64 b1)) (((refine ⟨?_, ?_, ?_, ?_, ?_⟩); all_goals (repeat (first | (with_reducible exact c0) | (with_reducible exact ci0) | (with_reducible exact ci1) | (with_reducible exact cj0) | (with_reducible exact cj1) | (with_reducible refine at_far (by omega) ?_) | (with_reducible refine at_alloc ?_) | (with_reducible refine at_drew ?_))))) (fail)
          all_goals
            go_wp2
            go_ret
            exact ⟨by simp [ltB], by repeat (first | exact Below.refl _ _ | refine Below.drew ?_ | refine Below.alloc ?_ (by simp; try omega) _ | refine Below.setCell ?_ (by simp) _)⟩
      · have t2' : (a0 == b0) = false := by simp [t2]
        go_enter Try.func43, Try.ntmps43
        go_wp2_with fail
        go_region_held3 (fun wx => wx.cell? ⟨pb, 0, none⟩ = some (.slice (some ⟨g, 0, none⟩) n cap) ∧ wx.cell? ⟨g, i * 2, none⟩ = some (.int .i64 a0) ∧ wx.cell? ⟨g, i * 2 + 1, none⟩ = some (.int .i64 a1) ∧ wx.cell? ⟨g, j * 2, none⟩ = some (.int .i64 b0) ∧ wx.cell? ⟨g, j * 2 + 1, none⟩ = some (.int .i64 b1)) (((refine ⟨?_, ?_, ?_, ?_, ?_⟩); all_goals (repeat (first | (with_reducible exact c0) | (with_reducible exact ci0) | (with_reducible exact ci1) | (with_reducible exact cj0) | (with_reducible exact cj1) | (with_reducible refine at_far (by omega) ?_) | (with_reducible refine at_alloc ?_) | (with_reducible refine at_drew ?_))))) (fail)
        all_goals
          go_wp2
          go_ret
          exact ⟨by simp [ltB, t2], by repeat (first | exact Below.refl _ _ | refine Below.drew ?_ | refine Below.alloc ?_ (by simp; try omega) _ | refine Below.setCell ?_ (by simp) _)⟩
end Go.Proofs.Ytfikgocaidaheaa
