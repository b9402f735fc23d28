/- What boxes hold: spans that were just laid into memory, and worlds that grew behind them. -/
import Derived.Test.YtfikgocaidaheaaSpn
namespace Go.Proofs.Ytfikgocaidaheaa
open Go.RowKit

abbrev box (a b : Int) : Obj := .cells #[.int .i64 a, .int .i64 b] 23
theorem box_new (w : World) (a b : Int) : (w.alloc (box a b)).cell? ⟨w.heap.size, 0, none⟩ = some (.int .i64 a) ∧ (w.alloc (box a b)).cell? ⟨w.heap.size, 1, none⟩ = some (.int .i64 b) :=
  ⟨by rw [World.cell?_alloc_mark]; rfl, by rw [World.cell?_alloc_mark]; rfl⟩
theorem size_alloc (w : World) (o : Obj) : (w.alloc o).heap.size = w.heap.size + 1 := by simp
theorem below_alloc (w : World) (o : Obj) : Below w.heap.size w (w.alloc o) := (Below.refl _ w).alloc (Nat.le_refl _) o
theorem boxes1 {w w1 : World} {a b : Int} (h : Below (w.alloc (box a b)).heap.size (w.alloc (box a b)) w1) :
    w1.cell? ⟨w.heap.size, 0, none⟩ = some (.int .i64 a) ∧ w1.cell? ⟨w.heap.size, 1, none⟩ = some (.int .i64 b) ∧ w.heap.size + 1 ≤ w1.heap.size ∧ Below w.heap.size w w1 := by
  have h0 := box_new w a b
  rw [size_alloc] at h
  have hs := h.size
  rw [size_alloc] at hs
  exact ⟨by rw [h.cell (by simp)]; exact h0.1, by rw [h.cell (by simp)]; exact h0.2, hs, (below_alloc w _).trans (h.mono (by omega))⟩
theorem boxes2 {w w1 : World} {a b c d : Int} (h : Below ((w.alloc (box a b)).alloc (box c d)).heap.size ((w.alloc (box a b)).alloc (box c d)) w1) :
    w1.cell? ⟨w.heap.size, 0, none⟩ = some (.int .i64 a) ∧ w1.cell? ⟨w.heap.size, 1, none⟩ = some (.int .i64 b) ∧
    w1.cell? ⟨w.heap.size + 1, 0, none⟩ = some (.int .i64 c) ∧ w1.cell? ⟨w.heap.size + 1, 1, none⟩ = some (.int .i64 d) ∧ w.heap.size + 2 ≤ w1.heap.size ∧ Below w.heap.size w w1 := by
  obtain ⟨e0, e1, hs, hb⟩ := boxes1 h
  rw [size_alloc] at e0 e1 hs hb
  obtain ⟨g0, g1, _, hb0⟩ := boxes1 (w := w) (a := a) (b := b) (w1 := w1) (by rw [size_alloc]; exact hb)
  exact ⟨g0, g1, e0, e1, by omega, hb0⟩
theorem boxes3 {w w1 : World} {a b c d e f : Int} (h : Below (((w.alloc (box a b)).alloc (box c d)).alloc (box e f)).heap.size (((w.alloc (box a b)).alloc (box c d)).alloc (box e f)) w1) :
    w1.cell? ⟨w.heap.size, 0, none⟩ = some (.int .i64 a) ∧ w1.cell? ⟨w.heap.size, 1, none⟩ = some (.int .i64 b) ∧
    w1.cell? ⟨w.heap.size + 1, 0, none⟩ = some (.int .i64 c) ∧ w1.cell? ⟨w.heap.size + 1, 1, none⟩ = some (.int .i64 d) ∧
    w1.cell? ⟨w.heap.size + 2, 0, none⟩ = some (.int .i64 e) ∧ w1.cell? ⟨w.heap.size + 2, 1, none⟩ = some (.int .i64 f) ∧ w.heap.size + 3 ≤ w1.heap.size ∧ Below w.heap.size w w1 := by
  obtain ⟨e0, e1, hs, hb⟩ := boxes1 h
  rw [size_alloc, size_alloc] at e0 e1 hs
  obtain ⟨g0, g1, g2, g3, _, hb0⟩ := boxes2 (w := w) (a := a) (b := b) (c := c) (d := d) (w1 := w1) hb
  exact ⟨g0, g1, g2, g3, e0, e1, by omega, hb0⟩
/-- Cells that lie below w1's size, over a call made in a world that grew out of w1. -/
theorem two_keep {w1 W W' : World} {b : Nat} {x y : Int} (h : w1.cell? ⟨b, 0, none⟩ = some (.int .i64 x) ∧ w1.cell? ⟨b, 1, none⟩ = some (.int .i64 y)) (hn : Below w1.heap.size w1 W) (hb : Below W.heap.size W W') :
    (W'.cell? ⟨b, 0, none⟩ = some (.int .i64 x) ∧ W'.cell? ⟨b, 1, none⟩ = some (.int .i64 y)) := by
  have hn' := hn.trans (hb.mono hn.size)
  exact ⟨by rw [hn'.cell (p := ⟨b, 0, none⟩) (lt_of_cell h.1)]; exact h.1, by rw [hn'.cell (p := ⟨b, 1, none⟩) (lt_of_cell h.2)]; exact h.2⟩
theorem below_call {w1 W W' : World} (hn : Below w1.heap.size w1 W) (hb : Below W.heap.size W W') : Below w1.heap.size w1 W' := hn.trans (hb.mono hn.size)
theorem four_keep {w1 W W' : World} {b b' : Nat} {x y x' y' : Int} (h : w1.cell? ⟨b, 0, none⟩ = some (.int .i64 x) ∧ w1.cell? ⟨b, 1, none⟩ = some (.int .i64 y)) (h' : w1.cell? ⟨b', 0, none⟩ = some (.int .i64 x') ∧ w1.cell? ⟨b', 1, none⟩ = some (.int .i64 y')) (hn : Below w1.heap.size w1 W) (hb : Below W.heap.size W W') :
    Below w1.heap.size w1 W' ∧ w1.heap.size ≤ W'.heap.size ∧ W'.cell? ⟨b, 0, none⟩ = some (.int .i64 x) ∧ W'.cell? ⟨b, 1, none⟩ = some (.int .i64 y) ∧ W'.cell? ⟨b', 0, none⟩ = some (.int .i64 x') ∧ W'.cell? ⟨b', 1, none⟩ = some (.int .i64 y') :=
  ⟨below_call hn hb, (below_call hn hb).size, (two_keep h hn hb).1, (two_keep h hn hb).2, (two_keep h' hn hb).1, (two_keep h' hn hb).2⟩
theorem bcell {W w1 : World} (hb : Below W.heap.size W w1) : (∀ b o, b < W.heap.size → w1.cell? ⟨b, o, none⟩ = W.cell? ⟨b, o, none⟩) ∧ (∀ b o, b < W.heap.size → w1.frozen? ⟨b, o, none⟩ = W.frozen? ⟨b, o, none⟩) :=
  ⟨fun b o h => hb.cell (p := ⟨b, o, none⟩) h, fun b o h => hb.frozen (p := ⟨b, o, none⟩) h⟩
theorem below_allocS {a w : World} (h : Below a.heap.size a w) (o : Obj) : Below a.heap.size a (w.alloc o) := h.alloc h.size o
theorem cell_set_eq (w : World) (a : Addr) (v : Value) (h : (w.cell? a).isSome = true) : (w.setCell a v).cell? a = some v := by
  obtain ⟨u, hu⟩ := Option.isSome_iff_exists.1 h
  exact World.cell?_setCell_same w a v hu
theorem cell_set_off (w : World) (b o o' : Nat) (v : Value) (h : o ≠ o') : (w.setCell ⟨b, o, none⟩ v).cell? ⟨b, o', none⟩ = w.cell? ⟨b, o', none⟩ :=
  World.cell?_setCell_other w _ _ v (fun e => h (by injection e))
theorem cell_set_far (w : World) (b o b' o' : Nat) (v : Value) (h : b ≠ b') : (w.setCell ⟨b, o, none⟩ v).cell? ⟨b', o', none⟩ = w.cell? ⟨b', o', none⟩ :=
  World.cell?_setCell_other w _ _ v (fun e => h (by injection e))
/-- Two spans stored into two blocks that are there. -/
theorem chain4 (W : World) (b0 b1 : Nat) (x0 x1 y0 y1 : Value) (hne : b0 ≠ b1) (h0 : (W.cell? ⟨b0, 0, none⟩).isSome = true) (h1 : (W.cell? ⟨b0, 1, none⟩).isSome = true) (h2 : (W.cell? ⟨b1, 0, none⟩).isSome = true) (h3 : (W.cell? ⟨b1, 1, none⟩).isSome = true) :
    ((((W.setCell ⟨b0, 0, none⟩ x0).setCell ⟨b0, 1, none⟩ x1).setCell ⟨b1, 0, none⟩ y0).setCell ⟨b1, 1, none⟩ y1).cell? ⟨b0, 0, none⟩ = some x0 ∧
    ((((W.setCell ⟨b0, 0, none⟩ x0).setCell ⟨b0, 1, none⟩ x1).setCell ⟨b1, 0, none⟩ y0).setCell ⟨b1, 1, none⟩ y1).cell? ⟨b0, 1, none⟩ = some x1 ∧
    ((((W.setCell ⟨b0, 0, none⟩ x0).setCell ⟨b0, 1, none⟩ x1).setCell ⟨b1, 0, none⟩ y0).setCell ⟨b1, 1, none⟩ y1).cell? ⟨b1, 0, none⟩ = some y0 ∧
    ((((W.setCell ⟨b0, 0, none⟩ x0).setCell ⟨b0, 1, none⟩ x1).setCell ⟨b1, 0, none⟩ y0).setCell ⟨b1, 1, none⟩ y1).cell? ⟨b1, 1, none⟩ = some y1 := by
  refine ⟨?_, ?_, ?_, ?_⟩
  · rw [cell_set_far _ _ _ _ _ _ (Ne.symm hne), cell_set_far _ _ _ _ _ _ (Ne.symm hne), cell_set_off _ _ _ _ _ (by decide), cell_set_eq _ _ _ h0]
  · rw [cell_set_far _ _ _ _ _ _ (Ne.symm hne), cell_set_far _ _ _ _ _ _ (Ne.symm hne), cell_set_eq]
    rw [cell_set_off _ _ _ _ _ (by decide)]; exact h1
  · rw [cell_set_off _ _ _ _ _ (by decide), cell_set_eq]
    rw [cell_set_far _ _ _ _ _ _ hne, cell_set_far _ _ _ _ _ _ hne]; exact h2
  · rw [cell_set_eq]
    rw [cell_set_off _ _ _ _ _ (by decide), cell_set_far _ _ _ _ _ _ hne, cell_set_far _ _ _ _ _ _ hne]; exact h3
theorem chain5 {W : World} {b0 b1 : Nat} {x0 x1 y0 y1 : Value} {E : Prop} (hne : b0 ≠ b1) (h0 : (W.cell? ⟨b0, 0, none⟩).isSome = true) (h1 : (W.cell? ⟨b0, 1, none⟩).isSome = true) (h2 : (W.cell? ⟨b1, 0, none⟩).isSome = true) (h3 : (W.cell? ⟨b1, 1, none⟩).isSome = true) (e : E) :
    ((((W.setCell ⟨b0, 0, none⟩ x0).setCell ⟨b0, 1, none⟩ x1).setCell ⟨b1, 0, none⟩ y0).setCell ⟨b1, 1, none⟩ y1).cell? ⟨b0, 0, none⟩ = some x0 ∧
    ((((W.setCell ⟨b0, 0, none⟩ x0).setCell ⟨b0, 1, none⟩ x1).setCell ⟨b1, 0, none⟩ y0).setCell ⟨b1, 1, none⟩ y1).cell? ⟨b0, 1, none⟩ = some x1 ∧
    ((((W.setCell ⟨b0, 0, none⟩ x0).setCell ⟨b0, 1, none⟩ x1).setCell ⟨b1, 0, none⟩ y0).setCell ⟨b1, 1, none⟩ y1).cell? ⟨b1, 0, none⟩ = some y0 ∧
    ((((W.setCell ⟨b0, 0, none⟩ x0).setCell ⟨b0, 1, none⟩ x1).setCell ⟨b1, 0, none⟩ y0).setCell ⟨b1, 1, none⟩ y1).cell? ⟨b1, 1, none⟩ = some y1 ∧ E :=
  have h := chain4 W b0 b1 x0 x1 y0 y1 hne h0 h1 h2 h3
  ⟨h.1, h.2.1, h.2.2.1, h.2.2.2, e⟩
theorem there_below {W w' : World} {p : Addr} (hb : Below W.heap.size W w') (h : (W.cell? p).isSome = true) : (w'.cell? p).isSome = true := by
  obtain ⟨u, hu⟩ := Option.isSome_iff_exists.1 h
  rw [hb.cell (lt_of_cell hu)]
  exact h
theorem there_alloc {W : World} {o : Obj} {p : Addr} (h : (W.cell? p).isSome = true) : ((W.alloc o).cell? p).isSome = true := there_below (below_alloc W o) h
theorem there_drew {W : World} {p : Addr} (h : (W.cell? p).isSome = true) : (W.drew.cell? p).isSome = true := h
theorem there_set {W : World} {q p : Addr} {v : Value} (h : (W.cell? p).isSome = true) : ((W.setCell q v).cell? p).isSome = true := by
  by_cases e : q = p
  · subst e; rw [cell_set_eq _ _ _ h]; rfl
  · rw [World.cell?_setCell_other _ _ _ _ e]; exact h
/-- What a cell holds, over stores, new blocks and draws, step by step. -/
theorem at_set {W : World} {p : Addr} {v : Value} (h : (W.cell? p).isSome = true) : (W.setCell p v).cell? p = some v := cell_set_eq W p v h
theorem at_off {W : World} {b o o' : Nat} {v u : Value} (hne : o ≠ o') (h : W.cell? ⟨b, o', none⟩ = some u) : (W.setCell ⟨b, o, none⟩ v).cell? ⟨b, o', none⟩ = some u := by rw [cell_set_off _ _ _ _ _ hne]; exact h
theorem at_far {W : World} {b o b' o' : Nat} {v u : Value} (hne : b ≠ b') (h : W.cell? ⟨b', o', none⟩ = some u) : (W.setCell ⟨b, o, none⟩ v).cell? ⟨b', o', none⟩ = some u := by rw [cell_set_far _ _ _ _ _ _ hne]; exact h
theorem at_alloc {W : World} {o : Obj} {p : Addr} {u : Value} (h : W.cell? p = some u) : (W.alloc o).cell? p = some u := by rw [(below_alloc W o).cell (lt_of_cell h)]; exact h
theorem at_new0 {W : World} {n : Nat} {x y : Value} {t : TypeId} (hn : n = W.heap.size) : (W.alloc (.cells #[x, y] t)).cell? ⟨n, 0, none⟩ = some x := by subst hn; rw [World.cell?_alloc_mark]; rfl
theorem at_new1 {W : World} {n : Nat} {x y : Value} {t : TypeId} (hn : n = W.heap.size) : (W.alloc (.cells #[x, y] t)).cell? ⟨n, 1, none⟩ = some y := by subst hn; rw [World.cell?_alloc_mark]; rfl
theorem at_drew {W : World} {p : Addr} {u : Value} (h : W.cell? p = some u) : W.drew.cell? p = some u := h
theorem six_keep {w1 W W' : World} {b b' b'' : Nat} {x y x' y' x'' y'' : Int} (h : w1.cell? ⟨b, 0, none⟩ = some (.int .i64 x) ∧ w1.cell? ⟨b, 1, none⟩ = some (.int .i64 y)) (h' : w1.cell? ⟨b', 0, none⟩ = some (.int .i64 x') ∧ w1.cell? ⟨b', 1, none⟩ = some (.int .i64 y')) (h'' : w1.cell? ⟨b'', 0, none⟩ = some (.int .i64 x'') ∧ w1.cell? ⟨b'', 1, none⟩ = some (.int .i64 y'')) (hn : Below w1.heap.size w1 W) (hb : Below W.heap.size W W') :
    Below w1.heap.size w1 W' ∧ w1.heap.size ≤ W'.heap.size ∧ W'.cell? ⟨b, 0, none⟩ = some (.int .i64 x) ∧ W'.cell? ⟨b, 1, none⟩ = some (.int .i64 y) ∧ W'.cell? ⟨b', 0, none⟩ = some (.int .i64 x') ∧ W'.cell? ⟨b', 1, none⟩ = some (.int .i64 y') ∧ W'.cell? ⟨b'', 0, none⟩ = some (.int .i64 x'') ∧ W'.cell? ⟨b'', 1, none⟩ = some (.int .i64 y'') :=
  ⟨below_call hn hb, (below_call hn hb).size, (two_keep h hn hb).1, (two_keep h hn hb).2, (two_keep h' hn hb).1, (two_keep h' hn hb).2, (two_keep h'' hn hb).1, (two_keep h'' hn hb).2⟩
/-- A cell is there, holds u, and may be written. -/
def Here (w : World) (b o : Nat) (u : Value) : Prop := w.cell? ⟨b, o, none⟩ = some u ∧ w.frozen? ⟨b, o, none⟩ = false
theorem here_below {W w' : World} {b o : Nat} {u : Value} (hb : Below W.heap.size W w') (h : Here W b o u) : Here w' b o u :=
  ⟨by rw [hb.cell (p := ⟨b, o, none⟩) (lt_of_cell h.1)]; exact h.1, by rw [hb.frozen (p := ⟨b, o, none⟩) (lt_of_cell h.1)]; exact h.2⟩
theorem here_alloc {W : World} {o : Obj} {b k : Nat} {u : Value} (h : Here W b k u) : Here (W.alloc o) b k u := here_below (below_alloc W o) h
theorem here_drew {W : World} {b k : Nat} {u : Value} (h : Here W b k u) : Here W.drew b k u := h
theorem here_new0 {W : World} {n : Nat} {x y : Value} {t : TypeId} (hn : n = W.heap.size) : Here (W.alloc (.cells #[x, y] t)) n 0 x := ⟨at_new0 hn, by subst hn; exact World.frozen?_alloc_new W #[x, y] t 0⟩
theorem here_new1 {W : World} {n : Nat} {x y : Value} {t : TypeId} (hn : n = W.heap.size) : Here (W.alloc (.cells #[x, y] t)) n 1 y := ⟨at_new1 hn, by subst hn; exact World.frozen?_alloc_new W #[x, y] t 1⟩
end Go.Proofs.Ytfikgocaidaheaa
