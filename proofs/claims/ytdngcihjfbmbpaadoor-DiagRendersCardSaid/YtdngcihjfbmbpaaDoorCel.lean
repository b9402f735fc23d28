/- What a cell holds, over stores, new blocks, draws and calls, step by step (any seat; no type of the program's own). -/
import Derived.Test.YtdngcihjfbmbpaaDoorWorld
namespace Go.Proofs.YtdngcihjfbmbpaaDoor
open Go.RowKit

theorem size_alloc (w : World) (o : Obj) : (w.alloc o).heap.size = w.heap.size + 1 := by simp
theorem below_alloc (w : World) (o : Obj) : Below w.heap.size w (w.alloc o) := (Below.refl _ w).alloc (Nat.le_refl _) o
theorem below_call {w1 W W' : World} (hn : Below w1.heap.size w1 W) (hb : Below W.heap.size W W') : Below w1.heap.size w1 W' := hn.trans (hb.mono hn.size)
theorem below_allocS {a w : World} (h : Below a.heap.size a w) (o : Obj) : Below a.heap.size a (w.alloc o) := h.alloc h.size o
theorem bcell {W w1 : World} (hb : Below W.heap.size W w1) : (∀ b o, b < W.heap.size → w1.cell? ⟨b, o, none⟩ = W.cell? ⟨b, o, none⟩) ∧ (∀ b o, b < W.heap.size → w1.frozen? ⟨b, o, none⟩ = W.frozen? ⟨b, o, none⟩) :=
  ⟨fun b o h => hb.cell (p := ⟨b, o, none⟩) h, fun b o h => hb.frozen (p := ⟨b, o, none⟩) h⟩
theorem cell_set_eq (w : World) (a : Addr) (v : Value) (h : (w.cell? a).isSome = true) : (w.setCell a v).cell? a = some v := by
  obtain ⟨u, hu⟩ := Option.isSome_iff_exists.1 h
  exact World.cell?_setCell_same w a v hu
theorem cell_set_off (w : World) (b o o' : Nat) (v : Value) (h : o ≠ o') : (w.setCell ⟨b, o, none⟩ v).cell? ⟨b, o', none⟩ = w.cell? ⟨b, o', none⟩ :=
  World.cell?_setCell_other w _ _ v (fun e => h (by injection e))
theorem cell_set_far (w : World) (b o b' o' : Nat) (v : Value) (h : b ≠ b') : (w.setCell ⟨b, o, none⟩ v).cell? ⟨b', o', none⟩ = w.cell? ⟨b', o', none⟩ :=
  World.cell?_setCell_other w _ _ v (fun e => h (by injection e))
theorem at_below {W w' : World} {p : Addr} {u : Value} (hb : Below W.heap.size W w') (h : W.cell? p = some u) : w'.cell? p = some u := by rw [hb.cell (lt_of_cell h)]; exact h
theorem there_below {W w' : World} {p : Addr} (hb : Below W.heap.size W w') (h : (W.cell? p).isSome = true) : (w'.cell? p).isSome = true := by
  obtain ⟨u, hu⟩ := Option.isSome_iff_exists.1 h
  rw [hb.cell (lt_of_cell hu)]
  exact h
theorem there_alloc {W : World} {o : Obj} {p : Addr} (h : (W.cell? p).isSome = true) : ((W.alloc o).cell? p).isSome = true := there_below (below_alloc W o) h
theorem there_drew {W : World} {p : Addr} (h : (W.cell? p).isSome = true) : (W.drew.cell? p).isSome = true := h
theorem there_set {W : World} {q p : Addr} {v : Value} (h : (W.cell? p).isSome = true) : ((W.setCell q v).cell? p).isSome = true := by
  by_cases e : q = p
  · subst e; rw [cell_set_eq _ _ _ h]; rfl
  · rw [World.cell?_setCell_other _ _ _ _ e]; exact h
theorem at_set {W : World} {p : Addr} {v : Value} (h : (W.cell? p).isSome = true) : (W.setCell p v).cell? p = some v := cell_set_eq W p v h
theorem at_off {W : World} {b o o' : Nat} {v u : Value} (hne : o ≠ o') (h : W.cell? ⟨b, o', none⟩ = some u) : (W.setCell ⟨b, o, none⟩ v).cell? ⟨b, o', none⟩ = some u := by rw [cell_set_off _ _ _ _ _ hne]; exact h
theorem at_far {W : World} {b o b' o' : Nat} {v u : Value} (hne : b ≠ b') (h : W.cell? ⟨b', o', none⟩ = some u) : (W.setCell ⟨b, o, none⟩ v).cell? ⟨b', o', none⟩ = some u := by rw [cell_set_far _ _ _ _ _ _ hne]; exact h
theorem at_alloc {W : World} {o : Obj} {p : Addr} {u : Value} (h : W.cell? p = some u) : (W.alloc o).cell? p = some u := by rw [(below_alloc W o).cell (lt_of_cell h)]; exact h
theorem at_new {W : World} {C : Array Value} {t : TypeId} {k : Nat} {u : Value} (h : C[k]? = some u) : (W.alloc (.cells C t)).cell? ⟨W.heap.size, k, none⟩ = some u := by rw [World.cell?_alloc_mark]; exact h
theorem at_drew {W : World} {p : Addr} {u : Value} (h : W.cell? p = some u) : W.drew.cell? p = some u := h
end Go.Proofs.YtdngcihjfbmbpaaDoor
