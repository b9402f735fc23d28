/- A cell is there, holds u, and may be written: over calls, blocks, draws, stores (for any seat). -/
import Derived.Test.YthkieidcjakhgaaCel
namespace Go.Proofs.Ythkieidcjakhgaa
open Go.RowKit

def Hld (w : World) (b o : Nat) (u : Value) : Prop := w.cell? ⟨b, o, none⟩ = some u ∧ w.frozen? ⟨b, o, none⟩ = false
theorem hld_below {W w' : World} {b o : Nat} {u : Value} (hb : Below W.heap.size W w') (h : Hld W b o u) : Hld w' b o u :=
  ⟨by rw [hb.cell (p := ⟨b, o, none⟩) (lt_of_cell h.1)]; exact h.1, by rw [hb.frozen (p := ⟨b, o, none⟩) (lt_of_cell h.1)]; exact h.2⟩
theorem hld_alloc {W : World} {o : Obj} {b k : Nat} {u : Value} (h : Hld W b k u) : Hld (W.alloc o) b k u := hld_below (below_alloc W o) h
theorem hld_drew {W : World} {b k : Nat} {u : Value} (h : Hld W b k u) : Hld W.drew b k u := h
theorem hld_new {W : World} {C : Array Value} {t : TypeId} {k : Nat} {u : Value} (h : C[k]? = some u) : Hld (W.alloc (.cells C t)) W.heap.size k u :=
  ⟨by rw [World.cell?_alloc_mark]; exact h, World.frozen?_alloc_new W C t k⟩
theorem Hld.there {W : World} {b o : Nat} {u : Value} (h : Hld W b o u) : (W.cell? ⟨b, o, none⟩).isSome = true := by rw [h.1]; rfl
end Go.Proofs.Ythkieidcjakhgaa
