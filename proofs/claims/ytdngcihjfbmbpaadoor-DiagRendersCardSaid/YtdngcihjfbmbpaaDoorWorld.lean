/- Values and worlds: what it means that a slice value reads as some bytes; that this stays where nothing old changes. -/
import Derived.Test.YtdngcihjfbmbpaaDoorSigns
import Derived.Below
import Derived.WalkKit
import Derived.Laws.AppendOwn
import Derived.Lib.RuneCountTail
namespace Go.Proofs.YtdngcihjfbmbpaaDoor
open Go.RowKit

/-- The slice value v reads as the bytes s (no list and an empty one read alike). -/
def Bys (w : World) (v : Value) (s : ByteArray) : Prop :=
  (v = .slice none 0 0 ∧ s.size = 0) ∨ ∃ b off cap, v = .slice (some ⟨b, off, none⟩) s.size cap ∧ s.size ≤ cap ∧ cap ≤ maxLen ∧ ∀ j, j < s.size → w.cell? ⟨b, off + j, none⟩ = some (.int .u8 (s.get! j).toNat)

theorem lt_of_cell {w : World} {a : Addr} {v : Value} (h : w.cell? a = some v) : a.block < w.heap.size := by
  unfold World.cell? at h
  rcases Nat.lt_or_ge a.block w.heap.size with h' | h'
  · exact h'
  · simp [Array.getElem?_eq_none h'] at h

theorem Bys.below {w w' : World} {v : Value} {s : ByteArray} (h : Bys w v s) (hb : Below w.heap.size w w') : Bys w' v s := by
  rcases h with h | ⟨b, off, cap, h1, h2, h3, h4⟩
  · exact .inl h
  · refine .inr ⟨b, off, cap, h1, h2, h3, fun j hj => ?_⟩
    have h5 := h4 j hj
    have h6 : b < w.heap.size := lt_of_cell h5
    rw [hb.cell (p := ⟨b, off + j, none⟩) h6]
    exact h5

theorem Bys.size_le {w : World} {v : Value} {s : ByteArray} (h : Bys w v s) : s.size ≤ maxLen := by
  rcases h with ⟨_, h⟩ | ⟨b, off, cap, _, h2, h3, _⟩
  · rw [h]; exact Nat.zero_le _
  · exact Nat.le_trans h2 h3

theorem nx_tail (s : ByteArray) (k i : Nat) : Sg.nx (s.extract k s.size) i = Sg.nx s (k + i) := by
  simp only [Sg.nx, Lib.tail_size, Lib.tail_get!]
  rw [show s.size - k - i = s.size - (k + i) from by omega, show k + (i + 1) = k + i + 1 from by omega, show k + (i + 2) = k + i + 2 from by omega, show k + (i + 3) = k + i + 3 from by omega]

end Go.Proofs.YtdngcihjfbmbpaaDoor
