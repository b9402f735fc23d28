/- Slices of integers that came in: their shape, their places, over calls (any seat). -/
import Derived.Test.YtmlpaafclobgcaaRowArg
import Derived.Test.YtmlpaafclobgcaaMgC
namespace Go.Proofs.Ytmlpaafclobgcaa
open Go.RowKit

theorem Nums.shape {k : IntKind} {w : World} {v : Value} {l : List Int} (h : Nums k w v l) : ∃ a cap, v = .slice a l.length cap := by
  rcases h.1 with ⟨h1, h2⟩ | ⟨b, off, cap, h1, _⟩
  · exact ⟨none, 0, by rw [h1, h2]; rfl⟩
  · exact ⟨_, _, h1⟩
theorem Nums.below {k : IntKind} {w w' : World} {v : Value} {l : List Int} (h : Nums k w v l) (hb : Below w.heap.size w w') : Nums k w' v l := by
  refine ⟨?_, h.2⟩
  rcases h.1 with h1 | ⟨b, off, cap, h1, h2, h3, h4⟩
  · exact .inl h1
  · refine .inr ⟨b, off, cap, h1, h2, h3, fun j hj => ?_⟩
    have h5 := h4 j hj
    rw [hb.cell (p := ⟨b, off + j, none⟩) (lt_of_cell h5)]
    exact h5
theorem Nums.at_ {k : IntKind} {w : World} {a : Option Addr} {l : List Int} {cap j : Nat} (h : Nums k w (.slice a l.length cap) l) (hj : j < l.length) :
    ∃ b off, a = some ⟨b, off, none⟩ ∧ l.length ≤ cap ∧ cap ≤ maxLen ∧ w.cell? ⟨b, off + j, none⟩ = some (.int k (l.getD j 0)) := by
  rcases h.1 with ⟨_, hz⟩ | ⟨b, off, cap', hv, g2, g3, g4⟩
  · rw [hz] at hj; exact absurd hj (Nat.not_lt_zero _)
  · obtain ⟨rfl, -, rfl⟩ := Value.slice.inj hv
    exact ⟨b, off, rfl, g2, g3, g4 j hj⟩
theorem Nums.len {k : IntKind} {w : World} {v : Value} {l : List Int} (h1 : Nums k w v l) : l.length ≤ 9223372036854775807 := by
  rcases h1.1 with ⟨_, hz⟩ | ⟨_, _, _, _, g2, g3, _⟩
  · rw [hz]; exact Nat.zero_le _
  · simp only [maxLen] at g3; omega
end Go.Proofs.Ytmlpaafclobgcaa
