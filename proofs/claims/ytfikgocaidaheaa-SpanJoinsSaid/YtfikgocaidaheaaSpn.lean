/- Spans: pairs of whole numbers as values; their order; rows of them; how a slice of them reads. -/
import Derived.Test.YtfikgocaidaheaaChecked
import Derived.Below
import Derived.WalkKit
import Derived.Laws.AppendOwn
import Derived.Lib.Hide
namespace Go.Proofs.Ytfikgocaidaheaa
open Go.RowKit

theorem addr_add (b off j : Nat) : (⟨b, off, none⟩ : Addr).add j = ⟨b, off + j, none⟩ := by
  unfold Addr.add
  split
  · rename_i h; subst h; rfl
  · rfl
theorem lt_of_cell {w : World} {a : Addr} {v : Value} (h : w.cell? a = some v) : a.block < w.heap.size := by
  unfold World.cell? at h
  rcases Nat.lt_or_ge a.block w.heap.size with h' | h'
  · exact h'
  · simp [Array.getElem?_eq_none h'] at h
/-- One span's two cells. -/
def cellsS : List (Int × Int) → List Value
  | [] => []
  | p :: r => Value.int .i64 p.1 :: Value.int .i64 p.2 :: cellsS r
theorem cellsS_len (l : List (Int × Int)) : (cellsS l).length = l.length * 2 := by
  induction l with
  | nil => rfl
  | cons p r ih => simp only [cellsS, List.length_cons, ih]; omega
theorem cellsS_app (a b : List (Int × Int)) : cellsS (a ++ b) = cellsS a ++ cellsS b := by
  induction a with
  | nil => rfl
  | cons p r ih => simp only [cellsS, List.cons_append, ih]
theorem cellsS_one (l : List (Int × Int)) : ∀ u ∈ cellsS l, u.oneCell' = true := by
  induction l with
  | nil => intro u hu; cases hu
  | cons p r ih =>
    intro u hu
    simp only [cellsS, List.mem_cons] at hu
    rcases hu with rfl | rfl | hu
    · rfl
    · rfl
    · exact ih u hu
theorem cellsS_get (l : List (Int × Int)) (k : Nat) (h : k < l.length) : (cellsS l)[2 * k]? = some (.int .i64 (l.getD k (0, 0)).1) ∧ (cellsS l)[2 * k + 1]? = some (.int .i64 (l.getD k (0, 0)).2) := by
  induction l generalizing k with
  | nil => simp at h
  | cons p r ih =>
    cases k with
    | zero => exact ⟨rfl, rfl⟩
    | succ k =>
      have := ih k (by simpa using h)
      rw [show 2 * (k + 1) = 2 * k + 1 + 1 from by omega]
      simpa [cellsS] using this
theorem cellsS_take (l : List (Int × Int)) (n : Nat) : (cellsS l).take (n * 2) = cellsS (l.take n) := by
  induction l generalizing n with
  | nil => simp [cellsS]
  | cons p r ih =>
    cases n with
    | zero => simp [cellsS]
    | succ n =>
      rw [show (n + 1) * 2 = n * 2 + 1 + 1 from by omega]
      simp [cellsS, ih]
/-- The slice value v reads as the spans l. -/
def Spans (w : World) (v : Value) (l : List (Int × Int)) : Prop :=
  (v = .slice none 0 0 ∧ l = []) ∨ ∃ b off cap, v = .slice (some ⟨b, off, none⟩) l.length cap ∧ l.length ≤ cap ∧ cap ≤ maxLen ∧ ∀ j, j < l.length → w.cell? ⟨b, off + j * 2, none⟩ = some (.int .i64 (l.getD j (0, 0)).1) ∧ w.cell? ⟨b, off + (j * 2 + 1), none⟩ = some (.int .i64 (l.getD j (0, 0)).2)
theorem Spans.below {w w' : World} {v : Value} {l : List (Int × Int)} (h : Spans w v l) (hb : Below w.heap.size w w') : Spans w' v l := by
  rcases h with h | ⟨b, off, cap, h1, h2, h3, h4⟩
  · exact .inl h
  · refine .inr ⟨b, off, cap, h1, h2, h3, fun j hj => ?_⟩
    obtain ⟨h5, h6⟩ := h4 j hj
    rw [hb.cell (p := ⟨b, off + j * 2, none⟩) (lt_of_cell h5), hb.cell (p := ⟨b, off + (j * 2 + 1), none⟩) (lt_of_cell h6)]
    exact ⟨h5, h6⟩
theorem Spans.shape {w : World} {v : Value} {l : List (Int × Int)} (h : Spans w v l) : ∃ a cap, v = .slice a l.length cap := by
  rcases h with ⟨h1, h2⟩ | ⟨b, off, cap, h1, _⟩
  · exact ⟨none, 0, by rw [h1, h2]; rfl⟩
  · exact ⟨_, _, h1⟩
theorem Spans.size_le {w : World} {v : Value} {l : List (Int × Int)} (h : Spans w v l) : l.length ≤ maxLen := by
  rcases h with ⟨_, h⟩ | ⟨b, off, cap, _, h2, h3, _⟩
  · rw [h]; exact Nat.zero_le _
  · exact Nat.le_trans h2 h3
/-- A row of the call's own reads as its spans. -/
theorem Spans.of_own {w : World} {base : Nat} {v : Value} {l : List (Int × Int)} (h : w.ownsRow base 23 2 v l.length (cellsS l)) : Spans w v l := by
  rcases h.2 with ⟨h1, h2⟩ | ⟨g, cap, cur, h1, h2, h3, h4, h5, h6, h7⟩
  · exact .inl ⟨h1, List.eq_nil_of_length_eq_zero h2⟩
  · refine .inr ⟨g, 0, cap, h1, h4, h5, fun j hj => ?_⟩
    obtain ⟨e1, e2⟩ := cellsS_get l j hj
    have c1 := h.cells (g := g) (by rw [h1]; rfl) _ _ e1
    have c2 := h.cells (g := g) (by rw [h1]; rfl) _ _ e2
    rw [addr_add] at c1 c2
    rw [show 0 + j * 2 = 0 + 2 * j from by omega, show 0 + (j * 2 + 1) = 0 + (2 * j + 1) from by omega]
    exact ⟨c1, c2⟩
/-- A row of the call's own stays where nothing below the heap's size changes. -/
theorem own_below {w w' : World} {B e size n : Nat} {v : Value} {xs : List Value} (h : w.ownsRow B e size v n xs) (hb : Below w.heap.size w w') : w'.ownsRow B e size v n xs := by
  refine ⟨h.1, ?_⟩
  rcases h.2 with h0 | ⟨g, cap, cur, hv, hbg, hg, rest⟩
  · exact .inl h0
  · have hlt : g < w.heap.size := (Array.getElem?_eq_some_iff.1 hg).1
    exact .inr ⟨g, cap, cur, hv, hbg, (hb.block g hlt).trans hg, rest⟩
theorem infoSpan : (Try.prog.info? 23).map (fun i => (i.zero, i.size, i.bytes)) = some (some (.agg #[.int .i64 0, .int .i64 0]), 2, 16) := by kernel_rfl
/-- Does one stand ahead of the other one? -/
def ltB (a b : Int × Int) : Bool := decide (a.1 < b.1 ∨ (a.1 = b.1 ∧ a.2 < b.2))
end Go.Proofs.Ytfikgocaidaheaa
