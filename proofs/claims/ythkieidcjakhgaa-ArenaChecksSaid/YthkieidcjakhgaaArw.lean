/- Nodes as they come in from without: rows of kids that hold nothing may point anywhere. -/
import Derived.Test.YthkieidcjakhgaaAr5
namespace Go.Proofs.Ythkieidcjakhgaa
open Go.RowKit
open Go.Proofs.Ythkieidcjakhgaa.Sq
open Go.Proofs.Ythkieidcjakhgaa.Ar
set_option linter.unusedVariables false

/-- Where a row's numbers stand. -/
def KidsAt (w : World) (a : Option Addr) (ks : List Int) : Prop := ∀ (j : Nat) (z : Int), ks[j]? = some z → ∃ b off, a = some ⟨b, off, none⟩ ∧ w.cell? ⟨b, off + j, none⟩ = some (.int .i64 z)
def NodesW (w : World) (v : Value) (l : List Nd) : Prop := ∃ L : List Ln, L.map Ln.nd = l ∧ Reads encN w v L ∧ ∀ p ∈ L, p.n = p.nd.ks.length ∧ p.n ≤ maxLen ∧ KidsAt w p.a p.nd.ks
section
variable {w w' : World} {v : Value} {l : List Nd}
theorem Nodes.weak (h : Nodes w v l) : NodesW w v l := by
  obtain ⟨L, h1, h2, h3⟩ := h
  refine ⟨L, h1, h2, fun p hp => ?_⟩
  have hk := h3 p hp
  have hn := val_len hk
  refine ⟨hn, by rw [hn]; exact hk.size_le, fun j z hz => ?_⟩
  have hk' : Reads encI w (.slice p.a p.nd.ks.length p.c) p.nd.ks := by rw [← hn]; exact hk
  exact kids_at hk' j z hz
theorem NodesW.below (h : NodesW w v l) (hb : Below w.heap.size w w') : NodesW w' v l := by
  obtain ⟨L, h1, h2, h3⟩ := h
  refine ⟨L, h1, h2.below hb, fun p hp => ⟨(h3 p hp).1, (h3 p hp).2.1, fun j z hz => ?_⟩⟩
  obtain ⟨b, off, e, hc⟩ := (h3 p hp).2.2 j z hz
  exact ⟨b, off, e, at_below hb hc⟩
theorem NodesW.shape (h : NodesW w v l) : ∃ a cap, v = .slice a l.length cap := by
  obtain ⟨L, h1, h2, _⟩ := h
  obtain ⟨a, cap, e⟩ := h2.shape
  exact ⟨a, cap, by rw [e, ← h1, List.length_map]⟩
theorem NodesW.size_le (h : NodesW w v l) : l.length ≤ maxLen := by
  obtain ⟨L, h1, h2, _⟩ := h
  rw [← h1, List.length_map]; exact h2.size_le
theorem NodesW.at_ {a : Option Addr} {cap : Nat} (h : NodesW w (.slice a l.length cap) l) (j : Nat) (x : Nd) (hj : l[j]? = some x) :
    ∃ b off ka kc, a = some ⟨b, off, none⟩ ∧ w.cell? ⟨b, off + j * 6, none⟩ = some (.int .i64 x.k) ∧ w.cell? ⟨b, off + j * 6 + 1, none⟩ = some (.int .i64 x.f) ∧ w.cell? ⟨b, off + j * 6 + 2, none⟩ = some (.int .i64 x.t) ∧ w.cell? ⟨b, off + j * 6 + 3, none⟩ = some (.int .i64 x.u) ∧
      w.cell? ⟨b, off + j * 6 + 4, none⟩ = some (.slice ka x.ks.length kc) ∧ w.cell? ⟨b, off + j * 6 + 5, none⟩ = some (.bool x.y) ∧ KidsAt w ka x.ks ∧ x.ks.length ≤ maxLen := by
  obtain ⟨L, h1, h2, h3⟩ := h
  have hlen : L.length = l.length := by rw [← h1, List.length_map]
  rw [← hlen] at h2
  rw [← h1, List.getElem?_map] at hj
  cases hp : L[j]? with
  | none => rw [hp] at hj; cases hj
  | some p =>
    rw [hp] at hj
    injection hj with hj
    subst hj
    obtain ⟨b, off, e, hc⟩ := h2.at_ j p hp
    obtain ⟨hn, hm, hk⟩ := h3 p (List.mem_of_getElem? hp)
    refine ⟨b, off, p.a, p.c, e, hc 0 _ rfl, hc 1 _ rfl, hc 2 _ rfl, hc 3 _ rfl, ?_, hc 5 _ rfl, hk, by rw [← hn]; exact hm⟩
    rw [← hn]; exact hc 4 _ rfl
end
end Go.Proofs.Ythkieidcjakhgaa
