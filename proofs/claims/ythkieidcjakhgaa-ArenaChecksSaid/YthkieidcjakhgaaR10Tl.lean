/- A tree's variable is stored to: the nodes stay. -/
import Derived.Test.YthkieidcjakhgaaAid10
namespace Go.Proofs.Ythkieidcjakhgaa
open Go.RowKit
open Go.Proofs.Ythkieidcjakhgaa.Sq
open Go.Proofs.Ythkieidcjakhgaa.Ar
set_option linter.unusedVariables false

theorem set_keeps {W : World} {tb : Nat} {a : Option Addr} {n c : Nat} (hc : W.cell? ⟨tb, 0, none⟩ = some (.slice a n c)) (v : Value) (q : Addr) (u : Value) (hq : W.cell? q = some u) (hu : q = ⟨tb, 0, none⟩ → ∀ a n c, u ≠ .slice a n c) : (W.setCell ⟨tb, 0, none⟩ v).cell? q = some u := by
  by_cases e : q = ⟨tb, 0, none⟩
  · rw [e, hc] at hq
    exact absurd (Option.some.inj hq).symm (hu e a n c)
  · rw [World.cell?_setCell_other _ _ _ _ (fun h => e h.symm)]; exact hq
theorem Nodes.set {W : World} {tb : Nat} {a : Option Addr} {n c : Nat} {u : Value} {l : List Nd} (h : Nodes W u l) (hc : W.cell? ⟨tb, 0, none⟩ = some (.slice a n c)) (v : Value) : Nodes (W.setCell ⟨tb, 0, none⟩ v) u l := by
  obtain ⟨L, h1, h2, h3⟩ := h
  refine ⟨L, h1, ?_, fun p hp => ?_⟩
  · rcases h2 with h2 | ⟨b, off, cap, e1, e2, e3, e4⟩
    · exact .inl h2
    · refine .inr ⟨b, off, cap, e1, e2, e3, fun j x hj i w hw => set_keeps hc v _ _ (e4 j x hj i w hw) (fun e a n c => ?_)⟩
      have h0 : off + j * encN.k + i = 0 := by injection e
      have hi : i = 0 := by omega
      subst hi
      have hx : (encN.cells x)[0]? = some (.int .i64 x.nd.k) := rfl
      rw [hx] at hw
      obtain rfl := Option.some.inj hw
      intro e; cases e
  · rcases h3 p hp with h2 | ⟨b, off, cap, e1, e2, e3, e4⟩
    · exact .inl h2
    · refine .inr ⟨b, off, cap, e1, e2, e3, fun j x hj i w hw => set_keeps hc v _ _ (e4 j x hj i w hw) (fun e a n c => ?_)⟩
      cases i with
      | zero => obtain rfl := Option.some.inj hw
                intro e; cases e
      | succ i => cases hw
end Go.Proofs.Ythkieidcjakhgaa
