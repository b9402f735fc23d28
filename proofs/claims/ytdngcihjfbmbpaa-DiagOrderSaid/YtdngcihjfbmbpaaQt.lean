/- A region that draws its order, reads first and ends with one call that makes memory: walked once, in the text's order. -/
import Derived.StillTail
import Derived.BigQuiet
namespace Go

theorem still_of_quietAt {P : Program} {o : Oper} {a : Act} {w : World} {v : Value} {K : Act → Prop} (h : o.quietAt P a (fun W => W = w) w v) (hk : K (a.put o.dst v)) : o.still P a w K := by
  unfold Oper.quietAt at h
  unfold Oper.still
  revert h
  generalize (execOp a.eval o).run P w = r
  intro h
  cases r with
  | halt x w' => exact h.elim
  | ok n w' =>
    cases n with
    | value u => obtain ⟨rfl, rfl⟩ := h; exact ⟨rfl, hk⟩
    | skip => obtain ⟨rfl, rfl⟩ := h; exact ⟨rfl, hk⟩
    | enter f args => obtain ⟨rfl, hc⟩ := h; exact ⟨rfl, v, hc, hk⟩
    | _ => exact h.elim
theorem wpStill_of_quiet {P : Program} {ops : Array Oper} {w : World} {Q : Act → Prop} : ∀ (l : List Oper) (a : Act), wpQuiet P ops (fun W => W = w) Q l a → wpStill P ops w Q l a
  | [], _, h => h
  | o :: rest, a, h => by
    unfold wpQuiet at h
    unfold wpStill
    by_cases hw : Region.wanted o (yielded ops a.tmps) = true
    · rw [if_pos hw] at h ⊢
      obtain ⟨v, h1, h2⟩ := h
      exact still_of_quietAt (h1 w rfl) (wpStill_of_quiet rest _ h2)
    · rw [if_neg hw] at h ⊢
      exact wpStill_of_quiet rest _ h
theorem wp_region_quiet_tail {P : Program} {id : Nat} {Q : Exit → Act → World → Prop} {a : Act} {w : World} {l : List Oper} (n : Nat) (hm : P.follows .mixedOrders = true) (hB : Region.lexTailB .any l.toArray n = true)
    (h : wpQuiet P l.toArray (fun W => W = w.drew) (fun a' => wpList P l.toArray Q (l.drop n) a' w.drew) (l.take n) a) : (Code.region id l.toArray true).wp P Q a w :=
  wp_region_still_tail n hm hB (wpStill_of_quiet _ _ h)
end Go
