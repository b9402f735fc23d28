/- A store into a row of a call's own; where such a row lies (any program). -/
import Derived.Test.YtdngcihjfbmbpaaDoorSqb
import Derived.Below
import Derived.WalkKit
import Derived.OneCell
import Derived.Lib.SmallJoins
namespace Go.Proofs.YtdngcihjfbmbpaaDoor.Zm
open Go.RowKit
open Go.Proofs.YtdngcihjfbmbpaaDoor.Sq
set_option linter.unusedVariables false

/-- One cell of a row of the call's own is stored. -/
theorem all_set {α : Type} (E : Enc α) : ∀ (L : List α) (i j : Nat) (x x' : α) (u : Value), L[i]? = some x → E.cells x' = (E.cells x).set j u → j < E.k → E.all (L.set i x') = (E.all L).set (i * E.k + j) u
  | [], i, j, x, x', u => fun h => by simp at h
  | y :: r, 0, j, x, x', u => fun h hc hj => by
    obtain rfl : y = x := by simpa using h
    rw [List.set_cons_zero, Enc.all, Enc.all, hc, Nat.zero_mul, Nat.zero_add, List.set_append_left _ _ (by rw [E.len]; exact hj)]
  | y :: r, i + 1, j, x, x', u => fun h hc hj => by
    rw [List.set_cons_succ, Enc.all, Enc.all, all_set E r i j x x' u (by simpa using h) hc hj, List.set_append_right _ _ (by rw [E.len, Nat.add_mul]; omega), E.len]
    congr 2
    rw [Nat.add_mul]; omega
theorem own_set {α : Type} {E : Enc α} {w : World} {B e g n cap : Nat} {L : List α} (h : w.ownsRow B e E.k (.slice (some ⟨g, 0, none⟩) n cap) L.length (E.all L)) (i j : Nat) (x x' : α) (u : Value) (hx : L[i]? = some x) (hc : E.cells x' = (E.cells x).set j u) (hj : j < E.k) :
    (w.setCell ⟨g, i * E.k + j, none⟩ u).ownsRow B e E.k (.slice (some ⟨g, 0, none⟩) n cap) (L.set i x').length (E.all (L.set i x')) := by
  have hi := (List.getElem?_eq_some_iff.1 hx).1
  obtain ⟨h1, h2⟩ := h
  rcases h2 with ⟨h2, _⟩ | ⟨g', cap', cur, hv, hg, hh, hn, hcp, hcs, ht⟩
  · cases h2
  · obtain ⟨e1, e2, e3⟩ := Value.slice.inj hv
    injection e1 with e1
    injection e1 with e1
    subst e1 e3
    refine ⟨by rw [all_len], .inr ⟨g, cap, cur.setIfInBounds (i * E.k + j) u, by rw [List.length_set, ← e2], hg, Joins.block_setCell hh u, by rw [List.length_set]; exact hn, hcp, by simpa using hcs, ?_⟩⟩
    rw [List.length_set, all_set E L i j x x' u hx hc hj, ← ht, Array.toList_setIfInBounds, List.take_set]
/-- A row of the call's own that holds something: where it lies, that it may be written. -/
theorem own_at {α : Type} {E : Enc α} {w : World} {B e : Nat} {v : Value} {L : List α} (h : w.ownsRow B e E.k v L.length (E.all L)) (h0 : 0 < L.length) :
    ∃ g cap, v = .slice (some ⟨g, 0, none⟩) L.length cap ∧ B ≤ g ∧ (∀ o, w.frozen? ⟨g, o, none⟩ = false) ∧ L.length ≤ cap ∧ cap ≤ maxLen := by
  rcases h.2 with ⟨_, h2⟩ | ⟨g, cap, cur, hv, hg, hh, hn, hcp, hcs, ht⟩
  · omega
  · exact ⟨g, cap, hv, hg, fun o => Joins.unfrozen_of_block hh o, hn, hcp⟩
theorem below_from {w w1 w2 : World} (h1 : Below w.heap.size w w1) (h2 : Below w1.heap.size w1 w2) : Below w.heap.size w w2 := h1.trans (h2.mono h1.size)
theorem below_drewN {B : Nat} {a w : World} (h : Below B a w) (n : Nat) : Below B a (w.drewN n) := ⟨h.os, h.tape, h.output, h.size, h.block⟩
/-- append(row of the call's own, elements...) behind a guard that holds. -/
theorem append_allG {α : Type} {E : Enc α} {w : World} {P : Program} {t e : TypeId} {bytes : Nat} (T : Ty P E t e bytes) {ops : Array Oper} {rest : List Oper} {o : Oper} {act : Act} {Q : Exit → Act → World → Prop} (hw : Region.wanted o (yielded ops act.tmps) = true) (x y : Operand)
    (ho : o.op = .call { callee := .builtin .append, args := #[x, y], argTypes := #[t, t] })
    (base : Nat) (v : Value) (l : List α) (hs : act.eval x = v) (hown : w.ownsRow base e E.k v l.length (E.all l)) (yv : Value) (m : List α) (hy : act.eval y = yv) (hb : Reads E w yv m)
    (hmax : l.length + m.length ≤ maxLen) (hlen : (l.length + m.length) * bytes ≤ 140737488355328) (hbase : base ≤ w.heap.size)
    (h : ∀ v' w', w'.ownsRow base e E.k v' (l ++ m).length (E.all (l ++ m)) → w.grownBy w' v.ownBlock → wpList P ops Q rest (act.put o.dst v') w') :
    wpList P ops Q (o :: rest) act w := by
  obtain ⟨i, z, hi, hz, hsz, hby, hzs⟩ := T.parts
  refine wpList_step fun K hK => ?_
  rw [if_pos hw]
  rcases hb with ⟨rfl, rfl⟩ | ⟨b, off, cap, rfl, h2, h3, h4⟩
  · have hrun := run_append_owned_none (P := P) (w := w) base t o.type e i E.k T.ht hi v l.length (E.all l) hown
    unfold Oper.wp execOp
    simp only [ho, resolve, invoke, builtin, Sem.run_bind, Sem.run_pure, Result.andThen_ok, List.map_toArray, List.map_cons, List.map_nil, hs, hy, hrun]
    refine hK _ _ (h v w ?_ ⟨rfl, rfl, rfl, Nat.le_refl _, fun _ _ _ => rfl⟩)
    rw [List.append_nil]
    exact hown
  · exact wp_append_own w x y t ho base e i z E.k bytes T.ht hi hz hsz hby hzs E.pos v l.length (E.all l) hs hown ⟨b, off, none⟩ m.length cap (E.all m) hy (all_len E m) (news h4) (all_one E m) hmax hlen hbase (fun v' w' q1 q2 _ => hK _ _ (h v' w' (by rw [all_app, List.length_append]; exact q1) q2))
end Go.Proofs.YtdngcihjfbmbpaaDoor.Zm
