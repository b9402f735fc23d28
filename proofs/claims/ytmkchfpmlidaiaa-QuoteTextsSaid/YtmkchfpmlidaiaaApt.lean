/- append(row of bytes of the call's own, text...), and of one more byte. -/
import Derived.Test.YtmkchfpmlidaiaaBytes
import Derived.Lib.AppendStr
import Derived.Lib.OwnKind
namespace Go.Proofs.Ytmkchfpmlidaiaa
open Go.RowKit

theorem wpList_append_text {w : World} {ops : Array Oper} {rest : List Oper} {o : Oper} {a : Act} {Q : Exit → Act → World → Prop} (hgd : o.guard = none) (x y : Operand)
    (ho : o.op = .call { callee := .builtin .append, args := #[x, y], argTypes := #[34, 9] })
    (base : Nat) (v : Value) (n : Nat) (xs : List Value) (hs : a.eval x = v) (hown : w.ownsRow base 5 1 v n xs) (s : ByteArray) (hy : a.eval y = .string s)
    (hlen : n + s.size ≤ 140737488355328) (hbase : base ≤ w.heap.size)
    (h : ∀ v' w', w'.ownsRow base 5 1 v' (n + s.size) (xs ++ cellsOf s) → w.grownBy w' v.ownBlock → wpList Try.prog ops Q rest (a.put o.dst v') w') : wpList Try.prog ops Q (o :: rest) a w := by
  obtain ⟨i0, hi, hz0, hz1, hz2⟩ := info_parts infoByte
  refine wpList_plain hgd fun K hK => ?_
  obtain ⟨v', w', hr, h2, h3, h4⟩ := Lib.run_append_own_string (P := Try.prog) (w := w) base 34 9 o.type 5 i0 Try.underlying34 (by kernel_rfl) hi hz0 hz1 hz2 v n xs hown s (by simp only [maxLen]; omega) hlen hbase
  unfold Oper.wp execOp
  simp only [ho, resolve, invoke, builtin, Sem.run_bind, Sem.run_pure, Result.andThen_ok, List.map_toArray, List.map_cons, List.map_nil, hs, hy, hr]
  exact hK _ _ (h v' w' h2 h3)
theorem own_join {W : World} {B : Nat} {v : Value} {out x : ByteArray} (h : W.ownsRow B 5 1 v (out.size + x.size) (cellsOf out ++ cellsOf x)) : W.ownsRow B 5 1 v (out ++ x).size (cellsOf (out ++ x)) := by
  rw [Sg.app_size, cellsOf_app]; exact h
/-- What Below says where a row of the call's own has grown. -/
theorem own_grown {a w w' : World} {B : Nat} {row : Option Nat} (h : Below B a w) (hg : w.grownBy w' row) (hr : ∀ k, row = some k → B ≤ k) (hB : B ≤ w.heap.size) : Below B a w' := h.grown hg hB hr
end Go.Proofs.Ytmkchfpmlidaiaa
