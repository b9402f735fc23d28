/- append as one step of a region that draws: bytes from whatever slice, a string's bytes. -/
import Derived.Test.YtmkchfpmlidaiaaBytes
import Derived.Lib.AppendStr
import Derived.Laws.AppendOwnNone
import Derived.Deep.RegionHeld3
namespace Go.Proofs.Ytmkchfpmlidaiaa
open Go.RowKit

theorem cells_str (s : ByteArray) : Lib.strCells s = cellsOf s := rfl
theorem step_append_bys {w : World} {ops : Array Oper} {o : Oper} {a : Act} {K : Act → World → Prop} {Q : Exit → Act → World → Prop} {E : Prop} (hgd : o.guard = none) (x y : Operand)
    (ho : o.op = .call { callee := .builtin .append, args := #[x, y], argTypes := #[34, 34] })
    (base : Nat) (v : Value) (n : Nat) (xs : List Value) (hs : a.eval x = v) (hown : w.ownsRow base 5 1 v n xs) (yv : Value) (s : ByteArray) (hy : a.eval y = yv) (hb : Bys w yv s)
    (hlen : n + s.size ≤ 140737488355328) (hbase : base ≤ w.heap.size)
    (h : ∀ v' w', w'.ownsRow base 5 1 v' (n + s.size) (xs ++ cellsOf s) → w.grownBy w' v.ownBlock → K (a.put o.dst v') w') :
    if Region.wanted o (yielded ops a.tmps) = true then Oper.wp Try.prog o a w K Q else E := by
  obtain ⟨i0, hi, hz0, hz1, hz2⟩ := info_parts infoByte
  have hw : Region.wanted o (yielded ops a.tmps) = true := by simp [Region.wanted, hgd]
  rw [if_pos hw]
  rcases hb with ⟨rfl, hz⟩ | ⟨b, off, cap, rfl, h2, h3, h4⟩
  · have hrun := run_append_owned_none (P := Try.prog) (w := w) base 34 o.type 5 i0 1 Try.underlying34 hi v n xs hown
    unfold Oper.wp execOp
    simp only [ho, resolve, invoke, builtin, Sem.run_bind, Sem.run_pure, Result.andThen_ok, List.map_toArray, List.map_cons, List.map_nil, hs, hy, hrun]
    have e : cellsOf s = [] := by
      have : s.data.toList.length = 0 := by rw [← Lib.size_eq]; exact hz
      rw [cellsOf, List.eq_nil_of_length_eq_zero this]; rfl
    refine h v w ?_ ⟨rfl, rfl, rfl, Nat.le_refl _, fun _ _ _ => rfl⟩
    rw [e, hz, List.append_nil, Nat.add_zero]
    exact hown
  · exact wp_append_own w x y 34 ho base 5 i0 (.int .u8 0) 1 1 Try.underlying34 hi hz0 hz1 hz2 rfl (by decide) v n xs hs hown ⟨b, off, none⟩ s.size cap (cellsOf s) hy (by rw [cellsOf, news_len, Nat.mul_one]) (news_of h4) (news_one s) (by simp only [maxLen]; omega) (by omega) hbase (fun v' w' q1 q2 _ => h v' w' q1 q2)
theorem step_append_str {w : World} {ops : Array Oper} {o : Oper} {a : Act} {K : Act → World → Prop} {Q : Exit → Act → World → Prop} {E : Prop} (hgd : o.guard = none) (x y : Operand)
    (ho : o.op = .call { callee := .builtin .append, args := #[x, y], argTypes := #[34, 9] })
    (base : Nat) (v : Value) (n : Nat) (xs : List Value) (hs : a.eval x = v) (hown : w.ownsRow base 5 1 v n xs) (s : ByteArray) (hy : a.eval y = .string s)
    (hlen : n + s.size ≤ 140737488355328) (hbase : base ≤ w.heap.size)
    (h : ∀ v' w', w'.ownsRow base 5 1 v' (n + s.size) (xs ++ cellsOf s) → w.grownBy w' v.ownBlock → K (a.put o.dst v') w') :
    if Region.wanted o (yielded ops a.tmps) = true then Oper.wp Try.prog o a w K Q else E := by
  obtain ⟨i0, hi, hz0, hz1, hz2⟩ := info_parts infoByte
  have hw : Region.wanted o (yielded ops a.tmps) = true := by simp [Region.wanted, hgd]
  rw [if_pos hw]
  obtain ⟨v', w', hr, h2, h3, h4⟩ := Lib.run_append_own_string (P := Try.prog) (w := w) base 34 9 o.type 5 i0 Try.underlying34 (by kernel_rfl) hi hz0 hz1 hz2 v n xs hown s (by simp only [maxLen]; omega) hlen hbase
  unfold Oper.wp execOp
  simp only [ho, resolve, invoke, builtin, Sem.run_bind, Sem.run_pure, Result.andThen_ok, List.map_toArray, List.map_cons, List.map_nil, hs, hy, hr]
  exact h v' w' h2 h3
end Go.Proofs.Ytmkchfpmlidaiaa
