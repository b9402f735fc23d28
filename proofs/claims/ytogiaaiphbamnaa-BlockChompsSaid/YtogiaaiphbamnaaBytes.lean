/- Rows of bytes of a call's own, put together piece by piece: append of bytes that stand in the text, as one law. -/
import Derived.Test.YtogiaaiphbamnaaConv
import Derived.Test.YtogiaaiphbamnaaCut
namespace Go.Proofs.Ytogiaaiphbamnaa
open Go.RowKit
open Go.Proofs.Ytogiaaiphbamnaa.Sg

theorem cellsOf_app (a b : ByteArray) : cellsOf (a ++ b) = cellsOf a ++ cellsOf b := by simp [cellsOf]
theorem cellsOf_len (a : ByteArray) : (cellsOf a).length = a.size := news_len a
theorem cells_new (w : World) (cs : List Value) (t : TypeId) : ∀ j u, cs[j]? = some u → (w.alloc (.cells cs.toArray t)).cell? ((⟨w.heap.size, 0, none⟩ : Addr).add j) = some u := by
  intro j u hj
  rw [addr_add, Nat.zero_add, World.cell?_alloc_mark]
  simpa using hj
/-- append(row, bytes that were just laid): the row's bytes and these. -/
theorem wpList_append_new {w0 : World} {ops : Array Oper} {rest : List Oper} {o : Oper} {a : Act} {Q : Exit → Act → World → Prop} (hgd : o.guard = none) (x y : Operand)
    (ho : o.op = .call { callee := .builtin .append, args := #[x, y], argTypes := #[37, 37] })
    (base : Nat) (v : Value) (t u : ByteArray) (cs : List Value) (m : Nat) (hs : a.eval x = v) (hown : w0.ownsRow base 5 1 v t.size (cellsOf t)) (hu : cellsOf u = cs) (hm : u.size = m)
    (hy : a.eval y = .slice (some ⟨w0.heap.size, 0, none⟩) m m) (hlen : t.size + m ≤ 1000000) (ww : World) (hB : Below base ww w0) (hbase : base ≤ ww.heap.size)
    (h : ∀ v' w', w'.ownsRow base 5 1 v' (t ++ u).size (cellsOf (t ++ u)) → Below base ww w' → wpList Try.prog ops Q rest (a.put o.dst v') w') :
    wpList Try.prog ops Q (o :: rest) a (w0.alloc (.cells cs.toArray 5)) := by
  obtain ⟨i0, hi, hz0, hz1, hz2⟩ := info_parts infoByte
  subst hu
  subst hm
  have hX := hown.alloc (.cells (cellsOf u).toArray 5)
  refine wpList_append_own _ hgd x y 37 ho base 5 i0 (.int .u8 0) 1 1 Try.underlying37 hi hz0 hz1 hz2 rfl (by decide) v _ _ hs hX ⟨w0.heap.size, 0, none⟩ u.size u.size (cellsOf u) hy (by rw [cellsOf_len, Nat.mul_one]) (cells_new w0 (cellsOf u) 5) (news_one u) (by simp only [maxLen]; omega) (by omega) (by have := hB.size; simp; omega) (fun v' w' q1 q2 _ => h v' w' ?_ ?_)
  · rw [cellsOf_app, app_size]; exact q1
  · exact (hB.alloc (Nat.le_trans hbase hB.size) _).grown q2 (by have := hB.size; simp; omega) (fun j hj => (hX.lt j hj).1)
/-- A row of the call's own reads as its bytes. -/
theorem Bys.own {w : World} {base : Nat} {v : Value} {s : ByteArray} (h : w.ownsRow base 5 1 v s.size (cellsOf s)) : Bys w v s := Bys.of_own h
end Go.Proofs.Ytogiaaiphbamnaa
