/- Appending a span to a row of the call's own; spans held against one another; what stays over calls that turn the heap. -/
import Derived.Test.YtfikgocaidaheaaHq2
import Derived.Laws.StructEq
namespace Go.Proofs.Ytfikgocaidaheaa
open Go.RowKit
open Go.Proofs.Ytfikgocaidaheaa.Hp

theorem guard_span : Try.prog.eqGuardType Try.prog.depth 23 = false := by kernel_rfl
theorem eql_span (a b c d : Int) (w : World) : (binOp .eql 23 (.agg #[.int .i64 a, .int .i64 b]) (.agg #[.int .i64 c, .int .i64 d])).run Try.prog w = .ok (.bool ((a == c) && (b == d))) w := by
  have u3 := Try.underlying3
  have hS : Try.prog.underlying 23 = some (.struct (Try.prog.fieldsOf 23)) := by kernel_rfl
  have hp : Try.prog.stoodInHeld 23 = false := by kernel_rfl
  rw [run_eql_struct, show (10000 : Nat) = 9999 + 1 from rfl, run_equalIn_agg w 9999 23 _ _ hS hp]
  simp only [Program.fieldsOf, Try.underlying23]
  go_simp
  by_cases h1 : a = c <;> by_cases h2 : b = d <;> simp [h1, h2]
theorem neq_span (a b c d : Int) (w : World) : (binOp .neq 23 (.agg #[.int .i64 a, .int .i64 b]) (.agg #[.int .i64 c, .int .i64 d])).run Try.prog w = .ok (.bool (!((a == c) && (b == d)))) w := by
  have h := eql_span a b c d w
  rw [run_eql_struct] at h
  rw [run_neq_struct]
  revert h
  generalize (Op.equalIn 10000 23 (.agg #[.int .i64 a, .int .i64 b]) (.agg #[.int .i64 c, .int .i64 d])).run Try.prog w = r
  intro h
  cases r with
  | ok x w1 =>
    simp only [Result.andThen_ok] at h ⊢
    injection h with h1 h2
    injection h1 with h1
    rw [h1, h2]
  | halt x w1 => simp [Result.andThen] at h
/-- append(row of the call's own, a span that was just laid). -/
theorem wpList_append_span {w0 : World} {ops : Array Oper} {rest : List Oper} {o : Oper} {act : Act} {Q : Exit → Act → World → Prop} (hgd : o.guard = none) (x y : Operand)
    (ho : o.op = .call { callee := .builtin .append, args := #[x, y], argTypes := #[28, 28] })
    (base : Nat) (v : Value) (l : List (Int × Int)) (a b : Int) (hs : act.eval x = v) (hown : w0.ownsRow base 23 2 v l.length (cellsS l))
    (hy : act.eval y = .slice (some ⟨w0.heap.size, 0, none⟩) 1 1) (hlen : l.length ≤ 100000) (hbase : base ≤ w0.heap.size)
    (h : ∀ v' w', w'.ownsRow base 23 2 v' (l ++ [(a, b)]).length (cellsS (l ++ [(a, b)])) → (w0.alloc (box a b)).grownBy w' v.ownBlock → wpList Try.prog ops Q rest (act.put o.dst v') w') :
    wpList Try.prog ops Q (o :: rest) act (w0.alloc (.cells #[.int .i64 a, .int .i64 b] 23)) := by
  obtain ⟨i0, hi0, hz0, hz1, hz2⟩ := info_parts infoSpan
  refine wpList_append_own _ hgd x y 28 ho base 23 i0 _ 2 16 Try.underlying28 hi0 hz0 hz1 hz2 rfl (by decide) v l.length (cellsS l) hs (hown.alloc _) ⟨w0.heap.size, 0, none⟩ 1 1 [.int .i64 a, .int .i64 b] hy rfl ?_ ?_ (by simp only [maxLen]; omega) (by omega) (by simp; omega) (fun v' w' q1 q2 _ => h v' w' ?_ q2)
  · intro j u hu
    rw [addr_add, Nat.zero_add]
    match j, hu with
    | 0, hu => rw [← Option.some.inj hu]; exact (box_new w0 a b).1
    | 1, hu => rw [← Option.some.inj hu]; exact (box_new w0 a b).2
  · intro u hu
    simp only [List.mem_cons, List.not_mem_nil, or_false] at hu
    rcases hu with rfl | rfl <;> rfl
  · rw [cellsS_app, show (l ++ [(a, b)]).length = l.length + 1 from by simp]
    exact q1
theorem keep_here {W w' : World} {pb : Nat} {rb : Option Nat} {b o : Nat} {u : Value} (hk : Keep pb rb W w') (h1 : b ≠ pb) (h2 : rb ≠ some b) (h : Here W b o u) : Here w' b o u := by
  have e := hk.block b (lt_of_cell h.1) h1 h2
  exact ⟨(World.cell?_of_block (a := ⟨b, o, none⟩) e).trans h.1, (World.frozen?_of_block (a := ⟨b, o, none⟩) e).trans h.2⟩
theorem HeapAt.pb_lt {w : World} {pb : Nat} {rb : Option Nat} {l : List (Int × Int)} (h : HeapAt w pb rb l) : pb < w.heap.size := by
  obtain ⟨v, h1, _⟩ := h
  exact (Array.getElem?_eq_some_iff.1 h1).1
theorem HeapAt.rb_lt {w : World} {pb : Nat} {rb : Option Nat} {l : List (Int × Int)} (h : HeapAt w pb rb l) : ∀ g, rb = some g → pb < g ∧ g < w.heap.size := by
  rintro g rfl
  obtain ⟨v, _, h2, h3⟩ := h
  exact h2.lt g h3
/-- The heap stays where its two blocks do. -/
theorem HeapAt.same {w w' : World} {pb : Nat} {rb : Option Nat} {l : List (Int × Int)} (h : HeapAt w pb rb l) (hp : w'.heap[pb]? = w.heap[pb]?) (hr : ∀ g, rb = some g → w'.heap[g]? = w.heap[g]?) : HeapAt w' pb rb l := by
  obtain ⟨v, h1, h2, h3⟩ := h
  refine ⟨v, hp.trans h1, ⟨h2.1, ?_⟩, h3⟩
  rcases h2.2 with h0 | ⟨g, cap, cur, rfl, hg, hc, r⟩
  · exact .inl h0
  · exact .inr ⟨g, cap, cur, rfl, hg, (hr g h3.symm).trans hc, r⟩
theorem Keep.setNew {pb : Nat} {rb : Option Nat} {a w : World} (h : Keep pb rb a w) {b : Nat} (hb : a.heap.size ≤ b) (o : Nat) (v : Value) : Keep pb rb a (w.setCell ⟨b, o, none⟩ v) :=
  ⟨h.os, h.tape, h.output, by simpa using h.size, fun k hk h1 h2 => by rw [Below.heap_setCell _ _ _ _ (by simp only; omega)]; exact h.block k hk h1 h2⟩
theorem HeapAt.setOther {w : World} {pb : Nat} {rb : Option Nat} {l : List (Int × Int)} (h : HeapAt w pb rb l) {b : Nat} (h1 : b ≠ pb) (h2 : rb ≠ some b) (o : Nat) (v : Value) : HeapAt (w.setCell ⟨b, o, none⟩ v) pb rb l :=
  h.same (Below.heap_setCell _ _ _ _ (by simp only; omega)) (fun g hg => Below.heap_setCell _ _ _ _ (by simp only; intro e; exact h2 (by rw [hg, e])))
theorem Keep.below {pb : Nat} {rb : Option Nat} {w w' : World} (h : Keep pb rb w w') (hr : ∀ g, rb = some g → pb < g) (hp : pb ≤ w.heap.size) : Below pb w w' :=
  ⟨h.os, h.tape, h.output, h.size, fun k hk => h.block k (by omega) (by omega) (fun e => by have := hr k e; omega)⟩
/-- A row that is not the heap's stays over what turns the heap. -/
theorem own_keep {w w' : World} {pb : Nat} {rb : Option Nat} {B e size n : Nat} {v : Value} {xs : List Value} (h : w.ownsRow B e size v n xs) (hk : Keep pb rb w w') (hp : pb < B) (hr : ∀ g, rb = some g → g < B) : w'.ownsRow B e size v n xs := by
  refine ⟨h.1, ?_⟩
  rcases h.2 with h0 | ⟨g, cap, cur, hv, hbg, hg, rest⟩
  · exact .inl h0
  · have hlt : g < w.heap.size := (Array.getElem?_eq_some_iff.1 hg).1
    exact .inr ⟨g, cap, cur, hv, hbg, (hk.block g hlt (by omega) (fun e => by have := hr g e; omega)).trans hg, rest⟩
/-- The heap stays where a row that lies further up grows. -/
theorem HeapAt.grown {w w' : World} {pb : Nat} {rb : Option Nat} {l : List (Int × Int)} {B : Nat} {row : Option Nat} (h : HeapAt w pb rb l) (hg : w.grownBy w' row) (hp : pb < B) (hr : ∀ g, rb = some g → g < B) (hrow : ∀ k, row = some k → B ≤ k) : HeapAt w' pb rb l :=
  h.same (hg.block pb h.pb_lt (fun e => by have := hrow pb e.symm; omega)) (fun g e => hg.block g (h.rb_lt g e).2 (fun e2 => by have := hrow g e2.symm; have := hr g e; omega))
end Go.Proofs.Ytfikgocaidaheaa
