/- Pieces of slices of spans; append of spans, whatever slice they come in. -/
import Derived.Test.YtfikgocaidaheaaSpa
import Derived.Laws.AppendOwnNone
namespace Go.Proofs.Ytfikgocaidaheaa
open Go.RowKit

theorem getD_take (l : List (Int × Int)) (n j : Nat) (h : j < n) : (l.take n).getD j (0, 0) = l.getD j (0, 0) := by simp [List.getD, h]
theorem getD_drop (l : List (Int × Int)) (n j : Nat) : (l.drop n).getD j (0, 0) = l.getD (n + j) (0, 0) := by simp [List.getD]
theorem Spans.cap_le {w : World} {a : Option Addr} {l : List (Int × Int)} {cap : Nat} (h : Spans w (.slice a l.length cap) l) : l.length ≤ cap ∧ cap ≤ maxLen := by
  rcases h with ⟨hv, h0⟩ | ⟨b, off, cap', hv, g2, g3, g4⟩
  · obtain ⟨rfl, -, rfl⟩ := Value.slice.inj hv
    exact ⟨by rw [h0]; exact Nat.le_refl _, Nat.zero_le _⟩
  · obtain ⟨rfl, -, rfl⟩ := Value.slice.inj hv
    exact ⟨g2, g3⟩
theorem elem_spans : Try.prog.underlying 28 = some (.slice (Try.prog.elem 28)) := by kernel_rfl
theorem size_spans (w : World) : (sizeOf (Try.prog.elem 28)).run Try.prog w = .ok 2 w := by kernel_rfl
theorem spans_cut {w : World} {a : Option Addr} {l : List (Int × Int)} {cap lo hi : Nat} (h : Spans w (.slice a l.length cap) l) (h1 : lo ≤ hi) (h2 : hi ≤ l.length) :
    Spans w (.slice (if cap = lo then a else a.map fun x => x.add (lo * 2)) (hi - lo) (cap - lo)) ((l.drop lo).take (hi - lo)) := by
  have hz : ((l.drop lo).take (hi - lo)).length = hi - lo := by rw [List.length_take, List.length_drop]; omega
  rcases h with ⟨hv, h0⟩ | ⟨b, off, cap', hv, g2, g3, g4⟩
  · obtain ⟨rfl, -, rfl⟩ := Value.slice.inj hv
    subst h0
    obtain rfl : hi = 0 := by simpa using h2
    obtain rfl : lo = 0 := by omega
    exact .inl ⟨rfl, rfl⟩
  · obtain ⟨rfl, -, rfl⟩ := Value.slice.inj hv
    by_cases hc : cap = lo
    · rw [if_pos hc]
      refine .inr ⟨b, off, cap - lo, by rw [hz], by omega, by omega, fun j hj => ?_⟩
      rw [hz] at hj; omega
    · rw [if_neg hc]
      refine .inr ⟨b, off + lo * 2, cap - lo, ?_, by omega, by omega, fun j hj => ?_⟩
      · rw [hz, Option.map_some, addr_add]
      · rw [hz] at hj
        rw [getD_take _ _ _ hj, getD_drop, show off + lo * 2 + j * 2 = off + (lo + j) * 2 from by omega, show off + lo * 2 + (j * 2 + 1) = off + ((lo + j) * 2 + 1) from by omega]
        exact g4 (lo + j) (by omega)
theorem cutS_h {w : World} {a : Option Addr} {l : List (Int × Int)} {cap n : Nat} (h : Spans w (.slice a l.length cap) l) (hn : n ≤ l.length) :
    ∃ v, (∀ W : World, (Instr.slice 28 (.slice a l.length cap) none (some (.int .i64 (n : Int))) none).run Try.prog W = .ok v W) ∧ Spans w v (l.take n) := by
  have hb := spans_cut h (Nat.zero_le n) hn
  have hc := h.cap_le
  rw [List.drop_zero, Nat.sub_zero] at hb
  refine ⟨_, fun W => ?_, hb⟩
  rw [run_slice_h W _ a l.length cap elem_spans .i64 n (by omega) (by omega), size_spans]
  simp [Result.andThen, sliced]
theorem cutS_l {w : World} {a : Option Addr} {l : List (Int × Int)} {cap n : Nat} (h : Spans w (.slice a l.length cap) l) (hn : n ≤ l.length) :
    ∃ v, (∀ W : World, (Instr.slice 28 (.slice a l.length cap) (some (.int .i64 (n : Int))) none none).run Try.prog W = .ok v W) ∧ Spans w v (l.drop n) := by
  have hb := spans_cut h hn (Nat.le_refl _)
  have hc := h.cap_le
  rw [List.take_of_length_le (by rw [List.length_drop]; exact Nat.le_refl _)] at hb
  refine ⟨_, fun W => ?_, hb⟩
  rw [run_slice_l W _ a l.length cap elem_spans .i64 n (by omega) (by omega), size_spans]
  simp [Result.andThen, sliced]
theorem spans_news {w : World} {b off : Nat} {l : List (Int × Int)} (h : ∀ j, j < l.length → w.cell? ⟨b, off + j * 2, none⟩ = some (.int .i64 (l.getD j (0, 0)).1) ∧ w.cell? ⟨b, off + (j * 2 + 1), none⟩ = some (.int .i64 (l.getD j (0, 0)).2)) :
    ∀ j u, (cellsS l)[j]? = some u → w.cell? ((⟨b, off, none⟩ : Addr).add j) = some u := by
  intro j u hu
  have hj : j < l.length * 2 := by rw [← cellsS_len]; exact (List.getElem?_eq_some_iff.1 hu).1
  obtain ⟨e1, e2⟩ := cellsS_get l (j / 2) (by omega)
  obtain ⟨q1, q2⟩ := h (j / 2) (by omega)
  rw [addr_add]
  rcases (show j = 2 * (j / 2) ∨ j = 2 * (j / 2) + 1 from by omega) with e | e
  · rw [e] at hu
    rw [← hu.symm.trans e1 |> Option.some.inj |> Eq.symm, show off + j = off + j / 2 * 2 from by omega]
    exact q1
  · rw [e] at hu
    rw [← hu.symm.trans e2 |> Option.some.inj |> Eq.symm, show off + j = off + (j / 2 * 2 + 1) from by omega]
    exact q2
/-- append(row of the call's own, spans...): whatever slice the spans come in, none too. -/
theorem wpList_append_spans {w : World} {ops : Array Oper} {rest : List Oper} {o : Oper} {act : Act} {Q : Exit → Act → World → Prop} (hgd : o.guard = none) (x y : Operand)
    (ho : o.op = .call { callee := .builtin .append, args := #[x, y], argTypes := #[28, 28] })
    (base : Nat) (v : Value) (l : List (Int × Int)) (hs : act.eval x = v) (hown : w.ownsRow base 23 2 v l.length (cellsS l)) (yv : Value) (m : List (Int × Int)) (hy : act.eval y = yv) (hb : Spans w yv m)
    (hlen : l.length + m.length ≤ 100000) (hbase : base ≤ w.heap.size)
    (h : ∀ v' w', w'.ownsRow base 23 2 v' (l ++ m).length (cellsS (l ++ m)) → w.grownBy w' v.ownBlock → wpList Try.prog ops Q rest (act.put o.dst v') w') : wpList Try.prog ops Q (o :: rest) act w := by
  obtain ⟨i0, hi0, hz0, hz1, hz2⟩ := info_parts infoSpan
  rcases hb with ⟨rfl, rfl⟩ | ⟨b, off, cap, rfl, h2, h3, h4⟩
  · refine wpList_append_own_none hgd x y 28 ho base 23 i0 2 Try.underlying28 hi0 v l.length (cellsS l) hs hown hy ?_
    refine h v w ?_ ⟨rfl, rfl, rfl, Nat.le_refl _, fun _ _ _ => rfl⟩
    rw [List.append_nil]
    exact hown
  · exact wpList_append_own w hgd x y 28 ho base 23 i0 _ 2 16 Try.underlying28 hi0 hz0 hz1 hz2 rfl (by decide) v l.length (cellsS l) hs hown ⟨b, off, none⟩ m.length cap (cellsS m) hy (cellsS_len m) (spans_news h4) (cellsS_one m) (by simp only [maxLen]; omega) (by omega) hbase (fun v' w' q1 q2 _ => h v' w' (by rw [cellsS_app, List.length_append]; exact q1) q2)
theorem own_none (w : World) : (w.alloc (.cells #[] 23)).ownsRow w.heap.size 23 2 (.slice (some ⟨w.heap.size, 0, none⟩) 0 0) ([] : List (Int × Int)).length (cellsS []) := World.ownsRow_made (base := w.heap.size) w #[] 0 (Nat.le_refl _) (Nat.zero_le _) rfl
end Go.Proofs.Ytfikgocaidaheaa
