/- A row of bytes that may be put on: none, one of the call's own, or one that a conversion of a text made (whose row bears a mark behind its end); append of bytes and of a text onto any of these. For any seat with []byte. -/
import Derived.Test.YtogiaaiphbamnaaBytes
import Derived.Test.YtogiaaiphbamnaaCel
import Derived.Lib.AppendStr
import Derived.Laws.AppendOwnNone
import Derived.Deep.RegionHeld3
namespace Go.Proofs.Ytogiaaiphbamnaa
open Go.RowKit
open Go.Proofs.Ytogiaaiphbamnaa.Sg

/-- v holds the bytes t, in no block below B, and may be put on. -/
def Buf (w : World) (B : Nat) (v : Value) (t : ByteArray) : Prop :=
  (v = .slice none 0 0 ∧ t.size = 0) ∨ ∃ g cap, v = .slice (some ⟨g, 0, none⟩) t.size cap ∧ B ≤ g ∧ g < w.heap.size ∧ t.size ≤ cap ∧ cap ≤ maxLen ∧ (∀ j, j < t.size → w.cell? ⟨g, j, none⟩ = some (.int .u8 (t.get! j).toNat)) ∧ ∀ j, j < cap → (w.cell? ⟨g, j, none⟩).isSome = true ∧ w.frozen? ⟨g, j, none⟩ = false
theorem Buf.bys {w : World} {B : Nat} {v : Value} {t : ByteArray} (h : Buf w B v t) : Bys w v t := by
  rcases h with h | ⟨g, cap, h1, _, _, h4, h5, h6, _⟩
  · exact .inl h
  · exact .inr ⟨g, 0, cap, h1, h4, h5, fun j hj => by rw [Nat.zero_add]; exact h6 j hj⟩
theorem Buf.below {w w' : World} {B : Nat} {v : Value} {t : ByteArray} (h : Buf w B v t) (hb : Below w.heap.size w w') : Buf w' B v t := by
  rcases h with h | ⟨g, cap, h1, h2, h3, h4, h5, h6, h7⟩
  · exact .inl h
  · refine .inr ⟨g, cap, h1, h2, Nat.lt_of_lt_of_le h3 hb.size, h4, h5, fun j hj => at_below hb (h6 j hj), fun j hj => ?_⟩
    rw [hb.cell (p := ⟨g, j, none⟩) h3, hb.frozen (p := ⟨g, j, none⟩) h3]
    exact h7 j hj
theorem Buf.base {w : World} {B C : Nat} {v : Value} {t : ByteArray} (h : Buf w B v t) (hc : C ≤ B) : Buf w C v t := by
  rcases h with h | ⟨g, cap, h1, h2, h3⟩
  · exact .inl h
  · exact .inr ⟨g, cap, h1, Nat.le_trans hc h2, h3⟩
theorem Buf.nil (w : World) (B : Nat) : Buf w B (.slice none 0 0) ⟨#[]⟩ := .inl ⟨rfl, rfl⟩
theorem Buf.of_own {w : World} {B : Nat} {v : Value} {t : ByteArray} (h : w.ownsRow B 5 1 v t.size (cellsOf t)) : Buf w B v t := by
  rcases h.2 with h0 | ⟨g, cap, cur, h1, h2, h3, h4, h5, h6, h7⟩
  · exact .inl h0
  · have hlt : g < w.heap.size := (Array.getElem?_eq_some_iff.1 h3).1
    refine .inr ⟨g, cap, h1, h2, hlt, h4, h5, fun j hj => ?_, fun j hj => ?_⟩
    · have hc := h.cells (g := g) (by rw [h1]; rfl) j _ (cells_get t j hj)
      rw [addr_add, Nat.zero_add] at hc
      exact hc
    · constructor
      · simp [World.cell?, h3]; omega
      · unfold World.frozen?
        rw [h3]
        simp
theorem Buf.of_str {w : World} {B g cap : Nat} {s : ByteArray} (h : StrRow w g s cap) (hB : B ≤ g) : Buf w B (.slice (some ⟨g, 0, none⟩) s.size cap) s := by
  obtain ⟨C, fr, hC, hCs, hfr⟩ := h.at'
  refine .inr ⟨g, cap, rfl, hB, (Array.getElem?_eq_some_iff.1 hC).1, h.le, h.max, h.cell, fun j hj => ⟨?_, ?_⟩⟩
  · simp [World.cell?, hC]; omega
  · unfold World.frozen?
    rw [hC]
    simp
    omega
theorem cells_nil (u : ByteArray) (h : u.size = 0) : cellsOf u = [] := List.eq_nil_of_length_eq_zero (by rw [cellsOf_len, h])
theorem ba_zero (u : ByteArray) (h : u.size = 0) : u = ⟨#[]⟩ := by
  cases u with
  | mk d => simp [ByteArray.size] at h; rw [h]
/-- What stands behind the cells that were stored. -/
theorem buf_room {w : World} {B g cap : Nat} {t u : ByteArray} (hB : B ≤ g) (hlt : g < w.heap.size) (hfit : t.size + u.size ≤ cap) (hm : cap ≤ maxLen)
    (h6 : ∀ j, j < t.size → w.cell? ⟨g, j, none⟩ = some (.int .u8 (t.get! j).toNat)) (h7 : ∀ j, j < cap → (w.cell? ⟨g, j, none⟩).isSome = true ∧ w.frozen? ⟨g, j, none⟩ = false) :
    Buf (w.setCells g t.size (cellsOf u)) B (.slice (some ⟨g, 0, none⟩) (t.size + u.size) cap) (t ++ u) := by
  have hsz : (t ++ u).size = t.size + u.size := Sg.app_size t u
  have hthere : ∀ k, k < (cellsOf u).length → (w.cell? ⟨g, t.size + k, none⟩).isSome = true := fun k hk => by
    rw [cellsOf_len] at hk
    exact (h7 (t.size + k) (by omega)).1
  have hin : ∀ j, j < u.size → (w.setCells g t.size (cellsOf u)).cell? ⟨g, t.size + j, none⟩ = some (.int .u8 (u.get! j).toNat) := fun j hj => by
    have h1 := World.cell?_setCells_in g (cellsOf u) t.size w hthere j (by rw [cellsOf_len]; exact hj)
    rw [h1, ← List.getElem?_eq_getElem, cells_get u j hj]
  have hout : ∀ j, (j < t.size ∨ t.size + u.size ≤ j) → (w.setCells g t.size (cellsOf u)).cell? ⟨g, j, none⟩ = w.cell? ⟨g, j, none⟩ := fun j hj =>
    World.cell?_setCells_out g _ _ _ _ (fun _ _ => by rw [cellsOf_len]; exact hj)
  refine .inr ⟨g, cap, by rw [hsz], hB, Nat.lt_of_lt_of_le hlt (Lib.below_setCells_w (Nat.le_refl _) _ _ _).size, by rw [hsz]; exact hfit, hm, fun j hj => ?_, fun j hj => ⟨?_, ?_⟩⟩
  · rw [hsz] at hj
    by_cases hjs : j < t.size
    · rw [hout j (.inl hjs), h6 j hjs, Sg.get_l _ _ _ hjs]
    · have h1 := hin (j - t.size) (by omega)
      have e := Sg.get_r t u (j - t.size)
      rw [show t.size + (j - t.size) = j by omega] at h1 e
      rw [h1, e]
  · by_cases hj2 : t.size ≤ j ∧ j < t.size + u.size
    · have h1 := hin (j - t.size) (by omega)
      rw [show t.size + (j - t.size) = j by omega] at h1
      rw [h1]; rfl
    · rw [hout j (by omega)]; exact (h7 j hj).1
  · rw [World.frozen?_setCells]; exact (h7 j hj).2
theorem buf_own_app {w : World} {B : Nat} {v : Value} {t u : ByteArray} {n : Nat} (hn : n = t.size + u.size) (h : w.ownsRow B 5 1 v n (cellsOf t ++ cellsOf u)) : Buf w B v (t ++ u) := by
  refine Buf.of_own ?_
  rw [Sg.app_size, cellsOf_app, ← hn]
  exact h
/-- append(row, bytes...). -/
theorem run_buf {w : World} {B : Nat} {v yv : Value} {t u : ByteArray} (ty : TypeId) (h : Buf w B v t) (hy : Bys w yv u) (hlen : t.size + u.size ≤ 140737488355328) (hB : B ≤ w.heap.size) :
    ∃ v' w', (Builtin.append_ #[37, 37] ty #[v, yv]).run Try.prog w = .ok v' w' ∧ Buf w' B v' (t ++ u) ∧ Below B w w' := by
  obtain ⟨i0, hi, hz0, hz1, hz2⟩ := info_parts infoByte
  rcases hy with ⟨rfl, hu⟩ | ⟨b, off, cap2, rfl, k2, k3, k4⟩
  · rw [ba_zero u hu, Sg.ba_nil_r]
    rcases h with ⟨rfl, h0⟩ | ⟨g, cap, rfl, h2, h3, h4, h5, h6, h7⟩
    · refine ⟨.slice none 0 0, w, ?_, .inl ⟨rfl, h0⟩, Below.refl _ _⟩
      simp [Builtin.append_, run_underlying Try.underlying37, sizeOf, typeInfo, hi, Builtin.lenOf, Builtin.firstCells]
    · exact ⟨_, w, run_append_nil ty g t.size cap w h4, .inr ⟨g, cap, rfl, h2, h3, h4, h5, h6, h7⟩, Below.refl _ _⟩
  · have hm : t.size + u.size ≤ maxLen := by simp only [maxLen]; omega
    rcases h with ⟨rfl, h0⟩ | ⟨g, cap, rfl, h2, h3, h4, h5, h6, h7⟩
    · obtain ⟨v', w', q1, q2, q3, _⟩ := run_append_own (P := Try.prog) w B 37 ty 5 i0 (.int .u8 0) 1 1 Try.underlying37 hi hz0 hz1 hz2 rfl (by decide) (.slice none 0 0) 0 [] (World.ownsRow_nil w B 5 1) ⟨b, off, none⟩ u.size cap2 (cellsOf u) (by rw [cellsOf_len, Nat.mul_one]) (news_of k4) (news_one u) (by omega) (by omega) hB
      refine ⟨v', w', q1, buf_own_app (n := 0 + u.size) (by omega) (by rw [cells_nil t h0]; exact q2), (Below.refl B w).grown q3 hB (fun k hk => by cases hk)⟩
    · by_cases hfit : t.size + u.size ≤ cap
      · have hl : (cellsOf u).length = u.size * i0.size := by rw [cellsOf_len, hz1, Nat.mul_one]
        have hrun := run_append_room_cells (P := Try.prog) w 37 ty 5 i0 Try.underlying37 hi g 0 t.size cap ⟨b, off, none⟩ u.size cap2 (cellsOf u) hl (news_of k4) (news_one u) hfit (fun j hj => by
          rw [cellsOf_len] at hj; rw [hz1, Nat.mul_one, Nat.zero_add]; exact (h7 _ (by omega)).1) (fun j hj => by
          rw [cellsOf_len] at hj; rw [hz1, Nat.mul_one, Nat.zero_add]; exact (h7 _ (by omega)).2)
        rw [hz1, Nat.mul_one, Nat.zero_add] at hrun
        exact ⟨_, _, hrun, buf_room h2 h3 hfit h5 h6 h7, Lib.below_setCells_w h2 _ _ _⟩
      · obtain ⟨v', w', q1, q2, q3⟩ := run_append_arg_grows (P := Try.prog) w 37 ty 5 i0 (.int .u8 0) 1 1 Try.underlying37 hi hz0 hz1 hz2 rfl (by decide) ⟨g, 0, none⟩ t.size cap (cellsOf t) (by rw [cellsOf_len, Nat.mul_one]) (news_of (fun j hj => by rw [Nat.zero_add]; exact h6 j hj)) ⟨b, off, none⟩ u.size cap2 (cellsOf u) (by rw [cellsOf_len, Nat.mul_one]) (news_of k4) (by omega) hm (by omega)
        exact ⟨v', w', q1, (buf_own_app rfl q2).base hB, (Below.refl B w).grown q3 hB (fun k hk => by cases hk)⟩
/-- append(row, text...). -/
theorem run_buf_str {w : World} {B : Nat} {v : Value} {t u : ByteArray} (ty : TypeId) (h : Buf w B v t) (hlen : t.size + u.size ≤ 140737488355328) (hB : B ≤ w.heap.size) :
    ∃ v' w', (Builtin.append_ #[37, 9] ty #[v, .string u]).run Try.prog w = .ok v' w' ∧ Buf w' B v' (t ++ u) ∧ Below B w w' := by
  obtain ⟨i0, hi, hz0, hz1, hz2⟩ := info_parts infoByte
  have hm : t.size + u.size ≤ maxLen := by simp only [maxLen]; omega
  rcases h with ⟨rfl, h0⟩ | ⟨g, cap, rfl, h2, h3, h4, h5, h6, h7⟩
  · obtain ⟨v', w', q1, q2, q3, _⟩ := Lib.run_append_own_string (P := Try.prog) (w := w) B 37 9 ty 5 i0 Try.underlying37 Try.underlying9 hi hz0 hz1 hz2 (.slice none 0 0) 0 [] (World.ownsRow_nil w B 5 1) u (by omega) (by omega) hB
    exact ⟨v', w', q1, buf_own_app (n := 0 + u.size) (by omega) (by rw [cells_nil t h0]; exact q2), (Below.refl B w).grown q3 hB (fun k hk => by cases hk)⟩
  · by_cases hfit : t.size + u.size ≤ cap
    · have hf := Lib.run_firstCells_string (P := Try.prog) w 1 u
      have hst := run_storeCells_cells (P := Try.prog) g (0 + t.size) (cellsOf u) 0 w (fun j hj => by
          rw [cellsOf_len] at hj; rw [Nat.zero_add, Nat.add_zero]; exact (h7 _ (by omega)).1) (fun j hj => by
          rw [cellsOf_len] at hj; rw [Nat.zero_add, Nat.add_zero]; exact (h7 _ (by omega)).2) (news_one u)
      simp only [Nat.add_zero, Nat.zero_add] at hst
      have hrun : (Builtin.append_ #[37, 9] ty #[.slice (some ⟨g, 0, none⟩) t.size cap, .string u]).run Try.prog w = .ok (.slice (some ⟨g, 0, none⟩) (t.size + u.size) cap) (w.setCells g t.size (cellsOf u)) := by
        change Sem.run _ (storeCells _ (Lib.strCells u) 0) _ = _ at hst
        simp [Builtin.append_, run_underlying Try.underlying37, run_underlying Try.underlying9, sizeOf, typeInfo, hi, hz1, Builtin.lenOf, hfit, hf, Addr.add_lit, hst]
      exact ⟨_, _, hrun, buf_room h2 h3 hfit h5 h6 h7, Lib.below_setCells_w h2 _ _ _⟩
    · have hr := Lib.run_append_grow_string (P := Try.prog) w 37 9 ty 5 i0 (.int .u8 0) Try.underlying37 Try.underlying9 hi hz0 ⟨g, 0, none⟩ t.size cap (cellsOf t) (by rw [hz1, cellsOf_len, Nat.mul_one]) (news_of (fun j hj => by rw [Nat.zero_add]; exact h6 j hj)) u (by omega) (by omega) (by rw [hz2]; exact growslice_fits (by omega) (by omega))
      have hge := grownCap_ge w (t.size + u.size) cap 5
      have hcm : grownCap w (t.size + u.size) cap 5 ≤ maxLen := grownCap_le_maxLen w (t.size + u.size) cap 5 hm
      have hlen2 : (cellsOf t ++ cellsOf u).length = (t.size + u.size) * 1 := by rw [List.length_append, cellsOf_len, cellsOf_len, Nat.mul_one]
      refine ⟨_, _, hr, (buf_own_app (n := t.size + u.size) rfl ⟨hlen2, .inr ⟨w.heap.size, _, _, rfl, hB, heap_alloc_new w.drew _, hge, hcm, ?_, ?_⟩⟩), ⟨rfl, rfl, rfl, by simp, fun k hk => heap_alloc_old w.drew _ (by show k < w.heap.size; omega)⟩⟩
      · have hz1' : (Value.int IntKind.u8 0).cells.size = 1 := rfl
        simp only [Array.size_append, List.size_toArray, size_zeroCells, hz1', cellsOf_len, Lib.strCells_length]
        omega
      · simp only [Array.toList_append, List.append_assoc]
        show List.take _ (cellsOf t ++ (cellsOf u ++ _)) = _
        rw [← List.append_assoc, ← hlen2]
        exact List.take_left
/-- For the walk. -/
theorem wpList_buf {w : World} {ops : Array Oper} {rest : List Oper} {o : Oper} {a : Act} {Q : Exit → Act → World → Prop} (hgd : o.guard = none) (x y : Operand)
    (ho : o.op = .call { callee := .builtin .append, args := #[x, y], argTypes := #[37, 37] })
    {B : Nat} {v yv : Value} {t u : ByteArray} (hs : a.eval x = v) (hbuf : Buf w B v t) (hy : a.eval y = yv) (hb : Bys w yv u) (hlen : t.size + u.size ≤ 140737488355328) (hB : B ≤ w.heap.size)
    (h : ∀ v' w', Buf w' B v' (t ++ u) → Below B w w' → wpList Try.prog ops Q rest (a.put o.dst v') w') : wpList Try.prog ops Q (o :: rest) a w := by
  refine wpList_plain hgd fun K hK => ?_
  obtain ⟨v', w', hr, h2, h3⟩ := run_buf o.type hbuf hb hlen hB
  unfold Oper.wp execOp
  simp only [ho, resolve, invoke, builtin, Sem.run_bind, Sem.run_pure, Result.andThen_ok, List.map_toArray, List.map_cons, List.map_nil, hs, hy, hr]
  exact hK _ _ (h v' w' h2 h3)
theorem wpList_buf_str {w : World} {ops : Array Oper} {rest : List Oper} {o : Oper} {a : Act} {Q : Exit → Act → World → Prop} (hgd : o.guard = none) (x y : Operand)
    (ho : o.op = .call { callee := .builtin .append, args := #[x, y], argTypes := #[37, 9] })
    {B : Nat} {v : Value} {t u : ByteArray} (hs : a.eval x = v) (hbuf : Buf w B v t) (hy : a.eval y = .string u) (hlen : t.size + u.size ≤ 140737488355328) (hB : B ≤ w.heap.size)
    (h : ∀ v' w', Buf w' B v' (t ++ u) → Below B w w' → wpList Try.prog ops Q rest (a.put o.dst v') w') : wpList Try.prog ops Q (o :: rest) a w := by
  refine wpList_plain hgd fun K hK => ?_
  obtain ⟨v', w', hr, h2, h3⟩ := run_buf_str o.type hbuf hlen hB
  unfold Oper.wp execOp
  simp only [ho, resolve, invoke, builtin, Sem.run_bind, Sem.run_pure, Result.andThen_ok, List.map_toArray, List.map_cons, List.map_nil, hs, hy, hr]
  exact hK _ _ (h v' w' h2 h3)
/-- append(row, bytes that were just laid). -/
theorem wpList_buf_new {w0 : World} {ops : Array Oper} {rest : List Oper} {o : Oper} {a : Act} {Q : Exit → Act → World → Prop} (hgd : o.guard = none) (x y : Operand)
    (ho : o.op = .call { callee := .builtin .append, args := #[x, y], argTypes := #[37, 37] })
    {B : Nat} {v : Value} {t : ByteArray} (u : ByteArray) {cs : Array Value} {m : Nat} (hs : a.eval x = v) (hbuf : Buf w0 B v t) (hu : (cellsOf u).toArray = cs) (hm : u.size = m)
    (hy : a.eval y = .slice (some ⟨w0.heap.size, 0, none⟩) m m) (hlen : t.size + m ≤ 1000000000) (hB : B ≤ w0.heap.size)
    (h : ∀ v' w', Buf w' B v' (t ++ u) → Below B w0 w' → wpList Try.prog ops Q rest (a.put o.dst v') w') :
    wpList Try.prog ops Q (o :: rest) a (w0.alloc (.cells cs 5)) := by
  subst hu
  subst hm
  have hb0 := below_alloc w0 (.cells (cellsOf u).toArray 5)
  refine wpList_buf (u := u) hgd x y ho hs (hbuf.below hb0) hy (.inr ⟨w0.heap.size, 0, u.size, rfl, Nat.le_refl _, by simp only [maxLen]; omega, fun j hj => ?_⟩) (by omega) (Nat.le_trans hB hb0.size) (fun v' w' q1 q2 => h v' w' q1 ((hb0.mono hB).trans q2))
  rw [Nat.zero_add, World.cell?_alloc_mark, List.getElem?_toArray, cells_get u j hj]
end Go.Proofs.Ytogiaaiphbamnaa
