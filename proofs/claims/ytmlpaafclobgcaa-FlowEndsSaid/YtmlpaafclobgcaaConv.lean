/- Strings and rows of bytes: what a string's bytes are as a slice; what is put behind them. -/
import Derived.Test.YtmlpaafclobgcaaInts
import Derived.Lib.ConvBytes
import Derived.ArgAppend
import Derived.Lib.EndianMore
import Derived.Test.YtmlpaafclobgcaaMgA
namespace Go.Proofs.Ytmlpaafclobgcaa
open Go.RowKit

/-- A new row that holds a string's bytes, and may have room behind them. -/
structure StrRow (w : World) (g : Nat) (s : ByteArray) (cap : Nat) : Prop where
  le : s.size ≤ cap
  max : cap ≤ maxLen
  at' : ∃ C fr, w.heap[g]? = some (.cells C 5 fr) ∧ C.size = cap ∧ C.size ≤ fr.1
  cell : ∀ j, j < s.size → w.cell? ⟨g, j, none⟩ = some (.int .u8 (s.get! j).toNat)
theorem StrRow.bys {w : World} {g : Nat} {s : ByteArray} {cap : Nat} (h : StrRow w g s cap) : Bys w (.slice (some ⟨g, 0, none⟩) s.size cap) s :=
  .inr ⟨g, 0, cap, rfl, h.le, h.max, fun j hj => by rw [Nat.zero_add]; exact h.cell j hj⟩

theorem conv_str (s : ByteArray) (w : World) (hs : s.size ≤ maxLen) :
    ∃ cap w', (convert 9 24 (.string s)).run Try.prog w = .ok (.slice (some ⟨w.heap.size, 0, none⟩) s.size cap) w' ∧ StrRow w' w.heap.size s cap ∧ Below w.heap.size w w' := by
  refine ⟨grownCap w s.size 0 5, Lib.bytesWorld w 5 s, Lib.run_convert_string_bytes w 9 24 5 s Try.underlying9 Try.underlying24 Try.underlying5, ?_, ?_⟩
  · have hge := grownCap_ge w s.size 0 5
    have hC : (Lib.bytesCells w 5 s).size = grownCap w s.size 0 5 := by
      have e : s.data.size = s.size := rfl
      simp [Lib.bytesCells, e]
      omega
    refine ⟨hge, grownCap_le_maxLen _ _ _ _ hs, ⟨_, _, Lib.bytesWorld_at_new w 5 s, hC, Nat.le_refl _⟩, fun j hj => ?_⟩
    rw [Lib.bytesWorld_cell w 5 s j hj, Lib.getD_get!']
  · exact ⟨rfl, rfl, rfl, by rw [Lib.bytesWorld_size]; omega, fun i hi => Lib.bytesWorld_at_old w 5 s i hi⟩

theorem run_append_nil (ty : TypeId) (b n cap : Nat) (w : World) (hn : n ≤ cap) :
    (Builtin.append_ #[24, 24] ty #[.slice (some ⟨b, 0, none⟩) n cap, .slice none 0 0]).run Try.prog w = .ok (.slice (some ⟨b, 0, none⟩) n cap) w := by
  obtain ⟨i0, hi, hz0, hz1, hz2⟩ := info_parts infoByte
  simp [Builtin.append_, run_underlying Try.underlying24, sizeOf, typeInfo, hi, Builtin.lenOf, Builtin.firstCells, hn, storeCells]

theorem get_cells {s : ByteArray} {j : Nat} {u : Value} (h : (cellsOf s)[j]? = some u) : j < s.size ∧ u = .int .u8 (s.get! j).toNat := by
  rw [cellsOf, List.getElem?_map] at h
  obtain ⟨x, hx, rfl⟩ := Option.map_eq_some_iff.1 h
  have hj : j < s.data.toList.length := (List.getElem?_eq_some_iff.1 hx).1
  refine ⟨by rw [Lib.size_eq]; exact hj, ?_⟩
  rw [← Lib.getD_get!', List.getD_eq_getElem?_getD, hx]
  rfl
theorem cells_get (s : ByteArray) (j : Nat) (h : j < s.size) : (cellsOf s)[j]? = some (.int .u8 (s.get! j).toNat) := by
  have hj : j < s.data.toList.length := by rw [← Lib.size_eq]; exact h
  rw [cellsOf, List.getElem?_map, List.getElem?_eq_getElem hj, ← Lib.getD_get!', List.getD_eq_getElem?_getD, List.getElem?_eq_getElem hj]
  rfl

/-- append([]byte(s), bytes...): the bytes of both. -/
theorem wpList_append_str {w : World} {ops : Array Oper} {rest : List Oper} {o : Oper} {a : Act} {Q : Exit → Act → World → Prop} (hgd : o.guard = none) (x y : Operand)
    (ho : o.op = .call { callee := .builtin .append, args := #[x, y], argTypes := #[24, 24] })
    (g cap : Nat) (s : ByteArray) (hs : a.eval x = .slice (some ⟨g, 0, none⟩) s.size cap) (hr : StrRow w g s cap) (yv : Value) (bs : ByteArray) (hy : a.eval y = yv) (hb : Bys w yv bs)
    (hlen : s.size + bs.size ≤ 140737488355328)
    (h : ∀ v' w', Bys w' v' (s ++ bs) → Below g w w' → wpList Try.prog ops Q rest (a.put o.dst v') w') : wpList Try.prog ops Q (o :: rest) a w := by
  obtain ⟨i0, hi, hz0, hz1, hz2⟩ := info_parts infoByte
  obtain ⟨C, fr, hC, hCs, hfr⟩ := hr.at'
  rcases hb with ⟨rfl, hz⟩ | ⟨b, off, cap2, rfl, h2, h3, h4⟩
  · refine wpList_plain hgd fun K hK => ?_
    have hrun := run_append_nil o.type g s.size cap w hr.le
    unfold Oper.wp
    simp [execOp, ho, resolve, invoke, builtin, hs, hy, hrun, Result.andThen]
    refine hK _ _ (h _ _ ?_ (Below.refl _ _))
    have e : bs = ⟨#[]⟩ := by
      cases bs with
      | mk d => simp [ByteArray.size] at hz; rw [hz]
    rw [e, Sg.ba_nil_r]
    exact hr.bys
  · have hlen1 : (cellsOf bs).length = bs.size * 1 := by rw [cellsOf, news_len, Nat.mul_one]
    refine wpList_append_arg w hgd x y 24 ho 5 i0 (.int .u8 0) 1 1 Try.underlying24 hi hz0 hz1 hz2 rfl (by decide) g 0 s.size cap (cellsOf s) hs (by rw [cellsOf, news_len, Nat.mul_one]) (fun j u hj => ?_) ⟨b, off, none⟩ bs.size cap2 (cellsOf bs) hy hlen1 (news_of h4) (news_one bs) (fun hfit j hj => ?_) (by simp only [maxLen]; omega) (by omega) (fun hfit => h _ _ ?_ ?_) (fun hno v' w' hown hg => h _ _ ?_ ?_)
    · obtain ⟨h5, rfl⟩ := get_cells hj
      rw [Nat.zero_add]
      exact hr.cell j h5
    · have hj2 : j < bs.size := by rw [hlen1] at hj; omega
      have hlt : 0 + s.size * 1 + j < C.size := by omega
      constructor
      · simp [World.cell?, hC]; omega
      · unfold World.frozen?
        rw [hC]
        simp
        omega
    · have hsz : (s ++ bs).size = s.size + bs.size := Sg.app_size s bs
      refine .inr ⟨g, 0, cap, by rw [hsz], by rw [hsz]; exact hfit, hr.max, fun j hj => ?_⟩
      rw [hsz] at hj
      by_cases hjs : j < s.size
      · rw [World.cell?_setCells_out g _ _ _ _ (fun _ _ => .inl (by simp; omega)), Nat.zero_add, hr.cell j hjs, Sg.get_l _ _ _ hjs]
      · have hthere : ∀ k, k < (cellsOf bs).length → (w.cell? ⟨g, 0 + s.size * 1 + k, none⟩).isSome = true := fun k hk => by
          rw [hlen1] at hk
          simp [World.cell?, hC]; omega
        have hin := World.cell?_setCells_in g (cellsOf bs) (0 + s.size * 1) w hthere (j - s.size) (by rw [hlen1]; omega)
        rw [show (0 : Nat) + j = 0 + s.size * 1 + (j - s.size) from by omega, hin, ← List.getElem?_eq_getElem, cells_get bs (j - s.size) (by omega)]
        have e := Sg.get_r s bs (j - s.size)
        rw [show s.size + (j - s.size) = j from by omega] at e
        rw [e]
    · exact Lib.below_setCells_w (Nat.le_refl _) _ _ _
    · have hown2 : w'.ownsRow w.heap.size 5 1 v' (s ++ bs).size (cellsOf (s ++ bs)) := by
        rw [Sg.app_size]
        have e : cellsOf (s ++ bs) = cellsOf s ++ cellsOf bs := by simp [cellsOf]
        rw [e]
        exact hown
      exact Bys.of_own hown2
    · exact (Below.refl g w).grown hg (by have := (Array.getElem?_eq_some_iff.1 hC).1; omega) (fun k hk => by cases hk)
end Go.Proofs.Ytmlpaafclobgcaa
