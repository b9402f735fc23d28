/- Rows of whole numbers and of bytes of a call's own: how they read; append of bytes. -/
import Derived.Test.YtdngcihjfbmbpaaDoorOwn
import Derived.Deep.QuietTactic
import Derived.BigQuiet
import Derived.Laws.AppendOwnNone
namespace Go.Proofs.YtdngcihjfbmbpaaDoor
open Go.RowKit
open Go.Proofs.YtdngcihjfbmbpaaDoor.Sg

/-- The slice value v reads as the whole numbers l. -/
def Ints (w : World) (v : Value) (l : List Int) : Prop :=
  (v = .slice none 0 0 ∧ l = []) ∨ ∃ b off cap, v = .slice (some ⟨b, off, none⟩) l.length cap ∧ l.length ≤ cap ∧ cap ≤ maxLen ∧ ∀ j, j < l.length → w.cell? ⟨b, off + j, none⟩ = some (.int .i64 (l.getD j 0))
theorem Ints.below {w w' : World} {v : Value} {l : List Int} (h : Ints w v l) (hb : Below w.heap.size w w') : Ints w' v l := by
  rcases h with h | ⟨b, off, cap, h1, h2, h3, h4⟩
  · exact .inl h
  · refine .inr ⟨b, off, cap, h1, h2, h3, fun j hj => ?_⟩
    have h5 := h4 j hj
    rw [hb.cell (p := ⟨b, off + j, none⟩) (lt_of_cell h5)]
    exact h5
theorem Ints.of_own {w : World} {base : Nat} {v : Value} {l : List Nat} (h : w.ownsRow base 3 1 v l.length (places l)) : Ints w v (l.map fun (p : Nat) => (p : Int)) := by
  rcases h.2 with ⟨h1, h2⟩ | ⟨g, cap, cur, h1, h2, h3, h4, h5, h6, h7⟩
  · refine .inl ⟨h1, ?_⟩
    have : l = [] := List.eq_nil_of_length_eq_zero h2
    rw [this]; rfl
  · refine .inr ⟨g, 0, cap, by rw [List.length_map]; exact h1, by rw [List.length_map]; exact h4, h5, fun j hj => ?_⟩
    rw [List.length_map] at hj
    have hc := h.cells (g := g) (by rw [h1]; rfl) j (.int .i64 (l[j] : Int)) (by simp [places, List.getElem?_eq_getElem hj])
    rw [addr_add] at hc
    rw [hc]
    simp [List.getD, hj]

/-- A row of bytes of the call's own reads as these bytes. -/
theorem Bys.of_own {w : World} {base : Nat} {v : Value} {s : ByteArray} (h : w.ownsRow base 5 1 v s.size (s.data.toList.map fun (x : UInt8) => Value.int .u8 x.toNat)) : Bys w v s := by
  rcases h.2 with ⟨h1, h2⟩ | ⟨g, cap, cur, h1, h2, h3, h4, h5, h6, h7⟩
  · exact .inl ⟨h1, h2⟩
  · refine .inr ⟨g, 0, cap, h1, h4, h5, fun j hj => ?_⟩
    have hj' : j < s.data.toList.length := by rw [← Lib.size_eq]; exact hj
    have hc := h.cells (g := g) (by rw [h1]; rfl) j (.int .u8 ((s.data.toList[j]).toNat : Int)) (by rw [List.getElem?_map, List.getElem?_eq_getElem hj']; rfl)
    rw [addr_add] at hc
    rw [hc, ← Lib.getD_get!', List.getD_eq_getElem?_getD, List.getElem?_eq_getElem hj']
    rfl
theorem infoByte : (Tryd.prog.info? 5).map (fun i => (i.zero, i.size, i.bytes)) = some (some (.int .u8 0), 1, 1) := by kernel_rfl
/-- The bytes of a row as values, cell by cell, where a slice reads as them. -/
theorem news_of {w : World} {b off : Nat} {s : ByteArray} (h : ∀ j, j < s.size → w.cell? ⟨b, off + j, none⟩ = some (.int .u8 (s.get! j).toNat)) :
    ∀ j u, (s.data.toList.map fun (x : UInt8) => Value.int .u8 x.toNat)[j]? = some u → w.cell? ((⟨b, off, none⟩ : Addr).add j) = some u := by
  intro j u hu
  rw [List.getElem?_map] at hu
  obtain ⟨x, hx, rfl⟩ := Option.map_eq_some_iff.1 hu
  have hj : j < s.data.toList.length := (List.getElem?_eq_some_iff.1 hx).1
  rw [addr_add, h j (by rw [Lib.size_eq]; exact hj), ← Lib.getD_get!', List.getD_eq_getElem?_getD, hx]
  rfl
theorem news_len (s : ByteArray) : (s.data.toList.map fun (x : UInt8) => Value.int .u8 (x.toNat : Int)).length = s.size := by rw [List.length_map, ← Lib.size_eq]
theorem news_one (s : ByteArray) : ∀ u ∈ (s.data.toList.map fun (x : UInt8) => Value.int .u8 (x.toNat : Int)), u.oneCell' = true := by
  intro u hu
  obtain ⟨x, _, rfl⟩ := List.mem_map.1 hu
  rfl
/-- The bytes as a row's cells. -/
def cellsOf (s : ByteArray) : List Value := s.data.toList.map fun (x : UInt8) => Value.int .u8 (x.toNat : Int)
/-- append(row of the call's own, bytes...): whatever slice the bytes come in, no list too. -/
theorem wpList_append_bys {w : World} {ops : Array Oper} {rest : List Oper} {o : Oper} {a : Act} {Q : Exit → Act → World → Prop} (hgd : o.guard = none) (x y : Operand)
    (ho : o.op = .call { callee := .builtin .append, args := #[x, y], argTypes := #[22, 22] })
    (base : Nat) (v : Value) (n : Nat) (xs : List Value) (hs : a.eval x = v) (hown : w.ownsRow base 5 1 v n xs) (yv : Value) (s : ByteArray) (hy : a.eval y = yv) (hb : Bys w yv s)
    (hlen : n + s.size ≤ 140737488355328) (hbase : base ≤ w.heap.size)
    (h : ∀ v' w', w'.ownsRow base 5 1 v' (n + s.size) (xs ++ cellsOf s) → w.grownBy w' v.ownBlock → wpList Tryd.prog ops Q rest (a.put o.dst v') w') : wpList Tryd.prog ops Q (o :: rest) a w := by
  obtain ⟨i0, hi, hz0, hz1, hz2⟩ := info_parts infoByte
  rcases hb with ⟨rfl, hz⟩ | ⟨b, off, cap, rfl, h2, h3, h4⟩
  · refine wpList_append_own_none hgd x y 22 ho base 5 i0 1 Tryd.underlying22 hi v n xs hs hown hy ?_
    have e : cellsOf s = [] := by
      have : s.data.toList.length = 0 := by rw [← Lib.size_eq]; exact hz
      rw [cellsOf, List.eq_nil_of_length_eq_zero this]; rfl
    refine h v w ?_ ⟨rfl, rfl, rfl, Nat.le_refl _, fun _ _ _ => rfl⟩
    rw [e, hz, List.append_nil, Nat.add_zero]
    exact hown
  · exact wpList_append_own w hgd x y 22 ho base 5 i0 (.int .u8 0) 1 1 Tryd.underlying22 hi hz0 hz1 hz2 rfl (by decide) v n xs hs hown ⟨b, off, none⟩ s.size cap (cellsOf s) hy (by rw [cellsOf, news_len, Nat.mul_one]) (news_of h4) (news_one s) (by simp only [maxLen]; omega) (by omega) hbase (fun v' w' q1 q2 _ => h v' w' q1 q2)
theorem own_empty (w : World) : (w.alloc (.cells #[] 5)).ownsRow w.heap.size 5 1 (.slice (some ⟨w.heap.size, 0, none⟩) 0 0) 0 [] := World.ownsRow_made (base := w.heap.size) w #[] 0 (Nat.le_refl _) (Nat.zero_le _) rfl
theorem Bys.shape {w : World} {v : Value} {s : ByteArray} (h : Bys w v s) : ∃ a cap, v = .slice a s.size cap := by
  rcases h with ⟨h1, h2⟩ | ⟨b, off, cap, h1, _⟩
  · exact ⟨none, 0, by rw [h1, h2]⟩
  · exact ⟨_, _, h1⟩
end Go.Proofs.YtdngcihjfbmbpaaDoor
