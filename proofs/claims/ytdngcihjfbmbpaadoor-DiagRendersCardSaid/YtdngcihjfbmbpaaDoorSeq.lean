/- Slices whose elements take so many cells each, over any program: how they read, rows of the call's own, pieces, append. For structs of one-cell fields of whatever number. -/
import Derived.Below
import Derived.WalkKit
import Derived.Laws.AppendOwn
import Derived.Laws.AppendOwnNone
import Derived.Laws.Slices
import Derived.OwnWalk
namespace Go.Proofs.YtdngcihjfbmbpaaDoor.Sq
open Go.RowKit

theorem add_addr (b off j : Nat) : (⟨b, off, none⟩ : Addr).add j = ⟨b, off + j, none⟩ := by
  unfold Addr.add
  split
  · rename_i h; subst h; rfl
  · rfl
theorem cell_lt {w : World} {a : Addr} {v : Value} (h : w.cell? a = some v) : a.block < w.heap.size := by
  unfold World.cell? at h
  rcases Nat.lt_or_ge a.block w.heap.size with h' | h'
  · exact h'
  · simp [Array.getElem?_eq_none h'] at h
/-- How an element lies in memory: so many cells. -/
structure Enc (α : Type) where
  cells : α → List Value
  k : Nat
  pos : 0 < k
  len : ∀ x, (cells x).length = k
  one : ∀ x, ∀ u ∈ cells x, u.oneCell' = true
variable {α : Type}
def Enc.all (E : Enc α) : List α → List Value
  | [] => []
  | x :: r => E.cells x ++ E.all r
theorem all_len (E : Enc α) (l : List α) : (E.all l).length = l.length * E.k := by
  induction l with
  | nil => simp [Enc.all]
  | cons x r ih => rw [Enc.all, List.length_append, E.len, ih, List.length_cons, Nat.add_mul]; omega
theorem all_app (E : Enc α) (l m : List α) : E.all (l ++ m) = E.all l ++ E.all m := by
  induction l with
  | nil => rfl
  | cons x r ih => rw [List.cons_append, Enc.all, Enc.all, ih, List.append_assoc]
theorem all_one (E : Enc α) (l : List α) : ∀ u ∈ E.all l, u.oneCell' = true := by
  induction l with
  | nil => intro u hu; cases hu
  | cons x r ih =>
    intro u hu
    rw [Enc.all, List.mem_append] at hu
    rcases hu with hu | hu
    · exact E.one x u hu
    · exact ih u hu
theorem all_get (E : Enc α) (l : List α) (j : Nat) (x : α) (h : l[j]? = some x) (i : Nat) (hi : i < E.k) : (E.all l)[j * E.k + i]? = (E.cells x)[i]? := by
  induction l generalizing j with
  | nil => simp at h
  | cons y r ih =>
    cases j with
    | zero =>
      obtain rfl : y = x := by simpa using h
      rw [Enc.all, List.getElem?_append_left (by rw [E.len]; omega)]
      simp
    | succ j =>
      rw [Enc.all, List.getElem?_append_right (by rw [E.len, Nat.add_mul]; omega), E.len, show (j + 1) * E.k + i - E.k = j * E.k + i from by rw [Nat.add_mul]; omega]
      exact ih j (by simpa using h)
theorem all_take (E : Enc α) (l : List α) (n : Nat) : (E.all l).take (n * E.k) = E.all (l.take n) := by
  induction l generalizing n with
  | nil => simp [Enc.all]
  | cons x r ih =>
    cases n with
    | zero => simp [Enc.all]
    | succ n =>
      rw [Enc.all, List.take_succ_cons, Enc.all, List.take_append, E.len, show (n + 1) * E.k - E.k = n * E.k from by rw [Nat.add_mul]; omega, ih n, List.take_of_length_le (by rw [E.len, Nat.add_mul]; omega)]
/-- The slice value v reads as the elements l (no list and an empty one read alike). -/
def Reads (E : Enc α) (w : World) (v : Value) (l : List α) : Prop :=
  (v = .slice none 0 0 ∧ l = []) ∨ ∃ b off cap, v = .slice (some ⟨b, off, none⟩) l.length cap ∧ l.length ≤ cap ∧ cap ≤ maxLen ∧ ∀ j x, l[j]? = some x → ∀ i u, (E.cells x)[i]? = some u → w.cell? ⟨b, off + j * E.k + i, none⟩ = some u
variable {E : Enc α} {w w' : World} {v : Value} {l : List α}
theorem Reads.below (h : Reads E w v l) (hb : Below w.heap.size w w') : Reads E w' v l := by
  rcases h with h | ⟨b, off, cap, h1, h2, h3, h4⟩
  · exact .inl h
  · refine .inr ⟨b, off, cap, h1, h2, h3, fun j x hj i u hu => ?_⟩
    have h5 := h4 j x hj i u hu
    rw [hb.cell (p := ⟨b, off + j * E.k + i, none⟩) (cell_lt h5)]
    exact h5
theorem Reads.shape (h : Reads E w v l) : ∃ a cap, v = .slice a l.length cap := by
  rcases h with ⟨h1, h2⟩ | ⟨b, off, cap, h1, _⟩
  · exact ⟨none, 0, by rw [h1, h2]; rfl⟩
  · exact ⟨_, _, h1⟩
theorem Reads.size_le (h : Reads E w v l) : l.length ≤ maxLen := by
  rcases h with ⟨_, h⟩ | ⟨b, off, cap, _, h2, h3, _⟩
  · rw [h]; exact Nat.zero_le _
  · exact Nat.le_trans h2 h3
theorem Reads.cap_le {a : Option Addr} {cap : Nat} (h : Reads E w (.slice a l.length cap) l) : l.length ≤ cap ∧ cap ≤ maxLen := by
  rcases h with ⟨hv, h0⟩ | ⟨b, off, cap', hv, g2, g3, g4⟩
  · obtain ⟨rfl, -, rfl⟩ := Value.slice.inj hv
    exact ⟨by rw [h0]; exact Nat.le_refl _, Nat.zero_le _⟩
  · obtain ⟨rfl, -, rfl⟩ := Value.slice.inj hv
    exact ⟨g2, g3⟩
/-- The slice at an index: where its element lies. -/
theorem Reads.at_ {a : Option Addr} {cap : Nat} (h : Reads E w (.slice a l.length cap) l) (j : Nat) (x : α) (hj : l[j]? = some x) :
    ∃ b off, a = some ⟨b, off, none⟩ ∧ ∀ i u, (E.cells x)[i]? = some u → w.cell? ⟨b, off + j * E.k + i, none⟩ = some u := by
  rcases h with ⟨_, rfl⟩ | ⟨b, off, cap', hv, h2, h3, h4⟩
  · simp at hj
  · obtain ⟨rfl, -, rfl⟩ := Value.slice.inj hv
    exact ⟨b, off, rfl, h4 j x hj⟩
/-- A row of the call's own reads as its elements. -/
theorem Reads.of_own {base : Nat} {e : TypeId} (h : w.ownsRow base e E.k v l.length (E.all l)) : Reads E w v l := by
  rcases h.2 with ⟨h1, h2⟩ | ⟨g, cap, cur, h1, h2, h3, h4, h5, h6, h7⟩
  · exact .inl ⟨h1, List.eq_nil_of_length_eq_zero h2⟩
  · refine .inr ⟨g, 0, cap, h1, h4, h5, fun j x hj i u hu => ?_⟩
    have hi : i < E.k := by rw [← E.len x]; exact (List.getElem?_eq_some_iff.1 hu).1
    have c1 := h.cells (g := g) (by rw [h1]; rfl) _ _ ((all_get E l j x hj i hi).trans hu)
    rw [add_addr] at c1
    rw [Nat.zero_add] at c1 ⊢
    exact c1
/-- A row of the call's own stays where nothing below the heap's size changes. -/
theorem own_below {B e size n : Nat} {xs : List Value} (h : w.ownsRow B e size v n xs) (hb : Below w.heap.size w w') : w'.ownsRow B e size v n xs := by
  refine ⟨h.1, ?_⟩
  rcases h.2 with h0 | ⟨g, cap, cur, hv, hbg, hg, rest⟩
  · exact .inl h0
  · have hlt : g < w.heap.size := (Array.getElem?_eq_some_iff.1 hg).1
    exact .inr ⟨g, cap, cur, hv, hbg, (hb.block g hlt).trans hg, rest⟩
theorem own_base {B B' e size n : Nat} {xs : List Value} (h : w.ownsRow B e size v n xs) (hB : B' ≤ B) : w.ownsRow B' e size v n xs := by
  refine ⟨h.1, ?_⟩
  rcases h.2 with h0 | ⟨g, cap, cur, hv, hbg, rest⟩
  · exact .inl h0
  · exact .inr ⟨g, cap, cur, hv, Nat.le_trans hB hbg, rest⟩
/-- What the walk asks of the slice's type and the element's. -/
structure Ty (P : Program) (E : Enc α) (t e : TypeId) (bytes : Nat) : Prop where
  ht : P.underlying t = some (.slice e)
  he : P.elem t = e
  parts : ∃ i z, P.info? e = some i ∧ i.zero = some z ∧ i.size = E.k ∧ i.bytes = bytes ∧ z.cells.size = E.k
  size : ∀ w, (sizeOf e).run P w = .ok E.k w
theorem Ty.of {P : Program} {E : Enc α} {t e : TypeId} {bytes : Nat} {z : Value} (ht : P.underlying t = some (.slice e)) (he : P.elem t = e) (hi : (P.info? e).map (fun i => (i.zero, i.size, i.bytes)) = some (some z, E.k, bytes)) (hz : z.cells.size = E.k) (hs : ∀ w, (sizeOf e).run P w = .ok E.k w) : Ty P E t e bytes := by
  obtain ⟨i, h1, h2, h3, h4⟩ := info_parts hi
  exact ⟨ht, he, ⟨i, z, h1, h2, h3, h4, hz⟩, hs⟩
theorem reads_cut {a : Option Addr} {cap lo hi : Nat} (h : Reads E w (.slice a l.length cap) l) (h1 : lo ≤ hi) (h2 : hi ≤ l.length) :
    Reads E w (.slice (if cap = lo then a else a.map fun x => x.add (lo * E.k)) (hi - lo) (cap - lo)) ((l.drop lo).take (hi - lo)) := by
  have hz : ((l.drop lo).take (hi - lo)).length = hi - lo := by rw [List.length_take, List.length_drop]; omega
  rcases h with ⟨hv, h0⟩ | ⟨b, off, cap', hv, g2, g3, g4⟩
  · obtain ⟨rfl, -, rfl⟩ := Value.slice.inj hv
    subst h0
    obtain rfl : hi = 0 := by simpa using h2
    obtain rfl : lo = 0 := by omega
    exact .inl ⟨rfl, rfl⟩
  · obtain ⟨rfl, -, rfl⟩ := Value.slice.inj hv
    by_cases hc : cap = lo
    · rw [if_pos hc]
      refine .inr ⟨b, off, cap - lo, by rw [hz], by omega, by omega, fun j x hj => ?_⟩
      have := (List.getElem?_eq_some_iff.1 hj).1
      omega
    · rw [if_neg hc]
      refine .inr ⟨b, off + lo * E.k, cap - lo, ?_, by omega, by omega, fun j x hj i u hu => ?_⟩
      · rw [hz, Option.map_some, add_addr]
      · have hj1 := (List.getElem?_eq_some_iff.1 hj).1
        rw [List.getElem?_take, if_pos (by omega), List.getElem?_drop] at hj
        rw [show off + lo * E.k + j * E.k + i = off + (lo + j) * E.k + i from by rw [Nat.add_mul]; omega]
        exact g4 (lo + j) x hj i u hu
theorem cut_lh {P : Program} {t e : TypeId} {bytes : Nat} (T : Ty P E t e bytes) {a : Option Addr} {cap lo hi : Nat} (h : Reads E w (.slice a l.length cap) l) (h1 : lo ≤ hi) (h2 : hi ≤ l.length) :
    ∃ v, (∀ W : World, (Instr.slice t (.slice a l.length cap) (some (.int .i64 (lo : Int))) (some (.int .i64 (hi : Int))) none).run P W = .ok v W) ∧ Reads E w v ((l.drop lo).take (hi - lo)) := by
  have hb := reads_cut h h1 h2
  have hc := h.cap_le
  refine ⟨_, fun W => ?_, hb⟩
  rw [run_slice_lh W _ a l.length cap (by rw [T.he]; exact T.ht) .i64 .i64 lo hi (by omega) (by omega) (by omega), T.he, T.size]
  simp [Result.andThen, sliced]
theorem cut_h {P : Program} {t e : TypeId} {bytes : Nat} (T : Ty P E t e bytes) {a : Option Addr} {cap n : Nat} (h : Reads E w (.slice a l.length cap) l) (hn : n ≤ l.length) :
    ∃ v, (∀ W : World, (Instr.slice t (.slice a l.length cap) none (some (.int .i64 (n : Int))) none).run P W = .ok v W) ∧ Reads E w v (l.take n) := by
  have hb := reads_cut h (Nat.zero_le n) hn
  have hc := h.cap_le
  rw [List.drop_zero, Nat.sub_zero] at hb
  refine ⟨_, fun W => ?_, hb⟩
  rw [run_slice_h W _ a l.length cap (by rw [T.he]; exact T.ht) .i64 n (by omega) (by omega), T.he, T.size]
  simp [Result.andThen, sliced]
theorem cut_l {P : Program} {t e : TypeId} {bytes : Nat} (T : Ty P E t e bytes) {a : Option Addr} {cap n : Nat} (h : Reads E w (.slice a l.length cap) l) (hn : n ≤ l.length) :
    ∃ v, (∀ W : World, (Instr.slice t (.slice a l.length cap) (some (.int .i64 (n : Int))) none none).run P W = .ok v W) ∧ Reads E w v (l.drop n) := by
  have hb := reads_cut h hn (Nat.le_refl _)
  have hc := h.cap_le
  rw [List.take_of_length_le (by rw [List.length_drop]; exact Nat.le_refl _)] at hb
  refine ⟨_, fun W => ?_, hb⟩
  rw [run_slice_l W _ a l.length cap (by rw [T.he]; exact T.ht) .i64 n (by omega) (by omega), T.he, T.size]
  simp [Result.andThen, sliced]
theorem news {b off : Nat} (h : ∀ j x, l[j]? = some x → ∀ i u, (E.cells x)[i]? = some u → w.cell? ⟨b, off + j * E.k + i, none⟩ = some u) :
    ∀ j u, (E.all l)[j]? = some u → w.cell? ((⟨b, off, none⟩ : Addr).add j) = some u := by
  intro j u hu
  have hj : j < l.length * E.k := by rw [← all_len]; exact (List.getElem?_eq_some_iff.1 hu).1
  have hk := E.pos
  have hd : j / E.k < l.length := (Nat.div_lt_iff_lt_mul hk).2 hj
  have hm : j % E.k < E.k := Nat.mod_lt _ hk
  have e1 : j = j / E.k * E.k + j % E.k := by rw [Nat.mul_comm]; exact (Nat.div_add_mod j E.k).symm
  have hx := List.getElem?_eq_getElem hd
  have h2 := h (j / E.k) _ hx (j % E.k) u (by rw [← all_get E l (j / E.k) _ hx _ hm, ← e1]; exact hu)
  rw [add_addr, show off + j = off + j / E.k * E.k + j % E.k from by omega]
  exact h2
/-- append(row of the call's own, elements...): whatever slice the elements come in, none too. -/
theorem append_all {P : Program} {t e : TypeId} {bytes : Nat} (T : Ty P E t e bytes) {ops : Array Oper} {rest : List Oper} {o : Oper} {act : Act} {Q : Exit → Act → World → Prop} (hgd : o.guard = none) (x y : Operand)
    (ho : o.op = .call { callee := .builtin .append, args := #[x, y], argTypes := #[t, t] })
    (base : Nat) (v : Value) (l : List α) (hs : act.eval x = v) (hown : w.ownsRow base e E.k v l.length (E.all l)) (yv : Value) (m : List α) (hy : act.eval y = yv) (hb : Reads E w yv m)
    (hmax : l.length + m.length ≤ maxLen) (hlen : (l.length + m.length) * bytes ≤ 140737488355328) (hbase : base ≤ w.heap.size)
    (h : ∀ v' w', w'.ownsRow base e E.k v' (l ++ m).length (E.all (l ++ m)) → w.grownBy w' v.ownBlock → wpList P ops Q rest (act.put o.dst v') w') : wpList P ops Q (o :: rest) act w := by
  obtain ⟨i, z, hi, hz, hsz, hby, hzs⟩ := T.parts
  rcases hb with ⟨rfl, rfl⟩ | ⟨b, off, cap, rfl, h2, h3, h4⟩
  · refine wpList_append_own_none hgd x y t ho base e i E.k T.ht hi v l.length (E.all l) hs hown hy ?_
    refine h v w ?_ ⟨rfl, rfl, rfl, Nat.le_refl _, fun _ _ _ => rfl⟩
    rw [List.append_nil]
    exact hown
  · exact wpList_append_own w hgd x y t ho base e i z E.k bytes T.ht hi hz hsz hby hzs E.pos v l.length (E.all l) hs hown ⟨b, off, none⟩ m.length cap (E.all m) hy (all_len E m) (news h4) (all_one E m) hmax hlen hbase (fun v' w' q1 q2 _ => h v' w' (by rw [all_app, List.length_append]; exact q1) q2)
/-- append(row of the call's own, an element that was just laid). -/
theorem append_one {w0 : World} {P : Program} {t e : TypeId} {bytes : Nat} (T : Ty P E t e bytes) {ops : Array Oper} {rest : List Oper} {o : Oper} {act : Act} {Q : Exit → Act → World → Prop} (hgd : o.guard = none) (x y : Operand)
    (ho : o.op = .call { callee := .builtin .append, args := #[x, y], argTypes := #[t, t] })
    (base : Nat) (v : Value) (l : List α) (u : α) (cs : List Value) (hc : E.cells u = cs) (hs : act.eval x = v) (hown : w0.ownsRow base e E.k v l.length (E.all l))
    (hy : act.eval y = .slice (some ⟨w0.heap.size, 0, none⟩) 1 1) (hmax : l.length + 1 ≤ maxLen) (hlen : (l.length + 1) * bytes ≤ 140737488355328) (hbase : base ≤ w0.heap.size)
    (h : ∀ v' w', w'.ownsRow base e E.k v' (l ++ [u]).length (E.all (l ++ [u])) → (w0.alloc (.cells cs.toArray e)).grownBy w' v.ownBlock → wpList P ops Q rest (act.put o.dst v') w') :
    wpList P ops Q (o :: rest) act (w0.alloc (.cells cs.toArray e)) := by
  obtain ⟨i, z, hi, hz, hsz, hby, hzs⟩ := T.parts
  subst hc
  have ea : E.all [u] = E.cells u := by rw [Enc.all, Enc.all, List.append_nil]
  refine wpList_append_own _ hgd x y t ho base e i z E.k bytes T.ht hi hz hsz hby hzs E.pos v l.length (E.all l) hs (hown.alloc _) ⟨w0.heap.size, 0, none⟩ 1 1 (E.all [u]) hy (all_len E [u]) ?_ (all_one E [u]) hmax hlen (by simp; omega) (fun v' w' q1 q2 _ => h v' w' (by rw [all_app, List.length_append]; exact q1) q2)
  intro j c hj
  rw [ea] at hj
  rw [add_addr, Nat.zero_add]
  rw [World.cell?_alloc_new]
  simpa using hj
theorem own_made {e : TypeId} (E : Enc α) (w : World) : (w.alloc (.cells #[] e)).ownsRow w.heap.size e E.k (.slice (some ⟨w.heap.size, 0, none⟩) 0 0) ([] : List α).length (E.all []) :=
  World.ownsRow_made (base := w.heap.size) w #[] 0 (Nat.le_refl _) (Nat.zero_le _) (by simp)
theorem own_nil {e : TypeId} (E : Enc α) (w : World) (base : Nat) : w.ownsRow base e E.k (.slice none 0 0) ([] : List α).length (E.all []) := World.ownsRow_nil w base e E.k
end Go.Proofs.YtdngcihjfbmbpaaDoor.Sq
