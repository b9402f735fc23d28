/- Several texts in one: World Own Seq Cel Tkn Sqb He. -/
import Derived.Test.YtmlpaafclobgcaaMgA
import Derived.Below
import Derived.WalkKit
import Derived.Laws.AppendOwn
import Derived.Lib.RuneCountTail
import Derived.Test.YtmlpaafclobgcaaChecked
import Derived.WalkLawsBesides
import Derived.WalkSpells
import Derived.OwnWalk
import Derived.Outline
import Derived.LoopTactic
import Derived.Lib.Hide
import Derived.Laws.IdiomStrings
import Derived.Lib.OthersKept
import Derived.Deep.LoopGhost
import Derived.WalkSmall
import Derived.Maps.AppendAt
import Derived.Deep.DeepMust
import Derived.LoopN
import Derived.Laws.AppendOwnNone
import Derived.Laws.Slices
import Derived.BigQuiet
import Derived.Deep.RegionHeld3
import Derived.Deep.RegionLawGrows
/- Values and worlds: what it means that a slice value reads as some bytes; that this stays where nothing old changes. -/
namespace Go.Proofs.Ytmlpaafclobgcaa
open Go.RowKit

/-- The slice value v reads as the bytes s (no list and an empty one read alike). -/
def Bys (w : World) (v : Value) (s : ByteArray) : Prop :=
  (v = .slice none 0 0 ∧ s.size = 0) ∨ ∃ b off cap, v = .slice (some ⟨b, off, none⟩) s.size cap ∧ s.size ≤ cap ∧ cap ≤ maxLen ∧ ∀ j, j < s.size → w.cell? ⟨b, off + j, none⟩ = some (.int .u8 (s.get! j).toNat)

theorem lt_of_cell {w : World} {a : Addr} {v : Value} (h : w.cell? a = some v) : a.block < w.heap.size := by
  unfold World.cell? at h
  rcases Nat.lt_or_ge a.block w.heap.size with h' | h'
  · exact h'
  · simp [Array.getElem?_eq_none h'] at h

theorem Bys.below {w w' : World} {v : Value} {s : ByteArray} (h : Bys w v s) (hb : Below w.heap.size w w') : Bys w' v s := by
  rcases h with h | ⟨b, off, cap, h1, h2, h3, h4⟩
  · exact .inl h
  · refine .inr ⟨b, off, cap, h1, h2, h3, fun j hj => ?_⟩
    have h5 := h4 j hj
    have h6 : b < w.heap.size := lt_of_cell h5
    rw [hb.cell (p := ⟨b, off + j, none⟩) h6]
    exact h5

theorem Bys.size_le {w : World} {v : Value} {s : ByteArray} (h : Bys w v s) : s.size ≤ maxLen := by
  rcases h with ⟨_, h⟩ | ⟨b, off, cap, _, h2, h3, _⟩
  · rw [h]; exact Nat.zero_le _
  · exact Nat.le_trans h2 h3

theorem nx_tail (s : ByteArray) (k i : Nat) : Sg.nx (s.extract k s.size) i = Sg.nx s (k + i) := by
  simp only [Sg.nx, Lib.tail_size, Lib.tail_get!]
  rw [show s.size - k - i = s.size - (k + i) from by omega, show k + (i + 1) = k + i + 1 from by omega, show k + (i + 2) = k + i + 2 from by omega, show k + (i + 3) = k + i + 3 from by omega]

end Go.Proofs.Ytmlpaafclobgcaa

/- Rows of a call's own beside texts that are ranged over; the tables kept; places as values. -/
namespace Go.Proofs.Ytmlpaafclobgcaa
open Go.RowKit
open Go.Proofs.Ytmlpaafclobgcaa.Sg

theorem addr_add (b off j : Nat) : (⟨b, off, none⟩ : Addr).add j = ⟨b, off + j, none⟩ := by
  unfold Addr.add
  split
  · rename_i h; subst h; rfl
  · rfl
theorem conv_bytes (b off cap : Nat) (s : ByteArray) (w : World) (hp : ∀ j, j < s.size → w.cell? ⟨b, off + j, none⟩ = some (.int .u8 (s.get! j).toNat)) :
    (convert 24 9 (.slice (some ⟨b, off, none⟩) s.size cap)).run Try.prog w = .ok (.string s) w := by
  have h := run_convert_bytes_back (P := Try.prog) w 24 9 5 ⟨b, off, none⟩ cap s.data.toList Try.underlying24 Try.underlying5 Try.underlying9 (fun j hj => by
    have hj' : j < s.size := by rw [Lib.size_eq]; exact hj
    have e := hp j hj'
    have e2 : s.data.toList[j] = s.get! j := by
      rw [← Lib.getD_get!']
      rw [List.getD_eq_getElem?_getD, List.getElem?_eq_getElem hj]
      rfl
    rw [e2]
    rw [addr_add]
    exact e)
  rw [← Lib.size_eq] at h
  simpa using h
theorem conv_nil (w : World) (c : Nat) : (convert 24 9 (.slice none 0 c)).run Try.prog w = .ok (.string ⟨#[]⟩) w := by
  rw [run_convert_bytes_string w 24 9 5 none 0 c Try.underlying24 Try.underlying5 Try.underlying9]
  simp [Conv.bytesToString]
  rfl

/-- A row of the call's own does not lie where a text is being ranged over. -/
theorem row_off_iter {w : World} {B e size n k pos : Nat} {v : Value} {xs : List Value} {s : ByteArray} (h : w.ownsRow B e size v n xs) (hk : w.heap[k]? = some (.stringIter s pos)) : v.ownBlock ≠ some k := fun e => by
  rcases h.2 with ⟨h1, _⟩ | ⟨g, cap, cur, h1, _, h3, _⟩
  · rw [h1] at e; cases e
  · rw [h1] at e
    obtain rfl : g = k := Option.some.inj e
    rw [h3] at hk; cases hk
theorem own_iterAt {w : World} {B e size n k pos : Nat} {v : Value} {xs : List Value} {s : ByteArray} (h : w.ownsRow B e size v n xs) (hk : w.heap[k]? = some (.stringIter s pos)) (pos' : Nat) : (w.iterAt k s pos').ownsRow B e size v n xs :=
  h.kept (row := some k) ⟨rfl, rfl, rfl, Nat.le_of_eq (Lib.iterAt_size w k s pos').symm, fun j _ hj => Lib.iterAt_other w k j s pos' (fun e => hj (by rw [e]))⟩ (.inr (row_off_iter h hk))
theorem own_ne_iter {w : World} {B e size n k pos : Nat} {v : Value} {xs : List Value} {s : ByteArray} (h : w.ownsRow B e size v n xs) (hk : w.heap[k]? = some (.stringIter s pos)) : some k ≠ v.ownBlock := fun e => row_off_iter h hk e.symm
/-- A row of the call's own stays where nothing below the heap's size changes. -/
theorem own_below {w w' : World} {B e size n : Nat} {v : Value} {xs : List Value} (h : w.ownsRow B e size v n xs) (hb : Below w.heap.size w w') : w'.ownsRow B e size v n xs := by
  refine ⟨h.1, ?_⟩
  rcases h.2 with h0 | ⟨g, cap, cur, hv, hbg, hg, rest⟩
  · exact .inl h0
  · have hlt : g < w.heap.size := (Array.getElem?_eq_some_iff.1 hg).1
    exact .inr ⟨g, cap, cur, hv, hbg, (hb.block g hlt).trans hg, rest⟩
/-- Places as values. -/
def places (l : List Nat) : List Value := l.map fun (p : Nat) => Value.int .i64 (p : Int)
theorem places_snoc (l : List Nat) (p : Nat) : places (l ++ [p]) = places l ++ [.int .i64 (p : Int)] := by simp [places]
theorem infoInt : (Try.prog.info? 3).map (fun i => (i.zero, i.size, i.bytes)) = some (some (.int .i64 0), 1, 8) := by kernel_rfl
end Go.Proofs.Ytmlpaafclobgcaa

/- Slices whose elements take so many cells each, over any program: how they read, rows of the call's own, pieces, append. For structs of one-cell fields of whatever number. -/
namespace Go.Proofs.Ytmlpaafclobgcaa.Sq
open Go.RowKit

theorem add_addr (b off j : Nat) : (⟨b, off, none⟩ : Addr).add j = ⟨b, off + j, none⟩ := by
  unfold Addr.add
  split
  · rename_i h; subst h; rfl
  · rfl
theorem cell_lt {w : World} {a : Addr} {v : Value} (h : w.cell? a = some v) : a.block < w.heap.size := by
  unfold World.cell? at h
  rcases Nat.lt_or_ge a.block w.heap.size with h' | h'
  · exact h'
  · simp [Array.getElem?_eq_none h'] at h
/-- How an element lies in memory: so many cells. -/
structure Enc (α : Type) where
  cells : α → List Value
  k : Nat
  pos : 0 < k
  len : ∀ x, (cells x).length = k
  one : ∀ x, ∀ u ∈ cells x, u.oneCell' = true
variable {α : Type}
def Enc.all (E : Enc α) : List α → List Value
  | [] => []
  | x :: r => E.cells x ++ E.all r
theorem all_len (E : Enc α) (l : List α) : (E.all l).length = l.length * E.k := by
  induction l with
  | nil => simp [Enc.all]
  | cons x r ih => rw [Enc.all, List.length_append, E.len, ih, List.length_cons, Nat.add_mul]; omega
theorem all_app (E : Enc α) (l m : List α) : E.all (l ++ m) = E.all l ++ E.all m := by
  induction l with
  | nil => rfl
  | cons x r ih => rw [List.cons_append, Enc.all, Enc.all, ih, List.append_assoc]
theorem all_one (E : Enc α) (l : List α) : ∀ u ∈ E.all l, u.oneCell' = true := by
  induction l with
  | nil => intro u hu; cases hu
  | cons x r ih =>
    intro u hu
    rw [Enc.all, List.mem_append] at hu
    rcases hu with hu | hu
    · exact E.one x u hu
    · exact ih u hu
theorem all_get (E : Enc α) (l : List α) (j : Nat) (x : α) (h : l[j]? = some x) (i : Nat) (hi : i < E.k) : (E.all l)[j * E.k + i]? = (E.cells x)[i]? := by
  induction l generalizing j with
  | nil => simp at h
  | cons y r ih =>
    cases j with
    | zero =>
      obtain rfl : y = x := by simpa using h
      rw [Enc.all, List.getElem?_append_left (by rw [E.len]; omega)]
      simp
    | succ j =>
      rw [Enc.all, List.getElem?_append_right (by rw [E.len, Nat.add_mul]; omega), E.len, show (j + 1) * E.k + i - E.k = j * E.k + i from by rw [Nat.add_mul]; omega]
      exact ih j (by simpa using h)
theorem all_take (E : Enc α) (l : List α) (n : Nat) : (E.all l).take (n * E.k) = E.all (l.take n) := by
  induction l generalizing n with
  | nil => simp [Enc.all]
  | cons x r ih =>
    cases n with
    | zero => simp [Enc.all]
    | succ n =>
      rw [Enc.all, List.take_succ_cons, Enc.all, List.take_append, E.len, show (n + 1) * E.k - E.k = n * E.k from by rw [Nat.add_mul]; omega, ih n, List.take_of_length_le (by rw [E.len, Nat.add_mul]; omega)]
/-- The slice value v reads as the elements l (no list and an empty one read alike). -/
def Reads (E : Enc α) (w : World) (v : Value) (l : List α) : Prop :=
  (v = .slice none 0 0 ∧ l = []) ∨ ∃ b off cap, v = .slice (some ⟨b, off, none⟩) l.length cap ∧ l.length ≤ cap ∧ cap ≤ maxLen ∧ ∀ j x, l[j]? = some x → ∀ i u, (E.cells x)[i]? = some u → w.cell? ⟨b, off + j * E.k + i, none⟩ = some u
variable {E : Enc α} {w w' : World} {v : Value} {l : List α}
theorem Reads.below (h : Reads E w v l) (hb : Below w.heap.size w w') : Reads E w' v l := by
  rcases h with h | ⟨b, off, cap, h1, h2, h3, h4⟩
  · exact .inl h
  · refine .inr ⟨b, off, cap, h1, h2, h3, fun j x hj i u hu => ?_⟩
    have h5 := h4 j x hj i u hu
    rw [hb.cell (p := ⟨b, off + j * E.k + i, none⟩) (cell_lt h5)]
    exact h5
theorem Reads.shape (h : Reads E w v l) : ∃ a cap, v = .slice a l.length cap := by
  rcases h with ⟨h1, h2⟩ | ⟨b, off, cap, h1, _⟩
  · exact ⟨none, 0, by rw [h1, h2]; rfl⟩
  · exact ⟨_, _, h1⟩
theorem Reads.size_le (h : Reads E w v l) : l.length ≤ maxLen := by
  rcases h with ⟨_, h⟩ | ⟨b, off, cap, _, h2, h3, _⟩
  · rw [h]; exact Nat.zero_le _
  · exact Nat.le_trans h2 h3
theorem Reads.cap_le {a : Option Addr} {cap : Nat} (h : Reads E w (.slice a l.length cap) l) : l.length ≤ cap ∧ cap ≤ maxLen := by
  rcases h with ⟨hv, h0⟩ | ⟨b, off, cap', hv, g2, g3, g4⟩
  · obtain ⟨rfl, -, rfl⟩ := Value.slice.inj hv
    exact ⟨by rw [h0]; exact Nat.le_refl _, Nat.zero_le _⟩
  · obtain ⟨rfl, -, rfl⟩ := Value.slice.inj hv
    exact ⟨g2, g3⟩
/-- The slice at an index: where its element lies. -/
theorem Reads.at_ {a : Option Addr} {cap : Nat} (h : Reads E w (.slice a l.length cap) l) (j : Nat) (x : α) (hj : l[j]? = some x) :
    ∃ b off, a = some ⟨b, off, none⟩ ∧ ∀ i u, (E.cells x)[i]? = some u → w.cell? ⟨b, off + j * E.k + i, none⟩ = some u := by
  rcases h with ⟨_, rfl⟩ | ⟨b, off, cap', hv, h2, h3, h4⟩
  · simp at hj
  · obtain ⟨rfl, -, rfl⟩ := Value.slice.inj hv
    exact ⟨b, off, rfl, h4 j x hj⟩
/-- A row of the call's own reads as its elements. -/
theorem Reads.of_own {base : Nat} {e : TypeId} (h : w.ownsRow base e E.k v l.length (E.all l)) : Reads E w v l := by
  rcases h.2 with ⟨h1, h2⟩ | ⟨g, cap, cur, h1, h2, h3, h4, h5, h6, h7⟩
  · exact .inl ⟨h1, List.eq_nil_of_length_eq_zero h2⟩
  · refine .inr ⟨g, 0, cap, h1, h4, h5, fun j x hj i u hu => ?_⟩
    have hi : i < E.k := by rw [← E.len x]; exact (List.getElem?_eq_some_iff.1 hu).1
    have c1 := h.cells (g := g) (by rw [h1]; rfl) _ _ ((all_get E l j x hj i hi).trans hu)
    rw [add_addr] at c1
    rw [Nat.zero_add] at c1 ⊢
    exact c1
/-- A row of the call's own stays where nothing below the heap's size changes. -/
theorem own_below {B e size n : Nat} {xs : List Value} (h : w.ownsRow B e size v n xs) (hb : Below w.heap.size w w') : w'.ownsRow B e size v n xs := by
  refine ⟨h.1, ?_⟩
  rcases h.2 with h0 | ⟨g, cap, cur, hv, hbg, hg, rest⟩
  · exact .inl h0
  · have hlt : g < w.heap.size := (Array.getElem?_eq_some_iff.1 hg).1
    exact .inr ⟨g, cap, cur, hv, hbg, (hb.block g hlt).trans hg, rest⟩
theorem own_base {B B' e size n : Nat} {xs : List Value} (h : w.ownsRow B e size v n xs) (hB : B' ≤ B) : w.ownsRow B' e size v n xs := by
  refine ⟨h.1, ?_⟩
  rcases h.2 with h0 | ⟨g, cap, cur, hv, hbg, rest⟩
  · exact .inl h0
  · exact .inr ⟨g, cap, cur, hv, Nat.le_trans hB hbg, rest⟩
/-- What the walk asks of the slice's type and the element's. -/
structure Ty (P : Program) (E : Enc α) (t e : TypeId) (bytes : Nat) : Prop where
  ht : P.underlying t = some (.slice e)
  he : P.elem t = e
  parts : ∃ i z, P.info? e = some i ∧ i.zero = some z ∧ i.size = E.k ∧ i.bytes = bytes ∧ z.cells.size = E.k
  size : ∀ w, (sizeOf e).run P w = .ok E.k w
theorem Ty.of {P : Program} {E : Enc α} {t e : TypeId} {bytes : Nat} {z : Value} (ht : P.underlying t = some (.slice e)) (he : P.elem t = e) (hi : (P.info? e).map (fun i => (i.zero, i.size, i.bytes)) = some (some z, E.k, bytes)) (hz : z.cells.size = E.k) (hs : ∀ w, (sizeOf e).run P w = .ok E.k w) : Ty P E t e bytes := by
  obtain ⟨i, h1, h2, h3, h4⟩ := info_parts hi
  exact ⟨ht, he, ⟨i, z, h1, h2, h3, h4, hz⟩, hs⟩
theorem reads_cut {a : Option Addr} {cap lo hi : Nat} (h : Reads E w (.slice a l.length cap) l) (h1 : lo ≤ hi) (h2 : hi ≤ l.length) :
    Reads E w (.slice (if cap = lo then a else a.map fun x => x.add (lo * E.k)) (hi - lo) (cap - lo)) ((l.drop lo).take (hi - lo)) := by
  have hz : ((l.drop lo).take (hi - lo)).length = hi - lo := by rw [List.length_take, List.length_drop]; omega
  rcases h with ⟨hv, h0⟩ | ⟨b, off, cap', hv, g2, g3, g4⟩
  · obtain ⟨rfl, -, rfl⟩ := Value.slice.inj hv
    subst h0
    obtain rfl : hi = 0 := by simpa using h2
    obtain rfl : lo = 0 := by omega
    exact .inl ⟨rfl, rfl⟩
  · obtain ⟨rfl, -, rfl⟩ := Value.slice.inj hv
    by_cases hc : cap = lo
    · rw [if_pos hc]
      refine .inr ⟨b, off, cap - lo, by rw [hz], by omega, by omega, fun j x hj => ?_⟩
      have := (List.getElem?_eq_some_iff.1 hj).1
      omega
    · rw [if_neg hc]
      refine .inr ⟨b, off + lo * E.k, cap - lo, ?_, by omega, by omega, fun j x hj i u hu => ?_⟩
      · rw [hz, Option.map_some, add_addr]
      · have hj1 := (List.getElem?_eq_some_iff.1 hj).1
        rw [List.getElem?_take, if_pos (by omega), List.getElem?_drop] at hj
        rw [show off + lo * E.k + j * E.k + i = off + (lo + j) * E.k + i from by rw [Nat.add_mul]; omega]
        exact g4 (lo + j) x hj i u hu
theorem cut_lh {P : Program} {t e : TypeId} {bytes : Nat} (T : Ty P E t e bytes) {a : Option Addr} {cap lo hi : Nat} (h : Reads E w (.slice a l.length cap) l) (h1 : lo ≤ hi) (h2 : hi ≤ l.length) :
    ∃ v, (∀ W : World, (Instr.slice t (.slice a l.length cap) (some (.int .i64 (lo : Int))) (some (.int .i64 (hi : Int))) none).run P W = .ok v W) ∧ Reads E w v ((l.drop lo).take (hi - lo)) := by
  have hb := reads_cut h h1 h2
  have hc := h.cap_le
  refine ⟨_, fun W => ?_, hb⟩
  rw [run_slice_lh W _ a l.length cap (by rw [T.he]; exact T.ht) .i64 .i64 lo hi (by omega) (by omega) (by omega), T.he, T.size]
  simp [Result.andThen, sliced]
theorem cut_h {P : Program} {t e : TypeId} {bytes : Nat} (T : Ty P E t e bytes) {a : Option Addr} {cap n : Nat} (h : Reads E w (.slice a l.length cap) l) (hn : n ≤ l.length) :
    ∃ v, (∀ W : World, (Instr.slice t (.slice a l.length cap) none (some (.int .i64 (n : Int))) none).run P W = .ok v W) ∧ Reads E w v (l.take n) := by
  have hb := reads_cut h (Nat.zero_le n) hn
  have hc := h.cap_le
  rw [List.drop_zero, Nat.sub_zero] at hb
  refine ⟨_, fun W => ?_, hb⟩
  rw [run_slice_h W _ a l.length cap (by rw [T.he]; exact T.ht) .i64 n (by omega) (by omega), T.he, T.size]
  simp [Result.andThen, sliced]
theorem cut_l {P : Program} {t e : TypeId} {bytes : Nat} (T : Ty P E t e bytes) {a : Option Addr} {cap n : Nat} (h : Reads E w (.slice a l.length cap) l) (hn : n ≤ l.length) :
    ∃ v, (∀ W : World, (Instr.slice t (.slice a l.length cap) (some (.int .i64 (n : Int))) none none).run P W = .ok v W) ∧ Reads E w v (l.drop n) := by
  have hb := reads_cut h hn (Nat.le_refl _)
  have hc := h.cap_le
  rw [List.take_of_length_le (by rw [List.length_drop]; exact Nat.le_refl _)] at hb
  refine ⟨_, fun W => ?_, hb⟩
  rw [run_slice_l W _ a l.length cap (by rw [T.he]; exact T.ht) .i64 n (by omega) (by omega), T.he, T.size]
  simp [Result.andThen, sliced]
theorem news {b off : Nat} (h : ∀ j x, l[j]? = some x → ∀ i u, (E.cells x)[i]? = some u → w.cell? ⟨b, off + j * E.k + i, none⟩ = some u) :
    ∀ j u, (E.all l)[j]? = some u → w.cell? ((⟨b, off, none⟩ : Addr).add j) = some u := by
  intro j u hu
  have hj : j < l.length * E.k := by rw [← all_len]; exact (List.getElem?_eq_some_iff.1 hu).1
  have hk := E.pos
  have hd : j / E.k < l.length := (Nat.div_lt_iff_lt_mul hk).2 hj
  have hm : j % E.k < E.k := Nat.mod_lt _ hk
  have e1 : j = j / E.k * E.k + j % E.k := by rw [Nat.mul_comm]; exact (Nat.div_add_mod j E.k).symm
  have hx := List.getElem?_eq_getElem hd
  have h2 := h (j / E.k) _ hx (j % E.k) u (by rw [← all_get E l (j / E.k) _ hx _ hm, ← e1]; exact hu)
  rw [add_addr, show off + j = off + j / E.k * E.k + j % E.k from by omega]
  exact h2
/-- append(row of the call's own, elements...): whatever slice the elements come in, none too. -/
theorem append_all {P : Program} {t e : TypeId} {bytes : Nat} (T : Ty P E t e bytes) {ops : Array Oper} {rest : List Oper} {o : Oper} {act : Act} {Q : Exit → Act → World → Prop} (hgd : o.guard = none) (x y : Operand)
    (ho : o.op = .call { callee := .builtin .append, args := #[x, y], argTypes := #[t, t] })
    (base : Nat) (v : Value) (l : List α) (hs : act.eval x = v) (hown : w.ownsRow base e E.k v l.length (E.all l)) (yv : Value) (m : List α) (hy : act.eval y = yv) (hb : Reads E w yv m)
    (hmax : l.length + m.length ≤ maxLen) (hlen : (l.length + m.length) * bytes ≤ 140737488355328) (hbase : base ≤ w.heap.size)
    (h : ∀ v' w', w'.ownsRow base e E.k v' (l ++ m).length (E.all (l ++ m)) → w.grownBy w' v.ownBlock → wpList P ops Q rest (act.put o.dst v') w') : wpList P ops Q (o :: rest) act w := by
  obtain ⟨i, z, hi, hz, hsz, hby, hzs⟩ := T.parts
  rcases hb with ⟨rfl, rfl⟩ | ⟨b, off, cap, rfl, h2, h3, h4⟩
  · refine wpList_append_own_none hgd x y t ho base e i E.k T.ht hi v l.length (E.all l) hs hown hy ?_
    refine h v w ?_ ⟨rfl, rfl, rfl, Nat.le_refl _, fun _ _ _ => rfl⟩
    rw [List.append_nil]
    exact hown
  · exact wpList_append_own w hgd x y t ho base e i z E.k bytes T.ht hi hz hsz hby hzs E.pos v l.length (E.all l) hs hown ⟨b, off, none⟩ m.length cap (E.all m) hy (all_len E m) (news h4) (all_one E m) hmax hlen hbase (fun v' w' q1 q2 _ => h v' w' (by rw [all_app, List.length_append]; exact q1) q2)
/-- append(row of the call's own, an element that was just laid). -/
theorem append_one {w0 : World} {P : Program} {t e : TypeId} {bytes : Nat} (T : Ty P E t e bytes) {ops : Array Oper} {rest : List Oper} {o : Oper} {act : Act} {Q : Exit → Act → World → Prop} (hgd : o.guard = none) (x y : Operand)
    (ho : o.op = .call { callee := .builtin .append, args := #[x, y], argTypes := #[t, t] })
    (base : Nat) (v : Value) (l : List α) (u : α) (cs : List Value) (hc : E.cells u = cs) (hs : act.eval x = v) (hown : w0.ownsRow base e E.k v l.length (E.all l))
    (hy : act.eval y = .slice (some ⟨w0.heap.size, 0, none⟩) 1 1) (hmax : l.length + 1 ≤ maxLen) (hlen : (l.length + 1) * bytes ≤ 140737488355328) (hbase : base ≤ w0.heap.size)
    (h : ∀ v' w', w'.ownsRow base e E.k v' (l ++ [u]).length (E.all (l ++ [u])) → (w0.alloc (.cells cs.toArray e)).grownBy w' v.ownBlock → wpList P ops Q rest (act.put o.dst v') w') :
    wpList P ops Q (o :: rest) act (w0.alloc (.cells cs.toArray e)) := by
  obtain ⟨i, z, hi, hz, hsz, hby, hzs⟩ := T.parts
  subst hc
  have ea : E.all [u] = E.cells u := by rw [Enc.all, Enc.all, List.append_nil]
  refine wpList_append_own _ hgd x y t ho base e i z E.k bytes T.ht hi hz hsz hby hzs E.pos v l.length (E.all l) hs (hown.alloc _) ⟨w0.heap.size, 0, none⟩ 1 1 (E.all [u]) hy (all_len E [u]) ?_ (all_one E [u]) hmax hlen (by simp; omega) (fun v' w' q1 q2 _ => h v' w' (by rw [all_app, List.length_append]; exact q1) q2)
  intro j c hj
  rw [ea] at hj
  rw [add_addr, Nat.zero_add]
  rw [World.cell?_alloc_new]
  simpa using hj
theorem own_made {e : TypeId} (E : Enc α) (w : World) : (w.alloc (.cells #[] e)).ownsRow w.heap.size e E.k (.slice (some ⟨w.heap.size, 0, none⟩) 0 0) ([] : List α).length (E.all []) :=
  World.ownsRow_made (base := w.heap.size) w #[] 0 (Nat.le_refl _) (Nat.zero_le _) (by simp)
theorem own_nil {e : TypeId} (E : Enc α) (w : World) (base : Nat) : w.ownsRow base e E.k (.slice none 0 0) ([] : List α).length (E.all []) := World.ownsRow_nil w base e E.k
end Go.Proofs.Ytmlpaafclobgcaa.Sq

/- What a cell holds, over stores, new blocks, draws and calls, step by step (any seat; no type of the program's own). -/
namespace Go.Proofs.Ytmlpaafclobgcaa
open Go.RowKit

theorem size_alloc (w : World) (o : Obj) : (w.alloc o).heap.size = w.heap.size + 1 := by simp
theorem below_alloc (w : World) (o : Obj) : Below w.heap.size w (w.alloc o) := (Below.refl _ w).alloc (Nat.le_refl _) o
theorem below_call {w1 W W' : World} (hn : Below w1.heap.size w1 W) (hb : Below W.heap.size W W') : Below w1.heap.size w1 W' := hn.trans (hb.mono hn.size)
theorem below_allocS {a w : World} (h : Below a.heap.size a w) (o : Obj) : Below a.heap.size a (w.alloc o) := h.alloc h.size o
theorem bcell {W w1 : World} (hb : Below W.heap.size W w1) : (∀ b o, b < W.heap.size → w1.cell? ⟨b, o, none⟩ = W.cell? ⟨b, o, none⟩) ∧ (∀ b o, b < W.heap.size → w1.frozen? ⟨b, o, none⟩ = W.frozen? ⟨b, o, none⟩) :=
  ⟨fun b o h => hb.cell (p := ⟨b, o, none⟩) h, fun b o h => hb.frozen (p := ⟨b, o, none⟩) h⟩
theorem cell_set_eq (w : World) (a : Addr) (v : Value) (h : (w.cell? a).isSome = true) : (w.setCell a v).cell? a = some v := by
  obtain ⟨u, hu⟩ := Option.isSome_iff_exists.1 h
  exact World.cell?_setCell_same w a v hu
theorem cell_set_off (w : World) (b o o' : Nat) (v : Value) (h : o ≠ o') : (w.setCell ⟨b, o, none⟩ v).cell? ⟨b, o', none⟩ = w.cell? ⟨b, o', none⟩ :=
  World.cell?_setCell_other w _ _ v (fun e => h (by injection e))
theorem cell_set_far (w : World) (b o b' o' : Nat) (v : Value) (h : b ≠ b') : (w.setCell ⟨b, o, none⟩ v).cell? ⟨b', o', none⟩ = w.cell? ⟨b', o', none⟩ :=
  World.cell?_setCell_other w _ _ v (fun e => h (by injection e))
theorem at_below {W w' : World} {p : Addr} {u : Value} (hb : Below W.heap.size W w') (h : W.cell? p = some u) : w'.cell? p = some u := by rw [hb.cell (lt_of_cell h)]; exact h
theorem there_below {W w' : World} {p : Addr} (hb : Below W.heap.size W w') (h : (W.cell? p).isSome = true) : (w'.cell? p).isSome = true := by
  obtain ⟨u, hu⟩ := Option.isSome_iff_exists.1 h
  rw [hb.cell (lt_of_cell hu)]
  exact h
theorem there_alloc {W : World} {o : Obj} {p : Addr} (h : (W.cell? p).isSome = true) : ((W.alloc o).cell? p).isSome = true := there_below (below_alloc W o) h
theorem there_drew {W : World} {p : Addr} (h : (W.cell? p).isSome = true) : (W.drew.cell? p).isSome = true := h
theorem there_set {W : World} {q p : Addr} {v : Value} (h : (W.cell? p).isSome = true) : ((W.setCell q v).cell? p).isSome = true := by
  by_cases e : q = p
  · subst e; rw [cell_set_eq _ _ _ h]; rfl
  · rw [World.cell?_setCell_other _ _ _ _ e]; exact h
theorem at_set {W : World} {p : Addr} {v : Value} (h : (W.cell? p).isSome = true) : (W.setCell p v).cell? p = some v := cell_set_eq W p v h
theorem at_off {W : World} {b o o' : Nat} {v u : Value} (hne : o ≠ o') (h : W.cell? ⟨b, o', none⟩ = some u) : (W.setCell ⟨b, o, none⟩ v).cell? ⟨b, o', none⟩ = some u := by rw [cell_set_off _ _ _ _ _ hne]; exact h
theorem at_far {W : World} {b o b' o' : Nat} {v u : Value} (hne : b ≠ b') (h : W.cell? ⟨b', o', none⟩ = some u) : (W.setCell ⟨b, o, none⟩ v).cell? ⟨b', o', none⟩ = some u := by rw [cell_set_far _ _ _ _ _ _ hne]; exact h
theorem at_alloc {W : World} {o : Obj} {p : Addr} {u : Value} (h : W.cell? p = some u) : (W.alloc o).cell? p = some u := by rw [(below_alloc W o).cell (lt_of_cell h)]; exact h
theorem at_new {W : World} {C : Array Value} {t : TypeId} {k : Nat} {u : Value} (h : C[k]? = some u) : (W.alloc (.cells C t)).cell? ⟨W.heap.size, k, none⟩ = some u := by rw [World.cell?_alloc_mark]; exact h
theorem at_drew {W : World} {p : Addr} {u : Value} (h : W.cell? p = some u) : W.drew.cell? p = some u := h
end Go.Proofs.Ytmlpaafclobgcaa

/- Tokens as values: how they lie in a row; the row of a call's own that holds them; what it means that a call hands them back (no function of the program's). -/
namespace Go.Proofs.Ytmlpaafclobgcaa
open Go.RowKit
open Go.Proofs.Ytmlpaafclobgcaa.Sg
open Go.Proofs.Ytmlpaafclobgcaa.Sq
set_option linter.unusedVariables false

/-- A token: its kind, from, to. -/
abbrev Tk := Nat × Nat × Nat
def tkCells (x : Tk) : List Value := [.int .i64 x.1, .int .i64 x.2.1, .int .i64 x.2.2]
def encT : Enc Tk := ⟨tkCells, 3, by decide, fun _ => rfl, fun x u hu => by
  cases hu with
  | head => rfl
  | tail _ hu => cases hu with
    | head => rfl
    | tail _ hu => cases hu with
      | head => rfl
      | tail _ hu => cases hu⟩
theorem tyT : Ty Try.prog encT 26 64 24 := Ty.of (z := .agg #[.int .i64 0, .int .i64 0, .int .i64 0]) Try.underlying26 (by kernel_rfl) (by kernel_rfl) rfl (fun w => by kernel_rfl)
theorem toks_at {w : World} {a : Option Addr} {cap : Nat} {l : List Tk} (h : Reads encT w (.slice a l.length cap) l) (j : Nat) (x : Tk) (hj : l[j]? = some x) :
    ∃ b off, a = some ⟨b, off, none⟩ ∧ w.cell? ⟨b, off + j * 3, none⟩ = some (.int .i64 x.1) ∧ w.cell? ⟨b, off + j * 3 + 1, none⟩ = some (.int .i64 x.2.1) ∧ w.cell? ⟨b, off + j * 3 + 2, none⟩ = some (.int .i64 x.2.2) := by
  obtain ⟨b, off, h1, h2⟩ := h.at_ j x hj
  exact ⟨b, off, h1, h2 0 _ rfl, h2 1 _ rfl, h2 2 _ rfl⟩

section
variable {w w' : World} {b : Nat} {v : Value}
/-- The tokens' row is the call's own, and lies above. -/
abbrev Row (w : World) (b : Nat) (v : Value) (l : List Tk) : Prop := w.ownsRow (b + 1) 64 3 v l.length (encT.all l)
theorem row_set {l : List Tk} (h : Row w b v l) (o : Nat) (u : Value) : Row (w.setCell ⟨b, o, none⟩ u) b v l := ownsRow_setCell_below h (a := ⟨b, o, none⟩) (by simp) u
theorem bel_set {B : Nat} {a : World} (h : Below B a w) (hB : B ≤ b) (o : Nat) (u : Value) : Below B a (w.setCell ⟨b, o, none⟩ u) := h.setCell (p := ⟨b, o, none⟩) hB u

theorem tok_new (W : World) (x : Tk) (t : TypeId) : ∀ j c, (encT.all [x])[j]? = some c → (W.alloc (.cells #[.int .i64 x.1, .int .i64 x.2.1, .int .i64 x.2.2] t)).cell? ⟨W.heap.size, j, none⟩ = some c := by
  intro j c hj
  rw [World.cell?_alloc_mark]
  simpa [Enc.all, encT, tkCells] using hj
/-- Where the lower bound is smaller. -/
theorem _root_.Go.RowKit.Below.trans_lo {B C : Nat} {a m c : World} (h : Below B a m) (hC : C ≤ B) (h2 : Below C m c) : Below C a c := (h.mono hC).trans h2
end
/-- What Tokens hands back: a row of its own that reads as the tokens of the text. -/
def Gives (L : List Nat) (w : World) (e : Ending) (w' : World) : Prop :=
  ∃ u, e = .returned u ∧ w'.ownsRow w.heap.size 64 3 u (Sc.tokens L).length (encT.all (Sc.tokens L)) ∧ Below w.heap.size w w'
/-- What Tokens hands back, to be read. -/
theorem Gives.read {L : List Nat} {w w' : World} {e : Ending} (h : Gives L w e w') : ∃ a cap, e = .returned (.slice a (Sc.tokens L).length cap) ∧ Reads encT w' (.slice a (Sc.tokens L).length cap) (Sc.tokens L) ∧ Below w.heap.size w w' := by
  obtain ⟨u, rfl, hO, hB⟩ := h
  have hR := Reads.of_own (E := encT) hO
  obtain ⟨a, cap, rfl⟩ := hR.shape
  exact ⟨a, cap, rfl, hR, hB⟩
theorem reads_all {w : World} {a : Option Addr} {cap : Nat} {l : List Tk} (h : Reads encT w (.slice a l.length cap) l) (h0 : l ≠ []) :
    ∃ b off, a = some ⟨b, off, none⟩ ∧ ∀ j x, l[j]? = some x → w.cell? ⟨b, off + j * 3, none⟩ = some (.int .i64 x.1) ∧ w.cell? ⟨b, off + j * 3 + 1, none⟩ = some (.int .i64 x.2.1) ∧ w.cell? ⟨b, off + j * 3 + 2, none⟩ = some (.int .i64 x.2.2) := by
  obtain ⟨x0, r, rfl⟩ := List.exists_cons_of_ne_nil h0
  obtain ⟨b, off, rfl, -⟩ := toks_at h 0 x0 rfl
  refine ⟨b, off, rfl, fun j x hj => ?_⟩
  obtain ⟨b', off', h2, h3⟩ := toks_at h j x hj
  injection h2 with h2
  injection h2 with h4 h5
  subst h4 h5
  exact h3
end Go.Proofs.Ytmlpaafclobgcaa

/- Slices of elements of so many cells: pieces with no room behind them; append as one step of a region that draws its order. -/
namespace Go.Proofs.Ytmlpaafclobgcaa.Sq
open Go.RowKit
variable {α : Type} {E : Enc α} {w w' : World} {l : List α}

/-- The slice value v reads as the elements l, and has no room behind them. -/
def Full (E : Enc α) (w : World) (v : Value) (l : List α) : Prop := Reads E w v l ∧ ∃ a, v = .slice a l.length l.length
theorem Full.below {v : Value} (h : Full E w v l) (hb : Below w.heap.size w w') : Full E w' v l := ⟨h.1.below hb, h.2⟩
theorem reads_cut_full {a : Option Addr} {cap lo hi : Nat} (h : Reads E w (.slice a l.length cap) l) (h1 : lo ≤ hi) (h2 : hi ≤ l.length) :
    Full E w (.slice (if hi = lo then a else a.map fun x => x.add (lo * E.k)) (hi - lo) (hi - lo)) ((l.drop lo).take (hi - lo)) := by
  have hz : ((l.drop lo).take (hi - lo)).length = hi - lo := by rw [List.length_take, List.length_drop]; omega
  refine ⟨?_, _, by rw [hz]⟩
  rcases h with ⟨hv, h0⟩ | ⟨b, off, cap', hv, g2, g3, g4⟩
  · obtain ⟨rfl, -, rfl⟩ := Value.slice.inj hv
    subst h0
    obtain rfl : hi = 0 := by simpa using h2
    obtain rfl : lo = 0 := by omega
    exact .inl ⟨rfl, rfl⟩
  · obtain ⟨rfl, -, rfl⟩ := Value.slice.inj hv
    by_cases hc : hi = lo
    · rw [if_pos hc]
      refine .inr ⟨b, off, hi - lo, by rw [hz], by rw [hz]; exact Nat.le_refl _, by omega, fun j x hj => ?_⟩
      have := (List.getElem?_eq_some_iff.1 hj).1
      omega
    · rw [if_neg hc]
      refine .inr ⟨b, off + lo * E.k, hi - lo, ?_, by rw [hz]; exact Nat.le_refl _, by omega, fun j x hj i u hu => ?_⟩
      · rw [hz, Option.map_some, add_addr]
      · have hj1 := (List.getElem?_eq_some_iff.1 hj).1
        rw [List.getElem?_take, if_pos (by omega), List.getElem?_drop] at hj
        rw [show off + lo * E.k + j * E.k + i = off + (lo + j) * E.k + i from by rw [Nat.add_mul]; omega]
        exact g4 (lo + j) x hj i u hu
/-- l[lo:hi:hi]. -/
theorem cut_lhm {P : Program} {t e : TypeId} {bytes : Nat} (T : Ty P E t e bytes) {a : Option Addr} {cap lo hi : Nat} (h : Reads E w (.slice a l.length cap) l) (h1 : lo ≤ hi) (h2 : hi ≤ l.length) :
    ∃ v, (∀ W : World, (Instr.slice t (.slice a l.length cap) (some (.int .i64 (lo : Int))) (some (.int .i64 (hi : Int))) (some (.int .i64 (hi : Int)))).run P W = .ok v W) ∧ Full E w v ((l.drop lo).take (hi - lo)) := by
  have hb := reads_cut_full h h1 h2
  have hc := h.cap_le
  refine ⟨_, fun W => ?_, hb⟩
  rw [run_slice_lhm W _ a l.length cap (by rw [T.he]; exact T.ht) .i64 .i64 .i64 lo hi hi (by omega) (by omega) (by omega) (by omega), T.he, T.size]
  simp [Result.andThen, sliced]
/-- l[:n:n]. -/
theorem cut_hm {P : Program} {t e : TypeId} {bytes : Nat} (T : Ty P E t e bytes) {a : Option Addr} {cap n : Nat} (h : Reads E w (.slice a l.length cap) l) (hn : n ≤ l.length) :
    ∃ v, (∀ W : World, (Instr.slice t (.slice a l.length cap) none (some (.int .i64 (n : Int))) (some (.int .i64 (n : Int)))).run P W = .ok v W) ∧ Full E w v (l.take n) := by
  have hb := reads_cut_full h (Nat.zero_le n) hn
  have hc := h.cap_le
  rw [List.drop_zero, Nat.sub_zero] at hb
  refine ⟨_, fun W => ?_, hb⟩
  rw [run_slice_hm W _ a l.length cap (by rw [T.he]; exact T.ht) .i64 .i64 n n (by omega) (by omega) (by omega), T.he, T.size]
  simp [Result.andThen, sliced]
/-- append onto a piece with no room: a new row. -/
theorem step_append_full {P : Program} {t e : TypeId} {bytes : Nat} (T : Ty P E t e bytes) {ops : Array Oper} {o : Oper} {act : Act} {K : Act → World → Prop} {Q : Exit → Act → World → Prop} {G : Prop} (hgd : o.guard = none) (x y : Operand)
    (ho : o.op = .call { callee := .builtin .append, args := #[x, y], argTypes := #[t, t] })
    (v : Value) (l : List α) (hs : act.eval x = v) (hF : Full E w v l) (b m : Nat) (us : List α) (hm : us.length = m) (hm0 : 0 < m) (hy : act.eval y = .slice (some ⟨b, 0, none⟩) m m)
    (hnew : ∀ j c, (E.all us)[j]? = some c → w.cell? ⟨b, j, none⟩ = some c) (hmax : l.length + m ≤ maxLen) (hlen : (l.length + m) * bytes ≤ 140737488355328)
    (h : ∀ v' w', w'.ownsRow w.heap.size e E.k v' (l ++ us).length (E.all (l ++ us)) → w.grownBy w' none → K (act.put o.dst v') w') :
    if Region.wanted o (yielded ops act.tmps) = true then Oper.wp P o act w K Q else G := by
  obtain ⟨i, z, hi, hz, hsz, hby, hzs⟩ := T.parts
  obtain ⟨hR, a, rfl⟩ := hF
  refine step_append_grows hgd x y t ho e i z E.k bytes T.ht hi hz hsz hby hzs E.pos a l.length l.length (E.all l) hs ?_ (all_len E l) ?_ ⟨b, 0, none⟩ m m (E.all us) hy (by rw [all_len, hm]) ?_ (all_one E us) (by omega) hmax hlen (fun v' w' q1 q2 => h v' w' (by rw [all_app, List.length_append, hm]; exact q1) q2)
  · intro ha
    subst ha
    rcases hR with ⟨hv, h0⟩ | ⟨b, off, cap', hv, g2, g3, g4⟩
    · rw [h0]; exact ⟨rfl, rfl⟩
    · cases (Value.slice.inj hv).1
  · intro p hp
    subst hp
    rcases hR with ⟨hv, h0⟩ | ⟨b, off, cap', hv, g2, g3, g4⟩
    · cases (Value.slice.inj hv).1
    · obtain ⟨e1, -, -⟩ := Value.slice.inj hv
      obtain rfl := Option.some.inj e1
      exact news g4
  · intro j c hj
    rw [add_addr, Nat.zero_add]
    exact hnew j c hj
/-- append(row of the call's own, elements...), as one step. -/
theorem step_append_all {P : Program} {t e : TypeId} {bytes : Nat} (T : Ty P E t e bytes) {ops : Array Oper} {o : Oper} {act : Act} {K : Act → World → Prop} {Q : Exit → Act → World → Prop} {G : Prop} (hgd : o.guard = none) (x y : Operand)
    (ho : o.op = .call { callee := .builtin .append, args := #[x, y], argTypes := #[t, t] })
    (base : Nat) (v : Value) (l : List α) (hs : act.eval x = v) (hown : w.ownsRow base e E.k v l.length (E.all l)) (yv : Value) (m : List α) (hy : act.eval y = yv) (hb : Reads E w yv m)
    (hmax : l.length + m.length ≤ maxLen) (hlen : (l.length + m.length) * bytes ≤ 140737488355328) (hbase : base ≤ w.heap.size)
    (h : ∀ v' w', w'.ownsRow base e E.k v' (l ++ m).length (E.all (l ++ m)) → w.grownBy w' v.ownBlock → K (act.put o.dst v') w') :
    if Region.wanted o (yielded ops act.tmps) = true then Oper.wp P o act w K Q else G := by
  obtain ⟨i, z, hi, hz, hsz, hby, hzs⟩ := T.parts
  have hw : Region.wanted o (yielded ops act.tmps) = true := by simp [Region.wanted, hgd]
  rw [if_pos hw]
  rcases hb with ⟨rfl, rfl⟩ | ⟨b, off, cap, rfl, h2, h3, h4⟩
  · have hrun := run_append_owned_none (P := P) (w := w) base t o.type e i E.k T.ht hi v l.length (E.all l) hown
    unfold Oper.wp execOp
    simp only [ho, resolve, invoke, builtin, Sem.run_bind, Sem.run_pure, Result.andThen_ok, List.map_toArray, List.map_cons, List.map_nil, hs, hy, hrun]
    refine h v w ?_ ⟨rfl, rfl, rfl, Nat.le_refl _, fun _ _ _ => rfl⟩
    rw [List.append_nil]
    exact hown
  · exact wp_append_own w x y t ho base e i z E.k bytes T.ht hi hz hsz hby hzs E.pos v l.length (E.all l) hs hown ⟨b, off, none⟩ m.length cap (E.all m) hy (all_len E m) (news h4) (all_one E m) hmax hlen hbase (fun v' w' q1 q2 _ => h v' w' (by rw [all_app, List.length_append]; exact q1) q2)
/-- append(row of the call's own, elements that were just laid), as one step. -/
theorem step_append_laid {P : Program} {t e : TypeId} {bytes : Nat} (T : Ty P E t e bytes) {ops : Array Oper} {o : Oper} {act : Act} {K : Act → World → Prop} {Q : Exit → Act → World → Prop} {G : Prop} (hgd : o.guard = none) (x y : Operand)
    (ho : o.op = .call { callee := .builtin .append, args := #[x, y], argTypes := #[t, t] })
    (base : Nat) (v : Value) (l : List α) (hs : act.eval x = v) (hown : w.ownsRow base e E.k v l.length (E.all l)) (b m : Nat) (us : List α) (hm : us.length = m) (hy : act.eval y = .slice (some ⟨b, 0, none⟩) m m)
    (hnew : ∀ j c, (E.all us)[j]? = some c → w.cell? ⟨b, j, none⟩ = some c) (hmax : l.length + m ≤ maxLen) (hlen : (l.length + m) * bytes ≤ 140737488355328) (hbase : base ≤ w.heap.size)
    (h : ∀ v' w', w'.ownsRow base e E.k v' (l ++ us).length (E.all (l ++ us)) → w.grownBy w' v.ownBlock → K (act.put o.dst v') w') :
    if Region.wanted o (yielded ops act.tmps) = true then Oper.wp P o act w K Q else G := by
  obtain ⟨i, z, hi, hz, hsz, hby, hzs⟩ := T.parts
  have hw : Region.wanted o (yielded ops act.tmps) = true := by simp [Region.wanted, hgd]
  rw [if_pos hw]
  refine wp_append_own w x y t ho base e i z E.k bytes T.ht hi hz hsz hby hzs E.pos v l.length (E.all l) hs hown ⟨b, 0, none⟩ m m (E.all us) hy (by rw [all_len, hm]) ?_ (all_one E us) hmax hlen hbase (fun v' w' q1 q2 _ => h v' w' (by rw [all_app, List.length_append, hm]; exact q1) q2)
  intro j c hj
  rw [add_addr, Nat.zero_add]
  exact hnew j c hj
end Go.Proofs.Ytmlpaafclobgcaa.Sq

/- A cell is there, holds u, and may be written: over calls, blocks, draws, stores (for any seat). -/
namespace Go.Proofs.Ytmlpaafclobgcaa
open Go.RowKit

def Hld (w : World) (b o : Nat) (u : Value) : Prop := w.cell? ⟨b, o, none⟩ = some u ∧ w.frozen? ⟨b, o, none⟩ = false
theorem hld_below {W w' : World} {b o : Nat} {u : Value} (hb : Below W.heap.size W w') (h : Hld W b o u) : Hld w' b o u :=
  ⟨by rw [hb.cell (p := ⟨b, o, none⟩) (lt_of_cell h.1)]; exact h.1, by rw [hb.frozen (p := ⟨b, o, none⟩) (lt_of_cell h.1)]; exact h.2⟩
theorem hld_alloc {W : World} {o : Obj} {b k : Nat} {u : Value} (h : Hld W b k u) : Hld (W.alloc o) b k u := hld_below (below_alloc W o) h
theorem hld_drew {W : World} {b k : Nat} {u : Value} (h : Hld W b k u) : Hld W.drew b k u := h
theorem hld_new {W : World} {C : Array Value} {t : TypeId} {k : Nat} {u : Value} (h : C[k]? = some u) : Hld (W.alloc (.cells C t)) W.heap.size k u :=
  ⟨by rw [World.cell?_alloc_mark]; exact h, World.frozen?_alloc_new W C t k⟩
theorem Hld.there {W : World} {b o : Nat} {u : Value} (h : Hld W b o u) : (W.cell? ⟨b, o, none⟩).isSome = true := by rw [h.1]; rfl
end Go.Proofs.Ytmlpaafclobgcaa
