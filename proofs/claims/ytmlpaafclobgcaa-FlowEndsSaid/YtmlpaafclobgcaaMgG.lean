/- Several texts in one: Ar1 Ar2 Arx Arw. -/
import Derived.Test.YtmlpaafclobgcaaMgD
import Derived.Test.YtmlpaafclobgcaaMgC
import Derived.OneCell
import Derived.Lib.SmallJoins
import Derived.Maps.AppendAt
import Derived.Lib.MinMax
import Derived.WalkKit
import Derived.BigQuiet
import Derived.Deep.DeepCutAuto
import Derived.Deep.CutBlock
import Derived.Lib.Hide
import Derived.Deep.DeepMust
import Derived.WalkSmall
/- Nodes in memory: how they lie in a row, their kids in rows of their own; a tree of a call's own; a store into a row of a call's own (no function of the program's). -/
namespace Go.Proofs.Ytmlpaafclobgcaa
open Go.RowKit
open Go.Proofs.Ytmlpaafclobgcaa.Sq
open Go.Proofs.Ytmlpaafclobgcaa.Ar
set_option linter.unusedVariables false

def encI : Enc Int := ⟨fun x => [.int .i64 x], 1, by decide, fun _ => rfl, fun x u hu => by
  cases hu with
  | head => rfl
  | tail _ hu => cases hu⟩
theorem tyI : Ty Try.prog encI 22 3 8 := Ty.of (z := .int .i64 0) Try.underlying22 (by kernel_rfl) (by kernel_rfl) rfl (fun w => by kernel_rfl)
/-- A node with the slice of its kids. -/
structure Ln where
  nd : Nd
  a : Option Addr
  n : Nat
  c : Nat
abbrev Ln.val (p : Ln) : Value := .slice p.a p.n p.c
def nCells (p : Ln) : List Value := [.int .i64 p.nd.k, .int .i64 p.nd.f, .int .i64 p.nd.t, .int .i64 p.nd.u, p.val, .bool p.nd.y]
abbrev nAgg (p : Ln) : Value := .agg #[.int .i64 p.nd.k, .int .i64 p.nd.f, .int .i64 p.nd.t, .int .i64 p.nd.u, p.val, .bool p.nd.y]
def encN : Enc Ln := ⟨nCells, 6, by decide, fun _ => rfl, fun x u hu => by
  cases hu with
  | head => rfl
  | tail _ hu => cases hu with
    | head => rfl
    | tail _ hu => cases hu with
      | head => rfl
      | tail _ hu => cases hu with
        | head => rfl
        | tail _ hu => cases hu with
          | head => rfl
          | tail _ hu => cases hu with
            | head => rfl
            | tail _ hu => cases hu⟩
theorem tyN : Ty Try.prog encN 29 38 64 := Ty.of (z := .agg #[.int .i64 0, .int .i64 0, .int .i64 0, .int .i64 0, .slice none 0 0, .bool false]) Try.underlying29 (by kernel_rfl) (by kernel_rfl) rfl (fun w => by kernel_rfl)
/-- The slice value v reads as the nodes l, each with its kids. -/
def Nodes (w : World) (v : Value) (l : List Nd) : Prop := ∃ L : List Ln, L.map Ln.nd = l ∧ Reads encN w v L ∧ ∀ p ∈ L, Reads encI w p.val p.nd.ks
section
variable {w w' : World} {v : Value} {l : List Nd}
theorem Nodes.below (h : Nodes w v l) (hb : Below w.heap.size w w') : Nodes w' v l := by
  obtain ⟨L, h1, h2, h3⟩ := h
  exact ⟨L, h1, h2.below hb, fun p hp => (h3 p hp).below hb⟩
theorem Nodes.shape (h : Nodes w v l) : ∃ a cap, v = .slice a l.length cap := by
  obtain ⟨L, h1, h2, _⟩ := h
  obtain ⟨a, cap, e⟩ := h2.shape
  exact ⟨a, cap, by rw [e, ← h1, List.length_map]⟩
theorem Nodes.size_le (h : Nodes w v l) : l.length ≤ maxLen := by
  obtain ⟨L, h1, h2, _⟩ := h
  rw [← h1, List.length_map]; exact h2.size_le
theorem val_len {p : Ln} (h : Reads encI w p.val p.nd.ks) : p.n = p.nd.ks.length := by
  obtain ⟨a, cap, e⟩ := h.shape
  injection e
theorem Nodes.at_ {a : Option Addr} {cap : Nat} (h : Nodes w (.slice a l.length cap) l) (j : Nat) (x : Nd) (hj : l[j]? = some x) :
    ∃ b off ka kc, a = some ⟨b, off, none⟩ ∧ w.cell? ⟨b, off + j * 6, none⟩ = some (.int .i64 x.k) ∧ w.cell? ⟨b, off + j * 6 + 1, none⟩ = some (.int .i64 x.f) ∧ w.cell? ⟨b, off + j * 6 + 2, none⟩ = some (.int .i64 x.t) ∧ w.cell? ⟨b, off + j * 6 + 3, none⟩ = some (.int .i64 x.u) ∧
      w.cell? ⟨b, off + j * 6 + 4, none⟩ = some (.slice ka x.ks.length kc) ∧ w.cell? ⟨b, off + j * 6 + 5, none⟩ = some (.bool x.y) ∧ Reads encI w (.slice ka x.ks.length kc) x.ks := by
  obtain ⟨L, h1, h2, h3⟩ := h
  have hlen : L.length = l.length := by rw [← h1, List.length_map]
  rw [← hlen] at h2
  rw [← h1, List.getElem?_map] at hj
  cases hp : L[j]? with
  | none => rw [hp] at hj; cases hj
  | some p =>
    rw [hp] at hj
    injection hj with hj
    subst hj
    obtain ⟨b, off, e, hc⟩ := h2.at_ j p hp
    have hk := h3 p (List.mem_of_getElem? hp)
    have hn := val_len hk
    refine ⟨b, off, p.a, p.c, e, hc 0 _ rfl, hc 1 _ rfl, hc 2 _ rfl, hc 3 _ rfl, ?_, hc 5 _ rfl, ?_⟩
    · rw [← hn]; exact hc 4 _ rfl
    · rw [← hn]; exact hk
theorem kids_at {a : Option Addr} {cap : Nat} {l : List Int} (h : Reads encI w (.slice a l.length cap) l) (j : Nat) (x : Int) (hj : l[j]? = some x) :
    ∃ b off, a = some ⟨b, off, none⟩ ∧ w.cell? ⟨b, off + j, none⟩ = some (.int .i64 x) := by
  obtain ⟨b, off, h1, h2⟩ := h.at_ j x hj
  have := h2 0 _ rfl
  exact ⟨b, off, h1, by rw [show off + j = off + j * encI.k + 0 by show off + j = off + j * 1 + 0; omega]; exact this⟩
end

/-- One cell of a row of the call's own is stored. -/
theorem all_set {α : Type} (E : Enc α) : ∀ (L : List α) (i j : Nat) (x x' : α) (u : Value), L[i]? = some x → E.cells x' = (E.cells x).set j u → j < E.k → E.all (L.set i x') = (E.all L).set (i * E.k + j) u
  | [], i, j, x, x', u => fun h => by simp at h
  | y :: r, 0, j, x, x', u => fun h hc hj => by
    obtain rfl : y = x := by simpa using h
    rw [List.set_cons_zero, Enc.all, Enc.all, hc, Nat.zero_mul, Nat.zero_add, List.set_append_left _ _ (by rw [E.len]; exact hj)]
  | y :: r, i + 1, j, x, x', u => fun h hc hj => by
    rw [List.set_cons_succ, Enc.all, Enc.all, all_set E r i j x x' u (by simpa using h) hc hj, List.set_append_right _ _ (by rw [E.len, Nat.add_mul]; omega), E.len]
    congr 2
    rw [Nat.add_mul]; omega
theorem own_set {α : Type} {E : Enc α} {w : World} {B e g n cap : Nat} {L : List α} (h : w.ownsRow B e E.k (.slice (some ⟨g, 0, none⟩) n cap) L.length (E.all L)) (i j : Nat) (x x' : α) (u : Value) (hx : L[i]? = some x) (hc : E.cells x' = (E.cells x).set j u) (hj : j < E.k) :
    (w.setCell ⟨g, i * E.k + j, none⟩ u).ownsRow B e E.k (.slice (some ⟨g, 0, none⟩) n cap) (L.set i x').length (E.all (L.set i x')) := by
  have hi := (List.getElem?_eq_some_iff.1 hx).1
  obtain ⟨h1, h2⟩ := h
  rcases h2 with ⟨h2, _⟩ | ⟨g', cap', cur, hv, hg, hh, hn, hcp, hcs, ht⟩
  · cases h2
  · obtain ⟨e1, e2, e3⟩ := Value.slice.inj hv
    injection e1 with e1
    injection e1 with e1
    subst e1 e3
    refine ⟨by rw [all_len], .inr ⟨g, cap, cur.setIfInBounds (i * E.k + j) u, by rw [List.length_set, ← e2], hg, Joins.block_setCell hh u, by rw [List.length_set]; exact hn, hcp, by simpa using hcs, ?_⟩⟩
    rw [List.length_set, all_set E L i j x x' u hx hc hj, ← ht, Array.toList_setIfInBounds, List.take_set]
/-- A row of the call's own that holds something: where it lies, that it may be written. -/
theorem own_at {α : Type} {E : Enc α} {w : World} {B e : Nat} {v : Value} {L : List α} (h : w.ownsRow B e E.k v L.length (E.all L)) (h0 : 0 < L.length) :
    ∃ g cap, v = .slice (some ⟨g, 0, none⟩) L.length cap ∧ B ≤ g ∧ (∀ o, w.frozen? ⟨g, o, none⟩ = false) ∧ L.length ≤ cap ∧ cap ≤ maxLen := by
  rcases h.2 with ⟨_, h2⟩ | ⟨g, cap, cur, hv, hg, hh, hn, hcp, hcs, ht⟩
  · omega
  · exact ⟨g, cap, hv, hg, fun o => Joins.unfrozen_of_block hh o, hn, hcp⟩
/-- Rows of two element types do not lie in one block. -/
theorem own_types {w : World} {B B' e e' s s' n n' : Nat} {v v' : Value} {xs xs' : List Value} (h : w.ownsRow B e s v n xs) (h' : w.ownsRow B' e' s' v' n' xs') (hne : e ≠ e') (g : Nat) (hg : v.ownBlock = some g) : v'.ownBlock ≠ some g := fun hg' => by
  rcases h.2 with ⟨h1, _⟩ | ⟨b, cap, cur, hv, _, hh, _⟩
  · rw [h1] at hg; cases hg
  · rcases h'.2 with ⟨h1, _⟩ | ⟨b', cap', cur', hv', _, hh', _⟩
    · rw [h1] at hg'; cases hg'
    · rw [hv] at hg; rw [hv'] at hg'
      obtain rfl : b = g := by simpa [Value.ownBlock] using hg
      obtain rfl : b' = b := by simpa [Value.ownBlock] using hg'
      rw [hh] at hh'
      injection hh' with hh'
      injection hh' with _ h3
      exact hne h3
/-- A tree of the call's own: the nodes' row, each node's kids in a row of their own, all apart. -/
structure OT (w : World) (B : Nat) (v : Value) (L : List Ln) : Prop where
  row : w.ownsRow B 38 6 v L.length (encN.all L)
  kids : ∀ (i : Nat) (p : Ln), L[i]? = some p → w.ownsRow B 3 1 p.val p.nd.ks.length (encI.all p.nd.ks)
  apart : ∀ (i j : Nat) (p q : Ln), i ≠ j → L[i]? = some p → L[j]? = some q → ∀ g, p.val.ownBlock = some g → q.val.ownBlock ≠ some g
section
variable {w w' : World} {B : Nat} {v : Value} {L : List Ln}
theorem OT.below (h : OT w B v L) (hb : Below w.heap.size w w') : OT w' B v L := ⟨own_below h.row hb, fun i p hp => own_below (h.kids i p hp) hb, h.apart⟩
theorem OT.base {B' : Nat} (h : OT w B v L) (hB : B' ≤ B) : OT w B' v L := ⟨own_base h.row hB, fun i p hp => own_base (h.kids i p hp) hB, h.apart⟩
theorem OT.nodes (h : OT w B v L) : Nodes w v (L.map Ln.nd) := ⟨L, rfl, Reads.of_own (E := encN) h.row, fun p hp => by
  obtain ⟨i, hi⟩ := List.getElem?_of_mem hp
  exact Reads.of_own (E := encI) (h.kids i p hi)⟩
theorem OT.nil (w : World) (B : Nat) : OT w B (.slice none 0 0) [] := ⟨own_nil encN _ _, fun i p h => by simp at h, fun i j p q _ h => by simp at h⟩
/-- One number of a node is stored. -/
theorem OT.set {g n cap : Nat} (h : OT w B (.slice (some ⟨g, 0, none⟩) n cap) L) (i j : Nat) (p : Ln) (nd : Nd) (u : Value) (hp : L[i]? = some p) (hks : nd.ks = p.nd.ks) (hc : nCells { p with nd := nd } = (nCells p).set j u) (hj : j < 6) :
    OT (w.setCell ⟨g, i * 6 + j, none⟩ u) B (.slice (some ⟨g, 0, none⟩) n cap) (L.set i { p with nd := nd }) := by
  have hi := (List.getElem?_eq_some_iff.1 hp).1
  have key : ∀ (a : Nat) (q : Ln), (L.set i { p with nd := nd })[a]? = some q → ∃ q', L[a]? = some q' ∧ q.val = q'.val ∧ q.nd.ks = q'.nd.ks := by
    intro a q hq
    rw [List.getElem?_set] at hq
    split at hq
    · rename_i e; subst e
      injection hq with hq; subst hq
      exact ⟨p, hp, rfl, hks⟩
    · exact ⟨q, hq, rfl, rfl⟩
  refine ⟨own_set h.row i j p _ u hp hc hj, fun a q hq => ?_, fun a b q r hab hq hr g' hg' => ?_⟩
  · obtain ⟨q', h1, h2, h3⟩ := key a q hq
    rw [h2, h3]
    exact ownsRow_setCell_other (h.kids a q' h1) (own_types h.row (h.kids a q' h1) (by decide) g rfl) u
  · obtain ⟨q', h1, h2, _⟩ := key a q hq
    obtain ⟨r', h4, h5, _⟩ := key b r hr
    rw [h2] at hg'
    rw [h5]
    exact h.apart a b q' r' hab h1 h4 g' hg'
end
end Go.Proofs.Ytmlpaafclobgcaa

/- Trees of a call's own: a node is put behind all; a kid is put on (no function of the program's). -/
namespace Go.Proofs.Ytmlpaafclobgcaa
open Go.RowKit
open Go.Proofs.Ytmlpaafclobgcaa.Sq
open Go.Proofs.Ytmlpaafclobgcaa.Ar
set_option linter.unusedVariables false

section
variable {α : Type} {E : Enc α} {w : World}
/-- append(row of the call's own, elements...): where the answer lies, too. -/
theorem append_all_at {P : Program} {t e : TypeId} {bytes : Nat} (T : Ty P E t e bytes) {ops : Array Oper} {rest : List Oper} {o : Oper} {act : Act} {Q : Exit → Act → World → Prop} (hgd : o.guard = none) (x y : Operand)
    (ho : o.op = .call { callee := .builtin .append, args := #[x, y], argTypes := #[t, t] })
    (base : Nat) (v : Value) (l : List α) (hs : act.eval x = v) (hown : w.ownsRow base e E.k v l.length (E.all l)) (yv : Value) (m : List α) (hy : act.eval y = yv) (hb : Reads E w yv m)
    (hmax : l.length + m.length ≤ maxLen) (hlen : (l.length + m.length) * bytes ≤ 140737488355328) (hbase : base ≤ w.heap.size)
    (h : ∀ v' w', w'.ownsRow base e E.k v' (l ++ m).length (E.all (l ++ m)) → w.grownBy w' v.ownBlock → (v'.ownBlock = v.ownBlock ∨ v'.ownBlock = some w.heap.size) → wpList P ops Q rest (act.put o.dst v') w') : wpList P ops Q (o :: rest) act w := by
  obtain ⟨i, z, hi, hz, hsz, hby, hzs⟩ := T.parts
  rcases hb with ⟨rfl, rfl⟩ | ⟨b, off, cap, rfl, h2, h3, h4⟩
  · refine wpList_append_own_none hgd x y t ho base e i E.k T.ht hi v l.length (E.all l) hs hown hy ?_
    refine h v w ?_ ⟨rfl, rfl, rfl, Nat.le_refl _, fun _ _ _ => rfl⟩ (.inl rfl)
    rw [List.append_nil]
    exact hown
  · exact wpList_append_own_at w hgd x y t ho base e i z E.k bytes T.ht hi hz hsz hby hzs E.pos v l.length (E.all l) hs hown ⟨b, off, none⟩ m.length cap (E.all m) hy (all_len E m) (news h4) (all_one E m) hmax hlen hbase (fun v' w' q1 q2 _ q3 => h v' w' (by rw [all_app, List.length_append]; exact q1) q2 q3)
theorem laid_reads (w : World) (u : α) (cs : List Value) (t : TypeId) (hc : E.cells u = cs) : Reads E (w.alloc (.cells cs.toArray t)) (.slice (some ⟨w.heap.size, 0, none⟩) 1 1) [u] :=
  .inr ⟨w.heap.size, 0, 1, rfl, Nat.le_refl _, by decide, fun j x hj i c hi => by
    match j, hj with
    | 0, hj =>
      obtain rfl : u = x := by simpa using hj
      rw [hc] at hi
      have e : (⟨w.heap.size, 0 + 0 * E.k + i, none⟩ : Addr) = ⟨w.heap.size, i, none⟩ := by simp
      rw [e, World.cell?_alloc_mark, List.getElem?_toArray]
      exact hi
    | j + 1, hj => simp at hj⟩
theorem off_row {x y : Value} (h : ∀ g, x.ownBlock = some g → y.ownBlock ≠ some g) : y.ownBlock = none ∨ y.ownBlock ≠ x.ownBlock := by
  cases hy : y.ownBlock with
  | none => exact .inl rfl
  | some g => exact .inr (fun e => h g e.symm hy)
end
section
variable {w w' : World} {B : Nat} {v : Value} {L : List Ln}
theorem OT.push {v' : Value} {o : Obj} {p : Ln} (h : OT w B v L) (hk : w.ownsRow B 3 1 p.val p.nd.ks.length (encI.all p.nd.ks)) (ha : ∀ (i : Nat) (q : Ln), L[i]? = some q → ∀ g, p.val.ownBlock = some g → q.val.ownBlock ≠ some g)
    (hg : (w.alloc o).grownBy w' v.ownBlock) (hrow : w'.ownsRow B 38 6 v' (L ++ [p]).length (encN.all (L ++ [p]))) : OT w' B v' (L ++ [p]) := by
  have key : ∀ (a : Nat) (q : Ln), (L ++ [p])[a]? = some q → (L[a]? = some q ∧ a < L.length) ∨ (a = L.length ∧ q = p) := by
    intro a q hq
    rcases Nat.lt_trichotomy a L.length with hj | hj | hj
    · rw [List.getElem?_append_left hj] at hq; exact .inl ⟨hq, hj⟩
    · subst hj
      rw [List.getElem?_append_right (Nat.le_refl _)] at hq
      simp at hq
      exact .inr ⟨rfl, hq.symm⟩
    · rw [List.getElem?_eq_none (by simp; omega)] at hq; cases hq
  refine ⟨hrow, fun a q hq => ?_, fun a b q r hab hq hr g hgq => ?_⟩
  · rcases key a q hq with ⟨h1, _⟩ | ⟨_, rfl⟩
    · exact ((h.kids a q h1).alloc o).kept hg (off_row (own_types h.row (h.kids a q h1) (by decide)))
    · exact (hk.alloc o).kept hg (off_row (own_types h.row hk (by decide)))
  · rcases key a q hq with ⟨h1, _⟩ | ⟨ha1, rfl⟩
    · rcases key b r hr with ⟨h2, _⟩ | ⟨_, rfl⟩
      · exact h.apart a b q r hab h1 h2 g hgq
      · exact fun e => ha a q h1 g e hgq
    · rcases key b r hr with ⟨h2, _⟩ | ⟨hb1, rfl⟩
      · exact ha b r h2 g hgq
      · omega
theorem OT.kid {g n cap i : Nat} {o : Obj} {p : Ln} {a' : Option Addr} {n' c' : Nat} (h : OT w B (.slice (some ⟨g, 0, none⟩) n cap) L) (hp : L[i]? = some p) (z : Int) (hg : (w.alloc o).grownBy w' p.val.ownBlock)
    (hown : w'.ownsRow B 3 1 (.slice a' n' c') (p.nd.ks ++ [z]).length (encI.all (p.nd.ks ++ [z]))) (hat : (Value.slice a' n' c').ownBlock = p.val.ownBlock ∨ (Value.slice a' n' c').ownBlock = some (w.alloc o).heap.size) :
    OT (w'.setCell ⟨g, i * 6 + 4, none⟩ (.slice a' n' c')) B (.slice (some ⟨g, 0, none⟩) n cap) (L.set i ⟨{ p.nd with ks := p.nd.ks ++ [z] }, a', n', c'⟩) := by
  have hi := (List.getElem?_eq_some_iff.1 hp).1
  have hrow : w'.ownsRow B 38 6 (.slice (some ⟨g, 0, none⟩) n cap) L.length (encN.all L) :=
    (h.row.alloc o).kept hg (off_row (own_types (h.kids i p hp) h.row (by decide)))
  have key : ∀ (a : Nat) (q : Ln), (L.set i ⟨{ p.nd with ks := p.nd.ks ++ [z] }, a', n', c'⟩)[a]? = some q → (a = i ∧ q = ⟨{ p.nd with ks := p.nd.ks ++ [z] }, a', n', c'⟩) ∨ (a ≠ i ∧ L[a]? = some q) := by
    intro a q hq
    rw [List.getElem?_set] at hq
    split at hq
    · rename_i e; subst e
      injection hq with hq; exact .inl ⟨rfl, hq.symm⟩
    · rename_i e; exact .inr ⟨fun x => e x.symm, hq⟩
  have new : ∀ (b : Nat) (r : Ln), b ≠ i → L[b]? = some r → ∀ g, (Value.slice a' n' c').ownBlock = some g → r.val.ownBlock ≠ some g := by
    intro b r hb hr g1 hg1
    rcases hat with e | e
    · exact h.apart i b p r (fun x => hb x.symm) hp hr g1 (e ▸ hg1)
    · intro hr1
      have := ((h.kids b r hr).lt g1 hr1).2
      rw [hg1] at e
      injection e with e
      rw [size_alloc] at e
      omega
  refine ⟨own_set hrow i 4 p _ _ hp rfl (by decide), fun a q hq => ?_, fun a b q r hab hq hr g1 hgq => ?_⟩
  · rcases key a q hq with ⟨rfl, rfl⟩ | ⟨ha, hq⟩
    · exact ownsRow_setCell_other hown (own_types hrow hown (by decide) g rfl) _
    · have h1 := ((h.kids a q hq).alloc o).kept hg (off_row (fun g1 hg1 => h.apart i a p q (fun x => ha x.symm) hp hq g1 hg1))
      exact ownsRow_setCell_other h1 (own_types hrow h1 (by decide) g rfl) _
  · rcases key a q hq with ⟨rfl, rfl⟩ | ⟨ha, hq1⟩
    · rcases key b r hr with ⟨rfl, rfl⟩ | ⟨hb, hr⟩
      · exact absurd rfl hab
      · exact new b r hb hr g1 hgq
    · rcases key b r hr with ⟨rfl, rfl⟩ | ⟨hb, hr1⟩
      · exact fun e => new a q ha hq1 g1 e hgq
      · exact h.apart a b q r hab hq1 hr1 g1 hgq
end
end Go.Proofs.Ytmlpaafclobgcaa

/- Trees: what any seat with nodes wants (no function of the chapter's own): what is answered, a row of one node, a tree's variable, what Check asks. -/
namespace Go.Proofs.Ytmlpaafclobgcaa
open Go.RowKit
open Go.Proofs.Ytmlpaafclobgcaa.Sq
open Go.Proofs.Ytmlpaafclobgcaa.Ar
set_option linter.unusedVariables false

theorem below_from {w w1 w2 : World} (h1 : Below w.heap.size w w1) (h2 : Below w1.heap.size w1 w2) : Below w.heap.size w w2 := h1.trans (h2.mono h1.size)
/-- A tree is answered; where it is a new one (own) it is the call's own. -/
def Treed (own : Bool) (R : List Nd) (w : World) (e : Ending) (w' : World) : Prop :=
  ∃ u, e = .returned (.agg #[u]) ∧ Nodes w' u R ∧ (own = true → ∃ L, L.map Ln.nd = R ∧ OT w' w.heap.size u L) ∧ Below w.heap.size w w'
/-- A literal row is the call's own. -/
theorem own_lit {α : Type} (E : Enc α) (w : World) (e B : Nat) (l : List α) (C : Array Value) (hC : C = (E.all l).toArray) (hl : l.length ≤ 1000) (hB : B ≤ w.heap.size) :
    (w.alloc (.cells C e)).ownsRow B e E.k (.slice (some ⟨w.heap.size, 0, none⟩) l.length l.length) l.length (E.all l) := by
  subst hC
  refine ⟨all_len E l, .inr ⟨w.heap.size, l.length, (E.all l).toArray, rfl, hB, heap_alloc_new w _, Nat.le_refl _, by simp only [maxLen]; omega, by simp [all_len], ?_⟩⟩
  rw [← all_len E l]
  simp
theorem ot_one (w : World) (B : Nat) (x : Nd) (hx : x.ks = []) (hB : B ≤ w.heap.size) : OT (w.alloc (.cells #[.int .i64 x.k, .int .i64 x.f, .int .i64 x.t, .int .i64 x.u, .slice none 0 0, .bool x.y] 38)) B (.slice (some ⟨w.heap.size, 0, none⟩) 1 1) [⟨x, none, 0, 0⟩] := by
  refine ⟨own_lit encN w _ B [(⟨x, none, 0, 0⟩ : Ln)] _ rfl (by simp) hB, fun i p hp => ?_, fun i j p q hij hp hq => ?_⟩
  · cases i with
    | zero =>
      obtain rfl : (⟨x, none, 0, 0⟩ : Ln) = p := by simpa using hp
      show World.ownsRow _ _ _ _ (.slice none 0 0) x.ks.length (encI.all x.ks)
      rw [hx]
      exact own_nil encI _ _
    | succ i => simp at hp
  · cases i with
    | zero =>
      cases j with
      | zero => exact absurd rfl hij
      | succ j => simp at hq
    | succ i => simp at hp
theorem OT.setTo {w : World} {B : Nat} {v : Value} {L : List Ln} (h : OT w B v L) (b : Nat) (hb : b < B) (u : Value) : OT (w.setCell ⟨b, 0, none⟩ u) B v L :=
  ⟨ownsRow_setCell_below h.row (a := ⟨b, 0, none⟩) hb u, fun i p hp => ownsRow_setCell_below (h.kids i p hp) (a := ⟨b, 0, none⟩) hb u, h.apart⟩
/-- A tree's first node. -/
theorem first_at {l : List Nd} (h : 0 < l.length) : ∃ x, l[0]? = some x ∧ firstT l = x.t := by
  cases l with
  | nil => simp at h
  | cons x r => exact ⟨x, rfl, rfl⟩
/-- A tree and a number are answered; where the tree is a new one (own) it is the call's own. -/
def TreedA (own : Bool) (R : List Nd × Int) (w : World) (e : Ending) (w' : World) : Prop :=
  ∃ u, e = .returned (.tuple #[.agg #[u], .int .i64 R.2]) ∧ Nodes w' u R.1 ∧ (own = true → ∃ L, L.map Ln.nd = R.1 ∧ OT w' w.heap.size u L) ∧ Below w.heap.size w w'
/-- May the node be put there, as far as what it goes into tells? -/
def fitsIn (l : List Nd) (p : Nd) (f : Int) : Bool := !(decide (f < p.f)) && match p.ks.getLast? with
  | none => true
  | some z => !(decide (f < atT l z))
theorem may_parts (l : List Nd) (up kind f t : Int) (p : Nd) (hp : l[up.toNat]? = some p) :
    mayAdd l up kind f t = (!(decide (up < 0) || decide ((l.length : Int) ≤ up) || decide (kind < 1) || decide (11 < kind) || decide (t < f) || decide (firstT l < t)) && fitsIn l p f) := by
  unfold mayAdd fitsIn
  rw [hp]
  rfl
theorem may_none (l : List Nd) (up kind f t : Int) (hb : (decide (up < 0) || decide ((l.length : Int) ≤ up) || decide (kind < 1) || decide (11 < kind) || decide (t < f) || decide (firstT l < t)) = true) : mayAdd l up kind f t = false := by
  unfold mayAdd
  rw [hb]; rfl
def badK (l : List Nd) (i : Nat) (x : Nd) (p n : Int) : Bool := decide (n ≤ 0) || decide ((l.length : Int) ≤ n) || match l[n.toNat]? with
  | none => true
  | some c => decide (c.u ≠ (i : Int)) || decide (c.f < p) || decide (x.t < c.t) || decide (c.t < c.f)
theorem kidsF_bad {l : List Nd} {i : Nat} {x : Nd} {p n : Int} {r : List Int} (h : badK l i x p n = true) : kidsF l i x p (n :: r) = false := by
  rw [kidsF]
  unfold badK at h
  split
  · rfl
  · rename_i hn
    have h1 : decide (n ≤ 0) = false := decide_eq_false (fun e => hn (.inl e))
    have h2 : decide ((l.length : Int) ≤ n) = false := decide_eq_false (fun e => hn (.inr e))
    rw [h1, h2] at h
    split
    · rfl
    · rename_i c hc
      rw [hc] at h
      simp only [Bool.false_or, Bool.or_eq_true, decide_eq_true_eq] at h
      rw [if_pos (by omega)]
theorem kidsF_step {l : List Nd} {i : Nat} {x : Nd} {p n : Int} {r : List Int} (h : badK l i x p n = false) : ∃ c, 0 < n ∧ n < l.length ∧ l[n.toNat]? = some c ∧ kidsF l i x p (n :: r) = kidsF l i x c.t r := by
  unfold badK at h
  simp only [Bool.or_eq_false_iff, decide_eq_false_iff_not] at h
  obtain ⟨⟨h1, h2⟩, h3⟩ := h
  cases hc : l[n.toNat]? with
  | none => rw [hc] at h3; cases h3
  | some c =>
    rw [hc] at h3
    simp only [Bool.or_eq_false_iff, decide_eq_false_iff_not] at h3
    refine ⟨c, by omega, by omega, rfl, ?_⟩
    rw [kidsF, if_neg (by omega), hc]
    dsimp only
    rw [if_neg (by omega)]
theorem kidsF_in {l : List Nd} {i : Nat} {x : Nd} : ∀ (ks : List Int) (p : Int), kidsF l i x p ks = true → ∀ z ∈ ks, 0 ≤ z ∧ z < l.length
  | [], p => fun _ z hz => by cases hz
  | n :: r, p => fun h z hz => by
    cases hb : badK l i x p n with
    | true => rw [kidsF_bad hb] at h; cases h
    | false =>
      obtain ⟨c, h1, h2, _, h4⟩ := kidsF_step (r := r) hb
      rw [h4] at h
      rcases List.mem_cons.1 hz with rfl | hz
      · omega
      · exact kidsF_in r c.t h z hz
theorem check_first {l : List Nd} {n : Int} (h : firstOk l n = false) : checkN l n = false := by unfold checkN; rw [h]; rfl
theorem check_node {l : List Nd} {n : Int} (i : Nat) (hi : i < l.length) (h : nodeOk l i = false) : checkN l n = false := by
  unfold checkN
  have : (List.range l.length).all (nodeOk l) = false := by
    rw [List.all_eq_false]
    exact ⟨i, List.mem_range.2 hi, by rw [h]; decide⟩
  rw [this]; simp
theorem check_seen {l : List Nd} {n : Int} (i : Nat) (h0 : 0 < i) (hi : i < l.length) (h : seenN l l.length i ≠ 1) : checkN l n = false := by
  unfold checkN
  have : (List.range l.length).all (fun i => i == 0 || seenN l l.length i == 1) = false := by
    rw [List.all_eq_false]
    exact ⟨i, List.mem_range.2 hi, by simp; omega⟩
  rw [this]; simp
theorem check_ok {l : List Nd} {n : Int} (h1 : firstOk l n = true) (h2 : ∀ i, i < l.length → nodeOk l i = true) (h3 : ∀ i, 0 < i → i < l.length → seenN l l.length i = 1) : checkN l n = true := by
  unfold checkN
  rw [h1, List.all_eq_true.2 (fun i hi => h2 i (List.mem_range.1 hi)), List.all_eq_true.2 (fun i hi => ?_)]
  · rfl
  · by_cases e : i = 0
    · simp [e]
    · have := h3 i (by omega) (List.mem_range.1 hi)
      simp [this]
/-- A number brought within n. -/
def wit (x n : Int) : Int := if x.tmod n < 0 then x.tmod n + n else x.tmod n
theorem wit_bd (x n : Int) (h : 0 < n) : 0 ≤ wit x n ∧ wit x n < n := by
  have h1 := Int.tmod_lt_of_pos x h
  have h2 : -n < x.tmod n := by
    have := Int.tmod_lt_of_pos (-x) h
    rw [Int.neg_tmod] at this
    omega
  unfold wit
  split <;> omega
theorem set_keeps {W : World} {tb : Nat} {a : Option Addr} {n c : Nat} (hc : W.cell? ⟨tb, 0, none⟩ = some (.slice a n c)) (v : Value) (q : Addr) (u : Value) (hq : W.cell? q = some u) (hu : q = ⟨tb, 0, none⟩ → ∀ a n c, u ≠ .slice a n c) : (W.setCell ⟨tb, 0, none⟩ v).cell? q = some u := by
  by_cases e : q = ⟨tb, 0, none⟩
  · rw [e, hc] at hq
    exact absurd (Option.some.inj hq).symm (hu e a n c)
  · rw [World.cell?_setCell_other _ _ _ _ (fun h => e h.symm)]; exact hq
theorem Nodes.set {W : World} {tb : Nat} {a : Option Addr} {n c : Nat} {u : Value} {l : List Nd} (h : Nodes W u l) (hc : W.cell? ⟨tb, 0, none⟩ = some (.slice a n c)) (v : Value) : Nodes (W.setCell ⟨tb, 0, none⟩ v) u l := by
  obtain ⟨L, h1, h2, h3⟩ := h
  refine ⟨L, h1, ?_, fun p hp => ?_⟩
  · rcases h2 with h2 | ⟨b, off, cap, e1, e2, e3, e4⟩
    · exact .inl h2
    · refine .inr ⟨b, off, cap, e1, e2, e3, fun j x hj i w hw => set_keeps hc v _ _ (e4 j x hj i w hw) (fun e a n c => ?_)⟩
      have h0 : off + j * encN.k + i = 0 := by injection e
      have hi : i = 0 := by omega
      subst hi
      have hx : (encN.cells x)[0]? = some (.int .i64 x.nd.k) := rfl
      rw [hx] at hw
      obtain rfl := Option.some.inj hw
      intro e; cases e
  · rcases h3 p hp with h2 | ⟨b, off, cap, e1, e2, e3, e4⟩
    · exact .inl h2
    · refine .inr ⟨b, off, cap, e1, e2, e3, fun j x hj i w hw => set_keeps hc v _ _ (e4 j x hj i w hw) (fun e a n c => ?_)⟩
      cases i with
      | zero => obtain rfl := Option.some.inj hw
                intro e; cases e
      | succ i => cases hw
end Go.Proofs.Ytmlpaafclobgcaa

/- Nodes as they come in from without: rows of kids that hold nothing may point anywhere. -/
namespace Go.Proofs.Ytmlpaafclobgcaa
open Go.RowKit
open Go.Proofs.Ytmlpaafclobgcaa.Sq
open Go.Proofs.Ytmlpaafclobgcaa.Ar
set_option linter.unusedVariables false

/-- Where a row's numbers stand. -/
def KidsAt (w : World) (a : Option Addr) (ks : List Int) : Prop := ∀ (j : Nat) (z : Int), ks[j]? = some z → ∃ b off, a = some ⟨b, off, none⟩ ∧ w.cell? ⟨b, off + j, none⟩ = some (.int .i64 z)
def NodesW (w : World) (v : Value) (l : List Nd) : Prop := ∃ L : List Ln, L.map Ln.nd = l ∧ Reads encN w v L ∧ ∀ p ∈ L, p.n = p.nd.ks.length ∧ p.n ≤ maxLen ∧ KidsAt w p.a p.nd.ks
section
variable {w w' : World} {v : Value} {l : List Nd}
theorem Nodes.weak (h : Nodes w v l) : NodesW w v l := by
  obtain ⟨L, h1, h2, h3⟩ := h
  refine ⟨L, h1, h2, fun p hp => ?_⟩
  have hk := h3 p hp
  have hn := val_len hk
  refine ⟨hn, by rw [hn]; exact hk.size_le, fun j z hz => ?_⟩
  have hk' : Reads encI w (.slice p.a p.nd.ks.length p.c) p.nd.ks := by rw [← hn]; exact hk
  exact kids_at hk' j z hz
theorem NodesW.below (h : NodesW w v l) (hb : Below w.heap.size w w') : NodesW w' v l := by
  obtain ⟨L, h1, h2, h3⟩ := h
  refine ⟨L, h1, h2.below hb, fun p hp => ⟨(h3 p hp).1, (h3 p hp).2.1, fun j z hz => ?_⟩⟩
  obtain ⟨b, off, e, hc⟩ := (h3 p hp).2.2 j z hz
  exact ⟨b, off, e, at_below hb hc⟩
theorem NodesW.shape (h : NodesW w v l) : ∃ a cap, v = .slice a l.length cap := by
  obtain ⟨L, h1, h2, _⟩ := h
  obtain ⟨a, cap, e⟩ := h2.shape
  exact ⟨a, cap, by rw [e, ← h1, List.length_map]⟩
theorem NodesW.size_le (h : NodesW w v l) : l.length ≤ maxLen := by
  obtain ⟨L, h1, h2, _⟩ := h
  rw [← h1, List.length_map]; exact h2.size_le
theorem NodesW.at_ {a : Option Addr} {cap : Nat} (h : NodesW w (.slice a l.length cap) l) (j : Nat) (x : Nd) (hj : l[j]? = some x) :
    ∃ b off ka kc, a = some ⟨b, off, none⟩ ∧ w.cell? ⟨b, off + j * 6, none⟩ = some (.int .i64 x.k) ∧ w.cell? ⟨b, off + j * 6 + 1, none⟩ = some (.int .i64 x.f) ∧ w.cell? ⟨b, off + j * 6 + 2, none⟩ = some (.int .i64 x.t) ∧ w.cell? ⟨b, off + j * 6 + 3, none⟩ = some (.int .i64 x.u) ∧
      w.cell? ⟨b, off + j * 6 + 4, none⟩ = some (.slice ka x.ks.length kc) ∧ w.cell? ⟨b, off + j * 6 + 5, none⟩ = some (.bool x.y) ∧ KidsAt w ka x.ks ∧ x.ks.length ≤ maxLen := by
  obtain ⟨L, h1, h2, h3⟩ := h
  have hlen : L.length = l.length := by rw [← h1, List.length_map]
  rw [← hlen] at h2
  rw [← h1, List.getElem?_map] at hj
  cases hp : L[j]? with
  | none => rw [hp] at hj; cases hj
  | some p =>
    rw [hp] at hj
    injection hj with hj
    subst hj
    obtain ⟨b, off, e, hc⟩ := h2.at_ j p hp
    obtain ⟨hn, hm, hk⟩ := h3 p (List.mem_of_getElem? hp)
    refine ⟨b, off, p.a, p.c, e, hc 0 _ rfl, hc 1 _ rfl, hc 2 _ rfl, hc 3 _ rfl, ?_, hc 5 _ rfl, hk, by rw [← hn]; exact hm⟩
    rw [← hn]; exact hc 4 _ rfl
end
end Go.Proofs.Ytmlpaafclobgcaa
