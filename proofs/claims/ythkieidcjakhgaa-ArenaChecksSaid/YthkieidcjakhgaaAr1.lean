/- Nodes in memory: how they lie in a row, their kids in rows of their own; a tree of a call's own; a store into a row of a call's own (no function of the program's). -/
import Derived.Test.YthkieidcjakhgaaAr0
import Derived.Test.YthkieidcjakhgaaSqb
import Derived.Test.YthkieidcjakhgaaCel
import Derived.OneCell
import Derived.Lib.SmallJoins
namespace Go.Proofs.Ythkieidcjakhgaa
open Go.RowKit
open Go.Proofs.Ythkieidcjakhgaa.Sq
open Go.Proofs.Ythkieidcjakhgaa.Ar
set_option linter.unusedVariables false

def encI : Enc Int := ⟨fun x => [.int .i64 x], 1, by decide, fun _ => rfl, fun x u hu => by
  cases hu with
  | head => rfl
  | tail _ hu => cases hu⟩
theorem tyI : Ty Try.prog encI 46 3 8 := Ty.of (z := .int .i64 0) Try.underlying46 (by kernel_rfl) (by kernel_rfl) rfl (fun w => by kernel_rfl)
/-- A node with the slice of its kids. -/
structure Ln where
  nd : Nd
  a : Option Addr
  n : Nat
  c : Nat
abbrev Ln.val (p : Ln) : Value := .slice p.a p.n p.c
def nCells (p : Ln) : List Value := [.int .i64 p.nd.k, .int .i64 p.nd.f, .int .i64 p.nd.t, .int .i64 p.nd.u, p.val, .bool p.nd.y]
abbrev nAgg (p : Ln) : Value := .agg #[.int .i64 p.nd.k, .int .i64 p.nd.f, .int .i64 p.nd.t, .int .i64 p.nd.u, p.val, .bool p.nd.y]
def encN : Enc Ln := ⟨nCells, 6, by decide, fun _ => rfl, fun x u hu => by
  cases hu with
  | head => rfl
  | tail _ hu => cases hu with
    | head => rfl
    | tail _ hu => cases hu with
      | head => rfl
      | tail _ hu => cases hu with
        | head => rfl
        | tail _ hu => cases hu with
          | head => rfl
          | tail _ hu => cases hu with
            | head => rfl
            | tail _ hu => cases hu⟩
theorem tyN : Ty Try.prog encN 25 48 64 := Ty.of (z := .agg #[.int .i64 0, .int .i64 0, .int .i64 0, .int .i64 0, .slice none 0 0, .bool false]) Try.underlying25 (by kernel_rfl) (by kernel_rfl) rfl (fun w => by kernel_rfl)
/-- The slice value v reads as the nodes l, each with its kids. -/
def Nodes (w : World) (v : Value) (l : List Nd) : Prop := ∃ L : List Ln, L.map Ln.nd = l ∧ Reads encN w v L ∧ ∀ p ∈ L, Reads encI w p.val p.nd.ks
section
variable {w w' : World} {v : Value} {l : List Nd}
theorem Nodes.below (h : Nodes w v l) (hb : Below w.heap.size w w') : Nodes w' v l := by
  obtain ⟨L, h1, h2, h3⟩ := h
  exact ⟨L, h1, h2.below hb, fun p hp => (h3 p hp).below hb⟩
theorem Nodes.shape (h : Nodes w v l) : ∃ a cap, v = .slice a l.length cap := by
  obtain ⟨L, h1, h2, _⟩ := h
  obtain ⟨a, cap, e⟩ := h2.shape
  exact ⟨a, cap, by rw [e, ← h1, List.length_map]⟩
theorem Nodes.size_le (h : Nodes w v l) : l.length ≤ maxLen := by
  obtain ⟨L, h1, h2, _⟩ := h
  rw [← h1, List.length_map]; exact h2.size_le
theorem val_len {p : Ln} (h : Reads encI w p.val p.nd.ks) : p.n = p.nd.ks.length := by
  obtain ⟨a, cap, e⟩ := h.shape
  injection e
theorem Nodes.at_ {a : Option Addr} {cap : Nat} (h : Nodes w (.slice a l.length cap) l) (j : Nat) (x : Nd) (hj : l[j]? = some x) :
    ∃ b off ka kc, a = some ⟨b, off, none⟩ ∧ w.cell? ⟨b, off + j * 6, none⟩ = some (.int .i64 x.k) ∧ w.cell? ⟨b, off + j * 6 + 1, none⟩ = some (.int .i64 x.f) ∧ w.cell? ⟨b, off + j * 6 + 2, none⟩ = some (.int .i64 x.t) ∧ w.cell? ⟨b, off + j * 6 + 3, none⟩ = some (.int .i64 x.u) ∧
      w.cell? ⟨b, off + j * 6 + 4, none⟩ = some (.slice ka x.ks.length kc) ∧ w.cell? ⟨b, off + j * 6 + 5, none⟩ = some (.bool x.y) ∧ Reads encI w (.slice ka x.ks.length kc) x.ks := by
  obtain ⟨L, h1, h2, h3⟩ := h
  have hlen : L.length = l.length := by rw [← h1, List.length_map]
  rw [← hlen] at h2
  rw [← h1, List.getElem?_map] at hj
  cases hp : L[j]? with
  | none => rw [hp] at hj; cases hj
  | some p =>
    rw [hp] at hj
    injection hj with hj
    subst hj
    obtain ⟨b, off, e, hc⟩ := h2.at_ j p hp
    have hk := h3 p (List.mem_of_getElem? hp)
    have hn := val_len hk
    refine ⟨b, off, p.a, p.c, e, hc 0 _ rfl, hc 1 _ rfl, hc 2 _ rfl, hc 3 _ rfl, ?_, hc 5 _ rfl, ?_⟩
    · rw [← hn]; exact hc 4 _ rfl
    · rw [← hn]; exact hk
theorem kids_at {a : Option Addr} {cap : Nat} {l : List Int} (h : Reads encI w (.slice a l.length cap) l) (j : Nat) (x : Int) (hj : l[j]? = some x) :
    ∃ b off, a = some ⟨b, off, none⟩ ∧ w.cell? ⟨b, off + j, none⟩ = some (.int .i64 x) := by
  obtain ⟨b, off, h1, h2⟩ := h.at_ j x hj
  have := h2 0 _ rfl
  exact ⟨b, off, h1, by rw [show off + j = off + j * encI.k + 0 by show off + j = off + j * 1 + 0; omega]; exact this⟩
end

/-- One cell of a row of the call's own is stored. -/
theorem all_set {α : Type} (E : Enc α) : ∀ (L : List α) (i j : Nat) (x x' : α) (u : Value), L[i]? = some x → E.cells x' = (E.cells x).set j u → j < E.k → E.all (L.set i x') = (E.all L).set (i * E.k + j) u
  | [], i, j, x, x', u => fun h => by simp at h
  | y :: r, 0, j, x, x', u => fun h hc hj => by
    obtain rfl : y = x := by simpa using h
    rw [List.set_cons_zero, Enc.all, Enc.all, hc, Nat.zero_mul, Nat.zero_add, List.set_append_left _ _ (by rw [E.len]; exact hj)]
  | y :: r, i + 1, j, x, x', u => fun h hc hj => by
    rw [List.set_cons_succ, Enc.all, Enc.all, all_set E r i j x x' u (by simpa using h) hc hj, List.set_append_right _ _ (by rw [E.len, Nat.add_mul]; omega), E.len]
    congr 2
    rw [Nat.add_mul]; omega
theorem own_set {α : Type} {E : Enc α} {w : World} {B e g n cap : Nat} {L : List α} (h : w.ownsRow B e E.k (.slice (some ⟨g, 0, none⟩) n cap) L.length (E.all L)) (i j : Nat) (x x' : α) (u : Value) (hx : L[i]? = some x) (hc : E.cells x' = (E.cells x).set j u) (hj : j < E.k) :
    (w.setCell ⟨g, i * E.k + j, none⟩ u).ownsRow B e E.k (.slice (some ⟨g, 0, none⟩) n cap) (L.set i x').length (E.all (L.set i x')) := by
  have hi := (List.getElem?_eq_some_iff.1 hx).1
  obtain ⟨h1, h2⟩ := h
  rcases h2 with ⟨h2, _⟩ | ⟨g', cap', cur, hv, hg, hh, hn, hcp, hcs, ht⟩
  · cases h2
  · obtain ⟨e1, e2, e3⟩ := Value.slice.inj hv
    injection e1 with e1
    injection e1 with e1
    subst e1 e3
    refine ⟨by rw [all_len], .inr ⟨g, cap, cur.setIfInBounds (i * E.k + j) u, by rw [List.length_set, ← e2], hg, Joins.block_setCell hh u, by rw [List.length_set]; exact hn, hcp, by simpa using hcs, ?_⟩⟩
    rw [List.length_set, all_set E L i j x x' u hx hc hj, ← ht, Array.toList_setIfInBounds, List.take_set]
/-- A row of the call's own that holds something: where it lies, that it may be written. -/
theorem own_at {α : Type} {E : Enc α} {w : World} {B e : Nat} {v : Value} {L : List α} (h : w.ownsRow B e E.k v L.length (E.all L)) (h0 : 0 < L.length) :
    ∃ g cap, v = .slice (some ⟨g, 0, none⟩) L.length cap ∧ B ≤ g ∧ (∀ o, w.frozen? ⟨g, o, none⟩ = false) ∧ L.length ≤ cap ∧ cap ≤ maxLen := by
  rcases h.2 with ⟨_, h2⟩ | ⟨g, cap, cur, hv, hg, hh, hn, hcp, hcs, ht⟩
  · omega
  · exact ⟨g, cap, hv, hg, fun o => Joins.unfrozen_of_block hh o, hn, hcp⟩
/-- Rows of two element types do not lie in one block. -/
theorem own_types {w : World} {B B' e e' s s' n n' : Nat} {v v' : Value} {xs xs' : List Value} (h : w.ownsRow B e s v n xs) (h' : w.ownsRow B' e' s' v' n' xs') (hne : e ≠ e') (g : Nat) (hg : v.ownBlock = some g) : v'.ownBlock ≠ some g := fun hg' => by
  rcases h.2 with ⟨h1, _⟩ | ⟨b, cap, cur, hv, _, hh, _⟩
  · rw [h1] at hg; cases hg
  · rcases h'.2 with ⟨h1, _⟩ | ⟨b', cap', cur', hv', _, hh', _⟩
    · rw [h1] at hg'; cases hg'
    · rw [hv] at hg; rw [hv'] at hg'
      obtain rfl : b = g := by simpa [Value.ownBlock] using hg
      obtain rfl : b' = b := by simpa [Value.ownBlock] using hg'
      rw [hh] at hh'
      injection hh' with hh'
      injection hh' with _ h3
      exact hne h3
/-- A tree of the call's own: the nodes' row, each node's kids in a row of their own, all apart. -/
structure OT (w : World) (B : Nat) (v : Value) (L : List Ln) : Prop where
  row : w.ownsRow B 48 6 v L.length (encN.all L)
  kids : ∀ (i : Nat) (p : Ln), L[i]? = some p → w.ownsRow B 3 1 p.val p.nd.ks.length (encI.all p.nd.ks)
  apart : ∀ (i j : Nat) (p q : Ln), i ≠ j → L[i]? = some p → L[j]? = some q → ∀ g, p.val.ownBlock = some g → q.val.ownBlock ≠ some g
section
variable {w w' : World} {B : Nat} {v : Value} {L : List Ln}
theorem OT.below (h : OT w B v L) (hb : Below w.heap.size w w') : OT w' B v L := ⟨own_below h.row hb, fun i p hp => own_below (h.kids i p hp) hb, h.apart⟩
theorem OT.base {B' : Nat} (h : OT w B v L) (hB : B' ≤ B) : OT w B' v L := ⟨own_base h.row hB, fun i p hp => own_base (h.kids i p hp) hB, h.apart⟩
theorem OT.nodes (h : OT w B v L) : Nodes w v (L.map Ln.nd) := ⟨L, rfl, Reads.of_own (E := encN) h.row, fun p hp => by
  obtain ⟨i, hi⟩ := List.getElem?_of_mem hp
  exact Reads.of_own (E := encI) (h.kids i p hi)⟩
theorem OT.nil (w : World) (B : Nat) : OT w B (.slice none 0 0) [] := ⟨own_nil encN _ _, fun i p h => by simp at h, fun i j p q _ h => by simp at h⟩
/-- One number of a node is stored. -/
theorem OT.set {g n cap : Nat} (h : OT w B (.slice (some ⟨g, 0, none⟩) n cap) L) (i j : Nat) (p : Ln) (nd : Nd) (u : Value) (hp : L[i]? = some p) (hks : nd.ks = p.nd.ks) (hc : nCells { p with nd := nd } = (nCells p).set j u) (hj : j < 6) :
    OT (w.setCell ⟨g, i * 6 + j, none⟩ u) B (.slice (some ⟨g, 0, none⟩) n cap) (L.set i { p with nd := nd }) := by
  have hi := (List.getElem?_eq_some_iff.1 hp).1
  have key : ∀ (a : Nat) (q : Ln), (L.set i { p with nd := nd })[a]? = some q → ∃ q', L[a]? = some q' ∧ q.val = q'.val ∧ q.nd.ks = q'.nd.ks := by
    intro a q hq
    rw [List.getElem?_set] at hq
    split at hq
    · rename_i e; subst e
      injection hq with hq; subst hq
      exact ⟨p, hp, rfl, hks⟩
    · exact ⟨q, hq, rfl, rfl⟩
  refine ⟨own_set h.row i j p _ u hp hc hj, fun a q hq => ?_, fun a b q r hab hq hr g' hg' => ?_⟩
  · obtain ⟨q', h1, h2, h3⟩ := key a q hq
    rw [h2, h3]
    exact ownsRow_setCell_other (h.kids a q' h1) (own_types h.row (h.kids a q' h1) (by decide) g rfl) u
  · obtain ⟨q', h1, h2, _⟩ := key a q hq
    obtain ⟨r', h4, h5, _⟩ := key b r hr
    rw [h2] at hg'
    rw [h5]
    exact h.apart a b q' r' hab h1 h4 g' hg'
end
end Go.Proofs.Ythkieidcjakhgaa
