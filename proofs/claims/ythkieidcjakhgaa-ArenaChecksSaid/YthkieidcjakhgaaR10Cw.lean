/- A tree of a call's own with one thing turned: how it reads then (no function of the program's). -/
import Derived.Test.YthkieidcjakhgaaVar
namespace Go.Proofs.Ythkieidcjakhgaa
open Go.RowKit
open Go.Proofs.Ythkieidcjakhgaa.Sq
open Go.Proofs.Ythkieidcjakhgaa.Ar
set_option linter.unusedVariables false

/-- A store over a cell that holds a slice bears on no row of numbers. -/
theorem ints_keep {W : World} {g o : Nat} {a : Option Addr} {n c : Nat} (hc : W.cell? ⟨g, o, none⟩ = some (.slice a n c)) (u v : Value) {l : List Int} (h : Reads encI W v l) : Reads encI (W.setCell ⟨g, o, none⟩ u) v l := by
  rcases h with h | ⟨b, off, cap, e1, e2, e3, e4⟩
  · exact .inl h
  · refine .inr ⟨b, off, cap, e1, e2, e3, fun j x hj i w hw => ?_⟩
    have h4 := e4 j x hj i w hw
    have hi : i = 0 := by
      have h5 := (List.getElem?_eq_some_iff.1 hw).1
      have h6 : (encI.cells x).length = 1 := rfl
      omega
    subst hi
    obtain rfl : w = .int .i64 x := (Option.some.inj hw).symm
    have hne : (⟨g, o, none⟩ : Addr) ≠ ⟨b, off + j * encI.k + 0, none⟩ := fun e => by
      rw [e, h4] at hc
      cases hc
    rw [World.cell?_setCell_other _ _ _ _ hne]
    exact h4
section
variable {w w' : World} {B g n cap i : Nat} {L : List Ln} {p : Ln}
theorem OT.cell4 (h : OT w B (.slice (some ⟨g, 0, none⟩) n cap) L) (j : Nat) (u : Value) (hp : L[i]? = some p) (hu : (nCells p)[j]? = some u) (hj : j < 6) : w.cell? ⟨g, i * 6 + j, none⟩ = some u := by
  have := h.row.cells (g := g) rfl _ _ ((all_get encN L i p hp j hj).trans hu)
  rw [add_addr, Nat.zero_add] at this
  exact this
theorem OT.free4 (h : OT w B (.slice (some ⟨g, 0, none⟩) n cap) L) (hp : L[i]? = some p) (o : Nat) : w.frozen? ⟨g, o, none⟩ = false := by
  have hi := (List.getElem?_eq_some_iff.1 hp).1
  obtain ⟨gx, cpx, hvx, -, hfx, -, -⟩ := own_at (E := encN) h.row (by omega)
  have ex := (Value.slice.inj hvx).1
  injection ex with ex
  injection ex with ex
  rw [ex]; exact hfx _
theorem OT.drew (h : OT w B (.slice (some ⟨g, 0, none⟩) n cap) L) : OT w.drew B (.slice (some ⟨g, 0, none⟩) n cap) L := h.below (Below.refl _ _).drew
/-- One field but the kids is stored. -/
theorem OT.turn (h : OT w B (.slice (some ⟨g, 0, none⟩) n cap) L) (j : Nat) (nd : Nd) (u : Value) (hp : L[i]? = some p) (hks : nd.ks = p.nd.ks) (hc : nCells { p with nd := nd } = (nCells p).set j u) (hj : j < 6) :
    Nodes (w.setCell ⟨g, i * 6 + j, none⟩ u) (.slice (some ⟨g, 0, none⟩) n cap) ((L.map Ln.nd).set i nd) := by
  have := (h.set i j p nd u hp hks hc hj).nodes
  rw [List.map_set] at this
  exact this
/-- A node's kids are others. -/
theorem OT.kidsTo (h : OT w B (.slice (some ⟨g, 0, none⟩) n cap) L) (hp : L[i]? = some p) (ks : List Int) (a' : Option Addr) (n' c' : Nat) (hrow : w'.ownsRow B 48 6 (.slice (some ⟨g, 0, none⟩) n cap) L.length (encN.all L))
    (hk : ∀ (j : Nat) (q : Ln), j ≠ i → L[j]? = some q → Reads encI w' q.val q.nd.ks) (hn : Reads encI w' (.slice a' n' c') ks) :
    Nodes (w'.setCell ⟨g, i * 6 + 4, none⟩ (.slice a' n' c')) (.slice (some ⟨g, 0, none⟩) n cap) ((L.map Ln.nd).set i { p.nd with ks := ks }) := by
  have hc4 : w'.cell? ⟨g, i * 6 + 4, none⟩ = some p.val := by
    have := hrow.cells (g := g) rfl _ _ ((all_get encN L i p hp 4 (by decide)).trans rfl)
    rw [add_addr, Nat.zero_add] at this
    exact this
  refine ⟨L.set i ⟨{ p.nd with ks := ks }, a', n', c'⟩, by rw [List.map_set], Reads.of_own (E := encN) (own_set hrow i 4 p ⟨{ p.nd with ks := ks }, a', n', c'⟩ (.slice a' n' c') hp rfl (by decide)), fun q hq => ?_⟩
  obtain ⟨j, hj⟩ := List.getElem?_of_mem hq
  rw [List.getElem?_set] at hj
  split at hj
  · split at hj
    · obtain rfl := Option.some.inj hj
      exact ints_keep hc4 _ _ hn
    · cases hj
  · rename_i e
    exact ints_keep hc4 _ _ (hk j q (fun x => e x.symm) hj)
/-- One more kid: the row is put on. -/
theorem OT.more (h : OT w B (.slice (some ⟨g, 0, none⟩) n cap) L) (hp : L[i]? = some p) (z : Int) {a' : Option Addr} {n' c' : Nat} (hg : w.grownBy w' p.val.ownBlock) (hown : w'.ownsRow B 3 encI.k (.slice a' n' c') (p.nd.ks ++ [z]).length (encI.all (p.nd.ks ++ [z]))) :
    Nodes (w'.setCell ⟨g, i * 6 + 4, none⟩ (.slice a' n' c')) (.slice (some ⟨g, 0, none⟩) n cap) ((L.map Ln.nd).set i { p.nd with ks := p.nd.ks ++ [z] }) :=
  h.kidsTo hp _ a' n' c' (h.row.kept hg (off_row (own_types (h.kids i p hp) h.row (by decide))))
    (fun j q hj hq => Reads.of_own (E := encI) ((h.kids j q hq).kept hg (off_row (fun g1 hg1 => h.apart i j p q (fun x => hj x.symm) hp hq g1 hg1)))) (Reads.of_own (E := encI) hown)
/-- The last kid is taken off. -/
theorem OT.less (h : OT w B (.slice (some ⟨g, 0, none⟩) n cap) L) (hp : L[i]? = some p) (ks : List Int) {a' : Option Addr} {n' c' : Nat} (hn : Reads encI w (.slice a' n' c') ks) :
    Nodes (w.setCell ⟨g, i * 6 + 4, none⟩ (.slice a' n' c')) (.slice (some ⟨g, 0, none⟩) n cap) ((L.map Ln.nd).set i { p.nd with ks := ks }) :=
  h.kidsTo hp ks a' n' c' h.row (fun j q hj hq => Reads.of_own (E := encI) (h.kids j q hq)) hn
end
end Go.Proofs.Ythkieidcjakhgaa
