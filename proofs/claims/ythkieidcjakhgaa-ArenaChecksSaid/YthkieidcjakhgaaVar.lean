/- A tree's variable: its block, the slice in it, the nodes; trees that grow: how many kids there are, how far the first node reaches (no function of the program's). -/
import Derived.Test.YthkieidcjakhgaaAid10
import Derived.Test.YthkieidcjakhgaaR10Tl
namespace Go.Proofs.Ythkieidcjakhgaa
open Go.RowKit
open Go.Proofs.Ythkieidcjakhgaa.Sq
open Go.Proofs.Ythkieidcjakhgaa.Ar
set_option linter.unusedVariables false

/-- The block tb holds the tree X. -/
structure Var (w : World) (tb : Nat) (t : TypeId) (v : Value) (X : List Nd) : Prop where
  blk : w.heap[tb]? = some (.cells #[v] t (0, 0))
  nd : Nodes w v X
section
variable {w w' : World} {tb tb' : Nat} {t t' : TypeId} {v v' : Value} {X X' : List Nd}
theorem Var.lt (h : Var w tb t v X) : tb < w.heap.size := lt_of_block h.blk
theorem Var.below (h : Var w tb t v X) (hb : Below w.heap.size w w') : Var w' tb t v X := ⟨(hb.block tb h.lt).trans h.blk, h.nd.below hb⟩
theorem Var.new (h : Nodes w v X) (t : TypeId) : Var (w.alloc (.cells #[v] t)) w.heap.size t v X := ⟨heap_alloc_new _ _, h.below (below_alloc w _)⟩
theorem Var.cell (h : Var w tb t v X) : w.cell? ⟨tb, 0, none⟩ = some v := cell_of_one h.blk
theorem Var.free (h : Var w tb t v X) : w.frozen? ⟨tb, 0, none⟩ = false := free_of_one h.blk
theorem Var.shape (h : Var w tb t v X) : ∃ a c, v = .slice a X.length c := h.nd.shape
theorem nodes_set (h : Nodes w v' X') (hv : Var w tb t v X) (u : Value) : Nodes (w.setCell ⟨tb, 0, none⟩ u) v' X' := by
  obtain ⟨a, c, e⟩ := hv.shape
  exact h.set (by rw [← e]; exact hv.cell) u
theorem Var.set (h : Var w tb t v X) (hn : Nodes w v' X') : Var (w.setCell ⟨tb, 0, none⟩ v') tb t v' X' := ⟨one_setCell h.blk, nodes_set hn h v'⟩
theorem Var.other (h : Var w tb t v X) (h2 : Var w tb' t' v' X') (hne : tb ≠ tb') (u : Value) : Var (w.setCell ⟨tb', 0, none⟩ u) tb t v X :=
  ⟨(Below.heap_setCell _ _ _ _ hne).trans h.blk, nodes_set h.nd h2 u⟩
end
namespace Ar
/-- No node has as many kids as there are nodes; the first one reaches to nothing below 0. -/
structure Well (l : List Nd) : Prop where
  good : Ar.Good l
  few : ∀ x ∈ l, x.ks.length < l.length
  first : 0 ≤ firstT l
theorem reach_keeps : ∀ (f : Nat) (l : List Nd) (k t : Int) (j : Nat) (x' : Nd), (reachF f l k t)[j]? = some x' → ∃ x, l[j]? = some x ∧ x'.ks = x.ks ∧ x.t ≤ x'.t
  | 0, l, k, t, j, x' => fun h => ⟨x', h, rfl, Int.le_refl _⟩
  | f + 1, l, k, t, j, x' => fun h => by
    rw [reachF] at h
    by_cases hk : k < 0
    · rw [if_pos hk] at h; exact ⟨x', h, rfl, Int.le_refl _⟩
    · rw [if_neg hk] at h
      cases hx : l[k.toNat]? with
      | none => rw [hx] at h; exact ⟨x', h, rfl, Int.le_refl _⟩
      | some x =>
        rw [hx] at h
        obtain ⟨y, h1, h2, h3⟩ := reach_keeps f _ _ _ j x' h
        rw [List.getElem?_set] at h1
        split at h1
        · rename_i e; subst e
          split at h1
          · obtain rfl := Option.some.inj h1
            exact ⟨x, hx, h2, Int.le_trans (Int.le_max_left _ _) h3⟩
          · cases h1
        · exact ⟨y, h1, h2, h3⟩
theorem first_get {l : List Nd} {x : Nd} (h : l[0]? = some x) : firstT l = x.t := by
  cases l with
  | nil => cases h
  | cons y r => obtain rfl : y = x := by simpa using h
                rfl
theorem well_reach {l : List Nd} (h : Well l) (k t : Int) : Well (reachN l k t) := by
  have hg := good_reachN k t h.good
  have hl := len_reachN k t h.good
  refine ⟨hg, fun x hx => ?_, ?_⟩
  · obtain ⟨j, hj⟩ := List.getElem?_of_mem hx
    obtain ⟨y, h1, h2, _⟩ := reach_keeps _ l k t j x hj
    rw [h2, hl]
    exact h.few y (List.mem_of_getElem? h1)
  · obtain ⟨y, hy⟩ : ∃ y, (reachN l k t)[0]? = some y := ⟨_, List.getElem?_eq_getElem hg.pos⟩
    obtain ⟨z, h1, _, h3⟩ := reach_keeps _ l k t 0 y hy
    rw [first_get hy]
    have := h.first
    rw [first_get h1] at this
    omega
theorem well_new (n : Int) : Well (newN n) := by
  refine ⟨good_new n, fun x hx => ?_, ?_⟩
  · simp [newN] at hx
    subst hx; simp [newN]
  · show (0 : Int) ≤ if n < 0 ∨ 32768 < n then 0 else n
    split <;> omega
theorem well_add {l : List Nd} (h : Well l) (up kind f t : Int) : Well (addN l up kind f t).1 := by
  unfold addN
  by_cases hm : mayAdd l up kind f t = true
  · rw [if_pos hm]
    obtain ⟨h0, h1, p, hp⟩ := may_up hm
    rw [hp]
    refine well_reach ⟨good_put h.good up kind f t p h0 hp (may_le hm hp).1, fun x hx => ?_, ?_⟩ _ _
    · rw [List.length_set, List.length_append, List.length_singleton]
      rcases List.mem_or_eq_of_mem_set hx with hx | rfl
      · rcases List.mem_append.1 hx with hx | hx
        · have := h.few x hx; omega
        · obtain rfl : x = _ := by simpa using hx
          simp
      · have := h.few p (List.mem_of_getElem? hp)
        simp
        omega
    · obtain ⟨y, hy, hyt⟩ := first_at h.good.pos
      have e : ((l ++ [(⟨kind, f, t, up, [], false⟩ : Nd)]).set up.toNat { p with ks := p.ks ++ [(l.length : Int)] })[0]? = some y ∨ ((l ++ [(⟨kind, f, t, up, [], false⟩ : Nd)]).set up.toNat { p with ks := p.ks ++ [(l.length : Int)] })[0]? = some { p with ks := p.ks ++ [(l.length : Int)] } ∧ y = p := by
        rw [List.getElem?_set]
        split
        · rename_i e
          rw [e] at hp
          rw [if_pos (by simp; omega)]
          rw [hy] at hp
          exact .inr ⟨rfl, Option.some.inj hp⟩
        · rw [List.getElem?_append_left h.good.pos]
          exact .inl hy
      have hf := h.first
      rw [hyt] at hf
      rcases e with e | ⟨e, rfl⟩
      · rw [first_get e]; exact hf
      · rw [first_get e]; exact hf
  · rw [if_neg hm]; exact h
theorem well_grow {l : List Nd} (h : Well l) (i t : Int) : Well (growN l i t) := by
  unfold growN
  split
  · exact well_reach h _ _
  · exact h
/-- Growing the first node to nothing changes nothing. -/
theorem grow_zero {l : List Nd} (h : Well l) : growN l 0 0 = l ∧ mayGrow l 0 0 = true := by
  obtain ⟨y, hy, hyt⟩ := first_at h.good.pos
  have hf := h.first
  have hm : mayGrow l 0 0 = true := by
    unfold mayGrow
    have h1 : decide ((l.length : Int) ≤ 0) = false := decide_eq_false (by have := h.good.pos; omega)
    have h2 : decide (firstT l < 0) = false := decide_eq_false (by omega)
    rw [h1, h2]; rfl
  refine ⟨?_, hm⟩
  unfold growN
  rw [if_pos hm, reach_step l 0 0 y h.good (Int.le_refl _) hy]
  have hu := h.good.up 0 y hy
  have e : max y.t 0 = y.t := by rw [hyt] at hf; omega
  have hset : l.set (0 : Int).toNat { y with t := max y.t 0 } = l := by
    rw [e]
    refine List.ext_getElem? (fun j => ?_)
    rw [List.getElem?_set]
    split
    · rename_i e2
      rw [if_pos (show (0 : Int).toNat < l.length from h.good.pos)]
      have e2 : 0 = j := e2
      rw [← e2, hy]
    · rfl
  rw [hset, reach_stop _ _ _ (by omega)]
end Ar
end Go.Proofs.Ythkieidcjakhgaa
