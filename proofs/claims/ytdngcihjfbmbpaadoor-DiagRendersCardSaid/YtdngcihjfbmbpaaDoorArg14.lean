/- How an argument that is a slice of diagnostics reads when it comes in: three whole numbers of 64 bits each. -/
import Derived.Test.YtdngcihjfbmbpaaDoorZwf
import Derived.ProofKit
import Derived.OpenShut
import Derived.Lib.SmallJoins
import Derived.Deep.Slices
import Derived.Deep.SlicePairs
import Derived.Deep.Fields
import Derived.ChangeSame
namespace Go.Proofs.YtdngcihjfbmbpaaDoor.Zm
open Go.ChangeShapes Go.WideShapes Go.ChangeAt Go.RowKit Go.Joins Go.Deep
open Go.Proofs.YtdngcihjfbmbpaaDoor.Sq (Reads add_addr)
open Go.Proofs.YtdngcihjfbmbpaaDoor.Zd

theorem spotZ {P : Program} {w : World} {base : Nat} {t e : TypeId} {x : Addr} {len cap : Nat} (ht : P.underlying t = some (.slice e)) (h : Value.okWide P w .any base t (.slice (some x) len cap)) : x.spot = none := by
  simp only [Value.okWide, ht, Cell.okWide] at h
  simp only [Cell.ok, ht] at h
  exact h.2.2.2.1
instance : Inhabited Dg := ⟨⟨0, 0, 0⟩⟩
section
variable {H : Type} {enc : TypeId × Value → H} {P : Program} {w : World} {base : Nat} {spare : Nat → Bool} {held : Bool}
theorem open_slice_fields {t e : TypeId} {fs : Array Field} {fuel : Nat} {cs : List Value} {x : DataW H × List MemPlace} (ht : P.underlying t = some (.slice e)) (he : P.underlying e = some (.struct fs))
    (hone : oneCellFields P fs = true) (hC : P.cellsOf e = fs.size) (h : DataW.trod enc P w base spare held fuel t cs = some x) :
    (cs = [.slice none 0 0] ∧ x = (.nil, [])) ∨
    ∃ (a : Addr) (len cap m : Nat) (D : Nat → DataW H) (Pl : Nat → List MemPlace), cs = [.slice (some a) len cap] ∧ base ≤ a.block ∧ len ≤ cap ∧ cap ≤ maxLen ∧ m = (if spare a.block then cap else len) ∧
      x = (.slice ((List.range len).map D) ((List.range (m - len)).map fun j => D (len + j)), MemPlace.row a (m * fs.size) ++ (List.range m).flatMap Pl) ∧
      ∀ i, i < m → ∃ (ys : List (DataW H × List MemPlace)) (n : Nat), D i = .agg (ys.map (·.1)) ∧ Pl i = ys.flatMap (·.2) ∧ ys.length = fs.size ∧
        ∀ (j : Nat) (f : Field), fs[j]? = some f → ∃ (v : Value) (y : DataW H × List MemPlace), w.cell? (a.add (i * fs.size + j)) = some v ∧ ys[j]? = some y ∧ DataW.trod enc P w base spare held n f.type [v] = some y := by
  rcases open_slice ht h with h0 | ⟨a, len, cap, m, n, D, Pl, hcs, hb, hl, hm, hmm, hx, hi⟩
  · exact .inl h0
  · refine .inr ⟨a, len, cap, m, D, Pl, hcs, hb, hl, hm, hmm, by rw [hC] at hx; exact hx, fun i him => ?_⟩
    obtain ⟨cs', hc, ht'⟩ := hi i him
    rw [hC] at hc
    obtain ⟨ys, n', hn', hy, hlen, hyl, hf⟩ := DataW.trod_struct he ht'
    obtain ⟨_, hcl, hat⟩ := World.cells?_some hc
    simp only [Prod.mk.injEq] at hy
    refine ⟨ys, n', hy.1, hy.2, hyl, fun j f hj => ?_⟩
    obtain ⟨ho, hk⟩ := hone_of hone j f hj
    have hjl : j < fs.size := (Array.getElem?_eq_some_iff.1 hj).1
    have hcell := hat j hjl
    have hv : cs'[j]? = some (cs'[j]'(by omega)) := List.getElem?_eq_getElem (by omega)
    have h1 := hf j f hj
    rw [ho, hk] at h1
    have hone' : (cs'.drop j).take 1 = [cs'[j]'(by omega)] := by
      rw [List.drop_eq_getElem_cons (by omega)]
      rfl
    rw [hone'] at h1
    have hys : ys[j]? = some (ys[j]'(by omega)) := List.getElem?_eq_getElem (by omega)
    refine ⟨_, _, ?_, hys, h1.trans hys⟩
    rw [← Go.Deep.add_add, hcell, hv]
end
theorem diags_of_arg {H : Type} {enc : TypeId × Value → H} {w : World} {base : Nat} {v : Value} {d : DataW H} {p : List MemPlace}
    (hv : Value.okWide Tryd.prog w .any base 23 v) (h : DataW.Trod enc Tryd.prog w 0 (fun _ => true) true 23 v d p) :
    ∃ l : List Dg, Reads encZ w v l ∧ ∀ x ∈ l, Wf x := by
  obtain ⟨a, len, cap, rfl⟩ := okWide_slice Tryd.underlying23 hv
  obtain ⟨fuel, hf⟩ := h
  rcases open_slice_fields Tryd.underlying23 Tryd.underlying31 (by kernel_rfl) (by kernel_rfl) hf with ⟨hcs, _⟩ | ⟨x, n, c, m, D, Pl, hcs, _, hl, hm, hmm, hx, hi⟩
  · simp [Value.cells] at hcs
    obtain ⟨rfl, rfl, rfl⟩ := hcs
    exact ⟨[], .inl ⟨rfl, rfl⟩, fun x hx => by cases hx⟩
  · simp [Value.cells] at hcs
    obtain ⟨rfl, rfl, rfl⟩ := hcs
    have hsp := spotZ Tryd.underlying23 hv
    obtain ⟨b, off, spot⟩ := x
    simp only at hsp
    subst hsp
    have hmc : m = cap := by simpa using hmm
    subst hmc
    obtain ⟨f, hf2⟩ := choose_lt (α := Dg) (n := len) (p := fun i e => w.cell? ⟨b, off + i * 3, none⟩ = some (.int .i64 e.code) ∧ w.cell? ⟨b, off + i * 3 + 1, none⟩ = some (.int .i64 e.f) ∧ w.cell? ⟨b, off + i * 3 + 2, none⟩ = some (.int .i64 e.t) ∧ Wf e) (fun i hi2 => by
      obtain ⟨ys, n', hD, _, hyl, hF⟩ := hi i (by omega)
      obtain ⟨v0, y0, q0, z0, t0⟩ := hF 0 _ rfl
      obtain ⟨v1, y1, q1, z1, t1⟩ := hF 1 _ rfl
      obtain ⟨v2, y2, q2, z2, t2⟩ := hF 2 _ rfl
      obtain ⟨u0, e0, _, g0⟩ := DataW.trod_int Tryd.underlying3 t0
      obtain ⟨u1, e1, _, g1⟩ := DataW.trod_int Tryd.underlying3 t1
      obtain ⟨u2, e2, _, g2⟩ := DataW.trod_int Tryd.underlying3 t2
      rw [add_addr, (List.cons.inj e0).1] at q0
      rw [add_addr, (List.cons.inj e1).1] at q1
      rw [add_addr, (List.cons.inj e2).1] at q2
      refine ⟨⟨u0, u1, u2⟩, q0, ?_, ?_, ⟨g0, g1, g2⟩⟩
      · rw [Nat.add_assoc]; exact q1
      · rw [Nat.add_assoc]; exact q2)
    refine ⟨(List.range len).map f, .inr ⟨b, off, m, by simp, by simpa using hl, hm, fun j z hj i u hu => ?_⟩, fun z hz => ?_⟩
    · have hj' : j < len := by have := (List.getElem?_eq_some_iff.1 hj).1; simpa using this
      have e : z = f j := by rw [List.getElem?_map, List.getElem?_range hj'] at hj; exact (Option.some.inj hj).symm
      subst e
      obtain ⟨g0, g1, g2, _⟩ := hf2 j hj'
      match i, hu with
      | 0, hu => rw [← Option.some.inj hu]; exact g0
      | 1, hu => rw [← Option.some.inj hu]; exact g1
      | 2, hu => rw [← Option.some.inj hu]; exact g2
    · obtain ⟨j, hj, rfl⟩ := List.mem_map.1 hz
      exact (hf2 j (List.mem_range.1 hj)).2.2.2
end Go.Proofs.YtdngcihjfbmbpaaDoor.Zm
