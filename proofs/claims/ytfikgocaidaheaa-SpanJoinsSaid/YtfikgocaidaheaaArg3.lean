/- How arguments that are spans, or slices of spans, read when they come in. -/
import Derived.Test.YtfikgocaidaheaaSpn
import Derived.ProofKit
import Derived.OpenShut
import Derived.Lib.SmallJoins
import Derived.Deep.SlicePairs
namespace Go.Proofs.Ytfikgocaidaheaa
open Go.ChangeShapes Go.WideShapes Go.ChangeAt Go.RowKit Go.Joins Go.Deep

theorem own : ownKnob Try.prog.godebug = none := by kernel_rfl
theorem laidOut : laidOutB Try.prog = true := by kernel_rfl
theorem spot_of_ok {P : Program} {w : World} {base : Nat} {t e : TypeId} {x : Addr} {len cap : Nat} (ht : P.underlying t = some (.slice e)) (h : Value.okWide P w .any base t (.slice (some x) len cap)) : x.spot = none := by
  simp only [Value.okWide, ht, Cell.okWide] at h
  simp only [Cell.ok, ht] at h
  exact h.2.2.2.1
theorem span_of_arg {H : Type} {enc : TypeId × Value → H} {w : World} {base : Nat} {v : Value} {d : DataW H} {p : List MemPlace}
    (hv : Value.okWide Try.prog w .any base 23 v) (h : DataW.Trod enc Try.prog w 0 (fun _ => true) true 23 v d p) : ∃ a b : Int, v = .agg #[.int .i64 a, .int .i64 b] := by
  obtain ⟨v0, v1, y0, y1, n, rfl, -, -, h0, h1⟩ := open_agg2 Try.underlying23 (by kernel_rfl) (by kernel_rfl) hv h
  obtain ⟨a, ha, -, -⟩ := DataW.trod_int Try.underlying3 h0
  obtain ⟨b, hb, -, -⟩ := DataW.trod_int Try.underlying3 h1
  obtain ⟨rfl, -⟩ := List.cons.inj ha
  obtain ⟨rfl, -⟩ := List.cons.inj hb
  exact ⟨a, b, rfl⟩
theorem spans_of_arg {H : Type} {enc : TypeId × Value → H} {w : World} {base : Nat} {v : Value} {d : DataW H} {p : List MemPlace}
    (hv : Value.okWide Try.prog w .any base 28 v) (h : DataW.Trod enc Try.prog w 0 (fun _ => true) true 28 v d p) : ∃ l, Spans w v l := by
  obtain ⟨a, len, cap, rfl⟩ := okWide_slice Try.underlying28 hv
  obtain ⟨fuel, hf⟩ := h
  rcases open_slice_pairs Try.underlying28 Try.underlying23 (by kernel_rfl) rfl rfl (by kernel_rfl) (by kernel_rfl) hf with ⟨hcs, _⟩ | ⟨x, n, c, m, k, V0, V1, D0, D1, P0, P1, hcs, _, hl, hm, hmm, _, hx⟩
  · simp [Value.cells] at hcs
    obtain ⟨rfl, rfl, rfl⟩ := hcs
    exact ⟨[], .inl ⟨rfl, rfl⟩⟩
  · simp [Value.cells] at hcs
    obtain ⟨rfl, rfl, rfl⟩ := hcs
    have hsp := spot_of_ok Try.underlying28 hv
    obtain ⟨b, off, spot⟩ := x
    simp only at hsp
    subst hsp
    have hmc : m = cap := by simpa using hmm
    obtain ⟨f, hf2⟩ := choose_lt (α := Int × Int) (n := len) (p := fun i q => w.cell? ⟨b, off + i * 2, none⟩ = some (.int .i64 q.1) ∧ w.cell? ⟨b, off + (i * 2 + 1), none⟩ = some (.int .i64 q.2)) (fun i hi => by
      obtain ⟨q0, q1, q2, q3⟩ := hx i (by omega)
      obtain ⟨u0, e0, -, -⟩ := DataW.trod_int Try.underlying3 q2
      obtain ⟨u1, e1, -, -⟩ := DataW.trod_int Try.underlying3 q3
      rw [addr_add] at q0 q1
      rw [(List.cons.inj e0).1] at q0
      rw [(List.cons.inj e1).1] at q1
      exact ⟨(u0, u1), q0, q1⟩)
    refine ⟨(List.range len).map f, .inr ⟨b, off, cap, by simp, by simpa using hl, hm, fun j hj => ?_⟩⟩
    have hj' : j < len := by simpa using hj
    have e : ((List.range len).map f).getD j (0, 0) = f j := by simp [List.getD, hj']
    rw [e]
    exact hf2 j hj'
end Go.Proofs.Ytfikgocaidaheaa
