/- How an argument that is a slice of whole numbers reads when it comes in. -/
import Derived.Test.YtdngcihjfbmbpaaDoorInts
import Derived.ProofKit
import Derived.OpenShut
namespace Go.Proofs.YtdngcihjfbmbpaaDoor
open Go.ChangeShapes Go.WideShapes Go.ChangeAt Go.RowKit

theorem own : ownKnob Tryd.prog.godebug = none := by kernel_rfl
theorem laidOut : laidOutB Tryd.prog = true := by kernel_rfl

theorem spot_of_ok {P : Program} {w : World} {base : Nat} {t e : TypeId} {x : Addr} {len cap : Nat} (ht : P.underlying t = some (.slice e)) (h : Value.okWide P w .any base t (.slice (some x) len cap)) : x.spot = none := by
  simp only [Value.okWide, ht, Cell.okWide] at h
  simp only [Cell.ok, ht] at h
  exact h.2.2.2.1

/-- The slice value v reads as the numbers l of kind k, each of which fits. -/
def Nums (k : IntKind) (w : World) (v : Value) (l : List Int) : Prop :=
  ((v = .slice none 0 0 ∧ l = []) ∨ ∃ b off cap, v = .slice (some ⟨b, off, none⟩) l.length cap ∧ l.length ≤ cap ∧ cap ≤ maxLen ∧ ∀ j, j < l.length → w.cell? ⟨b, off + j, none⟩ = some (.int k (l.getD j 0))) ∧ ∀ n ∈ l, (Lit.int k n).wf = true

set_option maxRecDepth 100000 in
theorem nums_of_arg {H : Type} {enc : TypeId × Value → H} {w : World} {base : Nat} {t e : TypeId} {k : IntKind} {v : Value} {d : DataW H} {p : List MemPlace}
    (ht : Tryd.prog.underlying t = some (.slice e)) (he : Tryd.prog.underlying e = some (.int k)) (hce : Tryd.prog.cellsOf e = 1)
    (hv : Value.okWide Tryd.prog w .any base t v) (h : DataW.Trod enc Tryd.prog w 0 (fun _ => true) true t v d p) : ∃ l, Nums k w v l := by
  obtain ⟨a, len, cap, rfl⟩ := okWide_slice ht hv
  obtain ⟨fuel, hf⟩ := h
  rcases open_ints ht he hce hf with ⟨hcs, _⟩ | ⟨x, l, c, zs, hcs, _, hl, hm, hz, _, hcell, hwz⟩
  · simp [Value.cells] at hcs
    obtain ⟨rfl, rfl, rfl⟩ := hcs
    exact ⟨[], .inl ⟨rfl, rfl⟩, by simp⟩
  · simp [Value.cells] at hcs
    obtain ⟨rfl, rfl, rfl⟩ := hcs
    have hsp := spot_of_ok ht hv
    obtain ⟨b, off, spot⟩ := x
    simp only at hsp
    subst hsp
    have hzl : zs.length = cap := by simpa using hz
    have hlen : (zs.take len).length = len := by rw [List.length_take]; omega
    refine ⟨zs.take len, .inr ⟨b, off, cap, by rw [hlen], by rw [hlen]; exact hl, hm, fun j hj => ?_⟩, fun n hn => hwz n (List.mem_of_mem_take hn)⟩
    rw [hlen] at hj
    have := hcell j (by omega)
    rw [addr_add] at this
    rw [this]
    simp [List.getD, hj]

theorem bys_of_nums {w : World} {v : Value} {l : List Int} (h : Nums .u8 w v l) : ∃ s, Bys w v s := by
  obtain ⟨h1, hwf⟩ := h
  have hb : ∀ n ∈ l, 0 ≤ n ∧ n < 256 := fun n hn => by
    have := bounds_u8 (hwf n hn)
    omega
  refine ⟨⟨(l.map fun n => UInt8.ofNat n.toNat).toArray⟩, ?_⟩
  have hsz : (⟨(l.map fun n => UInt8.ofNat n.toNat).toArray⟩ : ByteArray).size = l.length := by simp [ByteArray.size]
  rcases h1 with ⟨rfl, rfl⟩ | ⟨b, off, cap, rfl, h2, h3, h4⟩
  · exact .inl ⟨rfl, rfl⟩
  · refine .inr ⟨b, off, cap, by rw [hsz], by rw [hsz]; exact h2, h3, fun j hj => ?_⟩
    rw [hsz] at hj
    rw [h4 j hj, ← Lib.getD_get!', List.getD_eq_getElem?_getD, List.getD_eq_getElem?_getD]
    have hx := hb l[j] (List.getElem_mem hj)
    simp [hj]
    omega
set_option maxRecDepth 100000 in
theorem bys_of_arg {H : Type} {enc : TypeId × Value → H} {w : World} {base : Nat} {v : Value} {d : DataW H} {p : List MemPlace}
    (hv : Value.okWide Tryd.prog w .any base 22 v) (h : DataW.Trod enc Tryd.prog w 0 (fun _ => true) true 22 v d p) : ∃ s, Bys w v s := by
  obtain ⟨l, hl⟩ := nums_of_arg Tryd.underlying22 Tryd.underlying5 (by kernel_rfl) hv h
  exact bys_of_nums hl
end Go.Proofs.YtdngcihjfbmbpaaDoor
