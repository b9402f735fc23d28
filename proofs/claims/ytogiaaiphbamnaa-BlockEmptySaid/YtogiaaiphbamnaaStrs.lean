/- Slices of texts: how they lie in a row; how one reads that came in as an argument. -/
import Derived.Test.YtogiaaiphbamnaaRowArg
import Derived.Test.YtogiaaiphbamnaaSeq
import Derived.Test.YtogiaaiphbamnaaCel
import Derived.SliceStrings
namespace Go.Proofs.Ytogiaaiphbamnaa
open Go.ChangeShapes Go.WideShapes Go.ChangeAt Go.RowKit
open Go.Proofs.Ytogiaaiphbamnaa.Sq

def encS : Enc ByteArray := ⟨fun s => [.string s], 1, by decide, fun _ => rfl, fun s u hu => by rw [List.mem_singleton.1 hu]; rfl⟩
theorem tyS : Ty Try.prog encS 22 9 16 := Ty.of (z := .string ⟨#[]⟩) Try.underlying22 (by kernel_rfl) (by kernel_rfl) rfl (fun w => by kernel_rfl)
theorem strs_at {w : World} {a : Option Addr} {cap : Nat} {l : List ByteArray} (h : Reads encS w (.slice a l.length cap) l) (j : Nat) (x : ByteArray) (hj : l[j]? = some x) :
    ∃ b off, a = some ⟨b, off, none⟩ ∧ w.cell? ⟨b, off + j, none⟩ = some (.string x) := by
  obtain ⟨b, off, h1, h2⟩ := h.at_ j x hj
  refine ⟨b, off, h1, ?_⟩
  have h3 := h2 0 (.string x) rfl
  rw [show off + j * encS.k + 0 = off + j from by show off + j * 1 + 0 = off + j; omega] at h3
  exact h3
theorem strs_of_arg {H : Type} {enc : TypeId × Value → H} {w : World} {base : Nat} {v : Value} {d : DataW H} {p : List MemPlace}
    (hv : Value.okWide Try.prog w .any base 22 v) (h : DataW.Trod enc Try.prog w 0 (fun _ => true) true 22 v d p) : ∃ l, Reads encS w v l ∧ ∀ s ∈ l, s.size ≤ maxLen := by
  obtain ⟨a, len, cap, rfl⟩ := okWide_slice Try.underlying22 hv
  obtain ⟨fuel, hf⟩ := h
  rcases open_strings Try.underlying22 Try.underlying9 (by kernel_rfl) hf with ⟨hcs, _⟩ | ⟨x, n, c, ss, hcs, _, hl, hm, hz, _, hcell, hsz⟩
  · simp [Value.cells] at hcs
    obtain ⟨rfl, rfl, rfl⟩ := hcs
    exact ⟨[], .inl ⟨rfl, rfl⟩, by simp⟩
  · simp [Value.cells] at hcs
    obtain ⟨rfl, rfl, rfl⟩ := hcs
    have hsp := spot_of_ok Try.underlying22 hv
    obtain ⟨b, off, spot⟩ := x
    simp only at hsp
    subst hsp
    have hzl : ss.length = cap := by simpa using hz
    have hlen : (ss.take len).length = len := by rw [List.length_take]; omega
    refine ⟨ss.take len, .inr ⟨b, off, cap, by rw [hlen], by rw [hlen]; exact hl, hm, fun j y hj i u hu => ?_⟩, fun s hs => hsz s (List.mem_of_mem_take hs)⟩
    have hjl : j < len := by have := (List.getElem?_eq_some_iff.1 hj).1; rw [hlen] at this; exact this
    have hi : i = 0 := by
      have h1 := (List.getElem?_eq_some_iff.1 hu).1
      have h2 : (encS.cells y).length = 1 := rfl
      rw [h2] at h1; omega
    subst hi
    have hu2 : u = .string y := by
      have : (encS.cells y)[0]? = some (.string y) := rfl
      rw [this] at hu; injection hu with hu; exact hu.symm
    subst hu2
    have := hcell j (by omega)
    rw [addr_add] at this
    show w.cell? ⟨b, off + j * 1 + 0, none⟩ = _
    rw [Nat.mul_one, Nat.add_zero, this]
    rw [List.getElem?_take, if_pos hjl] at hj
    rw [List.getD_eq_getElem?_getD, hj]
    rfl
end Go.Proofs.Ytogiaaiphbamnaa
