/- What the statements about maps and what survives have in common: edits that were chosen, of a short text. -/
import Derived.Test.YtomihekgcnilhaaLb
import Derived.Test.YtomihekgcnilhaaLc
import Derived.Test.YtomihekgcnilhaaNon
import Derived.Test.YtomihekgcnilhaaE7
import Derived.Test.YtomihekgcnilhaaArg4
namespace Go.Proofs.Ytomihekgcnilhaa
open Go.RowKit
open Go.Proofs.Ytomihekgcnilhaa.Sq

theorem insT_mem {e y : Et} {l : List Et} (h : y ∈ insT e l) : y = e ∨ y ∈ l := by
  induction l with
  | nil => exact .inl (List.mem_singleton.1 h)
  | cons x r ih =>
    rw [insT] at h
    split at h
    · rcases List.mem_cons.1 h with rfl | h
      · exact .inr (List.mem_cons_self ..)
      · rcases ih h with h | h
        · exact .inl h
        · exact .inr (List.mem_cons_of_mem _ h)
    · rcases List.mem_cons.1 h with h | h
      · exact .inl h
      · exact .inr h
theorem fold_from {n : Int} (l : List Et) : ∀ (out : List Et) (y : Et), y ∈ l.foldl (stepT n) out → y ∈ out ∨ y ∈ l := by
  induction l with
  | nil => intro out y h; exact .inl h
  | cons e r ih =>
    intro out y h
    rw [List.foldl_cons] at h
    rcases ih _ y h with h | h
    · unfold stepT at h
      split at h
      · rcases insT_mem h with rfl | h
        · exact .inr (List.mem_cons_self ..)
        · exact .inl h
      · exact .inl h
    · exact .inr (List.mem_cons_of_mem _ h)
theorem choose_from {n : Int} {l : List Et} {y : Et} (h : y ∈ chooseT n l) : y ∈ l := by
  rcases fold_from l [] y h with h | h
  · cases h
  · exact h
theorem more_le (l : List Ed.E) (h : ∀ e ∈ l, e.p.length ≤ 20 ∧ e.f ≤ e.t) : Ed.more l ≤ 20 * l.length := by
  induction l with
  | nil => simp [Ed.more]
  | cons e r ih =>
    have h1 := ih (fun x hx => h x (List.mem_cons_of_mem _ hx))
    have h2 := h e (List.mem_cons_self ..)
    simp only [Ed.more, List.length_cons]
    omega
/-- Edits that may be done to the text s, and keep it short. -/
structure Fine (s : ByteArray) (X : List Et) : Prop where
  good : Ed.Good s.size (X.map Et.ed)
  near : Near X
  short : Short X
  len : X.length ≤ 200
  chk : Ed.check s.size (X.map Et.ed) = 0
  long : (Ed.apply s.data.toList (X.map Et.ed)).length ≤ 16384
theorem fine_of (s : ByteArray) (l : List Et) (hs : s.size ≤ 60) : Fine s (chooseT s.size (tameAll s.size l)) := by
  have hg : Ed.Good s.size ((chooseT s.size (tameAll s.size l)).map Et.ed) := by rw [chooseT_ed]; exact Ed.choose_good _ _
  have hl := chooseT_len s.size (tameAll s.size l)
  have hm : ∀ y ∈ chooseT s.size (tameAll s.size l), 0 ≤ y.f ∧ y.f ≤ y.t ∧ y.t ≤ s.size ∧ y.p.size ≤ 20 := fun y hy => by
    obtain ⟨x, rfl⟩ := tameAll_mem (choose_from hy)
    exact tame_ok _ x (by omega)
  refine ⟨hg, fun y hy => ?_, fun y hy => ?_, hl, Ed.check_good hg, ?_⟩
  · obtain ⟨h1, h2, h3, h4⟩ := hm y hy
    exact ⟨h1, h2, by omega, by omega⟩
  · have := (hm y hy).2.2.2
    unfold maxLen; omega
  · have h1 := Ed.apply_len (b := s.data.toList) ((chooseT s.size (tameAll s.size l)).map Et.ed) 0 (by rw [← Lib.size_eq]; exact Ed.fits_of hg) (Nat.zero_le _)
    have h2 := more_le ((chooseT s.size (tameAll s.size l)).map Et.ed) (fun e he => by
      obtain ⟨x, hx, rfl⟩ := List.mem_map.1 he
      rw [Et.plen]
      exact ⟨(hm x hx).2.2.2, (hm x hx).2.1⟩)
    rw [List.length_map] at h2
    rw [← Lib.size_eq] at h1
    unfold Ed.apply
    omega
/-- Where a place is then. -/
theorem Fine.mono {s : ByteArray} {X : List Et} (h : Fine s X) {x y : Int} (h0 : 0 ≤ x) (h1 : x ≤ y) : Ed.map (X.map Et.ed) x ≤ Ed.map (X.map Et.ed) y :=
  Ed.map_mono (n := s.size) _ 0 0 x y (Ed.fits_of h.good) (by simpa using h0) h1
theorem Fine.bound {s : ByteArray} {X : List Et} (h : Fine s X) {x : Int} (h0 : 0 ≤ x) (h1 : x ≤ s.size) : 0 ≤ Ed.map (X.map Et.ed) x ∧ Ed.map (X.map Et.ed) x ≤ (Ed.apply s.data.toList (X.map Et.ed)).length :=
  Ed.map_bound (b := s.data.toList) (by rw [← Lib.size_eq]; exact h.good) h0 (by rw [← Lib.size_eq]; exact h1)
theorem Fine.at_end {s : ByteArray} {X : List Et} (h : Fine s X) (j : Nat) : Ed.map (X.map Et.ed) ((s.size : Int) + j) = ((Ed.apply s.data.toList (X.map Et.ed)).length : Int) + j := by
  have e := Ed.map_at_end (b := s.data.toList) (l := X.map Et.ed) (by rw [← Lib.size_eq]; exact h.good) j
  rw [← Lib.size_eq] at e
  exact e
theorem Fine.byte {s : ByteArray} {X : List Et} (h : Fine s X) {x : Nat} (hx : x < s.size) (hfree : ∀ e ∈ X, ¬ (e.f ≤ x ∧ (x : Int) < e.t)) : 0 ≤ Ed.map (X.map Et.ed) x ∧ (Ed.apply s.data.toList (X.map Et.ed))[(Ed.map (X.map Et.ed) x).toNat]? = s.data.toList[x]? :=
  Ed.map_byte (b := s.data.toList) (by rw [← Lib.size_eq]; exact h.good) (by rw [← Lib.size_eq]; exact hx) (fun e he => by
    obtain ⟨y, hy, rfl⟩ := List.mem_map.1 he
    exact hfree y hy)
end Go.Proofs.Ytomihekgcnilhaa
