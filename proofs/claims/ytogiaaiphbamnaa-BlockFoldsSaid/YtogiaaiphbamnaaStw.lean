/- Slices of texts that the call itself makes and fills, place by place (make([]string, n), then l[i] = ..). -/
import Derived.Test.YtogiaaiphbamnaaStrs
import Derived.Test.YtogiaaiphbamnaaHe
import Derived.Test.YtogiaaiphbamnaaOwn
import Derived.Laws.MakeOwn
namespace Go.Proofs.Ytogiaaiphbamnaa
open Go.RowKit
open Go.Proofs.Ytogiaaiphbamnaa.Sq

/-- The block g holds these texts, and may be written. -/
def Row (w : World) (g : Nat) (xs : List ByteArray) : Prop := ∀ j x, xs[j]? = some x → w.cell? ⟨g, j, none⟩ = some (.string x) ∧ w.frozen? ⟨g, j, none⟩ = false
theorem Row.below {w w' : World} {g : Nat} {xs : List ByteArray} (h : Row w g xs) (hb : Below w.heap.size w w') : Row w' g xs := fun j x hj =>
  hld_below hb (h j x hj)
theorem Row.set {w : World} {g k : Nat} {xs : List ByteArray} (h : Row w g xs) (hk : k < xs.length) (x : ByteArray) : Row (w.setCell ⟨g, k, none⟩ (.string x)) g (xs.set k x) := fun j y hj => by
  rw [World.frozen?_setCell]
  rw [List.getElem?_set] at hj
  by_cases e : k = j
  · subst e
    rw [if_pos rfl, if_pos hk] at hj
    obtain rfl : x = y := by simpa using hj
    have h0 := h k _ (List.getElem?_eq_getElem hk)
    exact ⟨at_set (by rw [h0.1]; rfl), h0.2⟩
  · rw [if_neg e] at hj
    have h0 := h j y hj
    exact ⟨at_off e h0.1, h0.2⟩
theorem Row.reads {w : World} {g : Nat} {xs : List ByteArray} (h : Row w g xs) (hm : xs.length ≤ maxLen) : Reads encS w (.slice (some ⟨g, 0, none⟩) xs.length xs.length) xs :=
  .inr ⟨g, 0, xs.length, rfl, Nat.le_refl _, hm, fun j x hj i u hu => by
    have hi : i = 0 := by
      have h1 := (List.getElem?_eq_some_iff.1 hu).1
      have h2 : (encS.cells x).length = 1 := rfl
      rw [h2] at h1; omega
    subst hi
    have hu2 : u = .string x := by
      have : (encS.cells x)[0]? = some (.string x) := rfl
      rw [this] at hu; injection hu with hu; exact hu.symm
    subst hu2
    show w.cell? ⟨g, 0 + j * 1 + 0, none⟩ = _
    rw [show 0 + j * 1 + 0 = j by omega]
    exact (h j x hj).1⟩
theorem infoStr : (Try.prog.info? 9).map (fun i => (i.zero, i.size, i.bytes)) = some (some (.string ⟨#[]⟩), 1, 16) := by kernel_rfl
def ms (n : Nat) : Array Value := madeCells (Value.string ⟨#[]⟩).cells (n * 1)
theorem ms_get (n j : Nat) (h : j < n) : (ms n)[j]? = some (.string ⟨#[]⟩) := by
  simp [ms, madeCells, h, Nat.mod_one, Value.cells]
theorem make_ms (n : Nat) (W : World) (hn : n ≤ 1000000) : (Instr.makeSlice 22 (.int .i64 (n : Int)) (.int .i64 (n : Int))).run Try.prog W = .ok (.slice (some ⟨W.heap.size, 0, none⟩) n n) (W.alloc (.cells (ms n) 9)) := by
  obtain ⟨i0, hi, hz0, hz1, hz2⟩ := info_parts infoStr
  have h := run_make (P := Try.prog) W 22 9 i0 (.string ⟨#[]⟩) Try.underlying22 hi hz0 .i64 .i64 (n : Int) (n : Int) (by omega) (Int.le_refl _) (by rw [hz2]; omega) (by omega)
  rw [h, hz1]
  simp only [Int.toNat_natCast]
  rfl
theorem row_ms (n : Nat) (W : World) : Row (W.alloc (.cells (ms n) 9)) W.heap.size (List.replicate n ⟨#[]⟩) := fun j x hj => by
  rw [List.getElem?_replicate] at hj
  by_cases h : j < n
  · rw [if_pos h] at hj
    obtain rfl : (⟨#[]⟩ : ByteArray) = x := by simpa using hj
    exact hld_new (ms_get n j h)
  · rw [if_neg h] at hj; cases hj
/-- The first k are laid, each as f says. -/
def laid {α : Type} (f : α → ByteArray) (l : List α) (k : Nat) : List ByteArray := (l.take k).map f ++ List.replicate (l.length - k) ⟨#[]⟩
theorem laid_zero {α : Type} (f : α → ByteArray) (l : List α) : laid f l 0 = List.replicate l.length ⟨#[]⟩ := by simp [laid]
theorem laid_all {α : Type} (f : α → ByteArray) (l : List α) : laid f l l.length = l.map f := by simp [laid]
theorem laid_len {α : Type} (f : α → ByteArray) (l : List α) (k : Nat) (h : k ≤ l.length) : (laid f l k).length = l.length := by simp [laid]; omega
theorem laid_set {α : Type} (f : α → ByteArray) (l : List α) (k : Nat) (x : α) (h : l[k]? = some x) : (laid f l k).set k (f x) = laid f l (k + 1) := by
  have hk := (List.getElem?_eq_some_iff.1 h).1
  unfold laid
  have hl : ((l.take k).map f).length = k := by rw [List.length_map, List.length_take]; omega
  rw [List.set_append_right _ _ (by omega), hl, Nat.sub_self, show l.length - k = (l.length - (k + 1)) + 1 by omega, List.replicate_succ, List.set_cons_zero, List.take_add_one, h]
  simp
theorem row_lit (w : World) (l : List ByteArray) (t : TypeId) : Row (w.alloc (.cells (l.map Value.string).toArray t)) w.heap.size l := fun j x hj =>
  hld_new (by rw [List.getElem?_toArray, List.getElem?_map, hj]; rfl)
end Go.Proofs.Ytogiaaiphbamnaa
