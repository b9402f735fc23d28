/- Edits as values; the small functions of chapter 4's reference and of its statements: one, upon, within. -/
import Derived.Test.YtomihekgcnilhaaSeq
import Derived.Test.YtomihekgcnilhaaEd
import Derived.Test.YtomihekgcnilhaaChecked
import Derived.Lib.Hide
import Derived.WalkLawsBesides
import Derived.WalkSpells
import Derived.Outline
import Derived.LoopTactic
import Derived.Deep.LoopGhost
import Derived.Deep.QuietTactic
import Derived.BigQuiet
import Derived.IntWalk
namespace Go.Proofs.Ytomihekgcnilhaa
open Go.RowKit
open Go.Proofs.Ytomihekgcnilhaa.Sq

/-- An edit as it lies in memory. -/
structure Et where
  f : Int
  t : Int
  p : ByteArray
def Et.cells (e : Et) : List Value := [.int .i64 e.f, .int .i64 e.t, .string e.p]
abbrev Et.val (e : Et) : Value := .agg #[.int .i64 e.f, .int .i64 e.t, .string e.p]
/-- .. and plainly. -/
def Et.ed (e : Et) : Ed.E := ⟨e.f, e.t, e.p.data.toList⟩
theorem Et.plen (e : Et) : (e.ed.p).length = e.p.size := Array.length_toList
def encE : Enc Et := ⟨Et.cells, 3, by decide, fun _ => rfl, fun x u hu => by
  cases hu with
  | head => rfl
  | tail _ hu => cases hu with
    | head => rfl
    | tail _ hu => cases hu with
      | head => rfl
      | tail _ hu => cases hu⟩
theorem tyE : Ty Try.prog encE 23 41 32 := Ty.of (z := .agg #[.int .i64 0, .int .i64 0, .string ⟨#[]⟩]) Try.underlying23 (by kernel_rfl) (by kernel_rfl) rfl (fun w => by kernel_rfl)
abbrev Edits (w : World) (v : Value) (l : List Et) : Prop := Reads encE w v l
/-- The three cells of an edit in a slice. -/
theorem edits_at {w : World} {a : Option Addr} {cap : Nat} {l : List Et} (h : Edits w (.slice a l.length cap) l) (j : Nat) (x : Et) (hj : l[j]? = some x) :
    ∃ b off, a = some ⟨b, off, none⟩ ∧ w.cell? ⟨b, off + j * 3, none⟩ = some (.int .i64 x.f) ∧ w.cell? ⟨b, off + j * 3 + 1, none⟩ = some (.int .i64 x.t) ∧ w.cell? ⟨b, off + j * 3 + 2, none⟩ = some (.string x.p) := by
  obtain ⟨b, off, h1, h2⟩ := h.at_ j x hj
  exact ⟨b, off, h1, h2 0 _ rfl, h2 1 _ rfl, h2 2 _ rfl⟩
theorem is_out {n : Int} {e : Ed.E} (h : e.f < 0 ∨ e.t < e.f ∨ n < e.t) : Ed.one n e = 1 := by unfold Ed.one; rw [if_pos h]
theorem is_long {n : Int} {e : Ed.E} (h : ¬ (e.f < 0 ∨ e.t < e.f ∨ n < e.t)) (h2 : 1000 < e.p.length) : Ed.one n e = 4 := by unfold Ed.one; rw [if_neg h, if_pos h2]
theorem is_fine {n : Int} {e : Ed.E} (h : ¬ (e.f < 0 ∨ e.t < e.f ∨ n < e.t)) (h2 : ¬ 1000 < e.p.length) : Ed.one n e = 0 := by unfold Ed.one; rw [if_neg h, if_neg h2]
set_option maxHeartbeats 1600000 in
theorem refOne (n : Int) (e : Et) (w : World) (hs : e.p.size ≤ maxLen) :
    Calls Try.prog 26 #[.int .i64 n, e.val] w fun r w' => r = .returned (.int .i64 (Ed.one n e.ed)) ∧ Below w.heap.size w w' := by
  obtain ⟨r, hr⟩ : ∃ r, Ed.one n e.ed = r := ⟨_, rfl⟩
  have hp : e.ed.p.length = e.p.size := Et.plen e
  obtain ⟨f, t, p⟩ := e
  simp only at hp hs
  have hf : (Et.ed ⟨f, t, p⟩).f = f := rfl
  have ht : (Et.ed ⟨f, t, p⟩).t = t := rfl
  rw [hr]
  simp only [maxLen] at hs
  by_cases h1 : f < 0
  · have hR : r = 1 := by rw [← hr]; exact is_out (.inl h1)
    subst hR
    clear hr hp hf ht
    go_enter Try.func26, Try.ntmps26
    go_wp2
    go_ret
    exact ⟨rfl, (Below.refl _ _).alloc (Nat.le_refl _) _⟩
  · by_cases h2 : t < f
    · have hR : r = 1 := by rw [← hr]; exact is_out (.inr (.inl h2))
      subst hR
      clear hr hp hf ht
      go_enter Try.func26, Try.ntmps26
      go_wp2
      go_ret
      exact ⟨rfl, (Below.refl _ _).alloc (Nat.le_refl _) _⟩
    · by_cases h3 : n < t
      · have hR : r = 1 := by rw [← hr]; exact is_out (.inr (.inr h3))
        subst hR
        clear hr hp hf ht
        go_enter Try.func26, Try.ntmps26
        go_wp2
        go_ret
        exact ⟨rfl, (Below.refl _ _).alloc (Nat.le_refl _) _⟩
      · have hno : ¬ ((Et.ed ⟨f, t, p⟩).f < 0 ∨ (Et.ed ⟨f, t, p⟩).t < (Et.ed ⟨f, t, p⟩).f ∨ n < (Et.ed ⟨f, t, p⟩).t) := by rw [hf, ht]; omega
        by_cases h4 : 1000 < p.size
        · have hR : r = 4 := by rw [← hr]; exact is_long hno (by rw [hp]; exact h4)
          subst hR
          have h4' : (1000 : Int) < (p.size : Int) := by omega
          clear hr hp hf ht hno
          go_enter Try.func26, Try.ntmps26
          go_wp2
          go_ret
          exact ⟨rfl, (Below.refl _ _).alloc (Nat.le_refl _) _⟩
        · have hR : r = 0 := by rw [← hr]; exact is_fine hno (by rw [hp]; exact h4)
          subst hR
          have h4' : ¬ ((1000 : Int) < (p.size : Int)) := by omega
          clear hr hp hf ht hno
          go_enter Try.func26, Try.ntmps26
          go_wp2
          go_ret
          exact ⟨rfl, (Below.refl _ _).alloc (Nat.le_refl _) _⟩
set_option maxHeartbeats 1600000 in
theorem refUpon (a b : Et) (w : World) :
    Calls Try.prog 27 #[a.val, b.val] w fun r w' => r = .returned (.bool (Ed.upon a.ed b.ed)) ∧ Below w.heap.size w w' := by
  obtain ⟨f, t, p⟩ := a
  obtain ⟨g, u, q⟩ := b
  obtain ⟨r, hr⟩ : ∃ r, Ed.upon (Et.ed ⟨f, t, p⟩) (Et.ed ⟨g, u, q⟩) = r := ⟨_, rfl⟩
  rw [hr]
  have hd : r = decide ((f < u ∧ g < t) ∨ (f = g ∧ t = u)) := by rw [← hr]; rfl
  clear hr
  by_cases h1 : f < u
  · by_cases h2 : g < t
    · skip
      have hR : r = true := by rw [hd]; exact decide_eq_true (by omega)
      subst hR
      clear hd
      go_enter Try.func27, Try.ntmps27
      go_wp2
      go_ret
      exact ⟨rfl, (((Below.refl _ _).alloc (Nat.le_refl _) _).alloc (by simp) _)⟩
    · skip
      by_cases h3 : f = g
      · subst h3
        by_cases h4 : t = u
        · subst h4
          exact absurd h1 h2
        · have h4' : (t == u) = false := by simp [h4]
          have hR : r = false := by rw [hd]; exact decide_eq_false (by omega)
          subst hR
          clear hd
          go_enter Try.func27, Try.ntmps27
          go_wp2
          go_ret
          exact ⟨rfl, (((Below.refl _ _).alloc (Nat.le_refl _) _).alloc (by simp) _)⟩
      · have h3' : (f == g) = false := by simp [h3]
        have hR : r = false := by rw [hd]; exact decide_eq_false (by omega)
        subst hR
        clear hd
        go_enter Try.func27, Try.ntmps27
        go_wp2
        go_ret
        exact ⟨rfl, (((Below.refl _ _).alloc (Nat.le_refl _) _).alloc (by simp) _)⟩
  · skip
    by_cases h3 : f = g
    · subst h3
      by_cases h4 : t = u
      · subst h4
        have hR : r = true := by rw [hd]; exact decide_eq_true (by omega)
        subst hR
        clear hd
        go_enter Try.func27, Try.ntmps27
        go_wp2
        go_ret
        exact ⟨rfl, (((Below.refl _ _).alloc (Nat.le_refl _) _).alloc (by simp) _)⟩
      · have h4' : (t == u) = false := by simp [h4]
        have hR : r = false := by rw [hd]; exact decide_eq_false (by omega)
        subst hR
        clear hd
        go_enter Try.func27, Try.ntmps27
        go_wp2
        go_ret
        exact ⟨rfl, (((Below.refl _ _).alloc (Nat.le_refl _) _).alloc (by simp) _)⟩
    · have h3' : (f == g) = false := by simp [h3]
      have hR : r = false := by rw [hd]; exact decide_eq_false (by omega)
      subst hR
      clear hd
      go_enter Try.func27, Try.ntmps27
      go_wp2
      go_ret
      exact ⟨rfl, (((Below.refl _ _).alloc (Nat.le_refl _) _).alloc (by simp) _)⟩
end Go.Proofs.Ytomihekgcnilhaa
