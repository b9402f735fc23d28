/- package quote: Text. -/
import Derived.Test.YtmkchfpmlidaiaaQd
namespace Go.Proofs.Ytmkchfpmlidaiaa
open Go.RowKit
open Go.Proofs.Ytmkchfpmlidaiaa.Sg
open Go.Proofs.Ytmkchfpmlidaiaa.Qo
set_option linter.unusedVariables false

theorem textT_nil (k : Int) : textT k [] = ([], [], false) := rfl
theorem textT_15 (l : List UInt8) (h : l ≠ []) : textT 15 l = (l, [], true) := by unfold textT; rw [if_neg h, if_pos rfl]
theorem textT_16 (l : List UInt8) (h : l ≠ []) : textT 16 l = ((sgT (l.drop 1)).1, [], (sgT (l.drop 1)).2) := by unfold textT; rw [if_neg h, if_neg (by decide), if_pos rfl]
theorem textT_17 (l : List UInt8) (h : l ≠ []) : textT 17 l = dbT 1 (l.drop 1) := by unfold textT; rw [if_neg h, if_neg (by decide), if_neg (by decide), if_pos rfl]
theorem textT_o (k : Int) (l : List UInt8) (h1 : k ≠ 15) (h2 : k ≠ 16) (h3 : k ≠ 17) : textT k l = ([], [], false) := by
  unfold textT
  by_cases h : l = []
  · rw [if_pos h]
  · rw [if_neg h, if_neg h1, if_neg h2, if_neg h3]
theorem str_one (s : ByteArray) (h : 1 ≤ s.size) : s.toList.isEmpty = false ∧ s.data.toList ≠ [] := by
  have h1 : s.data.toList ≠ [] := fun e => by rw [Lib.size_eq, e] at h; exact absurd h (by decide)
  refine ⟨?_, h1⟩
  rw [Lib.toList_data]
  cases hl : s.data.toList with
  | nil => exact absurd hl h1
  | cons _ _ => rfl
theorem str_zero (s : ByteArray) (h : s.size = 0) : s = ⟨#[]⟩ := by
  cases s with
  | mk d => simp [ByteArray.size] at h; rw [h]
theorem told_nil (w w' : World) (t : ByteArray) (l : List UInt8) (b : Bool) (h : ba l = t) (hb : Below w.heap.size w w') : Told (l, [], b) w (.returned (.tuple #[.string t, .slice none 0 0, .bool b])) w' :=
  ⟨.slice none 0 0, by rw [← h], own_nil_i _ _, hb⟩
set_option maxHeartbeats 1000000 in
set_option maxRecDepth 100000 in
theorem pText (k : Int) (s : ByteArray) (w : World) (hs : s.size ≤ 100000) :
    Calls Try.prog 11 #[.int .i64 k, .string s] w (Told (textT k s.data.toList) w) := by
  by_cases h0 : s.size = 0
  · obtain rfl := str_zero s h0
    go_enter Try.func11, Try.ntmps11
    go_wp2
    go_ret3
    exact told_nil _ _ _ _ _ rfl (Below.refl _ _)
  · have h1 : 1 ≤ s.size := by omega
    obtain ⟨hE, hne⟩ := str_one s h1
    have r1 := read1 s w hs h1
    have r2 := read2 s w hs h1
    by_cases k1 : k = 15
    · subst k1
      rw [textT_15 _ hne]
      clear r1 r2
      go_enter Try.func11, Try.ntmps11
      go_wp2
      go_ret3
      exact told_nil _ _ _ _ _ rfl (Below.refl _ _)
    by_cases k2 : k = 16
    · subst k2
      rw [textT_16 _ hne]
      obtain ⟨x, hx⟩ : ∃ x, ((sgT (s.data.toList.drop 1)).1, ([] : List Nat), (sgT (s.data.toList.drop 1)).2) = x := ⟨_, rfl⟩
      rw [hx] at r1 ⊢
      have R1 := Lib.hid r1
      clear r1 r2 hx
      go_enter Try.func11, Try.ntmps11
      go_wp2_with fail
      refine R1.out.mono ?_
      rintro e w1 ⟨v, rfl, hO, hb⟩
      go_wp2
      go_ret3
      exact ⟨v, rfl, hO, hb⟩
    by_cases k3 : k = 17
    · subst k3
      rw [textT_17 _ hne]
      obtain ⟨x, hx⟩ : ∃ x, dbT 1 (s.data.toList.drop 1) = x := ⟨_, rfl⟩
      rw [hx] at r2 ⊢
      have R2 := Lib.hid r2
      clear r1 r2 hx
      go_enter Try.func11, Try.ntmps11
      go_wp2_with fail
      refine R2.out.mono ?_
      rintro e w1 ⟨v, rfl, hO, hb⟩
      go_wp2
      go_ret3
      exact ⟨v, rfl, hO, hb⟩
    rw [textT_o k _ k1 k2 k3]
    have g1 : (k == 15) = false := beq_eq_false_iff_ne.2 k1
    have g2 : (k == 16) = false := beq_eq_false_iff_ne.2 k2
    have g3 : (k == 17) = false := beq_eq_false_iff_ne.2 k3
    clear r1 r2
    go_enter Try.func11, Try.ntmps11
    go_wp2
    go_ret3
    exact told_nil _ _ _ _ _ rfl (Below.refl _ _)
end Go.Proofs.Ytmkchfpmlidaiaa
