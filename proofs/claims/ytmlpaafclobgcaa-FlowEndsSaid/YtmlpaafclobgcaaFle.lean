/- Plainly: how many nodes and kids a value on a new tree has (FlowEnds). -/
import Derived.Test.YtmlpaafclobgcaaPfo
import Derived.Test.YtmlpaafclobgcaaMgF
import Derived.Test.YtmlpaafclobgcaaMgD
namespace Go.Proofs.Ytmlpaafclobgcaa.Fl
open Go.Proofs.Ytmlpaafclobgcaa.Ar

theorem reach_keeps : ∀ (f : Nat) (l : List Nd) (k t : Int) (j : Nat) (x' : Nd), (reachF f l k t)[j]? = some x' → ∃ x, l[j]? = some x ∧ x'.ks = x.ks ∧ x.t ≤ x'.t
  | 0, l, k, t, j, x' => fun h => ⟨x', h, rfl, Int.le_refl _⟩
  | f + 1, l, k, t, j, x' => fun h => by
    rw [reachF] at h
    by_cases hk : k < 0
    · rw [if_pos hk] at h; exact ⟨x', h, rfl, Int.le_refl _⟩
    · rw [if_neg hk] at h
      cases hx : l[k.toNat]? with
      | none => rw [hx] at h; exact ⟨x', h, rfl, Int.le_refl _⟩
      | some x =>
        rw [hx] at h
        obtain ⟨y, h1, h2, h3⟩ := reach_keeps f _ _ _ j x' h
        rw [List.getElem?_set] at h1
        split at h1
        · rename_i e; subst e
          split at h1
          · obtain rfl := Option.some.inj h1
            exact ⟨x, hx, h2, Int.le_trans (Int.le_max_left _ _) h3⟩
          · cases h1
        · exact ⟨y, h1, h2, h3⟩
theorem ends_size (l : List Tk) (d p : Nat) (hp : p ≤ l.length) (hl : l.length ≤ 400) :
    (valN l l.length d 0 p ⟨newN l.length, []⟩).2.2.t.length ≤ 1000 ∧ ∀ x ∈ (valN l l.length d 0 p ⟨newN l.length, []⟩).2.2.t, x.ks.length ≤ 1000 := by
  have hck := ck_new (l.length : Int) (by omega) (by omega)
  have hT : newN (l.length : Int) = [⟨1, 0, l.length, -1, [], false⟩] := by unfold newN; rw [if_neg (by omega)]
  have hT1 : (newN (l.length : Int)).length = 1 := rfl
  rcases plant_is (l := l) (e := l.length) (n := (l.length : Int)) (T0 := newN l.length) (up0 := 0) (Int.le_refl _) d p 0 hck (fits_new _ _ (by omega) (by omega) (by omega)) (by omega) hp with ⟨h1, _⟩ | ⟨next, s', ps', h1, h2, h3, h4, _, _, h7, h8, h9, h10, _, _⟩
  · have h1 : valN l l.length d 0 p ⟨newN l.length, []⟩ = (-1, p, ⟨newN l.length, []⟩) := h1
    rw [h1]
    show (newN (l.length : Int)).length ≤ 1000 ∧ ∀ x ∈ newN (l.length : Int), _
    refine ⟨by rw [hT1]; omega, fun x hx => ?_⟩
    rw [hT, List.mem_singleton] at hx
    subst hx
    simp
  · have h1 : valN l l.length d 0 p ⟨newN l.length, []⟩ = (((newN (l.length : Int)).length : Int), next, s') := h1
    rw [h1]
    show s'.t.length ≤ 1000 ∧ ∀ x ∈ s'.t, x.ks.length ≤ 1000
    rw [hT1] at h10 h9
    refine ⟨by omega, fun x hx => ?_⟩
    have hkb : KB ps'.q := by
      rcases pv_all (l := l) (e := l.length) d (-1) p ⟨[], []⟩ hp (by omega) (by show (-1 : Int) < 0; decide) with ⟨g, _⟩ | ⟨nx, s2, g, _, _, _, g5, _⟩
      · rw [h2] at g; injection g with g _; omega
      · rw [h2] at g; injection g with _ g; subst g
        exact g5.kids (fun i x hx => by simp at hx)
    obtain ⟨i, hi⟩ := List.getElem?_of_mem hx
    have hql : ps'.q.length ≤ 999 := by omega
    cases hq : ps'.q with
    | nil => rw [hq] at h7; exact absurd h7 (Nat.lt_irrefl _)
    | cons v r =>
      rw [hq] at h8 hkb hql
      unfold plantN at h8
      dsimp only at h8
      by_cases hm : mayAdd (newN l.length) (0 : Nat) v.k v.f v.t = true
      · rw [if_pos hm] at h8
        injection h8 with h8 _
        rw [← h8] at hi
        by_cases hil : i < ((addN (newN l.length) (0 : Nat) v.k v.f v.t).1.take (newN (l.length : Int)).length).length
        · rw [List.getElem?_append_left hil] at hi
          rw [List.length_take, hT1] at hil
          have hi0 : i = 0 := by omega
          subst hi0
          rw [List.getElem?_take_of_lt (by rw [hT1]; omega)] at hi
          unfold addN at hi
          rw [if_pos hm, hT] at hi
          obtain ⟨x0, e1, e2, _⟩ := reach_keeps _ _ _ _ _ _ hi
          have : x0 = { (⟨1, 0, l.length, -1, [], false⟩ : Nd) with ks := [] ++ [(1 : Int)] } := by
            have e3 := e1
            simp at e3
            rw [← e3]; simp
          rw [e2, this]; simp
        · rw [List.getElem?_append_right (by omega)] at hi
          obtain ⟨j, hj⟩ : ∃ j, i - ((addN (newN l.length) (0 : Nat) v.k v.f v.t).1.take (newN (l.length : Int)).length).length = j := ⟨_, rfl⟩
          rw [hj] at hi
          have hjl := (List.getElem?_eq_some_iff.1 hi).1
          rw [shift_len] at hjl
          have hy := List.getElem?_eq_getElem hjl
          rw [shift_at _ _ _ _ _ hy] at hi
          obtain rfl := Option.some.inj hi
          show (List.map _ _).length ≤ 1000
          rw [List.length_map]
          have := hkb j _ hy
          omega
      · rw [if_neg hm] at h8
        injection h8 with _ h8
        exact absurd h8 (by rw [hT1]; decide)
end Go.Proofs.Ytmlpaafclobgcaa.Fl
