/- ArenaRefuses. -/
import Derived.Test.YthkieidcjakhgaaAid10
namespace Go.Proofs.Ythkieidcjakhgaa
open Go.RowKit
open Go.Proofs.Ythkieidcjakhgaa.Sq
open Go.Proofs.Ythkieidcjakhgaa.Ar
set_option linter.unusedVariables false

namespace Ar
/-- A tree of two: a stream of n, a document in it. -/
def two (n : Int) : List Nd := [⟨1, 0, n, -1, [1], false⟩, ⟨2, 1, 3, 0, [], false⟩]
theorem new_is (n : Int) (h0 : 0 ≤ n) (h1 : n ≤ 32768) : newN n = [⟨1, 0, n, -1, [], false⟩] := by
  unfold newN; rw [if_neg (by omega)]
theorem add_two (n : Int) (h0 : 3 ≤ n) (h1 : n ≤ 32768) : addN (newN n) 0 2 1 3 = (two n, 1) := by
  have hm : mayAdd (newN n) 0 2 1 3 = true := by
    rw [new_is n (by omega) h1]
    unfold mayAdd
    simp [firstT]
    exact decide_eq_false (by omega)
  unfold addN
  rw [if_pos hm, new_is n (by omega) h1]
  have e : max n 3 = n := by omega
  simp [reachN, reachF, two, e]
theorem good_two (n : Int) : Ar.Good (two n) := by
  refine ⟨by simp [two], fun i x h => ?_, fun i x h z hz => ?_, fun i x h z hz y hy => by
    match i, h with
    | 0, h => obtain rfl := Option.some.inj h; obtain rfl : z = 1 := by simpa using hz
              obtain rfl := Option.some.inj hy
              show (0 : Int) ≤ 3; decide
    | 1, h => obtain rfl := Option.some.inj h; simp at hz⟩
  · match i, h with
    | 0, h => obtain rfl := Option.some.inj h; exact ⟨Int.le_refl _, by show (-1 : Int) < 0; decide⟩
    | 1, h => obtain rfl := Option.some.inj h; exact ⟨by show (-1 : Int) ≤ 0; decide, by show (0 : Int) < 1; decide⟩
  · match i, h with
    | 0, h => obtain rfl := Option.some.inj h; obtain rfl : z = 1 := by simpa using hz
              exact ⟨by decide, by show (1 : Int) < 2; decide⟩
    | 1, h => obtain rfl := Option.some.inj h; simp at hz
theorem two_kids (n : Int) : ∀ x ∈ two n, x.ks.length ≤ 200 := by
  intro x hx
  simp [two] at hx
  rcases hx with rfl | rfl <;> simp
theorem new_kids (n : Int) : ∀ x ∈ newN n, x.ks.length ≤ 200 := by
  intro x hx
  simp [newN] at hx
  subst hx; simp
theorem same_refl (l : List Nd) : sameN l l = true := same_all l l rfl (fun j x y h1 h2 => by
  rw [h1] at h2
  injection h2 with h2
  subst h2
  simp [sameNd])
theorem may_two (n up kind f t : Int) (h : up < 0 ∨ 2 ≤ up ∨ kind < 1 ∨ 11 < kind ∨ t < f ∨ n < t ∨ (up = 0 ∧ f < 3) ∨ (up = 1 ∧ f < 1)) : mayAdd (two n) up kind f t = false := by
  unfold mayAdd
  rcases h with h | h | h | h | h | h | h | h
  · simp [h]
  · simp [two, h]
  · simp [h]
  · simp [h]
  · simp [h]
  · simp [two, firstT, h]
  · obtain ⟨rfl, h⟩ := h
    simp [two, atT, h]
  · obtain ⟨rfl, h⟩ := h
    simp [two, h]
theorem add_no {l : List Nd} {up kind f t : Int} (h : mayAdd l up kind f t = false) : addN l up kind f t = (l, -1) := by unfold addN; rw [h]; rfl
end Ar
set_option maxHeartbeats 4000000 in
set_option maxRecDepth 100000 in
theorem walkP_ArenaRefuses (hN : PNew) (hA : PAdd) (hS : PSame) (n0 which by0 : Int) (w : World) (_ : (Lit.int .i64 n0).wf = true) (_ : (Lit.int .i64 which).wf = true) (_ : (Lit.int .i64 by0).wf = true) :
    Calls Try.prog 5 #[.int .i64 n0, .int .i64 which, .int .i64 by0] w fun e w' => e = .returned (.bool true) ∧ Below w.heap.size w w' := by
  obtain ⟨kn, hn50, -, hwn⟩ := within_lit n0 50 50 rfl (by decide) (by decide)
  obtain ⟨kb, hb9, -, hwb⟩ := within_lit by0 9 9 rfl (by decide) (by decide)
  obtain ⟨kw, hw8, -, hww⟩ := within_lit which 8 8 rfl (by decide) (by decide)
  have HWn := Lib.hid hwn
  have HWb := Lib.hid hwb
  have HWw := Lib.hid hww
  have HK := Lib.hid (known_true hN)
  have HN := Lib.hid hN
  have HA := Lib.hid hA
  have HS := Lib.hid hS
  clear hwn hwb hww hN hA hS
  obtain ⟨n, hn⟩ : ∃ n : Nat, 5 + kn = n := ⟨_, rfl⟩
  have hnI : (5 : Int) + (kn : Int) = (n : Int) := by omega
  obtain ⟨b, hb⟩ : ∃ b : Nat, 1 + kb = b := ⟨_, rfl⟩
  have hbI : (1 : Int) + (kb : Int) = (b : Int) := by omega
  go_enter Try.func5, Try.ntmps5
  go_wp2_with fail
  refine (HK.out _).mono ?_
  rintro e w1 ⟨rfl, hb1⟩
  have HB1 := Lib.hid hb1
  clear hb1
  go_wp2_with fail
  refine (HWn.out _).mono ?_
  rintro e w' ⟨rfl, rfl⟩
  go_wp2_with fail
  refine (HWb.out _).mono ?_
  rintro e w' ⟨rfl, rfl⟩
  go_wp2_with fail
  refine (HN.out (n : Int) w1).mono ?_
  rintro e w2 ⟨u2, rfl, hn2, -, hb2⟩
  have hcall := HA.out u2 (newN n) 0 2 1 3 w2 hn2 (good_new _) (by simp [newN]) (new_kids _)
  rw [add_two n (by omega) (by omega)] at hcall
  have HCa := Lib.hid hcall
  have HB2 := Lib.hid (below_from HB1.out hb2)
  clear hn2 hb2 hcall
  go_wp2_with fail
  refine HCa.out.mono ?_
  rintro e w3 ⟨u3, rfl, hn3, -, hb3⟩
  obtain ⟨a, cap, rfl⟩ : ∃ a cap, u3 = .slice a 2 cap := hn3.shape
  have HN3 := Lib.hid hn3
  have HB3 := Lib.hid (below_from HB2.out hb3)
  obtain ⟨w4, hw4⟩ : ∃ w4, w3.alloc (.cells #[.slice a 2 cap] 27) = w4 := ⟨_, rfl⟩
  obtain ⟨tb, htb⟩ : ∃ tb, w3.heap.size = tb := ⟨_, rfl⟩
  have hb4 : Below w3.heap.size w3 w4 := hw4 ▸ below_alloc w3 _
  have c4 : w4.cell? ⟨tb, 0, none⟩ = some (.slice a 2 cap) := by rw [← hw4, ← htb]; exact at_new rfl
  have HN4 := Lib.hid (hn3.below hb4)
  have HB4 := Lib.hid (below_from HB3.out hb4)
  have HT4 := Lib.hid (fun W (hb : Below w4.heap.size w4 W) => at_below hb c4)
  have HW4 := Lib.hid hw4
  have HTb := Lib.hid htb
  clear hn3 hb3 hb4 c4 hw4 htb
  go_wp2_with fail
  rw [HW4.out, HTb.out]
  refine (HWw.out _).mono ?_
  rintro e w' ⟨rfl, rfl⟩
  have c4 := HT4.out w4 (Below.refl _ _)
  have HA4 := Lib.hid (fun (up kind f t : Int) (h : mayAdd (two n) up kind f t = false) => show Calls Try.prog 14 #[.agg #[.slice a 2 cap], .int .i64 up, .int .i64 kind, .int .i64 f, .int .i64 t] w4 (TreedA false (two n, -1) w4) from by
    have h1 := HA.out (.slice a 2 cap) (two n) up kind f t w4 HN4.out (good_two _) (by show 2 ≤ 200; decide) (two_kids _)
    rw [add_no h] at h1
    exact h1)
  have HMay := Lib.hid (may_two (n : Int))
  have hfin : ∀ e w5, TreedA false (two n, -1) w4 e w5 → ∃ a5 cap5, e = .returned (.tuple #[.agg #[.slice a5 2 cap5], .int .i64 (-1)]) ∧ Hid (Nodes w5 (.slice a5 2 cap5) (two n)) ∧ Hid (Below w4.heap.size w4 w5) := by
    rintro e w5 ⟨u5, rfl, hn5, -, hb5⟩
    obtain ⟨a5, cap5, rfl⟩ : ∃ a cap, u5 = .slice a 2 cap := hn5.shape
    exact ⟨a5, cap5, rfl, Lib.hid hn5, Lib.hid hb5⟩
  have HFin := Lib.hid hfin
  have hcs : kw = 0 ∨ kw = 1 ∨ kw = 2 ∨ kw = 3 ∨ kw = 4 ∨ kw = 5 ∨ kw = 6 ∨ kw = 7 := by omega
  clear hfin
  rcases hcs with rfl | rfl | rfl | rfl | rfl | rfl | rfl | rfl
  all_goals
    go_wp2_with fail
    refine (HA4.out _ _ _ _ (HMay.out _ _ _ _ (by omega))).mono ?_
    intro e w5 he
    obtain ⟨a5, cap5, rfl, HN5, HB5⟩ := HFin.out e w5 he
    obtain ⟨w6, hw6⟩ : ∃ w6, w5.alloc (.cells #[.slice a5 2 cap5] 27) = w6 := ⟨_, rfl⟩
    obtain ⟨sb, hsb⟩ : ∃ sb, w5.heap.size = sb := ⟨_, rfl⟩
    have hb6 : Below w5.heap.size w5 w6 := hw6 ▸ below_alloc w5 _
    have c6 : w6.cell? ⟨sb, 0, none⟩ = some (.slice a5 2 cap5) := by rw [← hw6, ← hsb]; exact at_new rfl
    have HN6 := Lib.hid (HN5.out.below hb6)
    have HB46 := Lib.hid (below_from HB5.out hb6)
    have d6 := fun o => at_alloc (o := o) (HT4.out w5 HB5.out)
    have HT6 := Lib.hid (fun W (hb : Below w6.heap.size w6 W) => at_below hb c6)
    have HW6 := Lib.hid hw6
    have HSb := Lib.hid hsb
    have HSm := Lib.hid (HS.out (.slice a5 2 cap5) (.slice a 2 cap) (two n) (two n) w6 HN6.out (HN4.out.below HB46.out) (by show 2 ≤ 200; decide) (by show 2 ≤ 200; decide) (two_kids _) (two_kids _))
    clear he c4 c6 hb6 hw6 hsb
    go_wp2_with fail
    rw [HW6.out, HSb.out]
    have hsm := HSm.out
    rw [same_refl] at hsm
    refine hsm.mono ?_
    rintro e w7 ⟨rfl, hb7⟩
    have c7 := HT6.out w7 hb7
    have HB7 := Lib.hid (below_from (below_from HB4.out HB46.out) hb7)
    clear hsm hb7 d6
    go_wp2_with fail
    go_ret
    exact ⟨rfl, HB7.out⟩
end Go.Proofs.Ythkieidcjakhgaa
