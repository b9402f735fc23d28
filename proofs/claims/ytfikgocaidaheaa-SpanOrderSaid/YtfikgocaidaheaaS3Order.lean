/- The walk of correctorlaw3.SpanOrder: sorted, each stands ahead of the next one; each that was there is there, and no other. -/
import Derived.Test.YtfikgocaidaheaaSrt2
import Derived.Test.YtfikgocaidaheaaGd
import Derived.Test.YtfikgocaidaheaaHas
import Derived.IntWalk
import Derived.Test.YtfikgocaidaheaaQt
namespace Go.Proofs.Ytfikgocaidaheaa
open Go.RowKit
open Go.Proofs.Ytfikgocaidaheaa.Hp

set_option maxHeartbeats 4000000 in
set_option maxRecDepth 100000 in
theorem walk_SpanOrder (v : Value) (l : List (Int × Int)) (w : World) (h : Spans w v l) :
    Calls Try.prog 6 #[v] w fun e w' => e = .returned (.bool true) ∧ Below w.heap.size w w' := by
  have hsz := h.size_le
  unfold maxLen at hsz
  obtain ⟨a, cap, rfl⟩ := h.shape
  obtain ⟨N, hN⟩ : ∃ N, l.length = N := ⟨_, rfl⟩
  have HA := Lib.hid (fun k hk => h.at_ k hk)
  have HN := Lib.hid hN
  rw [hN] at hsz
  rw [hN]
  have gs := guard_span
  clear hN h
  go_enter Try.func6, Try.ntmps6
  go_wp2_with fail
  refine (known_true w).mono ?_
  rintro e w0 ⟨rfl, hb0⟩
  have HG := Lib.hid (in_start w w0 l hb0)
  have HB0 := Lib.hid hb0
  clear hb0
  by_cases h40 : 40 < N
  · have h40' : (40 : Int) < (N : Int) := by omega
    go_wp2
    go_ret
    exact ⟨rfl, HB0.out⟩
  · have h40' : ¬ ((40 : Int) < (N : Int)) := by omega
    go_wp2_with fail
    go_loopw [3, 4] (fun vs is wr => ∃ k : Nat, is = .int .i64 k ∧ k ≤ N ∧ InGot w l k vs wr) (fun _ is _ => N - (intOf is).toNat)
    case atStart => exact ⟨0, rfl, Nat.zero_le _, HG.out⟩
    case round =>
      obtain ⟨k, rfl, hk, hown, hb⟩ := hrel
      by_cases hlt : k < N
      · obtain ⟨b, off, rfl, c1, c2⟩ := HA.out k (by rw [HN.out]; exact hlt)
        obtain ⟨x, hx⟩ : ∃ x, Hp.at_ l k = x := ⟨_, rfl⟩
        obtain ⟨x1, x2⟩ := x
        rw [hx] at c1 c2
        dsimp only at c1 c2
        rw [← hb.cell (p := ⟨b, off + k * 2, none⟩) (lt_of_cell c1)] at c1
        rw [← hb.cell (p := ⟨b, off + k * 2 + 1, none⟩) (lt_of_cell c2)] at c2
        have HM := Lib.hid (map_take_succ (by rw [HN.out]; exact hlt) hx)
        have HO := Lib.hid hown
        have HB := Lib.hid hb
        have hlen : ((l.take k).map gd).length ≤ 1000 := by rw [List.length_map, List.length_take]; omega
        clear hx hown hb
        go_wp2_with fail
        refine (good_any x1 x2 _).mono ?_
        rintro e w2 ⟨rfl, hb2⟩
        have HO2 := Lib.hid (own_below HO.out hb2)
        have HB2 := Lib.hid (HB.out.trans (hb2.mono HB.out.size))
        clear hb2 c1 c2
        go_wp2_with (at_builtin; go_must (refine wpList_append_span rfl _ _ rfl w.heap.size u3 ((l.take k).map gd) (g1 x1) (g2 x1 x2) rfl HO2.out rfl (by omega) HB2.out.size ?_; intro v3 w3 hown3 hg3; have HO3 := Lib.hid hown3; have HB3 := Lib.hid (Below.grown (Below.alloc HB2.out HB2.out.size _) hg3 (by rw [size_alloc]; have := HB2.out.size; omega) (fun k e => (HO2.out.lt k e).1)); clear hown3 hg3))
        go_roundw
        case rel => exact ⟨k + 1, by go_num, by omega, by rw [InGot, HM.out]; exact ⟨HO3.out, HB3.out⟩⟩
        case measure => simp [intOf]; omega
      · obtain rfl : k = N := by omega
        rw [← HN.out, List.take_length] at hown
        obtain ⟨ai, ci, rfl⟩ := (Spans.of_own hown).shape
        have hlm : (l.map gd).length = k := by rw [List.length_map, HN.out]
        have HSp := Lib.hid (Spans.of_own hown)
        rw [hlm]
        have HLm := Lib.hid hlm
        have HB := Lib.hid hb
        have HSo := Lib.hid (fun wx h => sortS wx _ (l.map gd) (Spans.below HSp.out h) (by rw [HLm.out]; omega))
        rw [hlm] at HSo
        clear hown hb hlm
        go_wp2_with fail
        refine (HSo.out _ (Below.refl _ _)).mono ?_
        rintro e w1 ⟨v1, o1, rfl, hown1, hr1, hm1, hb1⟩
        obtain ⟨a1, cc1, rfl⟩ := (Spans.of_own hown1).shape
        obtain ⟨M, hM⟩ : ∃ M, o1.length = M := ⟨_, rfl⟩
        have HS1 := Lib.hid (Spans.of_own hown1)
        have hMs := Spans.size_le HS1.out
        rw [hM] at hMs
        unfold maxLen at hMs
        rw [hM]
        have HM := Lib.hid hM
        have HSi := Lib.hid (Spans.below HSp.out hb1)
        have HBw := Lib.hid (HB.out.trans (hb1.mono HB.out.size))
        have HR1 := Lib.hid hr1
        have Hm1 := Lib.hid hm1
        clear hown1 hr1 hm1 hb1 hM HSo
        go_wp2_with fail
        go_loopw [6] (fun is wq => ∃ j : Nat, is = .int .i64 j ∧ j ≤ M ∧ Below w1.heap.size w1 wq) (fun is _ => M - (intOf is).toNat)
        case atStart => exact ⟨0, rfl, Nat.zero_le _, Below.refl _ _⟩
        case round =>
          obtain ⟨j, rfl, hj, hbq⟩ := hrel
          by_cases hjM : j < M
          · obtain ⟨b2, f2, rfl, d2, d3⟩ := Spans.at_ HS1.out j (by rw [HM.out]; exact hjM)
            obtain ⟨q, hq⟩ : ∃ q, Hp.at_ o1 j = q := ⟨_, rfl⟩
            obtain ⟨q1, q2⟩ := q
            have hin : (q1, q2) ∈ l.map gd := (Hm1.out _).1 (mem_at.2 ⟨j, by rw [HM.out]; exact hjM, hq⟩)
            rw [hq] at d2 d3
            dsimp only at d2 d3
            rw [← hbq.cell (p := ⟨b2, f2 + j * 2, none⟩) (lt_of_cell d2)] at d2
            rw [← hbq.cell (p := ⟨b2, f2 + j * 2 + 1, none⟩) (lt_of_cell d3)] at d3
            have HHas := Lib.hid (fun W h => has_true W _ (l.map gd) q1 q2 (Spans.below (Spans.below HSi.out hbq) h) hin)
            rw [HLm.out] at HHas
            have HQ := Lib.hid hq
            have HBq := Lib.hid hbq
            have hj1 : (j : Int) < (M : Int) := by omega
            clear hin hbq hq
            cases j with
            | zero =>
              simp only [Nat.zero_mul, Nat.add_zero] at d2 d3
              have hj1 : (0 : Int) < (M : Int) := by omega
              have hj2 : 0 < M := by omega
              rw [show (((0 : Nat) : Int)) = 0 from rfl]
              go_wp2_with fail
              refine wp_region_quiet_tail 50 (by kernel_rfl) (by kernel_rfl) ?_
              simp only [List.take_succ_cons, List.take_zero, List.drop_succ_cons, List.drop_zero]
              repeat (go_big_quiet_step (fail))
              refine wpQuiet_nil ?_
              have HHd := Lib.hid (HHas.out wr.drew ⟨rfl, rfl, rfl, Nat.le_refl _, fun _ _ => rfl⟩)
              go_wp2_with fail
              refine HHd.out.mono ?_
              rintro e w5 ⟨rfl, hb5⟩
              have HBn := Lib.hid (HBq.out.trans (Below.mono (Below.trans (b := wr.drew) ⟨rfl, rfl, rfl, Nat.le_refl _, fun _ _ => rfl⟩ hb5) HBq.out.size))
              clear d2 d3 hb5
              go_wp2
              go_roundw
              case rel => exact ⟨1, by rfl, by omega, HBn.out⟩
              case measure => simp [intOf]; omega
            | succ j =>
              obtain ⟨b1, f1, hbe, d0, d1⟩ := Spans.at_ HS1.out j (by rw [HM.out]; omega)
              injection hbe with hbe
              injection hbe with e1 e2
              subst e1
              subst e2
              obtain ⟨p, hp⟩ : ∃ p, Hp.at_ o1 j = p := ⟨_, rfl⟩
              obtain ⟨p1, p2⟩ := p
              rw [hp] at d0 d1
              dsimp only at d0 d1
              rw [← HBq.out.cell (p := ⟨b2, f2 + j * 2, none⟩) (lt_of_cell d0)] at d0
              rw [← HBq.out.cell (p := ⟨b2, f2 + j * 2 + 1, none⟩) (lt_of_cell d1)] at d1
              have hlt2 : ltB (p1, p2) (q1, q2) = true := by
                have h := List.pairwise_iff_getElem.1 HR1.out j (j + 1) (by rw [HM.out]; omega) (by rw [HM.out]; omega) (by omega)
                have g0 : o1[j]'(by rw [HM.out]; omega) = (p1, p2) := by rw [← hp]; simp [Hp.at_, show j < o1.length from by rw [HM.out]; omega]
                have g1 : o1[j + 1]'(by rw [HM.out]; omega) = (q1, q2) := by rw [← HQ.out]; simp [Hp.at_, show j + 1 < o1.length from by rw [HM.out]; omega]
                rw [g0, g1] at h
                exact h
              simp only [ltB, decide_eq_true_eq] at hlt2
              have hj0 : (0 : Int) ≤ (j : Int) := by omega
              have hj2 : (j : Int) < (M : Int) := by omega
              have hj3 : (j : Int) + 1 < (M : Int) := by omega
              have gj : (0 : Int) < (j : Int) + 1 := by omega
              have hjn : (0 : Int) ≤ (j : Int) + 1 := by omega
              have w1 : IntKind.i64.wrap ((j : Int) + 1 - 1) = (j : Int) := by rw [show (j : Int) + 1 - 1 = (j : Int) from by omega]; exact IntWalk.i64_in _ (by omega)
              have w2 : IntKind.i64.wrap (j : Int) = (j : Int) := IntWalk.i64_in _ (by omega)
              have w3 : ((j : Int) + 1).toNat = j + 1 := by omega
              rw [show (((j + 1 : Nat)) : Int) = (j : Int) + 1 from rfl]
              clear hp
              rcases hlt2 with h1 | ⟨h1, h2⟩
              · have n1 : decide (q1 < p1) = false := by simp; omega
                have n2 : (p1 == q1) = false := by simp; omega
                go_wp2_with fail
                refine wp_region_quiet_tail 50 (by kernel_rfl) (by kernel_rfl) ?_
                simp only [List.take_succ_cons, List.take_zero, List.drop_succ_cons, List.drop_zero]
                repeat (go_big_quiet_step (fail))
                refine wpQuiet_nil ?_
                have HHd := Lib.hid (HHas.out wr.drew ⟨rfl, rfl, rfl, Nat.le_refl _, fun _ _ => rfl⟩)
                go_wp2_with fail
                refine HHd.out.mono ?_
                rintro e w5 ⟨rfl, hb5⟩
                have HBn := Lib.hid (HBq.out.trans (Below.mono (Below.trans (b := wr.drew) ⟨rfl, rfl, rfl, Nat.le_refl _, fun _ _ => rfl⟩ hb5) HBq.out.size))
                clear d0 d1 d2 d3 hb5
                go_wp2
                go_roundw
                case rel => exact ⟨j + 1 + 1, by go_num, by omega, HBn.out⟩
                case measure => simp [intOf]; omega
              · subst h1
                have n2 : decide (q2 ≤ p2) = false := by simp; omega
                go_wp2_with fail
                refine wp_region_quiet_tail 50 (by kernel_rfl) (by kernel_rfl) ?_
                simp only [List.take_succ_cons, List.take_zero, List.drop_succ_cons, List.drop_zero]
                repeat (go_big_quiet_step (fail))
                refine wpQuiet_nil ?_
                have HHd := Lib.hid (HHas.out wr.drew ⟨rfl, rfl, rfl, Nat.le_refl _, fun _ _ => rfl⟩)
                go_wp2_with fail
                refine HHd.out.mono ?_
                rintro e w5 ⟨rfl, hb5⟩
                have HBn := Lib.hid (HBq.out.trans (Below.mono (Below.trans (b := wr.drew) ⟨rfl, rfl, rfl, Nat.le_refl _, fun _ _ => rfl⟩ hb5) HBq.out.size))
                clear d0 d1 d2 d3 hb5
                go_wp2
                go_roundw
                case rel => exact ⟨j + 1 + 1, by go_num, by omega, HBn.out⟩
                case measure => simp [intOf]; omega
          · obtain rfl : j = M := by omega
            have HBx := Lib.hid (HBw.out.trans (hbq.mono HBw.out.size))
            have HSx := Lib.hid (Spans.below HS1.out hbq)
            have HSy := Lib.hid (Spans.below HSi.out hbq)
            rw [HM.out] at HSx
            rw [HLm.out] at HSy
            clear hbq
            obtain ⟨wo, hwo⟩ : ∃ wo, wr = wo := ⟨_, rfl⟩
            rw [hwo] at HBx HSx HSy
            rw [hwo]
            clear hwo
            go_wp2_with fail
            go_loopw [7] (fun is wq => ∃ i : Nat, is = .int .i64 i ∧ i ≤ k ∧ Below wo.heap.size wo wq) (fun is _ => k - (intOf is).toNat)
            case atStart => exact ⟨0, rfl, Nat.zero_le _, Below.refl _ _⟩
            case round =>
              obtain ⟨i, rfl, hi, hbi⟩ := hrel
              by_cases hik : i < k
              · have hsy := HSy.out
                rw [← HLm.out] at hsy
                obtain ⟨bi, fi, rfl, d0, d1⟩ := Spans.at_ hsy i (by rw [HLm.out]; exact hik)
                obtain ⟨z, hz⟩ : ∃ z, Hp.at_ (l.map gd) i = z := ⟨_, rfl⟩
                obtain ⟨z1, z2⟩ := z
                have hin : (z1, z2) ∈ o1 := (Hm1.out _).2 (mem_at.2 ⟨i, by rw [HLm.out]; exact hik, hz⟩)
                rw [hz] at d0 d1
                dsimp only at d0 d1
                rw [← hbi.cell (p := ⟨bi, fi + i * 2, none⟩) (lt_of_cell d0)] at d0
                rw [← hbi.cell (p := ⟨bi, fi + i * 2 + 1, none⟩) (lt_of_cell d1)] at d1
                have HHas := Lib.hid (has_true _ _ o1 z1 z2 (Spans.below HSx.out hbi) hin)
                have HBi := Lib.hid hbi
                have hi1 : (i : Int) < (k : Int) := by omega
                have hi0 : (0 : Int) ≤ (i : Int) := by omega
                clear hsy hin hbi hz
                go_wp2_with fail
                refine HHas.out.mono ?_
                rintro e w6 ⟨rfl, hb6⟩
                have HBn := Lib.hid (HBi.out.trans (hb6.mono HBi.out.size))
                clear hb6 d0 d1
                go_wp2
                go_roundw
                case rel => exact ⟨i + 1, by go_num, by omega, HBn.out⟩
                case measure => simp [intOf]; omega
              · obtain rfl : i = k := by omega
                have HBn := Lib.hid (HBx.out.trans (hbi.mono HBx.out.size))
                clear hbi
                go_wp2
                go_ret
                exact ⟨rfl, HBn.out⟩
end Go.Proofs.Ytfikgocaidaheaa
