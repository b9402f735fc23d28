/- The walk of correctorlaw3.SpanMeets: two of which each has a byte meet just where they have one in common. -/
import Derived.Test.YtfikgocaidaheaaSp1
import Derived.Test.YtfikgocaidaheaaBox
import Derived.Deep.RegionHeld3
import Derived.Deep.RegionWith
import Derived.Deep.DeepCutAuto
import Derived.Deep.DeepMust
namespace Go.Proofs.Ytfikgocaidaheaa
open Go.RowKit

/-- Is one of the bytes from p on, ahead of k, one from r on, ahead of s? -/
def cmB (p k r s : Int) : Bool := decide (max p r < min k s)
theorem cm_start (p r s : Int) : cmB p p r s = false := by unfold cmB; rw [decide_eq_false_iff_not]; omega
theorem cm_in (p k r s : Int) (h : p ≤ k) (h1 : r ≤ k) (h2 : k < s) : cmB p (k + 1) r s = true := by unfold cmB; rw [decide_eq_true_eq]; omega
theorem cm_below (p k r s : Int) (h : p ≤ k) (h1 : k < r) : cmB p (k + 1) r s = cmB p k r s := by unfold cmB; congr 1; exact propext ⟨fun _ => by omega, fun _ => by omega⟩
theorem cm_above (p k r s : Int) (h : p ≤ k) (h1 : s ≤ k) : cmB p (k + 1) r s = cmB p k r s := by unfold cmB; congr 1; exact propext ⟨fun _ => by omega, fun _ => by omega⟩
theorem cm_true (p k r s : Int) (h : cmB p k r s = true) : cmB p (k + 1) r s = true := by unfold cmB at *; rw [decide_eq_true_eq] at *; omega
theorem cm_end (p q r s : Int) (h : p < q) (h1 : r < s) : meetB p q r s = cmB p q r s := by unfold cmB meetB; congr 1; exact propext ⟨fun _ => by omega, fun _ => by omega⟩

set_option maxHeartbeats 2000000 in
set_option maxRecDepth 100000 in
theorem walk_SpanMeets (a b c d : Int) (w : World) :
    Calls Try.prog 4 #[.agg #[.int .i64 a, .int .i64 b], .agg #[.int .i64 c, .int .i64 d]] w fun e w' => e = .returned (.bool true) ∧ Below w.heap.size w w' := by
  go_enter Try.func4, Try.ntmps4
  go_wp2_with fail
  refine (known_true _).mono ?_
  rintro e w1 ⟨rfl, hb⟩
  obtain ⟨c0, c1, c2, c3, hz, hbw⟩ := boxes2 hb
  clear hb
  go_upto_region 4 with fail
  go_cut [5, 6] (fun s5 s6 wx => ∃ x y : Nat, s5 = .pointer (some ⟨x, 0, none⟩) ∧ s6 = .pointer (some ⟨y, 0, none⟩) ∧ wx.cell? ⟨x, 0, none⟩ = some (.int .i64 (g1 a)) ∧ wx.cell? ⟨x, 1, none⟩ = some (.int .i64 (g2 a b)) ∧ wx.cell? ⟨y, 0, none⟩ = some (.int .i64 (g1 c)) ∧ wx.cell? ⟨y, 1, none⟩ = some (.int .i64 (g2 c d)) ∧ Below w.heap.size w wx)
  case first =>
    have ne1a0 : w.heap.size ≠ w1.heap.size := (by omega)
    have ne1b00 : w1.heap.size ≠ w.heap.size := (by omega)
    have ne1b01 : w1.heap.size + 1 ≠ w.heap.size := (by omega)
    have ne1a1 : w.heap.size + 1 ≠ w1.heap.size := (by omega)
    have ne1b10 : w1.heap.size ≠ w.heap.size + 1 := (by omega)
    have ne1b11 : w1.heap.size + 1 ≠ w.heap.size + 1 := (by omega)
    go_region_held3 (fun wx => wx.cell? ⟨w.heap.size, 0, none⟩ = some (.int .i64 a) ∧ wx.cell? ⟨w.heap.size, 1, none⟩ = some (.int .i64 b) ∧ wx.cell? ⟨w.heap.size + 1, 0, none⟩ = some (.int .i64 c) ∧ wx.cell? ⟨w.heap.size + 1, 1, none⟩ = some (.int .i64 d)) (((refine ⟨?_, ?_, ?_, ?_⟩); all_goals (repeat (first | (with_reducible exact c0) | (with_reducible exact c1) | (with_reducible exact c2) | (with_reducible exact c3) | (with_reducible exact k20) | (with_reducible exact k21) | (with_reducible exact k22) | (with_reducible exact k23) | (with_reducible exact k30) | (with_reducible exact k31) | (with_reducible exact k32) | (with_reducible exact k33) | (with_reducible refine at_far (by omega) ?_) | (with_reducible refine at_alloc ?_) | (with_reducible refine at_drew ?_)))))
      (first
        | (go_at_call 9; (with_reducible refine (good_any a b _).mono ?_); rintro e w2 ⟨rfl, hb2⟩; obtain ⟨hn2, hs2, k20, k21, k22, k23⟩ := four_keep ⟨c0, c1⟩ ⟨c2, c3⟩ (by repeat (first | exact hn2 | exact Below.refl _ _ | refine Below.drew ?_ | refine below_allocS ?_ _)) hb2; obtain ⟨hc2, hf2⟩ := bcell hb2; have hz2 := hb2.size; (try simp at hz2); (try have hq2 := Nat.lt_of_succ_le hz2); have ne2a0 : w.heap.size ≠ w2.heap.size := (by omega); have ne2b00 : w2.heap.size ≠ w.heap.size := (by omega); have ne2b01 : w2.heap.size + 1 ≠ w.heap.size := (by omega); have ne2a1 : w.heap.size + 1 ≠ w2.heap.size := (by omega); have ne2b10 : w2.heap.size ≠ w.heap.size + 1 := (by omega); have ne2b11 : w2.heap.size + 1 ≠ w.heap.size + 1 := (by omega); (try have hx2w10 : w1.heap.size < w2.heap.size := (by omega)); (try have hx2w11 : w1.heap.size + 1 < w2.heap.size := (by omega)))
        | (go_at_call 9; (with_reducible refine (good_any c d _).mono ?_); rintro e w3 ⟨rfl, hb3⟩; obtain ⟨hn3, hs3, k30, k31, k32, k33⟩ := four_keep ⟨c0, c1⟩ ⟨c2, c3⟩ (by repeat (first | exact hn3 | exact hn2 | exact Below.refl _ _ | refine Below.drew ?_ | refine below_allocS ?_ _)) hb3; obtain ⟨hc3, hf3⟩ := bcell hb3; have hz3 := hb3.size; (try simp at hz3); (try have hq3 := Nat.lt_of_succ_le hz3); have ne3a0 : w.heap.size ≠ w3.heap.size := (by omega); have ne3b00 : w3.heap.size ≠ w.heap.size := (by omega); have ne3b01 : w3.heap.size + 1 ≠ w.heap.size := (by omega); have ne3a1 : w.heap.size + 1 ≠ w3.heap.size := (by omega); have ne3b10 : w3.heap.size ≠ w.heap.size + 1 := (by omega); have ne3b11 : w3.heap.size + 1 ≠ w.heap.size + 1 := (by omega); (try have hx3w10 : w1.heap.size < w3.heap.size := (by omega)); (try have hx3w20 : w2.heap.size < w3.heap.size := (by omega)); (try have hx3w11 : w1.heap.size + 1 < w3.heap.size := (by omega)); (try have hx3w21 : w2.heap.size + 1 < w3.heap.size := (by omega))))
    all_goals
      go_wp2_with fail
      go_meet
      refine ⟨_, _, rfl, rfl, ?_, ?_, ?_, ?_, Below.trans hbw (Below.mono (B := w1.heap.size) ?_ (by omega))⟩
      all_goals first
        | ((repeat (first | exact hn3 | refine Below.drew ?_ | refine below_allocS ?_ _ | refine Below.setCell ?_ (by dsimp only; omega) _)); done)
        | (repeat (first | (with_reducible exact at_new0 (by simp)) | (with_reducible exact at_new1 (by simp)) | (with_reducible refine at_set ?_) | (with_reducible refine at_off (by decide) ?_) | (with_reducible refine at_far (by omega) ?_) | (with_reducible refine at_alloc ?_) | (with_reducible refine at_drew ?_) | (with_reducible refine there_set ?_) | (with_reducible refine there_below hb3 ?_) | (with_reducible refine there_below hb2 ?_) | (simp; done) | (with_reducible refine there_alloc ?_) | (with_reducible refine there_drew ?_)))
  case rest =>
    obtain ⟨x, y, rfl, rfl, d0, d1, d2, d3, hbc⟩ := hcut
    clear c0 c1 c2 c3 hz hbw
    obtain ⟨p, hp⟩ : ∃ p, g1 a = p := ⟨_, rfl⟩
    obtain ⟨q, hq⟩ : ∃ q, g2 a b = q := ⟨_, rfl⟩
    obtain ⟨r, hr⟩ : ∃ r, g1 c = r := ⟨_, rfl⟩
    obtain ⟨s, hs⟩ : ∃ s, g2 c d = s := ⟨_, rfl⟩
    have hgx := g_bd a b
    have hgy := g_bd c d
    rw [hp, hq] at hgx
    rw [hr, hs] at hgy
    rw [hp] at d0
    rw [hq] at d1
    rw [hr] at d2
    rw [hs] at d3
    clear hp hq hr hs
    obtain ⟨hp0, -, hpq, hq80⟩ := hgx
    obtain ⟨hr0, -, hrs, hs80⟩ := hgy
    by_cases epq : p = q
    · have b1 : (p == q) = true := by simp [epq]
      subst epq
      go_wp2
      go_ret
      exact ⟨rfl, hbc⟩
    · have b1 : (p == q) = false := by simp [epq]
      by_cases ers : r = s
      · subst ers
        go_wp2
        go_ret
        exact ⟨rfl, hbc⟩
      · have b2 : (r == s) = false := by simp [ers]
        have HE := Lib.hid (cm_end p q r s (by omega) (by omega))
        have hpq' : p < q := by omega
        have hrs' : r < s := by omega
        have HS := Lib.hid (cm_start p r s)
        clear epq ers
        go_wp2_with fail
        go_loop [7, 8] (fun cm i => ∃ k : Int, p ≤ k ∧ k ≤ q ∧ i = .int .i64 k ∧ cm = .bool (cmB p k r s)) (fun _ i => (q - intOf i).toNat)
        case atStart => exact ⟨p, Int.le_refl _, by omega, rfl, by rw [HS.out]⟩
        case round =>
          obtain ⟨k, hk1, hk2, rfl, rfl⟩ := hrel
          obtain ⟨m, hm⟩ : ∃ m, cmB p k r s = m := ⟨_, rfl⟩
          have HM := Lib.hid hm
          rw [hm]
          clear hm
          by_cases hlt : k < q
          · cases m with
            | true =>
              have HN := Lib.hid (cm_true p k r s HM.out)
              go_wp2
              go_round
              case rel => exact ⟨k + 1, by omega, by omega, rfl, by rw [HN.out]⟩
              case measure => simp [intOf]; omega
            | false =>
              by_cases h1 : r ≤ k
              · by_cases h2 : k < s
                · have HN := Lib.hid (cm_in p k r s hk1 h1 h2)
                  go_wp2
                  go_round
                  case rel => exact ⟨k + 1, by omega, by omega, rfl, by rw [HN.out]⟩
                  case measure => simp [intOf]; omega
                · have HN := Lib.hid ((cm_above p k r s hk1 (by omega)).trans HM.out)
                  go_wp2
                  go_round
                  case rel => exact ⟨k + 1, by omega, by omega, rfl, by rw [HN.out]⟩
                  case measure => simp [intOf]; omega
              · have HN := Lib.hid ((cm_below p k r s hk1 (by omega)).trans HM.out)
                go_wp2
                go_round
                case rel => exact ⟨k + 1, by omega, by omega, rfl, by rw [HN.out]⟩
                case measure => simp [intOf]; omega
          · obtain rfl : k = q := by omega
            have hMt := fun w => spanMeet p k r s w
            rw [HE.out, HM.out] at hMt
            have HMt := Lib.hid hMt
            clear hMt
            go_wp2_with fail
            refine (HMt.out _).mono ?_
            rintro e w5 ⟨rfl, hb5⟩
            go_wp2
            go_ret
            exact ⟨by simp, hbc.trans (hb5.mono hbc.size)⟩
end Go.Proofs.Ytfikgocaidaheaa
