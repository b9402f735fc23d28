/- The walk of correctorlaw3.SpanTwo: whether one lies in another one, meets it, and what both are together. -/
import Derived.Test.YtfikgocaidaheaaSp1
import Derived.Test.YtfikgocaidaheaaBox
import Derived.Deep.RegionHeld3
import Derived.Deep.RegionWith
import Derived.Deep.DeepCutAuto
import Derived.Deep.DeepMust
namespace Go.Proofs.Ytfikgocaidaheaa
open Go.RowKit

set_option maxHeartbeats 2000000 in
set_option maxRecDepth 100000 in
theorem walk_SpanTwo (a b c d : Int) (w : World) :
    Calls Try.prog 3 #[.agg #[.int .i64 a, .int .i64 b], .agg #[.int .i64 c, .int .i64 d]] w fun e w' => e = .returned (.bool true) ∧ Below w.heap.size w w' := by
  go_enter Try.func3, Try.ntmps3
  go_wp2_with fail
  refine (known_true _).mono ?_
  rintro e w1 ⟨rfl, hb⟩
  obtain ⟨c0, c1, c2, c3, hz, hbw⟩ := boxes2 hb
  clear hb
  go_upto_region 4 with fail
  go_cut [5, 6] (fun s5 s6 wx => ∃ x y : Nat, s5 = .pointer (some ⟨x, 0, none⟩) ∧ s6 = .pointer (some ⟨y, 0, none⟩) ∧ wx.cell? ⟨x, 0, none⟩ = some (.int .i64 (g1 a)) ∧ wx.cell? ⟨x, 1, none⟩ = some (.int .i64 (g2 a b)) ∧ wx.cell? ⟨y, 0, none⟩ = some (.int .i64 (g1 c)) ∧ wx.cell? ⟨y, 1, none⟩ = some (.int .i64 (g2 c d)) ∧ Below w.heap.size w wx)
  case first =>
    have ne1a0 : w.heap.size ≠ w1.heap.size := (by omega)
    have ne1b00 : w1.heap.size ≠ w.heap.size := (by omega)
    have ne1b01 : w1.heap.size + 1 ≠ w.heap.size := (by omega)
    have ne1a1 : w.heap.size + 1 ≠ w1.heap.size := (by omega)
    have ne1b10 : w1.heap.size ≠ w.heap.size + 1 := (by omega)
    have ne1b11 : w1.heap.size + 1 ≠ w.heap.size + 1 := (by omega)
    go_region_held3 (fun wx => wx.cell? ⟨w.heap.size, 0, none⟩ = some (.int .i64 a) ∧ wx.cell? ⟨w.heap.size, 1, none⟩ = some (.int .i64 b) ∧ wx.cell? ⟨w.heap.size + 1, 0, none⟩ = some (.int .i64 c) ∧ wx.cell? ⟨w.heap.size + 1, 1, none⟩ = some (.int .i64 d)) (((refine ⟨?_, ?_, ?_, ?_⟩); all_goals (repeat (first | (with_reducible exact c0) | (with_reducible exact c1) | (with_reducible exact c2) | (with_reducible exact c3) | (with_reducible exact k20) | (with_reducible exact k21) | (with_reducible exact k22) | (with_reducible exact k23) | (with_reducible exact k30) | (with_reducible exact k31) | (with_reducible exact k32) | (with_reducible exact k33) | (with_reducible refine at_far (by omega) ?_) | (with_reducible refine at_alloc ?_) | (with_reducible refine at_drew ?_)))))
      (first
        | (go_at_call 9; (with_reducible refine (good_any a b _).mono ?_); rintro e w2 ⟨rfl, hb2⟩; obtain ⟨hn2, hs2, k20, k21, k22, k23⟩ := four_keep ⟨c0, c1⟩ ⟨c2, c3⟩ (by repeat (first | exact hn2 | exact Below.refl _ _ | refine Below.drew ?_ | refine below_allocS ?_ _)) hb2; obtain ⟨hc2, hf2⟩ := bcell hb2; have hz2 := hb2.size; (try simp at hz2); (try have hq2 := Nat.lt_of_succ_le hz2); have ne2a0 : w.heap.size ≠ w2.heap.size := (by omega); have ne2b00 : w2.heap.size ≠ w.heap.size := (by omega); have ne2b01 : w2.heap.size + 1 ≠ w.heap.size := (by omega); have ne2a1 : w.heap.size + 1 ≠ w2.heap.size := (by omega); have ne2b10 : w2.heap.size ≠ w.heap.size + 1 := (by omega); have ne2b11 : w2.heap.size + 1 ≠ w.heap.size + 1 := (by omega); (try have hx2w10 : w1.heap.size < w2.heap.size := (by omega)); (try have hx2w11 : w1.heap.size + 1 < w2.heap.size := (by omega)))
        | (go_at_call 9; (with_reducible refine (good_any c d _).mono ?_); rintro e w3 ⟨rfl, hb3⟩; obtain ⟨hn3, hs3, k30, k31, k32, k33⟩ := four_keep ⟨c0, c1⟩ ⟨c2, c3⟩ (by repeat (first | exact hn3 | exact hn2 | exact Below.refl _ _ | refine Below.drew ?_ | refine below_allocS ?_ _)) hb3; obtain ⟨hc3, hf3⟩ := bcell hb3; have hz3 := hb3.size; (try simp at hz3); (try have hq3 := Nat.lt_of_succ_le hz3); have ne3a0 : w.heap.size ≠ w3.heap.size := (by omega); have ne3b00 : w3.heap.size ≠ w.heap.size := (by omega); have ne3b01 : w3.heap.size + 1 ≠ w.heap.size := (by omega); have ne3a1 : w.heap.size + 1 ≠ w3.heap.size := (by omega); have ne3b10 : w3.heap.size ≠ w.heap.size + 1 := (by omega); have ne3b11 : w3.heap.size + 1 ≠ w.heap.size + 1 := (by omega); (try have hx3w10 : w1.heap.size < w3.heap.size := (by omega)); (try have hx3w20 : w2.heap.size < w3.heap.size := (by omega)); (try have hx3w11 : w1.heap.size + 1 < w3.heap.size := (by omega)); (try have hx3w21 : w2.heap.size + 1 < w3.heap.size := (by omega))))
    all_goals
      go_wp2_with fail
      go_meet
      refine ⟨_, _, rfl, rfl, ?_, ?_, ?_, ?_, Below.trans hbw (Below.mono (B := w1.heap.size) ?_ (by omega))⟩
      all_goals first
        | ((repeat (first | exact hn3 | refine Below.drew ?_ | refine below_allocS ?_ _ | refine Below.setCell ?_ (by dsimp only; omega) _)); done)
        | (repeat (first | (with_reducible exact at_new0 (by simp)) | (with_reducible exact at_new1 (by simp)) | (with_reducible refine at_set ?_) | (with_reducible refine at_off (by decide) ?_) | (with_reducible refine at_far (by omega) ?_) | (with_reducible refine at_alloc ?_) | (with_reducible refine at_drew ?_) | (with_reducible refine there_set ?_) | (with_reducible refine there_below hb3 ?_) | (with_reducible refine there_below hb2 ?_) | (simp; done) | (with_reducible refine there_alloc ?_) | (with_reducible refine there_drew ?_)))
  case rest =>
    obtain ⟨x, y, rfl, rfl, d0, d1, d2, d3, hbc⟩ := hcut
    clear c0 c1 c2 c3 hz hbw
    obtain ⟨p, hp⟩ : ∃ p, g1 a = p := ⟨_, rfl⟩
    obtain ⟨q, hq⟩ : ∃ q, g2 a b = q := ⟨_, rfl⟩
    obtain ⟨r, hr⟩ : ∃ r, g1 c = r := ⟨_, rfl⟩
    obtain ⟨s, hs⟩ : ∃ s, g2 c d = s := ⟨_, rfl⟩
    rw [hp] at d0
    rw [hq] at d1
    rw [hr] at d2
    rw [hs] at d3
    clear hp hq hr hs
    have e1 : meetB r s p q = meetB p q r s := by unfold meetB; congr 1; exact propext ⟨fun h => ⟨h.2, h.1⟩, fun h => ⟨h.2, h.1⟩⟩
    have e2 : inB p q (min p r) (max q s) = true := by unfold inB; rw [decide_eq_true_eq]; omega
    have e3 : inB r s (min p r) (max q s) = true := by unfold inB; rw [decide_eq_true_eq]; omega
    go_wp2_with fail
    go_region_held3 (fun wx => wx.cell? ⟨x, 0, none⟩ = some (.int .i64 p) ∧ wx.cell? ⟨x, 1, none⟩ = some (.int .i64 q) ∧ wx.cell? ⟨y, 0, none⟩ = some (.int .i64 r) ∧ wx.cell? ⟨y, 1, none⟩ = some (.int .i64 s)) (go_keep)
      (first
        | (go_at_call 10; (with_reducible refine (spanIn _ _ _ _ _).mono ?_); rintro e w2 ⟨rfl, hb2⟩; obtain ⟨hn2, hs2, k0, k1, k2, k3⟩ := four_keep (w1 := wc) ⟨d0, d1⟩ ⟨d2, d3⟩ (by repeat (first | exact hn2 | exact Below.refl _ _ | refine Below.drew ?_)) hb2)
        | (go_at_call 11; (with_reducible refine (refIn _ _ _ _ _).mono ?_); rintro e w2 ⟨rfl, hb2⟩; obtain ⟨hn2, hs2, k0, k1, k2, k3⟩ := four_keep (w1 := wc) ⟨d0, d1⟩ ⟨d2, d3⟩ (by repeat (first | exact hn2 | exact Below.refl _ _ | refine Below.drew ?_)) hb2)
        | (go_at_call 12; (with_reducible refine (spanMeet _ _ _ _ _).mono ?_); rintro e w2 ⟨rfl, hb2⟩; obtain ⟨hn2, hs2, k0, k1, k2, k3⟩ := four_keep (w1 := wc) ⟨d0, d1⟩ ⟨d2, d3⟩ (by repeat (first | exact hn2 | exact Below.refl _ _ | refine Below.drew ?_)) hb2)
        | (go_at_call 13; (with_reducible refine (refMeet _ _ _ _ _).mono ?_); rintro e w2 ⟨rfl, hb2⟩; obtain ⟨hn2, hs2, k0, k1, k2, k3⟩ := four_keep (w1 := wc) ⟨d0, d1⟩ ⟨d2, d3⟩ (by repeat (first | exact hn2 | exact Below.refl _ _ | refine Below.drew ?_)) hb2)
        | (go_at_call 14; (with_reducible refine (spanJoin _ _ _ _ _).mono ?_); rintro e w2 ⟨rfl, hb2⟩; obtain ⟨hn2, hs2, k0, k1, k2, k3⟩ := four_keep (w1 := wc) ⟨d0, d1⟩ ⟨d2, d3⟩ (by repeat (first | exact hn2 | exact Below.refl _ _ | refine Below.drew ?_)) hb2)
        | (go_at_call 15; (with_reducible refine (refJoin _ _ _ _ _).mono ?_); rintro e w2 ⟨rfl, hb2⟩; obtain ⟨hn2, hs2, k0, k1, k2, k3⟩ := four_keep (w1 := wc) ⟨d0, d1⟩ ⟨d2, d3⟩ (by repeat (first | exact hn2 | exact Below.refl _ _ | refine Below.drew ?_)) hb2))
    all_goals
      go_wp2
      go_ret
      exact ⟨rfl, hbc.trans (Below.mono (B := wc.heap.size) (by repeat (first | exact hn2 | refine Below.drew ?_)) hbc.size)⟩
end Go.Proofs.Ytfikgocaidaheaa
