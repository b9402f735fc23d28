/- The walk of correctorlaw3.SpanSorts: any are put in order, each once, as the document says. -/
import Derived.Test.YtfikgocaidaheaaRs
import Derived.Test.YtfikgocaidaheaaGd
import Derived.Test.YtfikgocaidaheaaHas
namespace Go.Proofs.Ytfikgocaidaheaa
open Go.RowKit
open Go.Proofs.Ytfikgocaidaheaa.Hp

set_option maxHeartbeats 4000000 in
set_option maxRecDepth 100000 in
theorem walk_SpanSorts (v : Value) (l : List (Int × Int)) (w : World) (h : Spans w v l) :
    Calls Try.prog 5 #[v] w fun e w' => e = .returned (.bool true) ∧ Below w.heap.size w w' := by
  have hsz := h.size_le
  unfold maxLen at hsz
  obtain ⟨a, cap, rfl⟩ := h.shape
  obtain ⟨N, hN⟩ : ∃ N, l.length = N := ⟨_, rfl⟩
  have HA := Lib.hid (fun k hk => h.at_ k hk)
  have HN := Lib.hid hN
  rw [hN] at hsz
  rw [hN]
  have gs := guard_span
  clear hN h
  go_enter Try.func5, Try.ntmps5
  go_wp2_with fail
  refine (known_true w).mono ?_
  rintro e w0 ⟨rfl, hb0⟩
  have HG := Lib.hid (in_start w w0 l hb0)
  have HB0 := Lib.hid hb0
  clear hb0
  by_cases h40 : 40 < N
  · have h40' : (40 : Int) < (N : Int) := by omega
    go_wp2
    go_ret
    exact ⟨rfl, HB0.out⟩
  · have h40' : ¬ ((40 : Int) < (N : Int)) := by omega
    go_wp2_with fail
    go_loopw [3, 4] (fun vs is wr => ∃ k : Nat, is = .int .i64 k ∧ k ≤ N ∧ InGot w l k vs wr) (fun _ is _ => N - (intOf is).toNat)
    case atStart => exact ⟨0, rfl, Nat.zero_le _, HG.out⟩
    case round =>
      obtain ⟨k, rfl, hk, hown, hb⟩ := hrel
      by_cases hlt : k < N
      · obtain ⟨b, off, rfl, c1, c2⟩ := HA.out k (by rw [HN.out]; exact hlt)
        obtain ⟨x, hx⟩ : ∃ x, Hp.at_ l k = x := ⟨_, rfl⟩
        obtain ⟨x1, x2⟩ := x
        rw [hx] at c1 c2
        dsimp only at c1 c2
        rw [← hb.cell (p := ⟨b, off + k * 2, none⟩) (lt_of_cell c1)] at c1
        rw [← hb.cell (p := ⟨b, off + k * 2 + 1, none⟩) (lt_of_cell c2)] at c2
        have HM := Lib.hid (map_take_succ (by rw [HN.out]; exact hlt) hx)
        have HO := Lib.hid hown
        have HB := Lib.hid hb
        have hlen : ((l.take k).map gd).length ≤ 1000 := by rw [List.length_map, List.length_take]; omega
        clear hx hown hb
        go_wp2_with fail
        refine (good_any x1 x2 _).mono ?_
        rintro e w2 ⟨rfl, hb2⟩
        have HO2 := Lib.hid (own_below HO.out hb2)
        have HB2 := Lib.hid (HB.out.trans (hb2.mono HB.out.size))
        clear hb2 c1 c2
        go_wp2_with (at_builtin; go_must (refine wpList_append_span rfl _ _ rfl w.heap.size u3 ((l.take k).map gd) (g1 x1) (g2 x1 x2) rfl HO2.out rfl (by omega) HB2.out.size ?_; intro v3 w3 hown3 hg3; have HO3 := Lib.hid hown3; have HB3 := Lib.hid (Below.grown (Below.alloc HB2.out HB2.out.size _) hg3 (by rw [size_alloc]; have := HB2.out.size; omega) (fun k e => (HO2.out.lt k e).1)); clear hown3 hg3))
        go_roundw
        case rel => exact ⟨k + 1, by go_num, by omega, by rw [InGot, HM.out]; exact ⟨HO3.out, HB3.out⟩⟩
        case measure => simp [intOf]; omega
      · obtain rfl : k = N := by omega
        rw [← HN.out, List.take_length] at hown
        obtain ⟨ai, ci, rfl⟩ := (Spans.of_own hown).shape
        have hlm : (l.map gd).length = k := by rw [List.length_map, HN.out]
        have HSp := Lib.hid (Spans.of_own hown)
        rw [hlm]
        have HLm := Lib.hid hlm
        have HB := Lib.hid hb
        have HSo := Lib.hid (fun wx h => sortS wx _ (l.map gd) (Spans.below HSp.out h) (by rw [HLm.out]; omega))
        rw [hlm] at HSo
        clear hown hb hlm
        have HRo := Lib.hid (fun wx h => refSort wx _ (l.map gd) (Spans.below HSp.out h) (by rw [HLm.out]; omega))
        rw [HLm.out] at HRo
        go_wp2_with fail
        refine (HSo.out _ (Below.refl _ _)).mono ?_
        rintro e w1 ⟨v1, o1, rfl, hown1, hr1, hm1, hb1⟩
        obtain ⟨a1, cc1, rfl⟩ := (Spans.of_own hown1).shape
        obtain ⟨M, hM⟩ : ∃ M, o1.length = M := ⟨_, rfl⟩
        have HS1 := Lib.hid (Spans.of_own hown1)
        rw [hM]
        have HM := Lib.hid hM
        have HB1 := Lib.hid hb1
        have HR1 := Lib.hid hr1
        have Hm1 := Lib.hid hm1
        clear hown1 hr1 hm1 hb1 hM
        go_wp2_with fail
        refine (HRo.out _ HB1.out).mono ?_
        rintro e w2 ⟨v2, o2, rfl, hown2, hr2, hm2, hb2⟩
        obtain rfl : o1 = o2 := rises_eq HR1.out hr2 (fun y => (Hm1.out y).trans (hm2 y).symm)
        obtain ⟨a2, cc2, rfl⟩ := (Spans.of_own hown2).shape
        rw [HM.out]
        have HS2 := Lib.hid (Spans.of_own hown2)
        have HS1' := Lib.hid (Spans.below HS1.out hb2)
        have HB2 := Lib.hid (HB1.out.trans (hb2.mono HB1.out.size))
        have hMs := Spans.size_le HS1.out
        rw [HM.out] at hMs
        unfold maxLen at hMs
        clear hown2 hr2 hm2 hb2 HS1 HR1 Hm1 HSo HRo
        have HBw := Lib.hid (HB.out.trans (HB2.out.mono HB.out.size))
        go_wp2_with fail
        go_loopw [7] (fun is wq => ∃ j : Nat, is = .int .i64 j ∧ j ≤ M ∧ Below w2.heap.size w2 wq) (fun is _ => M - (intOf is).toNat)
        case atStart => exact ⟨0, rfl, Nat.zero_le _, Below.refl _ _⟩
        case round =>
          obtain ⟨j, rfl, hj, hbq⟩ := hrel
          by_cases hjM : j < M
          · obtain ⟨b1, f1, rfl, d0, d1⟩ := Spans.at_ HS1'.out j (by rw [HM.out]; exact hjM)
            obtain ⟨b2, f2, rfl, d2, d3⟩ := Spans.at_ HS2.out j (by rw [HM.out]; exact hjM)
            obtain ⟨z, hz⟩ : ∃ z, Hp.at_ o1 j = z := ⟨_, rfl⟩
            obtain ⟨z1, z2⟩ := z
            rw [hz] at d0 d1 d2 d3
            dsimp only at d0 d1 d2 d3
            rw [← hbq.cell (p := ⟨b1, f1 + j * 2, none⟩) (lt_of_cell d0)] at d0
            rw [← hbq.cell (p := ⟨b1, f1 + j * 2 + 1, none⟩) (lt_of_cell d1)] at d1
            rw [← hbq.cell (p := ⟨b2, f2 + j * 2, none⟩) (lt_of_cell d2)] at d2
            rw [← hbq.cell (p := ⟨b2, f2 + j * 2 + 1, none⟩) (lt_of_cell d3)] at d3
            have hneq : ∀ W, (binOp .neq 23 (.agg #[.int .i64 z1, .int .i64 z2]) (.agg #[.int .i64 z1, .int .i64 z2])).run Try.prog W = .ok (.bool false) W := fun W => by rw [neq_span]; simp
            have hj0 : (0 : Int) ≤ (j : Int) := by omega
            have hj1 : (j : Int) < (M : Int) := by omega
            have HBq := Lib.hid hbq
            clear hz hbq
            go_wp2_with fail
            go_quiet (fail)
            have hq : Below w2.heap.size w2 (wr.drewN nq) := ⟨HBq.out.os, HBq.out.tape, HBq.out.output, HBq.out.size, HBq.out.block⟩
            have HQ := Lib.hid hq
            clear hq hneq d0 d1 d2 d3
            go_wp2
            go_roundw
            case rel => exact ⟨j + 1, by go_num, by omega, HQ.out⟩
            case measure => simp [intOf]; omega
          · obtain rfl : j = M := by omega
            have HBq := Lib.hid (HBw.out.trans (hbq.mono HBw.out.size))
            have hbp := HB.out.trans ((HB2.out.trans (hbq.mono HB2.out.size)).mono HB.out.size)
            have hsq := Spans.below (Spans.below HSp.out HB2.out) hbq
            by_cases hk0 : k = 0
            · subst hk0
              clear hbq hbp hsq
              go_wp2_with fail
              go_quiet (fail)
              have hq : Below w.heap.size w (wr.drewN nq) := ⟨HBq.out.os, HBq.out.tape, HBq.out.output, HBq.out.size, HBq.out.block⟩
              go_wp2
              go_ret
              exact ⟨rfl, hq⟩
            · obtain ⟨bi, fi, rfl, e0, e1⟩ := Spans.at_ hsq 0 (by rw [HLm.out]; omega)
              obtain ⟨b, off, rfl, c1, c2⟩ := HA.out 0 (by rw [HN.out]; omega)
              obtain ⟨x, hx⟩ : ∃ x, Hp.at_ l 0 = x := ⟨_, rfl⟩
              obtain ⟨x1, x2⟩ := x
              rw [gd_at (by rw [HN.out]; omega), hx] at e0 e1
              rw [hx] at c1 c2
              rw [← hbp.cell (p := ⟨b, off + 0 * 2, none⟩) (lt_of_cell c1)] at c1
              rw [← hbp.cell (p := ⟨b, off + 0 * 2 + 1, none⟩) (lt_of_cell c2)] at c2
              simp only [gd, Nat.zero_mul, Nat.add_zero] at e0 e1 c1 c2
              have heql : ∀ W, (binOp .eql 23 (.agg #[.int .i64 (g1 x1), .int .i64 (g2 x1 x2)]) (.agg #[.int .i64 (g1 x1), .int .i64 (g2 x1 x2)])).run Try.prog W = .ok (.bool true) W := fun W => by rw [eql_span]; simp
              have gk : ((k : Int) == 0) = false := by simp; omega
              have hkp : (0 : Int) < (k : Int) := by omega
              have hkn : 0 < k := by omega
              clear hx hbq hbp hsq
              go_wp2_with fail
              go_region_held3 (fun wx => wx.cell? ⟨bi, fi, none⟩ = some (.int .i64 (g1 x1)) ∧ wx.cell? ⟨bi, fi + 1, none⟩ = some (.int .i64 (g2 x1 x2)) ∧ wx.cell? ⟨b, off, none⟩ = some (.int .i64 x1) ∧ wx.cell? ⟨b, off + 1, none⟩ = some (.int .i64 x2)) (((refine ⟨?_, ?_, ?_, ?_⟩); all_goals (repeat (first | (with_reducible exact e0) | (with_reducible exact e1) | (with_reducible exact c1) | (with_reducible exact c2) | (with_reducible exact q0) | (with_reducible exact q1) | (with_reducible exact q2) | (with_reducible exact q3) | (with_reducible refine at_drew ?_)))))
                (((with_reducible refine (good_any _ _ _).mono ?_); rintro e w5 ⟨rfl, hb5⟩; have q0 := (hb5.cell (p := ⟨bi, fi, none⟩) (lt_of_cell (w := wr.drew) e0)).trans e0; have q1 := (hb5.cell (p := ⟨bi, fi + 1, none⟩) (lt_of_cell (w := wr.drew) e1)).trans e1; have q2 := (hb5.cell (p := ⟨b, off, none⟩) (lt_of_cell (w := wr.drew) c1)).trans c1; have q3 := (hb5.cell (p := ⟨b, off + 1, none⟩) (lt_of_cell (w := wr.drew) c2)).trans c2))
              go_wp2
              go_ret
              exact ⟨rfl, HBq.out.trans (Below.mono (Below.trans (b := wr.drew) ⟨rfl, rfl, rfl, Nat.le_refl _, fun _ _ => rfl⟩ hb5) HBq.out.size)⟩
end Go.Proofs.Ytfikgocaidaheaa
