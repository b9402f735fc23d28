/- What the chapter's own text of signs computes (correctorref1: sign, Next): one contract a function. -/
import Derived.Test.YtdngcihjfbmbpaaDoorChecked
import Derived.Test.YtdngcihjfbmbpaaDoorSigns
import Derived.WalkKit
import Derived.WalkLawsBesides
import Derived.WalkSpells
import Derived.Below
import Derived.OwnWalk
import Derived.Outline
import Derived.LoopTactic
import Derived.LoopN
import Derived.Lib.Hide
namespace Go.Proofs.YtdngcihjfbmbpaaDoor
open Go.RowKit
open Go.Proofs.YtdngcihjfbmbpaaDoor.Sg

theorem ret2 {p : Int × Nat} {x k : Int} (h : p.1 = x ∧ (p.2 : Int) = k) : Ending.returned (.tuple #[.int .i32 x, .int .i64 k]) = .returned (.tuple #[.int .i32 p.1, .int .i64 p.2]) := by rw [h.1, h.2]

set_option maxHeartbeats 1000000 in
set_option maxRecDepth 100000 in
theorem sign2 (b off len cap : Nat) (v0 : Int) (b1 : Nat) (w : World) (hl : len ≤ 9223372036854775807) (h0 : 0 ≤ v0) (h1 : v0 < 32) (l1 : b1 < 256)
    (hc1 : 1 < len → w.cell? ⟨b, off + 1, none⟩ = some (.int .u8 b1)) :
    Calls Tryd.prog 31 #[.slice (some ⟨b, off, none⟩) len cap, .int .i64 2, .int .i32 v0, .int .i32 128] w fun e w' => e = .returned (.tuple #[.int .i32 (sg2 len v0.toNat b1).1, .int .i64 (sg2 len v0.toNat b1).2]) ∧ w = w' := by
  obtain ⟨v, rfl⟩ := Int.eq_ofNat_of_zero_le h0
  rw [Int.toNat_natCast]
  by_cases hn : len < 2
  · go_enter Tryd.func31, Tryd.ntmps31
    go_wp2
    go_ret2
    refine ⟨?_, rfl⟩
    exact ret2 (by unfold sg2; (repeat' split); all_goals first | exact ⟨rfl, rfl⟩ | (exfalso; omega))
  · have g1 := hc1 (by omega)
    clear hc1
    have hlt : (1 : Int) < (len : Int) := by omega
    by_cases k1 : b1 < 128 ∨ 191 < b1
    · go_enter Tryd.func31, Tryd.ntmps31
      go_wp2
      refine wp_loop_rounds 2 ?_
      rw [rounds_succ]
      go_wp2
      all_goals
        go_ret2
        refine ⟨?_, rfl⟩
        exact ret2 (by unfold sg2; (repeat' split); all_goals first | exact ⟨rfl, rfl⟩ | (exfalso; omega))
    · obtain ⟨k1a, k1b⟩ : 128 ≤ b1 ∧ b1 ≤ 191 := by omega
      clear k1
      go_enter Tryd.func31, Tryd.ntmps31
      go_wp2
      refine wp_loop_rounds 2 ?_
      rw [rounds_succ]
      go_wp2
      rw [rounds_succ]
      go_wp2
      all_goals
        go_ret2
        refine ⟨?_, rfl⟩
        exact ret2 (by unfold sg2; (repeat' split); all_goals first | exact ⟨rfl, rfl⟩ | (exfalso; omega) | (refine ⟨?_, rfl⟩; dsimp only; omega))

set_option maxHeartbeats 1000000 in
set_option maxRecDepth 100000 in
theorem sign3 (b off len cap : Nat) (v0 : Int) (b1 b2 : Nat) (w : World) (hl : len ≤ 9223372036854775807) (h0 : 0 ≤ v0) (h1 : v0 < 16) (l1 : b1 < 256) (l2 : b2 < 256)
    (hc1 : 1 < len → w.cell? ⟨b, off + 1, none⟩ = some (.int .u8 b1))
    (hc2 : 2 < len → w.cell? ⟨b, off + 2, none⟩ = some (.int .u8 b2)) :
    Calls Tryd.prog 31 #[.slice (some ⟨b, off, none⟩) len cap, .int .i64 3, .int .i32 v0, .int .i32 2048] w fun e w' => e = .returned (.tuple #[.int .i32 (sg3 len v0.toNat b1 b2).1, .int .i64 (sg3 len v0.toNat b1 b2).2]) ∧ w = w' := by
  obtain ⟨v, rfl⟩ := Int.eq_ofNat_of_zero_le h0
  rw [Int.toNat_natCast]
  by_cases hn : len < 3
  · go_enter Tryd.func31, Tryd.ntmps31
    go_wp2
    go_ret2
    refine ⟨?_, rfl⟩
    exact ret2 (by unfold sg3; (repeat' split); all_goals first | exact ⟨rfl, rfl⟩ | (exfalso; omega))
  · have g1 := hc1 (by omega)
    have g2 := hc2 (by omega)
    clear hc1 hc2
    have hlt : (2 : Int) < (len : Int) := by omega
    by_cases k1 : b1 < 128 ∨ 191 < b1
    · go_enter Tryd.func31, Tryd.ntmps31
      go_wp2
      refine wp_loop_rounds 3 ?_
      rw [rounds_succ]
      go_wp2
      all_goals
        go_ret2
        refine ⟨?_, rfl⟩
        exact ret2 (by unfold sg3; (repeat' split); all_goals first | exact ⟨rfl, rfl⟩ | (exfalso; omega))
    · obtain ⟨k1a, k1b⟩ : 128 ≤ b1 ∧ b1 ≤ 191 := by omega
      clear k1
      by_cases k2 : b2 < 128 ∨ 191 < b2
      · go_enter Tryd.func31, Tryd.ntmps31
        go_wp2
        refine wp_loop_rounds 3 ?_
        rw [rounds_succ]
        go_wp2
        rw [rounds_succ]
        go_wp2
        all_goals
          go_ret2
          refine ⟨?_, rfl⟩
          exact ret2 (by unfold sg3; (repeat' split); all_goals first | exact ⟨rfl, rfl⟩ | (exfalso; omega))
      · obtain ⟨k2a, k2b⟩ : 128 ≤ b2 ∧ b2 ≤ 191 := by omega
        clear k2
        go_enter Tryd.func31, Tryd.ntmps31
        go_wp2
        refine wp_loop_rounds 3 ?_
        rw [rounds_succ]
        go_wp2
        rw [rounds_succ]
        go_wp2
        rw [rounds_succ]
        go_wp2
        all_goals
          go_ret2
          refine ⟨?_, rfl⟩
          exact ret2 (by unfold sg3; (repeat' split); all_goals first | exact ⟨rfl, rfl⟩ | (exfalso; omega) | (refine ⟨?_, rfl⟩; dsimp only; omega))

set_option maxHeartbeats 1000000 in
set_option maxRecDepth 100000 in
theorem sign4 (b off len cap : Nat) (v0 : Int) (b1 b2 b3 : Nat) (w : World) (hl : len ≤ 9223372036854775807) (h0 : 0 ≤ v0) (h1 : v0 < 8) (l1 : b1 < 256) (l2 : b2 < 256) (l3 : b3 < 256)
    (hc1 : 1 < len → w.cell? ⟨b, off + 1, none⟩ = some (.int .u8 b1))
    (hc2 : 2 < len → w.cell? ⟨b, off + 2, none⟩ = some (.int .u8 b2))
    (hc3 : 3 < len → w.cell? ⟨b, off + 3, none⟩ = some (.int .u8 b3)) :
    Calls Tryd.prog 31 #[.slice (some ⟨b, off, none⟩) len cap, .int .i64 4, .int .i32 v0, .int .i32 65536] w fun e w' => e = .returned (.tuple #[.int .i32 (sg4 len v0.toNat b1 b2 b3).1, .int .i64 (sg4 len v0.toNat b1 b2 b3).2]) ∧ w = w' := by
  obtain ⟨v, rfl⟩ := Int.eq_ofNat_of_zero_le h0
  rw [Int.toNat_natCast]
  by_cases hn : len < 4
  · go_enter Tryd.func31, Tryd.ntmps31
    go_wp2
    go_ret2
    refine ⟨?_, rfl⟩
    exact ret2 (by unfold sg4; (repeat' split); all_goals first | exact ⟨rfl, rfl⟩ | (exfalso; omega))
  · have g1 := hc1 (by omega)
    have g2 := hc2 (by omega)
    have g3 := hc3 (by omega)
    clear hc1 hc2 hc3
    have hlt : (3 : Int) < (len : Int) := by omega
    by_cases k1 : b1 < 128 ∨ 191 < b1
    · go_enter Tryd.func31, Tryd.ntmps31
      go_wp2
      refine wp_loop_rounds 4 ?_
      rw [rounds_succ]
      go_wp2
      all_goals
        go_ret2
        refine ⟨?_, rfl⟩
        exact ret2 (by unfold sg4; (repeat' split); all_goals first | exact ⟨rfl, rfl⟩ | (exfalso; omega))
    · obtain ⟨k1a, k1b⟩ : 128 ≤ b1 ∧ b1 ≤ 191 := by omega
      clear k1
      by_cases k2 : b2 < 128 ∨ 191 < b2
      · go_enter Tryd.func31, Tryd.ntmps31
        go_wp2
        refine wp_loop_rounds 4 ?_
        rw [rounds_succ]
        go_wp2
        rw [rounds_succ]
        go_wp2
        all_goals
          go_ret2
          refine ⟨?_, rfl⟩
          exact ret2 (by unfold sg4; (repeat' split); all_goals first | exact ⟨rfl, rfl⟩ | (exfalso; omega))
      · obtain ⟨k2a, k2b⟩ : 128 ≤ b2 ∧ b2 ≤ 191 := by omega
        clear k2
        by_cases k3 : b3 < 128 ∨ 191 < b3
        · go_enter Tryd.func31, Tryd.ntmps31
          go_wp2
          refine wp_loop_rounds 4 ?_
          rw [rounds_succ]
          go_wp2
          rw [rounds_succ]
          go_wp2
          rw [rounds_succ]
          go_wp2
          all_goals
            go_ret2
            refine ⟨?_, rfl⟩
            exact ret2 (by unfold sg4; (repeat' split); all_goals first | exact ⟨rfl, rfl⟩ | (exfalso; omega))
        · obtain ⟨k3a, k3b⟩ : 128 ≤ b3 ∧ b3 ≤ 191 := by omega
          clear k3
          go_enter Tryd.func31, Tryd.ntmps31
          go_wp2
          refine wp_loop_rounds 4 ?_
          rw [rounds_succ]
          go_wp2
          rw [rounds_succ]
          go_wp2
          rw [rounds_succ]
          go_wp2
          rw [rounds_succ]
          go_wp2
          all_goals
            go_ret2
            refine ⟨?_, rfl⟩
            exact ret2 (by unfold sg4; (repeat' split); all_goals first | exact ⟨rfl, rfl⟩ | (exfalso; omega) | (refine ⟨?_, rfl⟩; dsimp only; omega))

end Go.Proofs.YtdngcihjfbmbpaaDoor
