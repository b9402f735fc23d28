/- The walk of correctorlaw5.CharsClasses: each byte is in the classes in which the document has it. -/
import Derived.Test.YtnaoichhjnggaaaAid5
namespace Go.Proofs.Ytnaoichhjnggaaa
open Go.RowKit
open Go.Proofs.Ytnaoichhjnggaaa.Es

set_option maxHeartbeats 4000000 in
set_option maxRecDepth 100000 in
theorem walk_CharsClasses (c : Int) (w : World) (_ : (Lit.int .u8 c).wf = true) :
    Calls Try.prog 3 #[.int .u8 c] w fun e w' => e = .returned (.bool true) ∧ Below w.heap.size w w' := by
  go_enter Try.func3, Try.ntmps3
  go_wp2_with fail
  refine (known_true w).mono ?_
  rintro e w1 ⟨rfl, hb⟩
  go_wp2
  go_loop [3] (fun i => ∃ k : Nat, i = .int .i64 k ∧ k ≤ 256) (fun i => 256 - (intOf i).toNat)
  case atStart => exact ⟨0, rfl, by decide⟩
  case round =>
    obtain ⟨k, rfl, hk⟩ := hrel
    by_cases hlt : k < 256
    · have hin : (k : Int) < 256 := by omega
      have hbn : ∀ b : Bool, (b != b) = false := fun b => by cases b <;> rfl
      go_wp2_with fail
      refine (prgBlank k w1).mono ?_
      rintro e w2 ⟨rfl, rfl⟩
      go_wp2_with fail
      refine (refBlank k w1).mono ?_
      rintro e w2 ⟨rfl, rfl⟩
      go_wp2_with fail
      refine (prgName k w1).mono ?_
      rintro e w2 ⟨rfl, rfl⟩
      go_wp2_with fail
      refine (refName k w1).mono ?_
      rintro e w2 ⟨rfl, rfl⟩
      go_wp2_with fail
      refine (prgFlow k w1).mono ?_
      rintro e w2 ⟨rfl, rfl⟩
      go_wp2_with fail
      refine (refFlow k w1).mono ?_
      rintro e w2 ⟨rfl, rfl⟩
      go_wp2
      go_round
      case rel => exact ⟨k + 1, by go_num, by omega⟩
      case measure => simp [intOf]; omega
    · obtain rfl : k = 256 := by omega
      have pB := prgBlank c w1
      have pN := prgName c w1
      have pF := prgFlow c w1
      cases hB : blankB c with
      | true =>
        have hN := blank_name hB
        rw [hB] at pB
        rw [hN] at pN
        have PB := Lib.hid pB
        have PN := Lib.hid pN
        clear hB hN pB pN pF
        go_wp2_with fail
        refine PB.out.mono ?_
        rintro e w2 ⟨rfl, rfl⟩
        go_wp2_with fail
        refine PN.out.mono ?_
        rintro e w2 ⟨rfl, rfl⟩
        go_wp2_with fail
        refine PN.out.mono ?_
        rintro e w2 ⟨rfl, rfl⟩
        go_wp2
        go_ret
        exact ⟨rfl, hb⟩
      | false =>
        rw [hB] at pB
        have PB := Lib.hid pB
        cases hN : nameB c with
        | false =>
          rw [hN] at pN
          have PN := Lib.hid pN
          clear hB hN pB pN pF
          go_wp2_with fail
          refine PB.out.mono ?_
          rintro e w2 ⟨rfl, rfl⟩
          go_wp2_with fail
          refine PN.out.mono ?_
          rintro e w2 ⟨rfl, rfl⟩
          go_wp2
          go_ret
          exact ⟨rfl, hb⟩
        | true =>
          have hF := name_flow hN
          rw [hN] at pN
          rw [hF] at pF
          have PN := Lib.hid pN
          have PF := Lib.hid pF
          clear hB hN hF pB pN pF
          go_wp2_with fail
          refine PB.out.mono ?_
          rintro e w2 ⟨rfl, rfl⟩
          go_wp2_with fail
          refine PN.out.mono ?_
          rintro e w2 ⟨rfl, rfl⟩
          go_wp2_with fail
          refine PF.out.mono ?_
          rintro e w2 ⟨rfl, rfl⟩
          go_wp2
          go_ret
          exact ⟨rfl, hb⟩
end Go.Proofs.Ytnaoichhjnggaaa
