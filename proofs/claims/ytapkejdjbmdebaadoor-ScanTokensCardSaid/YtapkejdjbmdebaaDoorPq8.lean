/- The scanner's sign: a token of one sign (leaf by leaf; written by tools/gen_pq8.py). -/
import Derived.Test.YtapkejdjbmdebaaDoorPq7
namespace Go.Proofs.YtapkejdjbmdebaaDoor
open Go.RowKit
open Go.Proofs.YtapkejdjbmdebaaDoor.Sg
set_option linter.unusedVariables false

theorem sign_at (op : Nat) (dash : Bool) (s : ByteArray) (h : 0 < s.size) (c : Nat) (hc : (s[0]'h).toNat = c) : Sc.sign op dash (Sc.nats s) =
    if c = 91 then 8 else if c = 123 then 9 else if c = 93 then 10 else if c = 125 then 11
    else if c = 44 then (if 0 < op then 7 else 0)
    else if c = 45 then (if op = 0 then (if dash = true then (if Sc.part (Sc.nats (s.extract 1 s.size)) = true then 5 else 0) else 0) else 0)
    else if c = 58 then (if Sc.key (decide (0 < op)) (Sc.nats (s.extract 1 s.size)) = true then 6 else 0) else 0 := by
  rw [row_cons s h, hc, Sc.sign]
set_option maxHeartbeats 8000000 in
set_option maxRecDepth 100000 in
theorem pSign (b op : Nat) (dash : Bool) (s : ByteArray) (w : World) (hs : s.size ≤ 100000) (h0 : 0 < s.size) (c5 : w.cell? ⟨b, 5, none⟩ = some (.int .i64 op)) (c8 : w.cell? ⟨b, 8, none⟩ = some (.bool dash)) :
    Calls Tryd.prog 53 #[.pointer (some ⟨b, 0, none⟩), .string s] w fun e w' => e = .returned (.int .i64 (kI (Sc.sign op dash (Sc.nats s)))) ∧ w' = w := by
  have hm : s.size ≤ maxLen := by unfold maxLen; omega
  have hz := tail_max s 1 hm
  have hP := pParted (s.extract 1 s.size) w hz
  have hK := pEndsKey b op (s.extract 1 s.size) w hz c5
  have hlo : (1 : Int) ≤ (s.size : Int) := by omega
  obtain ⟨c, hc⟩ : ∃ c, (s[0]'h0).toNat = c := ⟨_, rfl⟩
  have hA := sign_at op dash s h0 c hc
  have hcI : ((s[0]'h0).toNat : Int) = (c : Int) := by rw [hc]
  obtain ⟨R, hR⟩ : ∃ R, Sc.sign op dash (Sc.nats s) = R := ⟨_, rfl⟩
  rw [hR] at hA ⊢
  clear hR hm hz
  by_cases k91 : c = 91
  · subst k91
    have g91 : (((s[0]'h0).toNat : Int) == 91) = true := by rw [hcI]; rfl
    have g123 : (((s[0]'h0).toNat : Int) == 123) = false := by rw [hcI]; rfl
    have g93 : (((s[0]'h0).toNat : Int) == 93) = false := by rw [hcI]; rfl
    have g125 : (((s[0]'h0).toNat : Int) == 125) = false := by rw [hcI]; rfl
    have g44 : (((s[0]'h0).toNat : Int) == 44) = false := by rw [hcI]; rfl
    have g45 : (((s[0]'h0).toNat : Int) == 45) = false := by rw [hcI]; rfl
    have g58 : (((s[0]'h0).toNat : Int) == 58) = false := by rw [hcI]; rfl
    obtain rfl : R = 8 := by rw [hA]; rfl
    clear hA hc hcI hP hK
    go_enter Tryd.func53, Tryd.ntmps53
    go_wp2_with fail
    go_ret
    exact ⟨rfl, rfl⟩
  by_cases k123 : c = 123
  · subst k123
    have g91 : (((s[0]'h0).toNat : Int) == 91) = false := by rw [hcI]; rfl
    have g123 : (((s[0]'h0).toNat : Int) == 123) = true := by rw [hcI]; rfl
    have g93 : (((s[0]'h0).toNat : Int) == 93) = false := by rw [hcI]; rfl
    have g125 : (((s[0]'h0).toNat : Int) == 125) = false := by rw [hcI]; rfl
    have g44 : (((s[0]'h0).toNat : Int) == 44) = false := by rw [hcI]; rfl
    have g45 : (((s[0]'h0).toNat : Int) == 45) = false := by rw [hcI]; rfl
    have g58 : (((s[0]'h0).toNat : Int) == 58) = false := by rw [hcI]; rfl
    obtain rfl : R = 9 := by rw [hA]; rfl
    clear hA hc hcI hP hK
    go_enter Tryd.func53, Tryd.ntmps53
    go_wp2_with fail
    go_ret
    exact ⟨rfl, rfl⟩
  by_cases k93 : c = 93
  · subst k93
    have g91 : (((s[0]'h0).toNat : Int) == 91) = false := by rw [hcI]; rfl
    have g123 : (((s[0]'h0).toNat : Int) == 123) = false := by rw [hcI]; rfl
    have g93 : (((s[0]'h0).toNat : Int) == 93) = true := by rw [hcI]; rfl
    have g125 : (((s[0]'h0).toNat : Int) == 125) = false := by rw [hcI]; rfl
    have g44 : (((s[0]'h0).toNat : Int) == 44) = false := by rw [hcI]; rfl
    have g45 : (((s[0]'h0).toNat : Int) == 45) = false := by rw [hcI]; rfl
    have g58 : (((s[0]'h0).toNat : Int) == 58) = false := by rw [hcI]; rfl
    obtain rfl : R = 10 := by rw [hA]; rfl
    clear hA hc hcI hP hK
    go_enter Tryd.func53, Tryd.ntmps53
    go_wp2_with fail
    go_ret
    exact ⟨rfl, rfl⟩
  by_cases k125 : c = 125
  · subst k125
    have g91 : (((s[0]'h0).toNat : Int) == 91) = false := by rw [hcI]; rfl
    have g123 : (((s[0]'h0).toNat : Int) == 123) = false := by rw [hcI]; rfl
    have g93 : (((s[0]'h0).toNat : Int) == 93) = false := by rw [hcI]; rfl
    have g125 : (((s[0]'h0).toNat : Int) == 125) = true := by rw [hcI]; rfl
    have g44 : (((s[0]'h0).toNat : Int) == 44) = false := by rw [hcI]; rfl
    have g45 : (((s[0]'h0).toNat : Int) == 45) = false := by rw [hcI]; rfl
    have g58 : (((s[0]'h0).toNat : Int) == 58) = false := by rw [hcI]; rfl
    obtain rfl : R = 11 := by rw [hA]; rfl
    clear hA hc hcI hP hK
    go_enter Tryd.func53, Tryd.ntmps53
    go_wp2_with fail
    go_ret
    exact ⟨rfl, rfl⟩
  by_cases k44 : c = 44
  · subst k44
    have g91 : (((s[0]'h0).toNat : Int) == 91) = false := by rw [hcI]; rfl
    have g123 : (((s[0]'h0).toNat : Int) == 123) = false := by rw [hcI]; rfl
    have g93 : (((s[0]'h0).toNat : Int) == 93) = false := by rw [hcI]; rfl
    have g125 : (((s[0]'h0).toNat : Int) == 125) = false := by rw [hcI]; rfl
    have g44 : (((s[0]'h0).toNat : Int) == 44) = true := by rw [hcI]; rfl
    have g45 : (((s[0]'h0).toNat : Int) == 45) = false := by rw [hcI]; rfl
    have g58 : (((s[0]'h0).toNat : Int) == 58) = false := by rw [hcI]; rfl
    by_cases ho : 0 < op
    · obtain rfl : R = 7 := by rw [hA]; simp [ho]
      have hoI : (0 : Int) < (op : Int) := by omega
      clear hA hc hcI hP hK
      go_enter Tryd.func53, Tryd.ntmps53
      go_wp2_with fail
      go_ret
      exact ⟨rfl, rfl⟩
    · obtain rfl : op = 0 := by omega
      obtain rfl : R = 0 := by rw [hA]; simp
      clear hA hc hcI hP hK
      clear ho
      go_enter Tryd.func53, Tryd.ntmps53
      go_wp2_with fail
      go_ret
      exact ⟨rfl, rfl⟩
  by_cases k45 : c = 45
  · subst k45
    have g91 : (((s[0]'h0).toNat : Int) == 91) = false := by rw [hcI]; rfl
    have g123 : (((s[0]'h0).toNat : Int) == 123) = false := by rw [hcI]; rfl
    have g93 : (((s[0]'h0).toNat : Int) == 93) = false := by rw [hcI]; rfl
    have g125 : (((s[0]'h0).toNat : Int) == 125) = false := by rw [hcI]; rfl
    have g44 : (((s[0]'h0).toNat : Int) == 44) = false := by rw [hcI]; rfl
    have g45 : (((s[0]'h0).toNat : Int) == 45) = true := by rw [hcI]; rfl
    have g58 : (((s[0]'h0).toNat : Int) == 58) = false := by rw [hcI]; rfl
    by_cases ho : 0 < op
    · obtain rfl : R = 0 := by rw [hA]; simp; omega
      have hoI : ((op : Int) == 0) = false := beq_eq_false_iff_ne.2 (by omega)
      clear hA hc hcI hP hK
      go_enter Tryd.func53, Tryd.ntmps53
      go_wp2_with fail
      go_ret
      exact ⟨rfl, rfl⟩
    · obtain rfl : op = 0 := by omega
      cases hd : dash with
      | false =>
        rw [hd] at hA c8
        obtain rfl : R = 0 := by rw [hA]; simp
        clear hA hc hcI hP hK
        clear ho
        go_enter Tryd.func53, Tryd.ntmps53
        go_wp2_with fail
        go_ret
        exact ⟨rfl, rfl⟩
      | true =>
        rw [hd] at hA c8
        cases hp : Sc.part (Sc.nats (s.extract 1 s.size)) with
        | true =>
          rw [hp] at hA hP
          obtain rfl : R = 5 := by rw [hA]; simp
          have HP := Lib.hid hP
          clear hA hc hcI hP hK
          clear ho hp
          go_enter Tryd.func53, Tryd.ntmps53
          go_wp2_with fail
          refine HP.out.mono ?_
          rintro e w1 ⟨rfl, rfl⟩
          go_wp2_with fail
          go_ret
          exact ⟨rfl, rfl⟩
        | false =>
          rw [hp] at hA hP
          obtain rfl : R = 0 := by rw [hA]; simp
          have HP := Lib.hid hP
          clear hA hc hcI hP hK
          clear ho hp
          go_enter Tryd.func53, Tryd.ntmps53
          go_wp2_with fail
          refine HP.out.mono ?_
          rintro e w1 ⟨rfl, rfl⟩
          go_wp2_with fail
          go_ret
          exact ⟨rfl, rfl⟩
  by_cases k58 : c = 58
  · subst k58
    have g91 : (((s[0]'h0).toNat : Int) == 91) = false := by rw [hcI]; rfl
    have g123 : (((s[0]'h0).toNat : Int) == 123) = false := by rw [hcI]; rfl
    have g93 : (((s[0]'h0).toNat : Int) == 93) = false := by rw [hcI]; rfl
    have g125 : (((s[0]'h0).toNat : Int) == 125) = false := by rw [hcI]; rfl
    have g44 : (((s[0]'h0).toNat : Int) == 44) = false := by rw [hcI]; rfl
    have g45 : (((s[0]'h0).toNat : Int) == 45) = false := by rw [hcI]; rfl
    have g58 : (((s[0]'h0).toNat : Int) == 58) = true := by rw [hcI]; rfl
    cases hp : Sc.key (decide (0 < op)) (Sc.nats (s.extract 1 s.size)) with
    | true =>
      rw [hp] at hA hK
      obtain rfl : R = 6 := by rw [hA]; simp
      have HK := Lib.hid hK
      clear hA hc hcI hP hK
      clear hp
      go_enter Tryd.func53, Tryd.ntmps53
      go_wp2_with fail
      refine HK.out.mono ?_
      rintro e w1 ⟨rfl, rfl⟩
      go_wp2_with fail
      go_ret
      exact ⟨rfl, rfl⟩
    | false =>
      rw [hp] at hA hK
      obtain rfl : R = 0 := by rw [hA]; simp
      have HK := Lib.hid hK
      clear hA hc hcI hP hK
      clear hp
      go_enter Tryd.func53, Tryd.ntmps53
      go_wp2_with fail
      refine HK.out.mono ?_
      rintro e w1 ⟨rfl, rfl⟩
      go_wp2_with fail
      go_ret
      exact ⟨rfl, rfl⟩
  have g91 : (((s[0]'h0).toNat : Int) == 91) = false := by rw [hcI]; exact beq_eq_false_iff_ne.2 (by omega)
  have g123 : (((s[0]'h0).toNat : Int) == 123) = false := by rw [hcI]; exact beq_eq_false_iff_ne.2 (by omega)
  have g93 : (((s[0]'h0).toNat : Int) == 93) = false := by rw [hcI]; exact beq_eq_false_iff_ne.2 (by omega)
  have g125 : (((s[0]'h0).toNat : Int) == 125) = false := by rw [hcI]; exact beq_eq_false_iff_ne.2 (by omega)
  have g44 : (((s[0]'h0).toNat : Int) == 44) = false := by rw [hcI]; exact beq_eq_false_iff_ne.2 (by omega)
  have g45 : (((s[0]'h0).toNat : Int) == 45) = false := by rw [hcI]; exact beq_eq_false_iff_ne.2 (by omega)
  have g58 : (((s[0]'h0).toNat : Int) == 58) = false := by rw [hcI]; exact beq_eq_false_iff_ne.2 (by omega)
  obtain rfl : R = 0 := by rw [hA, if_neg k91, if_neg k123, if_neg k93, if_neg k125, if_neg k44, if_neg k45, if_neg k58]
  clear hA hc hcI hP hK
  clear k91 k123 k93 k125 k44 k45 k58
  go_enter Tryd.func53, Tryd.ntmps53
  go_wp2_with fail
  go_ret
  exact ⟨rfl, rfl⟩
end Go.Proofs.YtapkejdjbmdebaaDoor
