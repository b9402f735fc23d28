/- package quote: nextSingle, nextDouble: the first piece of what is left. -/
import Derived.Test.YtmkchfpmlidaiaaQa
import Derived.Test.YtmkchfpmlidaiaaQo
namespace Go.Proofs.Ytmkchfpmlidaiaa
open Go.RowKit
open Go.Proofs.Ytmkchfpmlidaiaa.Sg
open Go.Proofs.Ytmkchfpmlidaiaa.Es
set_option linter.unusedVariables false

/-- A piece: the quote that ends the text; a backslash that begins no escape; some bytes of the token, and what they say. -/
inductive Pc where
  | clo
  | bad
  | say (t : ByteArray) (n : Nat)
def Pc.val : Pc → Value
  | .clo => .iface 53 (.agg #[])
  | .bad => .iface 55 (.agg #[])
  | .say t n => .iface 58 (saidV t n)
def pcS (s : ByteArray) : Pc :=
  if ([39, 39] : List UInt8).isPrefixOf s.data.toList = true then .say ⟨#[39]⟩ 2
  else if (s.get! 0).toNat = 39 then .clo
  else .say (s.extract 0 (Sc.run nq1 (Sc.nats s))) (Sc.run nq1 (Sc.nats s))
def pcD (s : ByteArray) : Pc :=
  if (s.get! 0).toNat = 34 then .clo
  else if (s.get! 0).toNat = 92 then (match esc s.data.toList with
    | some (v, k) => .say (Utf8.encode v) k
    | none => .bad)
  else .say (s.extract 0 (Sc.run nq2 (Sc.nats s))) (Sc.run nq2 (Sc.nats s))
theorem hasPre (s p : ByteArray) (w : World) : Calls Try.prog 29 #[.string s, .string p] w fun e w' => e = .returned (.bool (p.data.toList.isPrefixOf s.data.toList)) ∧ w' = w := Any.strings_HasPrefix (L := hp_lays) s p w
theorem conc_said : Try.prog.concrete 58 = true := by kernel_rfl
theorem conc_clo : Try.prog.concrete 53 = true := by kernel_rfl
theorem conc_bad : Try.prog.concrete 55 = true := by kernel_rfl
set_option maxHeartbeats 2000000 in
set_option maxRecDepth 100000 in
theorem nextS (s : ByteArray) (w : World) (hs : s.size ≤ maxLen) (h0 : 0 < s.size) :
    Calls Try.prog 18 #[.string s] w fun e w' => e = .returned (pcS s).val ∧ Below w.heap.size w w' := by
  have HI := Lib.hid (itself1 s w hs)
  have hp := hasPre s ⟨#[39, 39]⟩ w
  have c1 := conc_said
  have c2 := conc_clo
  have c3 := conc_bad
  unfold maxLen at hs
  have hg : (s[0]'h0) = s.get! 0 := Sc.get_el s 0 h0
  obtain ⟨R0, hR0⟩ : ∃ R0, Sc.run nq1 (Sc.nats s) = R0 := ⟨_, rfl⟩
  unfold pcS
  rw [hR0] at HI ⊢
  rw [show (⟨#[39, 39]⟩ : ByteArray).data.toList = [39, 39] from rfl] at hp
  cases hpre : ([39, 39] : List UInt8).isPrefixOf s.data.toList with
  | true =>
    rw [hpre] at hp
    have HP := Lib.hid hp
    clear hp hpre hR0 HI
    go_enter Try.func18, Try.ntmps18
    go_wp2_with fail
    refine HP.out.mono ?_
    rintro e w1 ⟨rfl, rfl⟩
    go_wp2
    go_ret
    exact ⟨rfl, Below.refl _ _⟩
  | false =>
    rw [hpre] at hp
    have HP := Lib.hid hp
    rw [if_neg (by decide)]
    by_cases h39 : (s.get! 0).toNat = 39
    · rw [if_pos h39]
      have g : (((s[0]'h0).toNat : Int) == 39) = true := by rw [hg, h39]; rfl
      clear hp hpre hR0 HI hg h39
      go_enter Try.func18, Try.ntmps18
      go_wp2_with fail
      refine HP.out.mono ?_
      rintro e w1 ⟨rfl, rfl⟩
      go_wp2
      go_ret
      exact ⟨rfl, Below.refl _ _⟩
    · rw [if_neg h39]
      have g : (((s[0]'h0).toNat : Int) == 39) = false := beq_eq_false_iff_ne.2 (by rw [hg]; omega)
      clear hp hpre hR0 hg h39
      go_enter Try.func18, Try.ntmps18
      go_wp2_with fail
      refine HP.out.mono ?_
      rintro e w1 ⟨rfl, rfl⟩
      go_wp2_with fail
      refine HI.out.mono ?_
      rintro e w1 ⟨rfl, hb⟩
      go_wp2
      go_ret
      exact ⟨rfl, hb⟩
set_option maxHeartbeats 2000000 in
set_option maxRecDepth 100000 in
theorem nextD (s : ByteArray) (w : World) (hs : s.size ≤ maxLen) (h0 : 0 < s.size) :
    Calls Try.prog 19 #[.string s] w fun e w' => e = .returned (pcD s).val ∧ Below w.heap.size w w' := by
  have HI := Lib.hid (itself2 s w hs)
  have he := escape_any s w hs
  have c1 := conc_said
  have c2 := conc_clo
  have c3 := conc_bad
  unfold maxLen at hs
  have hg : (s[0]'h0) = s.get! 0 := Sc.get_el s 0 h0
  obtain ⟨R0, hR0⟩ : ∃ R0, Sc.run nq2 (Sc.nats s) = R0 := ⟨_, rfl⟩
  unfold pcD
  rw [hR0] at HI ⊢
  by_cases h34 : (s.get! 0).toNat = 34
  · rw [if_pos h34]
    have g : (((s[0]'h0).toNat : Int) == 34) = true := by rw [hg, h34]; rfl
    clear he hR0 HI hg h34
    go_enter Try.func19, Try.ntmps19
    go_wp2
    go_ret
    exact ⟨rfl, Below.refl _ _⟩
  · rw [if_neg h34]
    have g : (((s[0]'h0).toNat : Int) == 34) = false := beq_eq_false_iff_ne.2 (by rw [hg]; omega)
    by_cases h92 : (s.get! 0).toNat = 92
    · rw [if_pos h92]
      have g2 : (((s[0]'h0).toNat : Int) == 92) = true := by rw [hg, h92]; rfl
      cases hE : esc s.data.toList with
      | none =>
        rw [hE] at he
        have HE := Lib.hid (show Calls Try.prog 31 #[.string s] w fun e w' => e = .returned (.tuple #[.string ⟨#[]⟩, .int .i64 0]) ∧ Below w.heap.size w w' from he)
        clear he hR0 HI hg h34 hE h92
        go_enter Try.func19, Try.ntmps19
        go_wp2_with fail
        refine HE.out.mono ?_
        rintro e w1 ⟨rfl, hb⟩
        go_wp2
        go_ret
        exact ⟨rfl, hb⟩
      | some x =>
        obtain ⟨v, k⟩ := x
        have hk := Qo.esc_len hE
        have hk0 : (0 : Int) < (k : Int) := by omega
        rw [hE] at he
        have HE := Lib.hid (show Calls Try.prog 31 #[.string s] w fun e w' => e = .returned (.tuple #[.string (Utf8.encode v), .int .i64 k]) ∧ Below w.heap.size w w' from he)
        dsimp only
        generalize Utf8.encode v = V at *
        clear he hR0 HI hg h34 hE h92
        go_enter Try.func19, Try.ntmps19
        go_wp2_with fail
        refine HE.out.mono ?_
        rintro e w1 ⟨rfl, hb⟩
        go_wp2
        go_ret
        exact ⟨rfl, hb⟩
    · rw [if_neg h92]
      have g2 : (((s[0]'h0).toNat : Int) == 92) = false := beq_eq_false_iff_ne.2 (by rw [hg]; omega)
      clear he hR0 hg h34 h92
      go_enter Try.func19, Try.ntmps19
      go_wp2_with fail
      refine HI.out.mono ?_
      rintro e w1 ⟨rfl, hb⟩
      go_wp2
      go_ret
      exact ⟨rfl, hb⟩
end Go.Proofs.Ytmkchfpmlidaiaa
