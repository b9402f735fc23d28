/- The chapter's own words (correctorref7): Write. -/
import Derived.Test.YtmkchfpmlidaiaaQf
import Derived.Test.YtmkchfpmlidaiaaQg
import Derived.BigQuiet
import Derived.Deep.QuietTactic
namespace Go.Proofs.Ytmkchfpmlidaiaa
open Go.RowKit
open Go.Proofs.Ytmkchfpmlidaiaa.Sg
open Go.Proofs.Ytmkchfpmlidaiaa.Qo
set_option linter.unusedVariables false

/-- What has been written of the first k. -/
def Rw (s : ByteArray) (k : Nat) (out : ByteArray) : Prop := out.data.toList = 34 :: body (s.data.toList.take k)
theorem Rw.next {s out o2 : ByteArray} {k : Nat} (h : Rw s k out) (hk : k < s.size) (e : o2.data.toList = out.data.toList ++ one (s.get! k)) : Rw s (k + 1) o2 := by
  unfold Rw at *
  rw [e, h, take_snoc s k hk, body_snoc]
  rfl
theorem Rw.last {s out : ByteArray} (h : Rw s s.size out) : ba (writeT s.data.toList) = out ++ ⟨#[34]⟩ := by
  unfold Rw at h
  rw [List.take_of_length_le (by rw [← Lib.size_eq]; exact Nat.le_refl _)] at h
  refine ba_of ?_
  rw [tol_app', h]
  rfl
/-- hex[k:k+1]. -/
theorem hex_cut (k : Nat) (h : k < 16) : ∃ d : ByteArray, (∀ W : World, (Instr.slice 9 (.string ⟨#[48, 49, 50, 51, 52, 53, 54, 55, 56, 57, 97, 98, 99, 100, 101, 102]⟩) (some (.int .u8 (k : Int))) (some (.int .u8 ((k : Int) + 1))) none).run Try.prog W = .ok (.string d) W) ∧ d.data.toList = [dig k] ∧ d.size = 1 := by
  have key : ∀ k : Fin 16, ((⟨#[48, 49, 50, 51, 52, 53, 54, 55, 56, 57, 97, 98, 99, 100, 101, 102]⟩ : ByteArray).extract k.val (k.val + 1)).data.toList = [dig k.val] := by decide +kernel
  have h2 := key ⟨k, h⟩
  simp only at h2
  have hz : (⟨#[48, 49, 50, 51, 52, 53, 54, 55, 56, 57, 97, 98, 99, 100, 101, 102]⟩ : ByteArray).size = 16 := rfl
  refine ⟨(⟨#[48, 49, 50, 51, 52, 53, 54, 55, 56, 57, 97, 98, 99, 100, 101, 102]⟩ : ByteArray).extract k (k + 1), fun W => ?_, h2, by rw [Lib.size_eq, h2]; rfl⟩
  rw [run_slice_string W 9 ⟨#[48, 49, 50, 51, 52, 53, 54, 55, 56, 57, 97, 98, 99, 100, 101, 102]⟩ .u8 .u8 k (k + 1) Try.underlying9 (by omega) (by omega) (by rw [hz]; omega)]
  simp
set_option maxHeartbeats 4000000 in
set_option maxRecDepth 100000 in
theorem rWrite (s : ByteArray) (w : World) (hs : s.size ≤ 100000) :
    Calls Try.prog 15 #[.string s] w fun e w' => e = .returned (.string (ba (writeT s.data.toList))) ∧ Below w.heap.size w w' := by
  obtain ⟨T, hT⟩ : ∃ T, ba (writeT s.data.toList) = T := ⟨_, rfl⟩
  have HE := Lib.hid hT
  rw [hT]
  clear hT
  have e1 : (⟨#[92]⟩ : ByteArray).size = 1 := rfl
  have e2 : (⟨#[34]⟩ : ByteArray).size = 1 := rfl
  have e3 : (⟨#[92, 48]⟩ : ByteArray).size = 2 := rfl
  have e4 : (⟨#[92, 116]⟩ : ByteArray).size = 2 := rfl
  have e5 : (⟨#[92, 110]⟩ : ByteArray).size = 2 := rfl
  have e6 : (⟨#[92, 114]⟩ : ByteArray).size = 2 := rfl
  have e7 : (⟨#[92, 120]⟩ : ByteArray).size = 2 := rfl
  go_enter Try.func15, Try.ntmps15
  go_wp2_with fail
  go_loopw [4, 5] (fun ov kv wx => ∃ (k : Nat) (out : ByteArray), .string out = ov ∧ kv = .int .i64 k ∧ k ≤ s.size ∧ out.size ≤ 4 * k + 1 ∧ Hid (Rw s k out) ∧ Below w.heap.size w wx) (fun _ kv _ => s.size - (intOf kv).toNat)
  case atStart => exact ⟨0, ⟨#[34]⟩, rfl, rfl, Nat.zero_le _, by decide, Lib.hid rfl, Below.refl _ w⟩
  case round =>
    obtain ⟨k, out, rfl, rfl, hk, hoz, HR, hb⟩ := hrel
    by_cases hlt : k < s.size
    · have hki : (k : Int) < (s.size : Int) := by omega
      have hg : (s[k]'hlt) = s.get! k := Sc.get_el s k hlt
      obtain ⟨c, hcut, hcl, hcz⟩ := str_cut1 s k hlt
      have hcat : ¬ (9223372036854775807 < out.size + c.size) := by omega
      have hlt256 : ((s[k]'hlt).toNat : Int) < 256 := by have := UInt8.toNat_lt (s[k]'hlt); omega
      obtain ⟨x, hx⟩ : ∃ x, (s.get! k).toNat = x := ⟨_, rfl⟩
      have hxs : (s[k]'hlt).toNat = x := by rw [hg]; exact hx
      rw [hxs] at hlt256
      by_cases q34 : x = 34
      · have q := q34
        have g34 : (((s[k]'hlt).toNat : Int) == 34) = true := by rw [hxs]; subst q; rfl
        have g92 : (((s[k]'hlt).toNat : Int) == 92) = false := by rw [hxs]; exact beq_eq_false_iff_ne.2 (by omega)
        have g0 : (((s[k]'hlt).toNat : Int) == 0) = false := by rw [hxs]; exact beq_eq_false_iff_ne.2 (by omega)
        have g9 : (((s[k]'hlt).toNat : Int) == 9) = false := by rw [hxs]; exact beq_eq_false_iff_ne.2 (by omega)
        have g10 : (((s[k]'hlt).toNat : Int) == 10) = false := by rw [hxs]; exact beq_eq_false_iff_ne.2 (by omega)
        have g13 : (((s[k]'hlt).toNat : Int) == 13) = false := by rw [hxs]; exact beq_eq_false_iff_ne.2 (by omega)
        have hc : s.get! k = 34 := Qo.u8_eq _ 34 (hx.trans q)
        have HN := Lib.hid (HR.out.next (o2 := (out ++ ⟨#[92]⟩) ++ c) hlt (by rw [tol_app', tol_app', hcl, hc, List.append_assoc]; rfl))
        have n1 : ¬ (9223372036854775807 < out.size + (⟨#[92]⟩ : ByteArray).size) := by rw [e1]; omega
        have n2 : ¬ (9223372036854775807 < out.size + (⟨#[92]⟩ : ByteArray).size + c.size) := by rw [e1]; omega
        have n3 : ¬ (9223372036854775807 < (out ++ ⟨#[92]⟩).size + c.size) := by rw [Sg.app_size, e1]; omega
        clear hg hcl hx hxs hc HR q q34
        go_wp2_with fail
        go_roundw
        case rel => exact ⟨k + 1, (out ++ ⟨#[92]⟩) ++ c, rfl, by go_num, by omega, by simp only [Sg.app_size]; omega, HN, hb⟩
        case measure => simp [intOf]; omega
      by_cases q92 : x = 92
      · have q := q92
        have g34 : (((s[k]'hlt).toNat : Int) == 34) = false := by rw [hxs]; exact beq_eq_false_iff_ne.2 (by omega)
        have g92 : (((s[k]'hlt).toNat : Int) == 92) = true := by rw [hxs]; subst q; rfl
        have g0 : (((s[k]'hlt).toNat : Int) == 0) = false := by rw [hxs]; exact beq_eq_false_iff_ne.2 (by omega)
        have g9 : (((s[k]'hlt).toNat : Int) == 9) = false := by rw [hxs]; exact beq_eq_false_iff_ne.2 (by omega)
        have g10 : (((s[k]'hlt).toNat : Int) == 10) = false := by rw [hxs]; exact beq_eq_false_iff_ne.2 (by omega)
        have g13 : (((s[k]'hlt).toNat : Int) == 13) = false := by rw [hxs]; exact beq_eq_false_iff_ne.2 (by omega)
        have hc : s.get! k = 92 := Qo.u8_eq _ 92 (hx.trans q)
        have HN := Lib.hid (HR.out.next (o2 := (out ++ ⟨#[92]⟩) ++ c) hlt (by rw [tol_app', tol_app', hcl, hc, List.append_assoc]; rfl))
        have n1 : ¬ (9223372036854775807 < out.size + (⟨#[92]⟩ : ByteArray).size) := by rw [e1]; omega
        have n2 : ¬ (9223372036854775807 < out.size + (⟨#[92]⟩ : ByteArray).size + c.size) := by rw [e1]; omega
        have n3 : ¬ (9223372036854775807 < (out ++ ⟨#[92]⟩).size + c.size) := by rw [Sg.app_size, e1]; omega
        clear hg hcl hx hxs hc HR q q92
        go_wp2_with fail
        go_roundw
        case rel => exact ⟨k + 1, (out ++ ⟨#[92]⟩) ++ c, rfl, by go_num, by omega, by simp only [Sg.app_size]; omega, HN, hb⟩
        case measure => simp [intOf]; omega
      by_cases q0 : x = 0
      · have q := q0
        have g34 : (((s[k]'hlt).toNat : Int) == 34) = false := by rw [hxs]; exact beq_eq_false_iff_ne.2 (by omega)
        have g92 : (((s[k]'hlt).toNat : Int) == 92) = false := by rw [hxs]; exact beq_eq_false_iff_ne.2 (by omega)
        have g0 : (((s[k]'hlt).toNat : Int) == 0) = true := by rw [hxs]; subst q; rfl
        have g9 : (((s[k]'hlt).toNat : Int) == 9) = false := by rw [hxs]; exact beq_eq_false_iff_ne.2 (by omega)
        have g10 : (((s[k]'hlt).toNat : Int) == 10) = false := by rw [hxs]; exact beq_eq_false_iff_ne.2 (by omega)
        have g13 : (((s[k]'hlt).toNat : Int) == 13) = false := by rw [hxs]; exact beq_eq_false_iff_ne.2 (by omega)
        have hc : s.get! k = 0 := Qo.u8_eq _ 0 (hx.trans q)
        have HN := Lib.hid (HR.out.next (o2 := out ++ ⟨#[92, 48]⟩) hlt (by rw [tol_app', hc]; rfl))
        have n1 : ¬ (9223372036854775807 < out.size + (⟨#[92, 48]⟩ : ByteArray).size) := by show ¬ (_ < out.size + 2); omega
        clear hg hcl hx hxs hc HR q q34 q92 q0 hcut
        go_wp2_with fail
        go_roundw
        case rel => exact ⟨k + 1, out ++ ⟨#[92, 48]⟩, rfl, by go_num, by omega, by simp only [Sg.app_size]; omega, HN, hb⟩
        case measure => simp [intOf]; omega
      by_cases q9 : x = 9
      · have q := q9
        have g34 : (((s[k]'hlt).toNat : Int) == 34) = false := by rw [hxs]; exact beq_eq_false_iff_ne.2 (by omega)
        have g92 : (((s[k]'hlt).toNat : Int) == 92) = false := by rw [hxs]; exact beq_eq_false_iff_ne.2 (by omega)
        have g0 : (((s[k]'hlt).toNat : Int) == 0) = false := by rw [hxs]; exact beq_eq_false_iff_ne.2 (by omega)
        have g9 : (((s[k]'hlt).toNat : Int) == 9) = true := by rw [hxs]; subst q; rfl
        have g10 : (((s[k]'hlt).toNat : Int) == 10) = false := by rw [hxs]; exact beq_eq_false_iff_ne.2 (by omega)
        have g13 : (((s[k]'hlt).toNat : Int) == 13) = false := by rw [hxs]; exact beq_eq_false_iff_ne.2 (by omega)
        have hc : s.get! k = 9 := Qo.u8_eq _ 9 (hx.trans q)
        have HN := Lib.hid (HR.out.next (o2 := out ++ ⟨#[92, 116]⟩) hlt (by rw [tol_app', hc]; rfl))
        have n1 : ¬ (9223372036854775807 < out.size + (⟨#[92, 116]⟩ : ByteArray).size) := by show ¬ (_ < out.size + 2); omega
        clear hg hcl hx hxs hc HR q q34 q92 q0 q9 hcut
        go_wp2_with fail
        go_roundw
        case rel => exact ⟨k + 1, out ++ ⟨#[92, 116]⟩, rfl, by go_num, by omega, by simp only [Sg.app_size]; omega, HN, hb⟩
        case measure => simp [intOf]; omega
      by_cases q10 : x = 10
      · have q := q10
        have g34 : (((s[k]'hlt).toNat : Int) == 34) = false := by rw [hxs]; exact beq_eq_false_iff_ne.2 (by omega)
        have g92 : (((s[k]'hlt).toNat : Int) == 92) = false := by rw [hxs]; exact beq_eq_false_iff_ne.2 (by omega)
        have g0 : (((s[k]'hlt).toNat : Int) == 0) = false := by rw [hxs]; exact beq_eq_false_iff_ne.2 (by omega)
        have g9 : (((s[k]'hlt).toNat : Int) == 9) = false := by rw [hxs]; exact beq_eq_false_iff_ne.2 (by omega)
        have g10 : (((s[k]'hlt).toNat : Int) == 10) = true := by rw [hxs]; subst q; rfl
        have g13 : (((s[k]'hlt).toNat : Int) == 13) = false := by rw [hxs]; exact beq_eq_false_iff_ne.2 (by omega)
        have hc : s.get! k = 10 := Qo.u8_eq _ 10 (hx.trans q)
        have HN := Lib.hid (HR.out.next (o2 := out ++ ⟨#[92, 110]⟩) hlt (by rw [tol_app', hc]; rfl))
        have n1 : ¬ (9223372036854775807 < out.size + (⟨#[92, 110]⟩ : ByteArray).size) := by show ¬ (_ < out.size + 2); omega
        clear hg hcl hx hxs hc HR q q34 q92 q0 q9 q10 hcut
        go_wp2_with fail
        go_roundw
        case rel => exact ⟨k + 1, out ++ ⟨#[92, 110]⟩, rfl, by go_num, by omega, by simp only [Sg.app_size]; omega, HN, hb⟩
        case measure => simp [intOf]; omega
      by_cases q13 : x = 13
      · have q := q13
        have g34 : (((s[k]'hlt).toNat : Int) == 34) = false := by rw [hxs]; exact beq_eq_false_iff_ne.2 (by omega)
        have g92 : (((s[k]'hlt).toNat : Int) == 92) = false := by rw [hxs]; exact beq_eq_false_iff_ne.2 (by omega)
        have g0 : (((s[k]'hlt).toNat : Int) == 0) = false := by rw [hxs]; exact beq_eq_false_iff_ne.2 (by omega)
        have g9 : (((s[k]'hlt).toNat : Int) == 9) = false := by rw [hxs]; exact beq_eq_false_iff_ne.2 (by omega)
        have g10 : (((s[k]'hlt).toNat : Int) == 10) = false := by rw [hxs]; exact beq_eq_false_iff_ne.2 (by omega)
        have g13 : (((s[k]'hlt).toNat : Int) == 13) = true := by rw [hxs]; subst q; rfl
        have hc : s.get! k = 13 := Qo.u8_eq _ 13 (hx.trans q)
        have HN := Lib.hid (HR.out.next (o2 := out ++ ⟨#[92, 114]⟩) hlt (by rw [tol_app', hc]; rfl))
        have n1 : ¬ (9223372036854775807 < out.size + (⟨#[92, 114]⟩ : ByteArray).size) := by show ¬ (_ < out.size + 2); omega
        clear hg hcl hx hxs hc HR q q34 q92 q0 q9 q10 q13 hcut
        go_wp2_with fail
        go_roundw
        case rel => exact ⟨k + 1, out ++ ⟨#[92, 114]⟩, rfl, by go_num, by omega, by simp only [Sg.app_size]; omega, HN, hb⟩
        case measure => simp [intOf]; omega
      have hone : one (s.get! k) = if s.get! k < 32 then [92, 120, dig (x / 16), dig (x % 16)] else [s.get! k] := by
        unfold one
        rw [if_neg (fun e => q34 (by rw [← hx, e]; rfl)), if_neg (fun e => q92 (by rw [← hx, e]; rfl)), if_neg (fun e => q0 (by rw [← hx, e]; rfl)), if_neg (fun e => q9 (by rw [← hx, e]; rfl)), if_neg (fun e => q10 (by rw [← hx, e]; rfl)), if_neg (fun e => q13 (by rw [← hx, e]; rfl)), hx]
      by_cases q32 : x < 32
      · have g32 : ((s[k]'hlt).toNat : Int) < 32 := by rw [hxs]; omega
        have g34 : (((s[k]'hlt).toNat : Int) == 34) = false := by rw [hxs]; exact beq_eq_false_iff_ne.2 (by omega)
        have g92 : (((s[k]'hlt).toNat : Int) == 92) = false := by rw [hxs]; exact beq_eq_false_iff_ne.2 (by omega)
        have g0 : (((s[k]'hlt).toNat : Int) == 0) = false := by rw [hxs]; exact beq_eq_false_iff_ne.2 (by omega)
        have g9 : (((s[k]'hlt).toNat : Int) == 9) = false := by rw [hxs]; exact beq_eq_false_iff_ne.2 (by omega)
        have g10 : (((s[k]'hlt).toNat : Int) == 10) = false := by rw [hxs]; exact beq_eq_false_iff_ne.2 (by omega)
        have g13 : (((s[k]'hlt).toNat : Int) == 13) = false := by rw [hxs]; exact beq_eq_false_iff_ne.2 (by omega)
        obtain ⟨d1, hd1, hl1, hz1⟩ := hex_cut (x / 16) (by omega)
        obtain ⟨d2, hd2, hl2, hz2⟩ := hex_cut (x % 16) (by omega)
        have u1 : ((x / 16 : Nat) : Int) = ((s[k]'hlt).toNat : Int) / 16 := by rw [hxs]; omega
        have u2 : ((x % 16 : Nat) : Int) = ((s[k]'hlt).toNat : Int) % 16 := by rw [hxs]; omega
        have ha := and15 ((s[k]'hlt).toNat : Int) (by omega) (by rw [hxs]; exact hlt256)
        have v1 : IntKind.u8.wrap (((s[k]'hlt).toNat : Int) / 16 + 1) = ((s[k]'hlt).toNat : Int) / 16 + 1 := by rw [← u1]; rw [IntKind.wrap_u8]; omega
        have v2 : IntKind.u8.wrap (((s[k]'hlt).toNat : Int) % 16 + 1) = ((s[k]'hlt).toNat : Int) % 16 + 1 := by rw [← u2]; rw [IntKind.wrap_u8]; omega
        rw [u1] at hd1
        rw [u2] at hd2
        have hc : one (s.get! k) = [92, 120, dig (x / 16), dig (x % 16)] := by rw [hone, if_pos (show s.get! k < 32 from (Qo.u8_lt _ 32 (by decide)).2 (by rw [hx]; exact q32))]
        have HN := Lib.hid (HR.out.next (o2 := ((out ++ ⟨#[92, 120]⟩) ++ d1) ++ d2) hlt (by rw [tol_app', tol_app', tol_app', hl1, hl2, hc, List.append_assoc, List.append_assoc]; rfl))
        have n1 : ¬ (9223372036854775807 < out.size + (⟨#[92, 120]⟩ : ByteArray).size) := by rw [e7]; omega
        have n2 : ¬ (9223372036854775807 < out.size + (⟨#[92, 120]⟩ : ByteArray).size + d1.size) := by rw [e7]; omega
        have n3 : ¬ (9223372036854775807 < out.size + (⟨#[92, 120]⟩ : ByteArray).size + d1.size + d2.size) := by rw [e7]; omega
        have n4 : ¬ (9223372036854775807 < (out ++ ⟨#[92, 120]⟩).size + d1.size) := by rw [Sg.app_size, e7]; omega
        have n5 : ¬ (9223372036854775807 < ((out ++ ⟨#[92, 120]⟩) ++ d1).size + d2.size) := by rw [Sg.app_size, Sg.app_size, e7]; omega
        clear hg hcl hx hxs hc HR q34 q92 q0 q9 q10 q13 hcut hone u1 u2 hl1 hl2
        go_wp2_with fail
        go_big_quiet (fail)
        go_wp2_with fail
        go_roundw
        case rel => exact ⟨k + 1, ((out ++ ⟨#[92, 120]⟩) ++ d1) ++ d2, rfl, by go_num, by omega, by simp only [Sg.app_size]; omega, HN, below_drewN hb _⟩
        case measure => simp [intOf]; omega
      · have g32 : ¬ (((s[k]'hlt).toNat : Int) < 32) := by rw [hxs]; omega
        have g34 : (((s[k]'hlt).toNat : Int) == 34) = false := by rw [hxs]; exact beq_eq_false_iff_ne.2 (by omega)
        have g92 : (((s[k]'hlt).toNat : Int) == 92) = false := by rw [hxs]; exact beq_eq_false_iff_ne.2 (by omega)
        have g0 : (((s[k]'hlt).toNat : Int) == 0) = false := by rw [hxs]; exact beq_eq_false_iff_ne.2 (by omega)
        have g9 : (((s[k]'hlt).toNat : Int) == 9) = false := by rw [hxs]; exact beq_eq_false_iff_ne.2 (by omega)
        have g10 : (((s[k]'hlt).toNat : Int) == 10) = false := by rw [hxs]; exact beq_eq_false_iff_ne.2 (by omega)
        have g13 : (((s[k]'hlt).toNat : Int) == 13) = false := by rw [hxs]; exact beq_eq_false_iff_ne.2 (by omega)
        have hc : one (s.get! k) = [s.get! k] := by rw [hone, if_neg (show ¬ s.get! k < 32 from fun h => q32 (by rw [← hx]; exact (Qo.u8_lt _ 32 (by decide)).1 h))]
        have HN := Lib.hid (HR.out.next (o2 := out ++ c) hlt (by rw [tol_app', hcl, hc]))
        clear hg hcl hx hxs hc HR q34 q92 q0 q9 q10 q13 hone
        go_wp2_with fail
        go_roundw
        case rel => exact ⟨k + 1, out ++ c, rfl, by go_num, by omega, by simp only [Sg.app_size]; omega, HN, hb⟩
        case measure => simp [intOf]; omega
    · obtain rfl : k = s.size := by omega
      have hne : ¬ ((s.size : Int) < (s.size : Int)) := by omega
      have hL := HR.out.last
      rw [HE.out] at hL
      have HL := Lib.hid hL
      have n1 : ¬ (9223372036854775807 < out.size + (⟨#[34]⟩ : ByteArray).size) := by rw [e2]; omega
      clear hL HR HE
      go_wp2_with fail
      go_ret
      exact ⟨by rw [HL.out]; rfl, hb⟩
end Go.Proofs.Ytmkchfpmlidaiaa
