/- correctorref5.Escape: what it answers of any text. (Written by tools/gen_chf.py.) -/
import Derived.Test.YtmkchfpmlidaiaaChR
namespace Go.Proofs.Ytmkchfpmlidaiaa
open Go.RowKit
open Go.Proofs.Ytmkchfpmlidaiaa.Es
open Go.Proofs.Ytmkchfpmlidaiaa.Sg

theorem drop_take (s : ByteArray) (n k : Nat) (hk : k < n) (h : 2 + n ≤ s.size) :
    ((s.data.toList.drop 2).take n).drop k = s[2 + k]'(by omega) :: ((s.data.toList.drop 2).take n).drop (k + 1) := by
  have hl : s.data.toList.length = s.size := (Lib.size_eq s).symm
  have hlt : k < ((s.data.toList.drop 2).take n).length := by rw [List.length_take, List.length_drop, hl]; omega
  rw [List.drop_eq_getElem_cons hlt]
  congr 1
  rw [List.getElem_take, List.getElem_drop]
  rfl
theorem drop_all (s : ByteArray) (n : Nat) : ((s.data.toList.drop 2).take n).drop n = [] := by
  exact List.drop_eq_nil_of_le (by rw [List.length_take]; omega)
theorem pow_bd (v : Int) (k : Nat) (hk : k ≤ 8) (h : v < 16 ^ k) : v < 4294967296 := by
  have h2 : (16 : Int) ^ k ≤ 16 ^ 8 := by
    have := Nat.pow_le_pow_right (n := 16) (by decide) hk
    exact_mod_cast this
  omega
theorem not_valid {v : Int} (h0 : 0 ≤ v) (h : Utf8.valid v = false) : 1114111 < v ∨ (55296 ≤ v ∧ v ≤ 57343 ∧ v ≤ 1114111) := by
  simp [Utf8.valid] at h
  omega
theorem yes_valid {v : Int} (h : Utf8.valid v = true) : 0 ≤ v ∧ v ≤ 1114111 ∧ (v < 55296 ∨ 57343 < v) := by
  simp [Utf8.valid] at h
  omega

set_option maxHeartbeats 4000000 in
set_option maxRecDepth 100000 in
theorem refEscape (s : ByteArray) (w : World) (hs : s.size ≤ maxLen) :
    Calls Try.prog 32 #[.string s] w fun e w' => e = .returned (escR (esc s.data.toList)) ∧ Below w.heap.size w w' := by
  unfold maxLen at hs
  have hl : s.data.toList.length = s.size := (Lib.size_eq s).symm
  by_cases h2 : 2 ≤ s.size
  · have hlt : decide ((s.size : Int) < 2) = false := by simp; omega
    have i0 : 0 < s.size := Nat.lt_of_lt_of_le (by decide) h2
    have i1 : 1 < s.size := h2
    have hL := list_two s h2
    have hr : (s.data.toList.drop 2).length = s.size - 2 := by rw [List.length_drop, hl]
    have hb0 : (s[1]'i1).toNat < 256 := UInt8.toNat_lt _
    by_cases h9 : (s[0]'i0).toNat = 92
    · have g9 : (((s[0]'i0).toNat : Int) != 92) = false := by rw [h9]; rfl
      have hsm := refSimple (s[1]'i1).toNat w (by omega) (by omega)
      cases hs1 : shortI (s[1]'i1).toNat with
      | some v =>
        have hE := esc_simple (r := s.data.toList.drop 2) h9 hs1
        rw [← hL] at hE
        have hE2 : escR (esc s.data.toList) = .tuple #[.string (Utf8.encode v), .int .i64 2] := by rw [hE]; rfl
        have HS := Lib.hid hE2
        rw [hs1] at hsm
        have HM := Lib.hid hsm
        clear hE hE2 hs1 hL hl hr h9 hsm
        go_enter Try.func32, Try.ntmps32
        go_wp2_with fail
        refine HM.out.mono ?_
        rintro e w1 ⟨rfl, hb⟩
        unfold simR
        go_wp2
        go_ret2
        exact ⟨by rw [HS.out]; rfl, hb⟩
      | none =>
        rw [hs1] at hsm
        have HM := Lib.hid hsm
        clear hsm
        rcases digsI_or (s[1]'i1).toNat with hd | hd | hd | hd
        · have hE := esc_lacks (r := s.data.toList.drop 2) h9 hs1 (.inl hd)
          rw [← hL] at hE
          have HS := Lib.hid hE
          have hc : (s[1]'i1).toNat ≠ 85 ∧ (s[1]'i1).toNat ≠ 117 ∧ (s[1]'i1).toNat ≠ 120 := by
            unfold digsI at hd
            (repeat' split at hd) <;> omega
          have c1 : (((s[1]'i1).toNat : Int) == 120) = false := beq_eq_false_iff_ne.2 (by omega)
          have c2 : (((s[1]'i1).toNat : Int) == 117) = false := beq_eq_false_iff_ne.2 (by omega)
          have c3 : (((s[1]'i1).toNat : Int) == 85) = false := beq_eq_false_iff_ne.2 (by omega)
          clear hE hs1 hL hl hr h9 hd hc
          go_enter Try.func32, Try.ntmps32
          go_wp2_with fail
          refine HM.out.mono ?_
          rintro e w1 ⟨rfl, hb⟩
          unfold simR
          go_wp2
          go_ret2
          exact ⟨by rw [HS.out]; rfl, hb⟩
        · have hc : (s[1]'i1).toNat = 120 := by
            unfold digsI at hd
            (repeat' split at hd) <;> omega
          have c1 : (((s[1]'i1).toNat : Int) == 120) = true := by rw [hc]; rfl
          have c2 : (((s[1]'i1).toNat : Int) == 117) = false := by rw [hc]; rfl
          have c3 : (((s[1]'i1).toNat : Int) == 85) = false := by rw [hc]; rfl
          by_cases h3 : s.size < 4
          · have hE := esc_lacks (r := s.data.toList.drop 2) h9 hs1 (.inr (by rw [hd, hr]; omega))
            rw [← hL] at hE
            have HS := Lib.hid hE
            have hlt2 : ((s.size : Int)) < 4 := by omega
            clear hE hs1 hL hl hr h9 hd h3 hc
            go_enter Try.func32, Try.ntmps32
            go_wp2_with fail
            refine HM.out.mono ?_
            rintro e w1 ⟨rfl, hb⟩
            unfold simR
            go_wp2
            go_ret2
            exact ⟨by rw [HS.out]; rfl, hb⟩
          · have hle2 : (4 : Int) ≤ s.size := by omega
            have hln : digsI (s[1]'i1).toNat ≤ (s.data.toList.drop 2).length := by rw [hd, hr]; omega
            have hbad := fun h => esc_bad (r := s.data.toList.drop 2) h9 hs1 (by rw [hd]; decide) hln h
            have hgood := fun v h => esc_good (v := v) (r := s.data.toList.drop 2) h9 hs1 (by rw [hd]; decide) hln h
            rw [← hL, hd] at hbad hgood
            have HB := Lib.hid hbad
            have HG := Lib.hid hgood
            clear hs1 hL hl hr h9 hd h3 hc hbad hgood hln
            go_enter Try.func32, Try.ntmps32
            go_wp2_with fail
            refine HM.out.mono ?_
            rintro e w1 ⟨rfl, hb⟩
            unfold simR
            go_wp2_with fail
            go_loop [7, 8, 9] (fun a i _ => ∃ (k : Nat) (v : Int), a = .int .i64 v ∧ i = .int .i64 k ∧ k ≤ 2 ∧ 0 ≤ v ∧ v < 16 ^ k ∧ num ((s.data.toList.drop 2).take 2) 0 = num (((s.data.toList.drop 2).take 2).drop k) v) (fun _ i _ => 2 - (intOf i).toNat)
            case atStart => exact ⟨0, 0, rfl, rfl, Nat.zero_le _, by decide, by decide, rfl⟩
            case round =>
              obtain ⟨k, v, rfl, rfl, hk, hv0, hv1, hnum⟩ := hrel
              have hv2 := pow_bd v k (by omega) hv1
              by_cases hkl : k < 2
              · have hkk : (k : Int) < 2 := by omega
                have i2 : 2 + k < s.size := by omega
                have hbx : (s[2 + k]'i2).toNat < 256 := UInt8.toNat_lt _
                have hx := refHex (s[2 + k]'i2).toNat w1 (by omega) (by omega)
                rw [drop_take s 2 k hkl (by omega), num] at hnum
                cases hh : hexI (s[2 + k]'i2).toNat with
                | none =>
                  rw [hh] at hx hnum
                  have HE := Lib.hid (HB.out (sign_of_none hnum))
                  have HX := Lib.hid hx
                  clear hx hnum hh
                  go_wp2_with fail
                  refine HX.out.mono ?_
                  rintro e w2 ⟨rfl, rfl⟩
                  unfold hexR
                  go_wp2
                  go_ret2
                  exact ⟨by rw [HE.out]; rfl, hb⟩
                | some d =>
                  rw [hh] at hx hnum
                  have hdb := hexI_bd hh
                  have HN := Lib.hid hnum
                  have HX := Lib.hid hx
                  have hp2 := pow_next v d k (by omega) hv1
                  clear hx hnum hh
                  go_wp2_with fail
                  refine HX.out.mono ?_
                  rintro e w2 ⟨rfl, rfl⟩
                  unfold hexR
                  go_wp2
                  go_round
                  case rel => exact ⟨k + 1, 16 * v + d, rfl, by go_num, by omega, by omega, hp2, HN.out⟩
                  case measure => simp [intOf]; omega
              · obtain rfl : k = 2 := by omega
                rw [drop_all s 2] at hnum
                have hsg := sign_of_num hnum
                cases hval : Utf8.valid v with
                | false =>
                  rw [hval] at hsg
                  have HE := Lib.hid (HB.out hsg)
                  have hnv := not_valid hv0 hval
                  clear hsg hnum hval
                  rcases hnv with hnv | ⟨n1, n2, n3⟩
                  · go_wp2
                    all_goals
                      go_ret2
                      exact ⟨by rw [HE.out]; rfl, hb⟩
                  · go_wp2
                    all_goals
                      go_ret2
                      exact ⟨by rw [HE.out]; rfl, hb⟩
                | true =>
                  rw [hval] at hsg
                  have hE2 : escR (esc s.data.toList) = .tuple #[.string (Utf8.encode v), .int .i64 4] := by rw [HG.out v hsg]; rfl
                  have HE := Lib.hid hE2
                  have HV := Lib.hid hval
                  obtain ⟨y0, y1, hyv⟩ := yes_valid hval
                  clear hsg hnum hval hE2
                  rcases hyv with hyv | hyv
                  all_goals
                    go_wp2_with fail
                    all_goals
                      refine (refWrite v w1 HV.out).mono ?_
                      rintro e w2 ⟨rfl, hby, hb2⟩
                      have hcv := conv_bys hby
                      clear hby
                      generalize Utf8.encode v = V at *
                      go_wp2
                      go_ret2
                      exact ⟨by rw [HE.out]; rfl, hb.trans (hb2.mono hb.size)⟩
        · have hc : (s[1]'i1).toNat = 117 := by
            unfold digsI at hd
            (repeat' split at hd) <;> omega
          have c1 : (((s[1]'i1).toNat : Int) == 120) = false := by rw [hc]; rfl
          have c2 : (((s[1]'i1).toNat : Int) == 117) = true := by rw [hc]; rfl
          have c3 : (((s[1]'i1).toNat : Int) == 85) = false := by rw [hc]; rfl
          by_cases h3 : s.size < 6
          · have hE := esc_lacks (r := s.data.toList.drop 2) h9 hs1 (.inr (by rw [hd, hr]; omega))
            rw [← hL] at hE
            have HS := Lib.hid hE
            have hlt2 : ((s.size : Int)) < 6 := by omega
            clear hE hs1 hL hl hr h9 hd h3 hc
            go_enter Try.func32, Try.ntmps32
            go_wp2_with fail
            refine HM.out.mono ?_
            rintro e w1 ⟨rfl, hb⟩
            unfold simR
            go_wp2
            go_ret2
            exact ⟨by rw [HS.out]; rfl, hb⟩
          · have hle2 : (6 : Int) ≤ s.size := by omega
            have hln : digsI (s[1]'i1).toNat ≤ (s.data.toList.drop 2).length := by rw [hd, hr]; omega
            have hbad := fun h => esc_bad (r := s.data.toList.drop 2) h9 hs1 (by rw [hd]; decide) hln h
            have hgood := fun v h => esc_good (v := v) (r := s.data.toList.drop 2) h9 hs1 (by rw [hd]; decide) hln h
            rw [← hL, hd] at hbad hgood
            have HB := Lib.hid hbad
            have HG := Lib.hid hgood
            clear hs1 hL hl hr h9 hd h3 hc hbad hgood hln
            go_enter Try.func32, Try.ntmps32
            go_wp2_with fail
            refine HM.out.mono ?_
            rintro e w1 ⟨rfl, hb⟩
            unfold simR
            go_wp2_with fail
            go_loop [7, 8, 9] (fun a i _ => ∃ (k : Nat) (v : Int), a = .int .i64 v ∧ i = .int .i64 k ∧ k ≤ 4 ∧ 0 ≤ v ∧ v < 16 ^ k ∧ num ((s.data.toList.drop 2).take 4) 0 = num (((s.data.toList.drop 2).take 4).drop k) v) (fun _ i _ => 4 - (intOf i).toNat)
            case atStart => exact ⟨0, 0, rfl, rfl, Nat.zero_le _, by decide, by decide, rfl⟩
            case round =>
              obtain ⟨k, v, rfl, rfl, hk, hv0, hv1, hnum⟩ := hrel
              have hv2 := pow_bd v k (by omega) hv1
              by_cases hkl : k < 4
              · have hkk : (k : Int) < 4 := by omega
                have i2 : 2 + k < s.size := by omega
                have hbx : (s[2 + k]'i2).toNat < 256 := UInt8.toNat_lt _
                have hx := refHex (s[2 + k]'i2).toNat w1 (by omega) (by omega)
                rw [drop_take s 4 k hkl (by omega), num] at hnum
                cases hh : hexI (s[2 + k]'i2).toNat with
                | none =>
                  rw [hh] at hx hnum
                  have HE := Lib.hid (HB.out (sign_of_none hnum))
                  have HX := Lib.hid hx
                  clear hx hnum hh
                  go_wp2_with fail
                  refine HX.out.mono ?_
                  rintro e w2 ⟨rfl, rfl⟩
                  unfold hexR
                  go_wp2
                  go_ret2
                  exact ⟨by rw [HE.out]; rfl, hb⟩
                | some d =>
                  rw [hh] at hx hnum
                  have hdb := hexI_bd hh
                  have HN := Lib.hid hnum
                  have HX := Lib.hid hx
                  have hp2 := pow_next v d k (by omega) hv1
                  clear hx hnum hh
                  go_wp2_with fail
                  refine HX.out.mono ?_
                  rintro e w2 ⟨rfl, rfl⟩
                  unfold hexR
                  go_wp2
                  go_round
                  case rel => exact ⟨k + 1, 16 * v + d, rfl, by go_num, by omega, by omega, hp2, HN.out⟩
                  case measure => simp [intOf]; omega
              · obtain rfl : k = 4 := by omega
                rw [drop_all s 4] at hnum
                have hsg := sign_of_num hnum
                cases hval : Utf8.valid v with
                | false =>
                  rw [hval] at hsg
                  have HE := Lib.hid (HB.out hsg)
                  have hnv := not_valid hv0 hval
                  clear hsg hnum hval
                  rcases hnv with hnv | ⟨n1, n2, n3⟩
                  · go_wp2
                    all_goals
                      go_ret2
                      exact ⟨by rw [HE.out]; rfl, hb⟩
                  · go_wp2
                    all_goals
                      go_ret2
                      exact ⟨by rw [HE.out]; rfl, hb⟩
                | true =>
                  rw [hval] at hsg
                  have hE2 : escR (esc s.data.toList) = .tuple #[.string (Utf8.encode v), .int .i64 6] := by rw [HG.out v hsg]; rfl
                  have HE := Lib.hid hE2
                  have HV := Lib.hid hval
                  obtain ⟨y0, y1, hyv⟩ := yes_valid hval
                  clear hsg hnum hval hE2
                  rcases hyv with hyv | hyv
                  all_goals
                    go_wp2_with fail
                    all_goals
                      refine (refWrite v w1 HV.out).mono ?_
                      rintro e w2 ⟨rfl, hby, hb2⟩
                      have hcv := conv_bys hby
                      clear hby
                      generalize Utf8.encode v = V at *
                      go_wp2
                      go_ret2
                      exact ⟨by rw [HE.out]; rfl, hb.trans (hb2.mono hb.size)⟩
        · have hc : (s[1]'i1).toNat = 85 := by
            unfold digsI at hd
            (repeat' split at hd) <;> omega
          have c1 : (((s[1]'i1).toNat : Int) == 120) = false := by rw [hc]; rfl
          have c2 : (((s[1]'i1).toNat : Int) == 117) = false := by rw [hc]; rfl
          have c3 : (((s[1]'i1).toNat : Int) == 85) = true := by rw [hc]; rfl
          by_cases h3 : s.size < 10
          · have hE := esc_lacks (r := s.data.toList.drop 2) h9 hs1 (.inr (by rw [hd, hr]; omega))
            rw [← hL] at hE
            have HS := Lib.hid hE
            have hlt2 : ((s.size : Int)) < 10 := by omega
            clear hE hs1 hL hl hr h9 hd h3 hc
            go_enter Try.func32, Try.ntmps32
            go_wp2_with fail
            refine HM.out.mono ?_
            rintro e w1 ⟨rfl, hb⟩
            unfold simR
            go_wp2
            go_ret2
            exact ⟨by rw [HS.out]; rfl, hb⟩
          · have hle2 : (10 : Int) ≤ s.size := by omega
            have hln : digsI (s[1]'i1).toNat ≤ (s.data.toList.drop 2).length := by rw [hd, hr]; omega
            have hbad := fun h => esc_bad (r := s.data.toList.drop 2) h9 hs1 (by rw [hd]; decide) hln h
            have hgood := fun v h => esc_good (v := v) (r := s.data.toList.drop 2) h9 hs1 (by rw [hd]; decide) hln h
            rw [← hL, hd] at hbad hgood
            have HB := Lib.hid hbad
            have HG := Lib.hid hgood
            clear hs1 hL hl hr h9 hd h3 hc hbad hgood hln
            go_enter Try.func32, Try.ntmps32
            go_wp2_with fail
            refine HM.out.mono ?_
            rintro e w1 ⟨rfl, hb⟩
            unfold simR
            go_wp2_with fail
            go_loop [7, 8, 9] (fun a i _ => ∃ (k : Nat) (v : Int), a = .int .i64 v ∧ i = .int .i64 k ∧ k ≤ 8 ∧ 0 ≤ v ∧ v < 16 ^ k ∧ num ((s.data.toList.drop 2).take 8) 0 = num (((s.data.toList.drop 2).take 8).drop k) v) (fun _ i _ => 8 - (intOf i).toNat)
            case atStart => exact ⟨0, 0, rfl, rfl, Nat.zero_le _, by decide, by decide, rfl⟩
            case round =>
              obtain ⟨k, v, rfl, rfl, hk, hv0, hv1, hnum⟩ := hrel
              have hv2 := pow_bd v k (by omega) hv1
              by_cases hkl : k < 8
              · have hkk : (k : Int) < 8 := by omega
                have i2 : 2 + k < s.size := by omega
                have hbx : (s[2 + k]'i2).toNat < 256 := UInt8.toNat_lt _
                have hx := refHex (s[2 + k]'i2).toNat w1 (by omega) (by omega)
                rw [drop_take s 8 k hkl (by omega), num] at hnum
                cases hh : hexI (s[2 + k]'i2).toNat with
                | none =>
                  rw [hh] at hx hnum
                  have HE := Lib.hid (HB.out (sign_of_none hnum))
                  have HX := Lib.hid hx
                  clear hx hnum hh
                  go_wp2_with fail
                  refine HX.out.mono ?_
                  rintro e w2 ⟨rfl, rfl⟩
                  unfold hexR
                  go_wp2
                  go_ret2
                  exact ⟨by rw [HE.out]; rfl, hb⟩
                | some d =>
                  rw [hh] at hx hnum
                  have hdb := hexI_bd hh
                  have HN := Lib.hid hnum
                  have HX := Lib.hid hx
                  have hp2 := pow_next v d k (by omega) hv1
                  clear hx hnum hh
                  go_wp2_with fail
                  refine HX.out.mono ?_
                  rintro e w2 ⟨rfl, rfl⟩
                  unfold hexR
                  go_wp2
                  go_round
                  case rel => exact ⟨k + 1, 16 * v + d, rfl, by go_num, by omega, by omega, hp2, HN.out⟩
                  case measure => simp [intOf]; omega
              · obtain rfl : k = 8 := by omega
                rw [drop_all s 8] at hnum
                have hsg := sign_of_num hnum
                cases hval : Utf8.valid v with
                | false =>
                  rw [hval] at hsg
                  have HE := Lib.hid (HB.out hsg)
                  have hnv := not_valid hv0 hval
                  clear hsg hnum hval
                  rcases hnv with hnv | ⟨n1, n2, n3⟩
                  · go_wp2
                    all_goals
                      go_ret2
                      exact ⟨by rw [HE.out]; rfl, hb⟩
                  · go_wp2
                    all_goals
                      go_ret2
                      exact ⟨by rw [HE.out]; rfl, hb⟩
                | true =>
                  rw [hval] at hsg
                  have hE2 : escR (esc s.data.toList) = .tuple #[.string (Utf8.encode v), .int .i64 10] := by rw [HG.out v hsg]; rfl
                  have HE := Lib.hid hE2
                  have HV := Lib.hid hval
                  obtain ⟨y0, y1, hyv⟩ := yes_valid hval
                  clear hsg hnum hval hE2
                  rcases hyv with hyv | hyv
                  all_goals
                    go_wp2_with fail
                    all_goals
                      refine (refWrite v w1 HV.out).mono ?_
                      rintro e w2 ⟨rfl, hby, hb2⟩
                      have hcv := conv_bys hby
                      clear hby
                      generalize Utf8.encode v = V at *
                      go_wp2
                      go_ret2
                      exact ⟨by rw [HE.out]; rfl, hb.trans (hb2.mono hb.size)⟩
    · have HS := Lib.hid (esc_other (c := s[1]'i1) (r := s.data.toList.drop 2) h9)
      rw [← hL] at HS
      have g9 : (((s[0]'i0).toNat : Int) != 92) = true := by rw [bne_iff_ne]; omega
      clear hL hl hr h9
      go_enter Try.func32, Try.ntmps32
      go_wp2
      all_goals
        go_ret2
        exact ⟨by rw [HS.out]; rfl, Below.refl _ _⟩
  · have HS := Lib.hid (esc_short (s := s.data.toList) (by omega))
    have hlt : decide ((s.size : Int) < 2) = true := by simp; omega
    clear hl
    go_enter Try.func32, Try.ntmps32
    go_wp2
    all_goals
      go_ret2
      exact ⟨by rw [HS.out]; rfl, Below.refl _ _⟩
end Go.Proofs.Ytmkchfpmlidaiaa
