/- chars.Escape: what it answers of any text. -/
import Derived.Test.YtmkchfpmlidaiaaChN
namespace Go.Proofs.Ytmkchfpmlidaiaa
open Go.RowKit
open Go.Proofs.Ytmkchfpmlidaiaa.Es

/-- What a call that reads an escape returns. -/
def escR (o : Option (Int × Nat)) : Value := .tuple #[.string (txtOf o), .int .i64 (lenOf o)]
theorem conv_rune (n : Int) (w : World) : (convert 21 9 (.int .i32 n)).run Try.prog w = .ok (.string (Utf8.encode n)) w := by
  simp [convert, run_underlying Try.underlying21, run_underlying Try.underlying9, Conv.intToString]

set_option maxHeartbeats 1000000 in
set_option maxRecDepth 100000 in
theorem escape_any (s : ByteArray) (w : World) (hs : s.size ≤ maxLen) :
    Calls Try.prog 31 #[.string s] w fun e w' => e = .returned (escR (esc s.data.toList)) ∧ Below w.heap.size w w' := by
  unfold maxLen at hs
  have hl : s.data.toList.length = s.size := (Lib.size_eq s).symm
  by_cases h2 : 2 ≤ s.size
  · have hlt : decide ((s.size : Int) < 2) = false := by simp; omega
    have i0 : 0 < s.size := Nat.lt_of_lt_of_le (by decide) h2
    have i1 : 1 < s.size := h2
    have hL := list_two s h2
    have hr : (s.data.toList.drop 2).length = s.size - 2 := by rw [List.length_drop, hl]
    have hb0 : (s[1]'i1).toNat < 256 := UInt8.toNat_lt _
    by_cases h9 : (s[0]'i0).toNat = 92
    · have g9 : (((s[0]'i0).toNat : Int) != 92) = false := by rw [h9]; rfl
      cases hs1 : shortI (s[1]'i1).toNat with
      | some v =>
        have hE := esc_simple (r := s.data.toList.drop 2) h9 hs1
        rw [← hL] at hE
        have hE2 : escR (esc s.data.toList) = .tuple #[.string (Utf8.encode v), .int .i64 2] := by rw [hE]; rfl
        have HS := Lib.hid hE2
        have H1 := Lib.hid hs1
        have hcv := conv_rune v w
        clear hE hE2 hs1 hL hl hr h9
        generalize Utf8.encode v = V at *
        go_enter Try.func31, Try.ntmps31
        go_wp2_with fail
        refine (short_some _ v w (by omega) (by omega) H1.out).mono ?_
        rintro e w1 ⟨rfl, rfl⟩
        go_wp2
        go_ret2
        exact ⟨by rw [HS.out]; rfl, Below.refl _ _⟩
      | none =>
        have HN := Lib.hid hs1
        have hdg := digits_any (s[1]'i1).toNat w
        rcases digsI_or (s[1]'i1).toNat with hd | hd | hd | hd
        · have hE := esc_lacks (r := s.data.toList.drop 2) h9 hs1 (.inl hd)
          rw [← hL] at hE
          have HS := Lib.hid hE
          rw [hd] at hdg
          have HD := Lib.hid hdg
          clear hE hs1 hL hl hr h9 hd hdg
          go_enter Try.func31, Try.ntmps31
          go_wp2_with fail
          refine (short_none _ w (by omega) (by omega) HN.out).mono ?_
          rintro e w1 ⟨rfl, rfl⟩
          go_wp2_with fail
          refine HD.out.mono ?_
          rintro e w1 ⟨rfl, rfl⟩
          go_wp2
          go_ret2
          exact ⟨by rw [HS.out]; rfl, Below.refl _ _⟩
        · by_cases h3 : s.size < 4
          · have hE := esc_lacks (r := s.data.toList.drop 2) h9 hs1 (.inr (by rw [hd, hr]; omega))
            rw [← hL] at hE
            have HS := Lib.hid hE
            rw [hd] at hdg
            have HD := Lib.hid hdg
            have hlt2 : ((s.size : Int)) < 4 := by omega
            clear hE hs1 hL hl hr h9 hd hdg h3
            go_enter Try.func31, Try.ntmps31
            go_wp2_with fail
            refine (short_none _ w (by omega) (by omega) HN.out).mono ?_
            rintro e w1 ⟨rfl, rfl⟩
            go_wp2_with fail
            refine HD.out.mono ?_
            rintro e w1 ⟨rfl, rfl⟩
            go_wp2
            go_ret2
            exact ⟨by rw [HS.out]; rfl, Below.refl _ _⟩
          · have hle2 : (4 : Int) ≤ s.size := by omega
            have hln : digsI (s[1]'i1).toNat ≤ (s.data.toList.drop 2).length := by rw [hd, hr]; omega
            have htk : (s.data.toList.drop 2).take (digsI (s[1]'i1).toNat) = (s.extract 2 4).data.toList := by rw [hd, ext_list]
            have htz : (s.extract 2 4).size ≤ 8 := by rw [ByteArray.size_extract]; omega
            have hnb := number_any (s.extract 2 4) w htz
            cases hsn : sign (s.extract 2 4).data.toList with
            | none =>
              have hE := esc_bad (r := s.data.toList.drop 2) h9 hs1 (by rw [hd]; decide) hln (by rw [htk]; exact hsn)
              rw [← hL] at hE
              have HS := Lib.hid hE
              rw [hd] at hdg
              rw [hsn] at hnb
              have HD := Lib.hid hdg
              have HB := Lib.hid hnb
              clear hE hs1 hL hl hr h9 hd hdg h3 hnb hsn htz htk hln
              go_enter Try.func31, Try.ntmps31
              go_wp2_with fail
              refine (short_none _ w (by omega) (by omega) HN.out).mono ?_
              rintro e w1 ⟨rfl, rfl⟩
              go_wp2_with fail
              refine HD.out.mono ?_
              rintro e w1 ⟨rfl, rfl⟩
              go_wp2_with fail
              refine HB.out.mono ?_
              rintro e w1 ⟨rfl, hb⟩
              unfold optR
              go_wp2
              go_ret2
              exact ⟨by rw [HS.out]; rfl, hb⟩
            | some v =>
              have hE := esc_good (r := s.data.toList.drop 2) h9 hs1 (by rw [hd]; decide) hln (by rw [htk]; exact hsn)
              rw [← hL, hd] at hE
              have hE2 : escR (esc s.data.toList) = .tuple #[.string (Utf8.encode v), .int .i64 4] := by rw [hE]; rfl
              have HS := Lib.hid hE2
              rw [hd] at hdg
              rw [hsn] at hnb
              have HD := Lib.hid hdg
              have HB := Lib.hid hnb
              have hcv := conv_rune v
              clear hE hE2 hs1 hL hl hr h9 hd hdg h3 hnb hsn htz htk hln
              generalize Utf8.encode v = V at *
              go_enter Try.func31, Try.ntmps31
              go_wp2_with fail
              refine (short_none _ w (by omega) (by omega) HN.out).mono ?_
              rintro e w1 ⟨rfl, rfl⟩
              go_wp2_with fail
              refine HD.out.mono ?_
              rintro e w1 ⟨rfl, rfl⟩
              go_wp2_with fail
              refine HB.out.mono ?_
              rintro e w1 ⟨rfl, hb⟩
              unfold optR
              go_wp2
              go_ret2
              exact ⟨by rw [HS.out]; rfl, hb⟩
        · by_cases h3 : s.size < 6
          · have hE := esc_lacks (r := s.data.toList.drop 2) h9 hs1 (.inr (by rw [hd, hr]; omega))
            rw [← hL] at hE
            have HS := Lib.hid hE
            rw [hd] at hdg
            have HD := Lib.hid hdg
            have hlt2 : ((s.size : Int)) < 6 := by omega
            clear hE hs1 hL hl hr h9 hd hdg h3
            go_enter Try.func31, Try.ntmps31
            go_wp2_with fail
            refine (short_none _ w (by omega) (by omega) HN.out).mono ?_
            rintro e w1 ⟨rfl, rfl⟩
            go_wp2_with fail
            refine HD.out.mono ?_
            rintro e w1 ⟨rfl, rfl⟩
            go_wp2
            go_ret2
            exact ⟨by rw [HS.out]; rfl, Below.refl _ _⟩
          · have hle2 : (6 : Int) ≤ s.size := by omega
            have hln : digsI (s[1]'i1).toNat ≤ (s.data.toList.drop 2).length := by rw [hd, hr]; omega
            have htk : (s.data.toList.drop 2).take (digsI (s[1]'i1).toNat) = (s.extract 2 6).data.toList := by rw [hd, ext_list]
            have htz : (s.extract 2 6).size ≤ 8 := by rw [ByteArray.size_extract]; omega
            have hnb := number_any (s.extract 2 6) w htz
            cases hsn : sign (s.extract 2 6).data.toList with
            | none =>
              have hE := esc_bad (r := s.data.toList.drop 2) h9 hs1 (by rw [hd]; decide) hln (by rw [htk]; exact hsn)
              rw [← hL] at hE
              have HS := Lib.hid hE
              rw [hd] at hdg
              rw [hsn] at hnb
              have HD := Lib.hid hdg
              have HB := Lib.hid hnb
              clear hE hs1 hL hl hr h9 hd hdg h3 hnb hsn htz htk hln
              go_enter Try.func31, Try.ntmps31
              go_wp2_with fail
              refine (short_none _ w (by omega) (by omega) HN.out).mono ?_
              rintro e w1 ⟨rfl, rfl⟩
              go_wp2_with fail
              refine HD.out.mono ?_
              rintro e w1 ⟨rfl, rfl⟩
              go_wp2_with fail
              refine HB.out.mono ?_
              rintro e w1 ⟨rfl, hb⟩
              unfold optR
              go_wp2
              go_ret2
              exact ⟨by rw [HS.out]; rfl, hb⟩
            | some v =>
              have hE := esc_good (r := s.data.toList.drop 2) h9 hs1 (by rw [hd]; decide) hln (by rw [htk]; exact hsn)
              rw [← hL, hd] at hE
              have hE2 : escR (esc s.data.toList) = .tuple #[.string (Utf8.encode v), .int .i64 6] := by rw [hE]; rfl
              have HS := Lib.hid hE2
              rw [hd] at hdg
              rw [hsn] at hnb
              have HD := Lib.hid hdg
              have HB := Lib.hid hnb
              have hcv := conv_rune v
              clear hE hE2 hs1 hL hl hr h9 hd hdg h3 hnb hsn htz htk hln
              generalize Utf8.encode v = V at *
              go_enter Try.func31, Try.ntmps31
              go_wp2_with fail
              refine (short_none _ w (by omega) (by omega) HN.out).mono ?_
              rintro e w1 ⟨rfl, rfl⟩
              go_wp2_with fail
              refine HD.out.mono ?_
              rintro e w1 ⟨rfl, rfl⟩
              go_wp2_with fail
              refine HB.out.mono ?_
              rintro e w1 ⟨rfl, hb⟩
              unfold optR
              go_wp2
              go_ret2
              exact ⟨by rw [HS.out]; rfl, hb⟩
        · by_cases h3 : s.size < 10
          · have hE := esc_lacks (r := s.data.toList.drop 2) h9 hs1 (.inr (by rw [hd, hr]; omega))
            rw [← hL] at hE
            have HS := Lib.hid hE
            rw [hd] at hdg
            have HD := Lib.hid hdg
            have hlt2 : ((s.size : Int)) < 10 := by omega
            clear hE hs1 hL hl hr h9 hd hdg h3
            go_enter Try.func31, Try.ntmps31
            go_wp2_with fail
            refine (short_none _ w (by omega) (by omega) HN.out).mono ?_
            rintro e w1 ⟨rfl, rfl⟩
            go_wp2_with fail
            refine HD.out.mono ?_
            rintro e w1 ⟨rfl, rfl⟩
            go_wp2
            go_ret2
            exact ⟨by rw [HS.out]; rfl, Below.refl _ _⟩
          · have hle2 : (10 : Int) ≤ s.size := by omega
            have hln : digsI (s[1]'i1).toNat ≤ (s.data.toList.drop 2).length := by rw [hd, hr]; omega
            have htk : (s.data.toList.drop 2).take (digsI (s[1]'i1).toNat) = (s.extract 2 10).data.toList := by rw [hd, ext_list]
            have htz : (s.extract 2 10).size ≤ 8 := by rw [ByteArray.size_extract]; omega
            have hnb := number_any (s.extract 2 10) w htz
            cases hsn : sign (s.extract 2 10).data.toList with
            | none =>
              have hE := esc_bad (r := s.data.toList.drop 2) h9 hs1 (by rw [hd]; decide) hln (by rw [htk]; exact hsn)
              rw [← hL] at hE
              have HS := Lib.hid hE
              rw [hd] at hdg
              rw [hsn] at hnb
              have HD := Lib.hid hdg
              have HB := Lib.hid hnb
              clear hE hs1 hL hl hr h9 hd hdg h3 hnb hsn htz htk hln
              go_enter Try.func31, Try.ntmps31
              go_wp2_with fail
              refine (short_none _ w (by omega) (by omega) HN.out).mono ?_
              rintro e w1 ⟨rfl, rfl⟩
              go_wp2_with fail
              refine HD.out.mono ?_
              rintro e w1 ⟨rfl, rfl⟩
              go_wp2_with fail
              refine HB.out.mono ?_
              rintro e w1 ⟨rfl, hb⟩
              unfold optR
              go_wp2
              go_ret2
              exact ⟨by rw [HS.out]; rfl, hb⟩
            | some v =>
              have hE := esc_good (r := s.data.toList.drop 2) h9 hs1 (by rw [hd]; decide) hln (by rw [htk]; exact hsn)
              rw [← hL, hd] at hE
              have hE2 : escR (esc s.data.toList) = .tuple #[.string (Utf8.encode v), .int .i64 10] := by rw [hE]; rfl
              have HS := Lib.hid hE2
              rw [hd] at hdg
              rw [hsn] at hnb
              have HD := Lib.hid hdg
              have HB := Lib.hid hnb
              have hcv := conv_rune v
              clear hE hE2 hs1 hL hl hr h9 hd hdg h3 hnb hsn htz htk hln
              generalize Utf8.encode v = V at *
              go_enter Try.func31, Try.ntmps31
              go_wp2_with fail
              refine (short_none _ w (by omega) (by omega) HN.out).mono ?_
              rintro e w1 ⟨rfl, rfl⟩
              go_wp2_with fail
              refine HD.out.mono ?_
              rintro e w1 ⟨rfl, rfl⟩
              go_wp2_with fail
              refine HB.out.mono ?_
              rintro e w1 ⟨rfl, hb⟩
              unfold optR
              go_wp2
              go_ret2
              exact ⟨by rw [HS.out]; rfl, hb⟩
    · have HS := Lib.hid (esc_other (c := s[1]'(by omega)) (r := s.data.toList.drop 2) h9)
      rw [← hL] at HS
      have g9 : (((s[0]'i0).toNat : Int) != 92) = true := by rw [bne_iff_ne]; omega
      clear hL hl hr h9
      go_enter Try.func31, Try.ntmps31
      go_wp2
      all_goals
        go_ret2
        exact ⟨by rw [HS.out]; rfl, Below.refl _ _⟩
  · have HS := Lib.hid (esc_short (s := s.data.toList) (by omega))
    have hlt : decide ((s.size : Int) < 2) = true := by simp; omega
    clear hl
    go_enter Try.func31, Try.ntmps31
    go_wp2
    all_goals
      go_ret2
      exact ⟨by rw [HS.out]; rfl, Below.refl _ _⟩
end Go.Proofs.Ytmkchfpmlidaiaa
