/- The walk of correctorlaw5.CharsNone: a backslash with another sign behind, or with digits that lack, is no escape. -/
import Derived.Test.YtnaoichhjnggaaaAid5
import Derived.Test.YtnaoichhjnggaaaCel
import Derived.Test.YtnaoichhjnggaaaRowArg
import Derived.Deep.RegionWith
import Derived.Deep.DeepCutAuto
namespace Go.Proofs.Ytnaoichhjnggaaa
open Go.RowKit
open Go.Proofs.Ytnaoichhjnggaaa.Es
open Go.Proofs.Ytnaoichhjnggaaa.Sg

/-- The letters that may stand behind a backslash. -/
def goodB (c : Int) : Bool := decide (c = 48 ∨ c = 116 ∨ c = 110 ∨ c = 114 ∨ c = 101 ∨ c = 34 ∨ c = 47 ∨ c = 92 ∨ c = 32 ∨ c = 120 ∨ c = 117 ∨ c = 85)

theorem within_nat (x n : Int) (h1 : 1 ≤ n) (h2 : n ≤ 1000) : ∃ m : Nat, (m : Int) < n ∧ ∀ w : World,
    Calls Try.prog 17 #[.int .i64 x, .int .i64 n] w fun e w' => e = .returned (.int .i64 m) ∧ w = w' := by
  have hb := wit_bd x n (by omega)
  refine ⟨(wit x n).toNat, by omega, fun w => ?_⟩
  have h := within_any x n w h1 h2
  rw [show ((wit x n).toNat : Int) = wit x n from by omega]
  exact h

/-- The letter with so many digits behind, and how many they are. -/
def Letter (X : ByteArray) (L : Int) : Prop := ∃ c : UInt8, X = ⟨#[c]⟩ ∧ shortI c.toNat = none ∧ (digsI c.toNat : Int) = L
theorem lacks_at (k : Nat) (hk : k < 3) : ∃ (X : ByteArray) (L : Int),
    (∀ h : k < ([.string ⟨#[120]⟩, .string ⟨#[117]⟩, .string ⟨#[85]⟩] : List Value).length, ([.string ⟨#[120]⟩, .string ⟨#[117]⟩, .string ⟨#[85]⟩] : List Value)[k]'h = .string X) ∧
    (∀ h : k < ([.int .i64 2, .int .i64 4, .int .i64 8] : List Value).length, ([.int .i64 2, .int .i64 4, .int .i64 8] : List Value)[k]'h = .int .i64 L) ∧ 2 ≤ L ∧ L ≤ 8 ∧ X.size = 1 ∧ Letter X L := by
  match k, hk with
  | 0, _ => exact ⟨⟨#[120]⟩, 2, fun _ => rfl, fun _ => rfl, by decide, by decide, rfl, 120, rfl, by decide, by decide⟩
  | 1, _ => exact ⟨⟨#[117]⟩, 4, fun _ => rfl, fun _ => rfl, by decide, by decide, rfl, 117, rfl, by decide, by decide⟩
  | 2, _ => exact ⟨⟨#[85]⟩, 8, fun _ => rfl, fun _ => rfl, by decide, by decide, rfl, 85, rfl, by decide, by decide⟩
theorem lacks_esc {X : ByteArray} {L : Int} (m : Nat) (hX : Letter X L) (hm : (m : Int) < L) :
    escR (esc (((⟨#[92]⟩ : ByteArray) ++ X) ++ ((⟨#[48, 48, 48, 48, 48, 48, 48]⟩ : ByteArray).extract 0 m)).data.toList) = .tuple #[.string ⟨#[]⟩, .int .i64 0] := by
  obtain ⟨c, rfl, hs, hd⟩ := hX
  have e : ((((⟨#[92]⟩ : ByteArray) ++ ⟨#[c]⟩) ++ ((⟨#[48, 48, 48, 48, 48, 48, 48]⟩ : ByteArray).extract 0 m)).data.toList) = 92 :: c :: ((⟨#[48, 48, 48, 48, 48, 48, 48]⟩ : ByteArray).extract 0 m).data.toList := by
    rw [app_list, app_list]; rfl
  have hz : ((⟨#[48, 48, 48, 48, 48, 48, 48]⟩ : ByteArray).extract 0 m).data.toList.length ≤ m := by
    rw [ext_list, List.length_take]; omega
  rw [e, esc_lacks (a := 92) (c := c) (by decide) hs (.inr (by omega))]
  rfl

theorem lacks_size {X : ByteArray} (m : Nat) (hX : X.size = 1) : (((⟨#[92]⟩ : ByteArray) ++ X) ++ ((⟨#[48, 48, 48, 48, 48, 48, 48]⟩ : ByteArray).extract 0 m)).size ≤ 20 := by
  have h : ((⟨#[48, 48, 48, 48, 48, 48, 48]⟩ : ByteArray).extract 0 m).size ≤ 7 := by
    rw [ByteArray.size_extract]
    show min m 7 - 0 ≤ 7
    omega
  rw [app_size, app_size, hX, show (⟨#[92]⟩ : ByteArray).size = 1 from rfl]
  omega
theorem two_good (c : Int) (h0 : 0 ≤ c) (h1 : c ≤ 255) : goodB c = true ∨ lenOf (esc [92, UInt8.ofNat c.toNat]) = 0 := by
  cases hg : goodB c with
  | true => exact .inl rfl
  | false =>
    refine .inr ?_
    simp [goodB] at hg
    have hc : ((UInt8.ofNat c.toNat).toNat : Int) = c := by simp; omega
    have hs : shortI (UInt8.ofNat c.toNat).toNat = none := by
      rw [hc]; unfold shortI
      rw [if_neg (by omega), if_neg (by omega), if_neg (by omega), if_neg (by omega), if_neg (by omega), if_neg (by omega)]
    have hd : digsI (UInt8.ofNat c.toNat).toNat = 0 := by
      rw [hc]; unfold digsI
      rw [if_neg (by omega), if_neg (by omega), if_neg (by omega)]
    rw [esc_lacks (by decide) hs (.inl hd)]
    rfl
theorem two_run (c : Int) (w : World) :
    Calls Try.prog 15 #[.string ((⟨#[92]⟩ : ByteArray) ++ ⟨#[UInt8.ofNat c.toNat]⟩)] w fun e w' => e = .returned (escR (esc [92, UInt8.ofNat c.toNat])) ∧ Below w.heap.size w w' := by
  have g := escape_any ((⟨#[92]⟩ : ByteArray) ++ ⟨#[UInt8.ofNat c.toNat]⟩) w (by rw [app_size]; show 1 + 1 ≤ _; decide)
  rw [app_list] at g
  exact g

set_option maxHeartbeats 4000000 in
set_option maxRecDepth 100000 in
theorem walk_CharsNone (c n : Int) (w : World) (hc : (Lit.int .u8 c).wf = true) (_ : (Lit.int .i64 n).wf = true) :
    Calls Try.prog 6 #[.int .u8 c, .int .i64 n] w fun e w' => e = .returned (.bool true) ∧ Below w.heap.size w w' := by
  obtain ⟨c0, c1⟩ := bounds_u8 hc
  clear hc
  go_enter Try.func6, Try.ntmps6
  go_wp2_with fail
  refine (known_true w).mono ?_
  rintro e w1 ⟨rfl, hb⟩
  go_upto_region 3 with fail
  go_cut [5] (fun g wx => g = .bool (goodB c) ∧ wx = w1)
  case first =>
    cases e0 : (c == 48) with
    | true =>
      have hg : goodB c = true := by have := beq_iff_eq.1 e0; simp [goodB]; omega
      have HG := Lib.hid hg
      clear hg
      go_wp2
      go_meet
      exact ⟨by rw [HG.out], rfl⟩
    | false =>
      cases e1 : (c == 116) with
      | true =>
        have hg : goodB c = true := by have := beq_iff_eq.1 e1; simp [goodB]; omega
        have HG := Lib.hid hg
        clear hg
        go_wp2
        go_meet
        exact ⟨by rw [HG.out], rfl⟩
      | false =>
        cases e2 : (c == 110) with
        | true =>
          have hg : goodB c = true := by have := beq_iff_eq.1 e2; simp [goodB]; omega
          have HG := Lib.hid hg
          clear hg
          go_wp2
          go_meet
          exact ⟨by rw [HG.out], rfl⟩
        | false =>
          cases e3 : (c == 114) with
          | true =>
            have hg : goodB c = true := by have := beq_iff_eq.1 e3; simp [goodB]; omega
            have HG := Lib.hid hg
            clear hg
            go_wp2
            go_meet
            exact ⟨by rw [HG.out], rfl⟩
          | false =>
            cases e4 : (c == 101) with
            | true =>
              have hg : goodB c = true := by have := beq_iff_eq.1 e4; simp [goodB]; omega
              have HG := Lib.hid hg
              clear hg
              go_wp2
              go_meet
              exact ⟨by rw [HG.out], rfl⟩
            | false =>
              cases e5 : (c == 34) with
              | true =>
                have hg : goodB c = true := by have := beq_iff_eq.1 e5; simp [goodB]; omega
                have HG := Lib.hid hg
                clear hg
                go_wp2
                go_meet
                exact ⟨by rw [HG.out], rfl⟩
              | false =>
                cases e6 : (c == 47) with
                | true =>
                  have hg : goodB c = true := by have := beq_iff_eq.1 e6; simp [goodB]; omega
                  have HG := Lib.hid hg
                  clear hg
                  go_wp2
                  go_meet
                  exact ⟨by rw [HG.out], rfl⟩
                | false =>
                  cases e7 : (c == 92) with
                  | true =>
                    have hg : goodB c = true := by have := beq_iff_eq.1 e7; simp [goodB]; omega
                    have HG := Lib.hid hg
                    clear hg
                    go_wp2
                    go_meet
                    exact ⟨by rw [HG.out], rfl⟩
                  | false =>
                    cases e8 : (c == 32) with
                    | true =>
                      have hg : goodB c = true := by have := beq_iff_eq.1 e8; simp [goodB]; omega
                      have HG := Lib.hid hg
                      clear hg
                      go_wp2
                      go_meet
                      exact ⟨by rw [HG.out], rfl⟩
                    | false =>
                      cases e9 : (c == 120) with
                      | true =>
                        have hg : goodB c = true := by have := beq_iff_eq.1 e9; simp [goodB]; omega
                        have HG := Lib.hid hg
                        clear hg
                        go_wp2
                        go_meet
                        exact ⟨by rw [HG.out], rfl⟩
                      | false =>
                        cases e10 : (c == 117) with
                        | true =>
                          have hg : goodB c = true := by have := beq_iff_eq.1 e10; simp [goodB]; omega
                          have HG := Lib.hid hg
                          clear hg
                          go_wp2
                          go_meet
                          exact ⟨by rw [HG.out], rfl⟩
                        | false =>
                          cases e11 : (c == 85) with
                          | true =>
                            have hg : goodB c = true := by have := beq_iff_eq.1 e11; simp [goodB]; omega
                            have HG := Lib.hid hg
                            clear hg
                            go_wp2
                            go_meet
                            exact ⟨by rw [HG.out], rfl⟩
                          | false =>
                            have hg : goodB c = false := by
                              have g0 := beq_eq_false_iff_ne.1 e0
                              have g1 := beq_eq_false_iff_ne.1 e1
                              have g2 := beq_eq_false_iff_ne.1 e2
                              have g3 := beq_eq_false_iff_ne.1 e3
                              have g4 := beq_eq_false_iff_ne.1 e4
                              have g5 := beq_eq_false_iff_ne.1 e5
                              have g6 := beq_eq_false_iff_ne.1 e6
                              have g7 := beq_eq_false_iff_ne.1 e7
                              have g8 := beq_eq_false_iff_ne.1 e8
                              have g9 := beq_eq_false_iff_ne.1 e9
                              have g10 := beq_eq_false_iff_ne.1 e10
                              have g11 := beq_eq_false_iff_ne.1 e11
                              simp [goodB]; omega
                            have HG := Lib.hid hg
                            clear hg
                            go_wp2
                            go_meet
                            exact ⟨by rw [HG.out], rfl⟩
  case rest =>
    obtain ⟨rfl, rfl⟩ := hcut
    go_wp2_with fail
    have hwi := within_any n 3 wc (by decide) (by decide)
    have hwb := wit_bd n 3 (by decide)
    generalize wit n 3 = z at hwi hwb
    refine hwi.mono ?_
    rintro e w2 ⟨rfl, rfl⟩
    clear hwi
    obtain ⟨k, rfl⟩ := Int.eq_ofNat_of_zero_le hwb.1
    have hk3 : k < 3 := by omega
    clear hwb
    go_upto_region 5 with fail
    go_cut [7] (fun s wx => ∃ x : ByteArray, s = .string x ∧ Hid (escR (esc x.data.toList) = .tuple #[.string ⟨#[]⟩, .int .i64 0]) ∧ x.size ≤ 20 ∧ Below wc.heap.size wc wx)
    case first =>
      obtain ⟨X, L, hA1, hB1, hL0, hL1, hX1, hX2⟩ := lacks_at k hk3
      obtain ⟨m, hm, hw2⟩ := within_nat (IntKind.i64.wrap (n.tdiv 3)) L (by omega) (by omega)
      have hm7 : (m : Int) ≤ 7 := by omega
      have hk3' : (k : Int) < 3 := by omega
      have hno := lacks_esc (X := X) m hX2 (by omega)
      have HZ := Lib.hid (lacks_size (X := X) m hX1)
      have HN := Lib.hid hno
      have H2 := Lib.hid hw2
      clear hw2 hno hX2 hm
      go_region_with (go_at_call 17; (with_reducible refine (H2.out _).mono ?_); rintro e w2 ⟨rfl, rfl⟩)
      all_goals
        go_wp2
        go_meet
        refine ⟨_, rfl, ?_, ?_, ?_⟩
        · exact HN
        · exact HZ.out
        · first
          | exact ((Below.refl _ _).alloc (Nat.le_refl _) _).alloc (by simp) _
          | exact (((Below.refl _ _).alloc (Nat.le_refl _) _).alloc (by simp) _).drew
    case rest =>
      obtain ⟨x, rfl, HNx, hsz, hbx⟩ := hcut
      have hE := fun w => escape_any x w (Nat.le_trans hsz (by decide))
      rw [HNx.out] at hE
      have hb2 := hb.trans (hbx.mono hb.size)
      have HE := Lib.hid hE
      clear hE hbx hb HNx hsz
      go_wp2_with fail
      refine (HE.out _).mono ?_
      rintro e w3 ⟨rfl, hb3⟩
      have hb4 := hb2.trans (hb3.mono hb2.size)
      clear hb2 hb3 HE
      have hcv := conv_one c w3 c0 (by omega)
      have hB : Below w3.heap.size w3 (w3.alloc (.cells #[.int .u8 c] 5)) := (Below.refl _ w3).alloc (Nat.le_refl _) _
      have HE2 := Lib.hid (two_run c (w3.alloc (.cells #[.int .u8 c] 5)))
      have hz2 : ((⟨#[UInt8.ofNat c.toNat]⟩ : ByteArray).size : Int) ≤ 1 := by show (1 : Int) ≤ 1; decide
      have HG : Hid (goodB c = true ∨ lenOf (esc [92, UInt8.ofNat c.toNat]) = 0) := Lib.hid (two_good c c0 c1)
      generalize (⟨#[UInt8.ofNat c.toNat]⟩ : ByteArray) = C at *
      go_wp2_with fail
      refine HE2.out.mono ?_
      rintro e w4 ⟨rfl, hb5⟩
      unfold escR
      have hb6 := hb4.trans ((hB.trans (hb5.mono hB.size)).mono hb4.size)
      clear hb4 hB hb5 hcv HE2
      rcases HG.out with hg | hg
      · generalize lenOf (esc [92, UInt8.ofNat c.toNat]) = n0 at *
        rw [hg]
        clear hg HG
        go_wp2
        go_ret
        exact ⟨rfl, hb6⟩
      · rw [hg]
        clear hg HG
        cases hgg : goodB c
        all_goals
          clear hgg
          go_wp2
          go_ret
          exact ⟨by simp, hb6⟩
end Go.Proofs.Ytnaoichhjnggaaa
