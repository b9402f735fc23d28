/- Package rows: behindKey (a goto back to a label). -/
import Derived.Test.YtaokjeopmhbddaaEn1
import Derived.WalkMore
import Derived.ScopeJumps
namespace Go.Proofs.Ytaokjeopmhbddaa
open Go.RowKit
open Go.Proofs.Ytaokjeopmhbddaa.Sg
open Go.Proofs.Ytaokjeopmhbddaa.Sq
set_option linter.unusedVariables false

/-- What stands behind a key's parts. -/
abbrev kAt (ts : List Tk) (p : Nat) : Int := Rw.keyV ts (p + Rw.blanks (ts.drop p))
set_option maxHeartbeats 16000000 in
set_option maxRecDepth 100000 in
theorem pBehind (v : Value) (ts : List Tk) (p0 : Nat) (w : World) (h : Reads encT w v ts) (hs : ts.length ≤ 1000000) (hp0 : p0 ≤ ts.length) :
    Calls Try.prog 33 #[v, .int .i64 p0] w fun e w' => e = .returned (.int .i64 (kAt ts p0)) ∧ w = w' := by
  have HP := Lib.hid (fun p (hp : p ≤ ts.length) => pPast v ts p w h hs hp)
  have HIn := Lib.hid (Rw.blanks_in ts)
  obtain ⟨a, cap, rfl⟩ := h.shape
  have H := Lib.hid (fun j x (hj : ts[j]? = some x) => toks_at h j x hj)
  obtain ⟨V, hV⟩ : ∃ V, kAt ts p0 = V := ⟨_, rfl⟩
  rw [hV]
  have HV0 := Lib.hid hV
  obtain ⟨N, hN⟩ : ∃ N, ts.length = N := ⟨_, rfl⟩
  have HN := Lib.hid hN
  rw [hN] at hs hp0 HP HIn
  rw [hN]
  clear h hN hV
  go_enter Try.func33, Try.ntmps33
  go_wp2
  refine wp_scope_jumps 0 (fun a' w' => w' = w ∧ ∃ (p : Nat) (u5 u6 u7 u8 u9 u10 u11 u12 u13 u14 u15 u16 u17 u18 u19 u20 u21 u22 u23 u24 u25 u26 u27 u28 u29 u30 u31 u32 u33 u34 u35 u36 u37 u38 u39 u40 u41 u42 u43 u44 : Value), a' = { tmps := #[.slice a N cap, .int .i64 p, undef, undef, .int .i64 0, u5, u6, u7, u8, u9, u10, u11, u12, u13, u14, u15, u16, u17, u18, u19, u20, u21, u22, u23, u24, u25, u26, u27, u28, u29, u30, u31, u32, u33, u34, u35, u36, u37, u38, u39, u40, u41, u42, u43, u44], defers := [] } ∧ p ≤ N ∧ Hid (kAt ts p = V)) (fun a' _ => N - (intOf (a'.tmps.getD 1 undef)).toNat) rfl ?_ ?_
  · obtain ⟨p, hpe⟩ : ∃ p, p0 = p := ⟨_, rfl⟩
    rw [hpe] at hp0 HV0 ⊢
    have hp := hp0
    have HV := HV0
    clear hp0 HV0 hpe
    obtain ⟨q, hq⟩ : ∃ q, p + Rw.blanks (ts.drop p) = q := ⟨_, rfl⟩
    have hPp := HP.out p hp
    have hqN := HIn.out p hp
    have hV := HV.out
    unfold kAt at hV
    rw [hq] at hPp hqN hV
    have hpq : p ≤ q := by omega
    have HPp := Lib.hid hPp
    have HVq := Lib.hid hV
    clear hPp hV hq HV
    go_wp2_with fail
    go_step3
    go_wp2_with fail
    refine HPp.out.mono ?_
    rintro e w2 ⟨rfl, rfl⟩
    by_cases hqe : q = N
    · subst hqe
      have hr : V = -1 := by rw [← HVq.out]; exact Rw.keyV_end ts q (by rw [HN.out]; exact Nat.le_refl _)
      subst hr
      clear H HP HIn HPp HVq HN
      go_wp2_with fail
      simp only [Exit.jump]
      go_ret
      exact ⟨rfl, rfl⟩
    have gq : ((q : Int) == (N : Int)) = false := by simp; omega
    have hqi : (q : Int) < (N : Int) := by omega
    obtain ⟨x, hx⟩ : ∃ x, ts[q]? = some x := ⟨_, List.getElem?_eq_getElem (by rw [HN.out]; omega)⟩
    obtain ⟨b, off, rfl, c0, c1, c2⟩ := H.out q x hx
    obtain ⟨K, hK⟩ : ∃ K, x.1 = K := ⟨_, rfl⟩
    have HX := Lib.hid hx
    have HK := Lib.hid hK
    rw [hK] at c0
    clear hx hK c1 c2 hqe
    by_cases q12 : K = 12
    · subst q12
      have HJ := Lib.hid (show kAt ts (q + 1) = V by rw [← HVq.out]; exact (Rw.keyV_prop ts q x HX.out (by rw [HK.out]; rfl)).symm)
      clear H HP HIn HPp HVq HN
      go_wp2_with fail
      go_step3
      refine ⟨rfl, rfl, q + 1, _, _, _, _, _, _, _, _, _, _, _, _, _, _, _, _, _, _, _, _, _, _, _, _, _, _, _, _, _, _, _, _, _, _, _, _, _, _, _, _, rfl, by omega, HJ⟩
    have g12 : ((K : Int) == 12) = false := by simp; omega
    by_cases q14 : K = 14
    · subst q14
      have HJ := Lib.hid (show kAt ts (q + 1) = V by rw [← HVq.out]; exact (Rw.keyV_prop ts q x HX.out (by rw [HK.out]; rfl)).symm)
      clear H HP HIn HPp HVq HN q12 g12
      go_wp2_with fail
      go_step3
      refine ⟨rfl, rfl, q + 1, _, _, _, _, _, _, _, _, _, _, _, _, _, _, _, _, _, _, _, _, _, _, _, _, _, _, _, _, _, _, _, _, _, _, _, _, _, _, _, _, rfl, by omega, HJ⟩
    have g14 : ((K : Int) == 14) = false := by simp; omega
    have hnp : Rw.isProp x.1 = false := by rw [HK.out]; simp [Rw.isProp]; omega
    by_cases q15 : K = 15
    · subst q15
      have hV := (Rw.keyV_scal ts q x HX.out hnp (by rw [HK.out]; rfl)).symm.trans HVq.out
      have hPp := HP.out (q + 1) (by omega)
      have hrN := HIn.out (q + 1) (by omega)
      obtain ⟨r, hr⟩ : ∃ r, q + 1 + Rw.blanks (ts.drop (q + 1)) = r := ⟨_, rfl⟩
      rw [hr] at hPp hrN hV
      have HVr := Lib.hid hV
      rw [show ((q + 1 : Nat) : Int) = (q : Int) + 1 from by omega] at hPp
      have HPr := Lib.hid hPp
      clear hV hPp hr HP HPp HVq HIn hnp q12 q14
      go_wp2_with fail
      refine HPr.out.mono ?_
      rintro e w2 ⟨rfl, rfl⟩
      by_cases hre : r = N
      · subst hre
        have hr : V = -1 := by rw [← HVr.out]; exact Rw.colV_end ts r (by rw [HN.out]; exact Nat.le_refl _)
        subst hr
        have hnr : ¬ ((r : Int) < (r : Int)) := by omega
        clear H HPr HVr HN
        go_wp2_with fail
        simp only [Exit.jump]
        go_ret
        exact ⟨rfl, rfl⟩
      have hri : (r : Int) < (N : Int) := by omega
      obtain ⟨y, hy⟩ : ∃ y, ts[r]? = some y := ⟨_, List.getElem?_eq_getElem (by rw [HN.out]; omega)⟩
      obtain ⟨b9, off9, he, d0, -, -⟩ := H.out r y hy
      injection he with he
      injection he with e1 e2
      subst e1 e2
      have hV := HVr.out
      rw [Rw.colV_at ts r y hy] at hV
      obtain ⟨Y, hY⟩ : ∃ Y, y.1 = Y := ⟨_, rfl⟩
      rw [hY] at d0 hV
      by_cases q6 : Y = 6
      · rw [if_pos q6] at hV
        subst q6
        subst hV
        clear H HPr HVr HN hY hy
        go_wp2_with fail
        simp only [Exit.jump]
        go_ret
        exact ⟨by go_num, rfl⟩
      · rw [if_neg q6] at hV
        subst hV
        have g6 : ((Y : Int) == 6) = false := by simp; omega
        clear H HPr HVr HN hY hy q6
        go_wp2_with fail
        simp only [Exit.jump]
        go_ret
        exact ⟨rfl, rfl⟩
    have g15 : ((K : Int) == 15) = false := by simp; omega
    by_cases q16 : K = 16
    · subst q16
      have hV := (Rw.keyV_scal ts q x HX.out hnp (by rw [HK.out]; rfl)).symm.trans HVq.out
      have hPp := HP.out (q + 1) (by omega)
      have hrN := HIn.out (q + 1) (by omega)
      obtain ⟨r, hr⟩ : ∃ r, q + 1 + Rw.blanks (ts.drop (q + 1)) = r := ⟨_, rfl⟩
      rw [hr] at hPp hrN hV
      have HVr := Lib.hid hV
      rw [show ((q + 1 : Nat) : Int) = (q : Int) + 1 from by omega] at hPp
      have HPr := Lib.hid hPp
      clear hV hPp hr HP HPp HVq HIn hnp q12 q14 q15
      go_wp2_with fail
      refine HPr.out.mono ?_
      rintro e w2 ⟨rfl, rfl⟩
      by_cases hre : r = N
      · subst hre
        have hr : V = -1 := by rw [← HVr.out]; exact Rw.colV_end ts r (by rw [HN.out]; exact Nat.le_refl _)
        subst hr
        have hnr : ¬ ((r : Int) < (r : Int)) := by omega
        clear H HPr HVr HN
        go_wp2_with fail
        simp only [Exit.jump]
        go_ret
        exact ⟨rfl, rfl⟩
      have hri : (r : Int) < (N : Int) := by omega
      obtain ⟨y, hy⟩ : ∃ y, ts[r]? = some y := ⟨_, List.getElem?_eq_getElem (by rw [HN.out]; omega)⟩
      obtain ⟨b9, off9, he, d0, -, -⟩ := H.out r y hy
      injection he with he
      injection he with e1 e2
      subst e1 e2
      have hV := HVr.out
      rw [Rw.colV_at ts r y hy] at hV
      obtain ⟨Y, hY⟩ : ∃ Y, y.1 = Y := ⟨_, rfl⟩
      rw [hY] at d0 hV
      by_cases q6 : Y = 6
      · rw [if_pos q6] at hV
        subst q6
        subst hV
        clear H HPr HVr HN hY hy
        go_wp2_with fail
        simp only [Exit.jump]
        go_ret
        exact ⟨by go_num, rfl⟩
      · rw [if_neg q6] at hV
        subst hV
        have g6 : ((Y : Int) == 6) = false := by simp; omega
        clear H HPr HVr HN hY hy q6
        go_wp2_with fail
        simp only [Exit.jump]
        go_ret
        exact ⟨rfl, rfl⟩
    have g16 : ((K : Int) == 16) = false := by simp; omega
    by_cases q17 : K = 17
    · subst q17
      have hV := (Rw.keyV_scal ts q x HX.out hnp (by rw [HK.out]; rfl)).symm.trans HVq.out
      have hPp := HP.out (q + 1) (by omega)
      have hrN := HIn.out (q + 1) (by omega)
      obtain ⟨r, hr⟩ : ∃ r, q + 1 + Rw.blanks (ts.drop (q + 1)) = r := ⟨_, rfl⟩
      rw [hr] at hPp hrN hV
      have HVr := Lib.hid hV
      rw [show ((q + 1 : Nat) : Int) = (q : Int) + 1 from by omega] at hPp
      have HPr := Lib.hid hPp
      clear hV hPp hr HP HPp HVq HIn hnp q12 q14 q15 q16
      go_wp2_with fail
      refine HPr.out.mono ?_
      rintro e w2 ⟨rfl, rfl⟩
      by_cases hre : r = N
      · subst hre
        have hr : V = -1 := by rw [← HVr.out]; exact Rw.colV_end ts r (by rw [HN.out]; exact Nat.le_refl _)
        subst hr
        have hnr : ¬ ((r : Int) < (r : Int)) := by omega
        clear H HPr HVr HN
        go_wp2_with fail
        simp only [Exit.jump]
        go_ret
        exact ⟨rfl, rfl⟩
      have hri : (r : Int) < (N : Int) := by omega
      obtain ⟨y, hy⟩ : ∃ y, ts[r]? = some y := ⟨_, List.getElem?_eq_getElem (by rw [HN.out]; omega)⟩
      obtain ⟨b9, off9, he, d0, -, -⟩ := H.out r y hy
      injection he with he
      injection he with e1 e2
      subst e1 e2
      have hV := HVr.out
      rw [Rw.colV_at ts r y hy] at hV
      obtain ⟨Y, hY⟩ : ∃ Y, y.1 = Y := ⟨_, rfl⟩
      rw [hY] at d0 hV
      by_cases q6 : Y = 6
      · rw [if_pos q6] at hV
        subst q6
        subst hV
        clear H HPr HVr HN hY hy
        go_wp2_with fail
        simp only [Exit.jump]
        go_ret
        exact ⟨by go_num, rfl⟩
      · rw [if_neg q6] at hV
        subst hV
        have g6 : ((Y : Int) == 6) = false := by simp; omega
        clear H HPr HVr HN hY hy q6
        go_wp2_with fail
        simp only [Exit.jump]
        go_ret
        exact ⟨rfl, rfl⟩
    have g17 : ((K : Int) == 17) = false := by simp; omega
    by_cases q13 : K = 13
    · subst q13
      have hV := (Rw.keyV_scal ts q x HX.out hnp (by rw [HK.out]; rfl)).symm.trans HVq.out
      have hPp := HP.out (q + 1) (by omega)
      have hrN := HIn.out (q + 1) (by omega)
      obtain ⟨r, hr⟩ : ∃ r, q + 1 + Rw.blanks (ts.drop (q + 1)) = r := ⟨_, rfl⟩
      rw [hr] at hPp hrN hV
      have HVr := Lib.hid hV
      rw [show ((q + 1 : Nat) : Int) = (q : Int) + 1 from by omega] at hPp
      have HPr := Lib.hid hPp
      clear hV hPp hr HP HPp HVq HIn hnp q12 q14 q15 q16 q17
      go_wp2_with fail
      refine HPr.out.mono ?_
      rintro e w2 ⟨rfl, rfl⟩
      by_cases hre : r = N
      · subst hre
        have hr : V = -1 := by rw [← HVr.out]; exact Rw.colV_end ts r (by rw [HN.out]; exact Nat.le_refl _)
        subst hr
        have hnr : ¬ ((r : Int) < (r : Int)) := by omega
        clear H HPr HVr HN
        go_wp2_with fail
        simp only [Exit.jump]
        go_ret
        exact ⟨rfl, rfl⟩
      have hri : (r : Int) < (N : Int) := by omega
      obtain ⟨y, hy⟩ : ∃ y, ts[r]? = some y := ⟨_, List.getElem?_eq_getElem (by rw [HN.out]; omega)⟩
      obtain ⟨b9, off9, he, d0, -, -⟩ := H.out r y hy
      injection he with he
      injection he with e1 e2
      subst e1 e2
      have hV := HVr.out
      rw [Rw.colV_at ts r y hy] at hV
      obtain ⟨Y, hY⟩ : ∃ Y, y.1 = Y := ⟨_, rfl⟩
      rw [hY] at d0 hV
      by_cases q6 : Y = 6
      · rw [if_pos q6] at hV
        subst q6
        subst hV
        clear H HPr HVr HN hY hy
        go_wp2_with fail
        simp only [Exit.jump]
        go_ret
        exact ⟨by go_num, rfl⟩
      · rw [if_neg q6] at hV
        subst hV
        have g6 : ((Y : Int) == 6) = false := by simp; omega
        clear H HPr HVr HN hY hy q6
        go_wp2_with fail
        simp only [Exit.jump]
        go_ret
        exact ⟨rfl, rfl⟩
    have g13 : ((K : Int) == 13) = false := by simp; omega
    have hV := (Rw.keyV_other ts q x HX.out hnp (by rw [HK.out]; simp [Rw.isScal]; omega)).symm.trans HVq.out
    rw [Rw.colV_at ts q x HX.out, HK.out] at hV
    by_cases q6 : K = 6
    · rw [if_pos q6] at hV
      subst q6
      subst hV
      clear H HP HIn HPp HVq HN hnp q12 g12 q14 g14 q15 g15 q16 g16 q17 g17 q13 g13
      go_wp2_with fail
      simp only [Exit.jump]
      go_ret
      exact ⟨by go_num, rfl⟩
    · rw [if_neg q6] at hV
      subst hV
      have g6 : ((K : Int) == 6) = false := by simp; omega
      clear H HP HIn HPp HVq HN hnp q6 q12 q14 q15 q16 q17 q13
      go_wp2_with fail
      simp only [Exit.jump]
      go_ret
      exact ⟨rfl, rfl⟩
  · rintro a' w' ⟨rfl, p, u5, u6, u7, u8, u9, u10, u11, u12, u13, u14, u15, u16, u17, u18, u19, u20, u21, u22, u23, u24, u25, u26, u27, u28, u29, u30, u31, u32, u33, u34, u35, u36, u37, u38, u39, u40, u41, u42, u43, u44, rfl, hp, HV⟩
    clear hp0 HV0
    obtain ⟨q, hq⟩ : ∃ q, p + Rw.blanks (ts.drop p) = q := ⟨_, rfl⟩
    have hPp := HP.out p hp
    have hqN := HIn.out p hp
    have hV := HV.out
    unfold kAt at hV
    rw [hq] at hPp hqN hV
    have hpq : p ≤ q := by omega
    have HPp := Lib.hid hPp
    have HVq := Lib.hid hV
    clear hPp hV hq HV
    go_wp2_with fail
    refine HPp.out.mono ?_
    rintro e w2 ⟨rfl, rfl⟩
    by_cases hqe : q = N
    · subst hqe
      have hr : V = -1 := by rw [← HVq.out]; exact Rw.keyV_end ts q (by rw [HN.out]; exact Nat.le_refl _)
      subst hr
      clear H HP HIn HPp HVq HN
      go_wp2_with fail
      simp only [Exit.jump]
      go_ret
      exact ⟨rfl, rfl⟩
    have gq : ((q : Int) == (N : Int)) = false := by simp; omega
    have hqi : (q : Int) < (N : Int) := by omega
    obtain ⟨x, hx⟩ : ∃ x, ts[q]? = some x := ⟨_, List.getElem?_eq_getElem (by rw [HN.out]; omega)⟩
    obtain ⟨b, off, rfl, c0, c1, c2⟩ := H.out q x hx
    obtain ⟨K, hK⟩ : ∃ K, x.1 = K := ⟨_, rfl⟩
    have HX := Lib.hid hx
    have HK := Lib.hid hK
    rw [hK] at c0
    clear hx hK c1 c2 hqe
    by_cases q12 : K = 12
    · subst q12
      have HJ := Lib.hid (show kAt ts (q + 1) = V by rw [← HVq.out]; exact (Rw.keyV_prop ts q x HX.out (by rw [HK.out]; rfl)).symm)
      clear H HP HIn HPp HVq HN
      go_wp2_with fail
      go_step3
      refine ⟨rfl, ⟨rfl, q + 1, _, _, _, _, _, _, _, _, _, _, _, _, _, _, _, _, _, _, _, _, _, _, _, _, _, _, _, _, _, _, _, _, _, _, _, _, _, _, _, _, rfl, by omega, HJ⟩, ?_⟩
      simp [intOf]; omega
    have g12 : ((K : Int) == 12) = false := by simp; omega
    by_cases q14 : K = 14
    · subst q14
      have HJ := Lib.hid (show kAt ts (q + 1) = V by rw [← HVq.out]; exact (Rw.keyV_prop ts q x HX.out (by rw [HK.out]; rfl)).symm)
      clear H HP HIn HPp HVq HN q12 g12
      go_wp2_with fail
      go_step3
      refine ⟨rfl, ⟨rfl, q + 1, _, _, _, _, _, _, _, _, _, _, _, _, _, _, _, _, _, _, _, _, _, _, _, _, _, _, _, _, _, _, _, _, _, _, _, _, _, _, _, _, rfl, by omega, HJ⟩, ?_⟩
      simp [intOf]; omega
    have g14 : ((K : Int) == 14) = false := by simp; omega
    have hnp : Rw.isProp x.1 = false := by rw [HK.out]; simp [Rw.isProp]; omega
    by_cases q15 : K = 15
    · subst q15
      have hV := (Rw.keyV_scal ts q x HX.out hnp (by rw [HK.out]; rfl)).symm.trans HVq.out
      have hPp := HP.out (q + 1) (by omega)
      have hrN := HIn.out (q + 1) (by omega)
      obtain ⟨r, hr⟩ : ∃ r, q + 1 + Rw.blanks (ts.drop (q + 1)) = r := ⟨_, rfl⟩
      rw [hr] at hPp hrN hV
      have HVr := Lib.hid hV
      rw [show ((q + 1 : Nat) : Int) = (q : Int) + 1 from by omega] at hPp
      have HPr := Lib.hid hPp
      clear hV hPp hr HP HPp HVq HIn hnp q12 q14
      go_wp2_with fail
      refine HPr.out.mono ?_
      rintro e w2 ⟨rfl, rfl⟩
      by_cases hre : r = N
      · subst hre
        have hr : V = -1 := by rw [← HVr.out]; exact Rw.colV_end ts r (by rw [HN.out]; exact Nat.le_refl _)
        subst hr
        have hnr : ¬ ((r : Int) < (r : Int)) := by omega
        clear H HPr HVr HN
        go_wp2_with fail
        simp only [Exit.jump]
        go_ret
        exact ⟨rfl, rfl⟩
      have hri : (r : Int) < (N : Int) := by omega
      obtain ⟨y, hy⟩ : ∃ y, ts[r]? = some y := ⟨_, List.getElem?_eq_getElem (by rw [HN.out]; omega)⟩
      obtain ⟨b9, off9, he, d0, -, -⟩ := H.out r y hy
      injection he with he
      injection he with e1 e2
      subst e1 e2
      have hV := HVr.out
      rw [Rw.colV_at ts r y hy] at hV
      obtain ⟨Y, hY⟩ : ∃ Y, y.1 = Y := ⟨_, rfl⟩
      rw [hY] at d0 hV
      by_cases q6 : Y = 6
      · rw [if_pos q6] at hV
        subst q6
        subst hV
        clear H HPr HVr HN hY hy
        go_wp2_with fail
        simp only [Exit.jump]
        go_ret
        exact ⟨by go_num, rfl⟩
      · rw [if_neg q6] at hV
        subst hV
        have g6 : ((Y : Int) == 6) = false := by simp; omega
        clear H HPr HVr HN hY hy q6
        go_wp2_with fail
        simp only [Exit.jump]
        go_ret
        exact ⟨rfl, rfl⟩
    have g15 : ((K : Int) == 15) = false := by simp; omega
    by_cases q16 : K = 16
    · subst q16
      have hV := (Rw.keyV_scal ts q x HX.out hnp (by rw [HK.out]; rfl)).symm.trans HVq.out
      have hPp := HP.out (q + 1) (by omega)
      have hrN := HIn.out (q + 1) (by omega)
      obtain ⟨r, hr⟩ : ∃ r, q + 1 + Rw.blanks (ts.drop (q + 1)) = r := ⟨_, rfl⟩
      rw [hr] at hPp hrN hV
      have HVr := Lib.hid hV
      rw [show ((q + 1 : Nat) : Int) = (q : Int) + 1 from by omega] at hPp
      have HPr := Lib.hid hPp
      clear hV hPp hr HP HPp HVq HIn hnp q12 q14 q15
      go_wp2_with fail
      refine HPr.out.mono ?_
      rintro e w2 ⟨rfl, rfl⟩
      by_cases hre : r = N
      · subst hre
        have hr : V = -1 := by rw [← HVr.out]; exact Rw.colV_end ts r (by rw [HN.out]; exact Nat.le_refl _)
        subst hr
        have hnr : ¬ ((r : Int) < (r : Int)) := by omega
        clear H HPr HVr HN
        go_wp2_with fail
        simp only [Exit.jump]
        go_ret
        exact ⟨rfl, rfl⟩
      have hri : (r : Int) < (N : Int) := by omega
      obtain ⟨y, hy⟩ : ∃ y, ts[r]? = some y := ⟨_, List.getElem?_eq_getElem (by rw [HN.out]; omega)⟩
      obtain ⟨b9, off9, he, d0, -, -⟩ := H.out r y hy
      injection he with he
      injection he with e1 e2
      subst e1 e2
      have hV := HVr.out
      rw [Rw.colV_at ts r y hy] at hV
      obtain ⟨Y, hY⟩ : ∃ Y, y.1 = Y := ⟨_, rfl⟩
      rw [hY] at d0 hV
      by_cases q6 : Y = 6
      · rw [if_pos q6] at hV
        subst q6
        subst hV
        clear H HPr HVr HN hY hy
        go_wp2_with fail
        simp only [Exit.jump]
        go_ret
        exact ⟨by go_num, rfl⟩
      · rw [if_neg q6] at hV
        subst hV
        have g6 : ((Y : Int) == 6) = false := by simp; omega
        clear H HPr HVr HN hY hy q6
        go_wp2_with fail
        simp only [Exit.jump]
        go_ret
        exact ⟨rfl, rfl⟩
    have g16 : ((K : Int) == 16) = false := by simp; omega
    by_cases q17 : K = 17
    · subst q17
      have hV := (Rw.keyV_scal ts q x HX.out hnp (by rw [HK.out]; rfl)).symm.trans HVq.out
      have hPp := HP.out (q + 1) (by omega)
      have hrN := HIn.out (q + 1) (by omega)
      obtain ⟨r, hr⟩ : ∃ r, q + 1 + Rw.blanks (ts.drop (q + 1)) = r := ⟨_, rfl⟩
      rw [hr] at hPp hrN hV
      have HVr := Lib.hid hV
      rw [show ((q + 1 : Nat) : Int) = (q : Int) + 1 from by omega] at hPp
      have HPr := Lib.hid hPp
      clear hV hPp hr HP HPp HVq HIn hnp q12 q14 q15 q16
      go_wp2_with fail
      refine HPr.out.mono ?_
      rintro e w2 ⟨rfl, rfl⟩
      by_cases hre : r = N
      · subst hre
        have hr : V = -1 := by rw [← HVr.out]; exact Rw.colV_end ts r (by rw [HN.out]; exact Nat.le_refl _)
        subst hr
        have hnr : ¬ ((r : Int) < (r : Int)) := by omega
        clear H HPr HVr HN
        go_wp2_with fail
        simp only [Exit.jump]
        go_ret
        exact ⟨rfl, rfl⟩
      have hri : (r : Int) < (N : Int) := by omega
      obtain ⟨y, hy⟩ : ∃ y, ts[r]? = some y := ⟨_, List.getElem?_eq_getElem (by rw [HN.out]; omega)⟩
      obtain ⟨b9, off9, he, d0, -, -⟩ := H.out r y hy
      injection he with he
      injection he with e1 e2
      subst e1 e2
      have hV := HVr.out
      rw [Rw.colV_at ts r y hy] at hV
      obtain ⟨Y, hY⟩ : ∃ Y, y.1 = Y := ⟨_, rfl⟩
      rw [hY] at d0 hV
      by_cases q6 : Y = 6
      · rw [if_pos q6] at hV
        subst q6
        subst hV
        clear H HPr HVr HN hY hy
        go_wp2_with fail
        simp only [Exit.jump]
        go_ret
        exact ⟨by go_num, rfl⟩
      · rw [if_neg q6] at hV
        subst hV
        have g6 : ((Y : Int) == 6) = false := by simp; omega
        clear H HPr HVr HN hY hy q6
        go_wp2_with fail
        simp only [Exit.jump]
        go_ret
        exact ⟨rfl, rfl⟩
    have g17 : ((K : Int) == 17) = false := by simp; omega
    by_cases q13 : K = 13
    · subst q13
      have hV := (Rw.keyV_scal ts q x HX.out hnp (by rw [HK.out]; rfl)).symm.trans HVq.out
      have hPp := HP.out (q + 1) (by omega)
      have hrN := HIn.out (q + 1) (by omega)
      obtain ⟨r, hr⟩ : ∃ r, q + 1 + Rw.blanks (ts.drop (q + 1)) = r := ⟨_, rfl⟩
      rw [hr] at hPp hrN hV
      have HVr := Lib.hid hV
      rw [show ((q + 1 : Nat) : Int) = (q : Int) + 1 from by omega] at hPp
      have HPr := Lib.hid hPp
      clear hV hPp hr HP HPp HVq HIn hnp q12 q14 q15 q16 q17
      go_wp2_with fail
      refine HPr.out.mono ?_
      rintro e w2 ⟨rfl, rfl⟩
      by_cases hre : r = N
      · subst hre
        have hr : V = -1 := by rw [← HVr.out]; exact Rw.colV_end ts r (by rw [HN.out]; exact Nat.le_refl _)
        subst hr
        have hnr : ¬ ((r : Int) < (r : Int)) := by omega
        clear H HPr HVr HN
        go_wp2_with fail
        simp only [Exit.jump]
        go_ret
        exact ⟨rfl, rfl⟩
      have hri : (r : Int) < (N : Int) := by omega
      obtain ⟨y, hy⟩ : ∃ y, ts[r]? = some y := ⟨_, List.getElem?_eq_getElem (by rw [HN.out]; omega)⟩
      obtain ⟨b9, off9, he, d0, -, -⟩ := H.out r y hy
      injection he with he
      injection he with e1 e2
      subst e1 e2
      have hV := HVr.out
      rw [Rw.colV_at ts r y hy] at hV
      obtain ⟨Y, hY⟩ : ∃ Y, y.1 = Y := ⟨_, rfl⟩
      rw [hY] at d0 hV
      by_cases q6 : Y = 6
      · rw [if_pos q6] at hV
        subst q6
        subst hV
        clear H HPr HVr HN hY hy
        go_wp2_with fail
        simp only [Exit.jump]
        go_ret
        exact ⟨by go_num, rfl⟩
      · rw [if_neg q6] at hV
        subst hV
        have g6 : ((Y : Int) == 6) = false := by simp; omega
        clear H HPr HVr HN hY hy q6
        go_wp2_with fail
        simp only [Exit.jump]
        go_ret
        exact ⟨rfl, rfl⟩
    have g13 : ((K : Int) == 13) = false := by simp; omega
    have hV := (Rw.keyV_other ts q x HX.out hnp (by rw [HK.out]; simp [Rw.isScal]; omega)).symm.trans HVq.out
    rw [Rw.colV_at ts q x HX.out, HK.out] at hV
    by_cases q6 : K = 6
    · rw [if_pos q6] at hV
      subst q6
      subst hV
      clear H HP HIn HPp HVq HN hnp q12 g12 q14 g14 q15 g15 q16 g16 q17 g17 q13 g13
      go_wp2_with fail
      simp only [Exit.jump]
      go_ret
      exact ⟨by go_num, rfl⟩
    · rw [if_neg q6] at hV
      subst hV
      have g6 : ((K : Int) == 6) = false := by simp; omega
      clear H HP HIn HPp HVq HN hnp q6 q12 q14 q15 q16 q17 q13
      go_wp2_with fail
      simp only [Exit.jump]
      go_ret
      exact ⟨rfl, rfl⟩
end Go.Proofs.Ytaokjeopmhbddaa
