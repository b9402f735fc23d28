/- The walk of correctorlaw6.ScanTexts: rows deeper than the row of a head are its text. -/
import Derived.Test.YtapkejdjbmdebaaDoorSQuiet
import Derived.Test.YtapkejdjbmdebaaDoorSRows
import Derived.Test.YtapkejdjbmdebaaDoorSp9
namespace Go.Proofs.YtapkejdjbmdebaaDoor
open Go.RowKit
open Go.Proofs.YtapkejdjbmdebaaDoor.Sg
open Go.Proofs.YtapkejdjbmdebaaDoor.Sq
set_option linter.unusedVariables false

theorem nats_sp5 (j : Nat) (hj : j ≤ 5) : Sc.nats ((⟨#[32, 32, 32, 32, 32]⟩ : ByteArray).extract 0 j) = Sc.sp j := by
  have key : ∀ i : Fin 6, Sc.nats ((⟨#[32, 32, 32, 32, 32]⟩ : ByteArray).extract 0 i.val) = Sc.sp i.val := by
    intro i
    rw [Sc.nats_head]
    revert i
    decide
  exact key ⟨j, by omega⟩
theorem nats_sp6 (j : Nat) (hj : j ≤ 6) : Sc.nats ((⟨#[32, 32, 32, 32, 32, 32]⟩ : ByteArray).extract 0 j) = Sc.sp j := by
  have key : ∀ i : Fin 7, Sc.nats ((⟨#[32, 32, 32, 32, 32, 32]⟩ : ByteArray).extract 0 i.val) = Sc.sp i.val := by
    intro i
    rw [Sc.nats_head]
    revert i
    decide
  exact key ⟨j, by omega⟩
abbrev sixV : List Value := [.string ⟨#[45, 32, 97]⟩, .string ⟨#[91]⟩, .string ⟨#[34, 111, 112, 101, 110]⟩, .string ⟨#[35, 32, 110, 111, 32, 99, 111, 109, 109, 101, 110, 116]⟩, .string ⟨#[45, 45, 45]⟩, .string ⟨#[38, 120]⟩]
theorem six_at (m : Nat) (hm : m < 6) : ∃ X : ByteArray, X.size ≤ 12 ∧ Sc.nats X ∈ Sc.six ∧ sixV[m]? = some (.string X) := by
  rcases (by omega : m = 0 ∨ m = 1 ∨ m = 2 ∨ m = 3 ∨ m = 4 ∨ m = 5) with rfl | rfl | rfl | rfl | rfl | rfl <;> exact ⟨_, by decide, by decide, rfl⟩
theorem body_snoc (i : Nat) (ws : List (List Nat)) (v : List Nat) : Sc.body i (ws ++ [v]) = Sc.body i ws ++ Sc.lineR i v := by
  simp [Sc.body]
set_option maxHeartbeats 4000000 in
set_option maxRecDepth 100000 in
theorem walk_ScanTexts (a : Int) (v1 : Value) (l : List Int) (w : World) (_ : (Lit.int .i64 a).wf = true) (h1 : Nums .i64 w v1 l) (hT : Tabs w) :
    Calls Tryd.prog 7 #[.int .i64 a, v1] w fun e w' => e = .returned (.bool true) ∧ Below w.heap.size w w' := by
  have hl := h1.len
  obtain ⟨a1, c1, rfl⟩ := h1.shape
  obtain ⟨i, hi, hwi⟩ := within_nat a 5 (by decide) (by decide)
  have hi5 : (i : Int) ≤ 5 := by omega
  have hi0 : (0 : Int) ≤ (i : Int) := by omega
  obtain ⟨s5, hs5⟩ : ∃ s5, (⟨#[32, 32, 32, 32, 32]⟩ : ByteArray).extract 0 i = s5 := ⟨_, rfl⟩
  have n5 : Sc.nats s5 = Sc.sp i := by rw [← hs5]; exact nats_sp5 i (by omega)
  have z5 : s5.size ≤ 5 := by rw [← Sc.nats_len, n5, Sc.sp, List.length_replicate]; omega
  have y5 : ¬ (9223372036854775807 < s5.size + 5) := by omega
  have HK := Lib.hid (known_true w hT)
  have HT := Lib.hid hT
  have HW := Lib.hid hwi
  have H1 := Lib.hid h1
  have HN5 := Lib.hid n5
  clear hT h1 hwi n5
  go_enter Tryd.func7, Tryd.ntmps7
  go_wp2_with fail
  refine HK.out.mono ?_
  rintro e w1 ⟨rfl, hb⟩
  have HB1 := Lib.hid hb
  clear hb HK
  go_wp2_with fail
  refine (HW.out _).mono ?_
  rintro e w2 ⟨rfl, rfl⟩
  go_wp2_with fail
  go_loopw [5, 6, 7] (fun sv nv iv wr => ∃ (k : Nat) (S : ByteArray) (ws : List (List Nat)), iv = .int .i64 k ∧ nv = .int .i64 k ∧ k ≤ 10 ∧ sv = .string S ∧ S.size ≤ 10 + 20 * k ∧ Hid (Sc.nats S = Sc.headR i ++ Sc.body i ws ∧ ws.length = k ∧ ∀ v ∈ ws, v ∈ Sc.six) ∧ Below w1.heap.size w1 wr) (fun _ _ iv _ => 10 - (intOf iv).toNat)
  case atStart => exact ⟨0, _, [], rfl, rfl, Nat.zero_le _, rfl, by rw [Sg.app_size]; show s5.size + 5 ≤ _; omega, Lib.hid ⟨by rw [Sc.nats_app, HN5.out, show Sc.body i [] = [] from rfl, List.append_nil]; rfl, rfl, fun v hv => by cases hv⟩, Below.refl _ _⟩
  case round =>
    obtain ⟨k, S, ws, rfl, rfl, hk, rfl, hS, HS, hbw⟩ := hrel
    have HBw := Lib.hid (HB1.out.trans (hbw.mono HB1.out.size))
    by_cases hlt : k < l.length ∧ k < 10
    · obtain ⟨hlt1, hlt2⟩ := hlt
      have hi1 : (k : Int) < (l.length : Int) := by omega
      have hi2 : (k : Int) < 10 := by omega
      obtain ⟨b1, o1, rfl, q2, q3, hc1⟩ := (H1.out.below HBw.out).at_ hlt1
      simp only [maxLen] at q3
      generalize l.getD k 0 = y at *
      obtain ⟨m, hm, hwm⟩ := within_nat y 6 (by decide) (by decide)
      have HWm := Lib.hid hwm
      obtain ⟨X, hX12, hX6, h5⟩ := six_at m hm
      have h6 : ∀ h : m < ([.string ⟨#[45, 32, 97]⟩, .string ⟨#[91]⟩, .string ⟨#[34, 111, 112, 101, 110]⟩, .string ⟨#[35, 32, 110, 111, 32, 99, 111, 109, 109, 101, 110, 116]⟩, .string ⟨#[45, 45, 45]⟩, .string ⟨#[38, 120]⟩] : List Value).length, ([.string ⟨#[45, 32, 97]⟩, .string ⟨#[91]⟩, .string ⟨#[34, 111, 112, 101, 110]⟩, .string ⟨#[35, 32, 110, 111, 32, 99, 111, 109, 109, 101, 110, 116]⟩, .string ⟨#[45, 45, 45]⟩, .string ⟨#[38, 120]⟩] : List Value)[m]'h = .string X := fun h => by
        rw [List.getElem?_eq_getElem h] at h5; exact Option.some.inj h5
      have hm0 : (m : Int) < 6 := by omega
      have hm1 : (0 : Int) ≤ (m : Int) := by omega
      obtain ⟨J, hJ⟩ : ∃ J, i + 1 = J := ⟨_, rfl⟩
      have eJ : (i : Int) + 1 = (J : Int) := by omega
      have wJ : IntKind.i64.wrap (J : Int) = (J : Int) := IntWalk.i64_in _ (by omega)
      have J6 : (J : Int) ≤ 6 := by omega
      have J0 : (0 : Int) ≤ (J : Int) := by omega
      obtain ⟨s6, hs6⟩ : ∃ s6, (⟨#[32, 32, 32, 32, 32, 32]⟩ : ByteArray).extract 0 J = s6 := ⟨_, rfl⟩
      have n6 : Sc.nats s6 = Sc.sp J := by rw [← hs6]; exact nats_sp6 J (by omega)
      have z6 : s6.size ≤ 6 := by rw [← Sc.nats_len, n6, Sc.sp, List.length_replicate]; omega
      obtain ⟨A, hA⟩ : ∃ A, S ++ s6 = A := ⟨_, rfl⟩
      obtain ⟨B, hB⟩ : ∃ B, A ++ X = B := ⟨_, rfl⟩
      obtain ⟨C, hC⟩ : ∃ C, B ++ ⟨#[10]⟩ = C := ⟨_, rfl⟩
      have y6 : ¬ (9223372036854775807 < S.size + s6.size) := by omega
      have zA : A.size ≤ S.size + 6 := by rw [← hA, Sg.app_size]; omega
      have y7 : ¬ (9223372036854775807 < A.size + X.size) := by omega
      have zB : B.size ≤ S.size + 18 := by rw [← hB, Sg.app_size]; omega
      have y8 : ¬ (9223372036854775807 < B.size + 1) := by omega
      have zC : C.size ≤ 10 + 20 * (k + 1) := by rw [← hC, Sg.app_size]; show B.size + 1 ≤ _; omega
      have HC2 := Lib.hid (show Sc.nats C = Sc.headR i ++ Sc.body i (ws ++ [Sc.nats X]) ∧ (ws ++ [Sc.nats X]).length = k + 1 ∧ ∀ v ∈ ws ++ [Sc.nats X], v ∈ Sc.six from by
        refine ⟨?_, by rw [List.length_append, HS.out.2.1]; rfl, fun v hv => ?_⟩
        · rw [← hC, ← hB, ← hA, Sc.nats_app, Sc.nats_app, Sc.nats_app, HS.out.1, n6, body_snoc, Sc.lineR, hJ]
          simp only [List.append_assoc]; rfl
        · rcases List.mem_append.1 hv with hv | hv
          · exact HS.out.2.2 v hv
          · obtain rfl : v = Sc.nats X := by simpa using hv
            exact hX6)
      have HBk := Lib.hid hbw
      have hk11 : k + 1 ≤ 10 := by omega
      have hcx : (wr.alloc (.cells #[.string ⟨#[45, 32, 97]⟩, .string ⟨#[91]⟩, .string ⟨#[34, 111, 112, 101, 110]⟩, .string ⟨#[35, 32, 110, 111, 32, 99, 111, 109, 109, 101, 110, 116]⟩, .string ⟨#[45, 45, 45]⟩, .string ⟨#[38, 120]⟩] 9)).cell? ⟨wr.heap.size, m, none⟩ = some (.string X) := by
        rw [World.cell?_alloc_new]; show (sixV.toArray)[m]? = _; rw [List.getElem?_toArray]; exact h5
      have hcy : (wr.alloc (.cells #[.string ⟨#[45, 32, 97]⟩, .string ⟨#[91]⟩, .string ⟨#[34, 111, 112, 101, 110]⟩, .string ⟨#[35, 32, 110, 111, 32, 99, 111, 109, 109, 101, 110, 116]⟩, .string ⟨#[45, 45, 45]⟩, .string ⟨#[38, 120]⟩] 9)).cell? ⟨b1, o1 + k, none⟩ = some (.int .i64 y) := at_alloc hc1
      have HWm := Lib.hid (show ∀ W, Calls Tryd.prog 16 #[.int .i64 y, .int .i64 6] W fun e w' => e = .returned (.int .i64 m) ∧ W = w' from hwm)
      have hms : 10 - (k + 1) < 10 - k := by omega
      clear hX6 h5 hwm hJ n6 z6 zA zB hS HS hX12 hbw hlt1
      go_upto_region 9 with fail
      go_region_with (go_at_call 16; (with_reducible refine (HWm.out _).mono ?_); rintro e w2 ⟨rfl, rfl⟩)
      all_goals
        go_wp2_with fail
        go_roundw
        case rel => exact ⟨k + 1, C, _, by go_num, by go_num, hk11, by first | rfl | rw [hC], zC, HC2, by first | exact HBk.out.alloc HBk.out.size _ | exact below_drewN (HBk.out.alloc HBk.out.size _) 1 | exact (below_drewN HBk.out 1).alloc (below_drewN HBk.out 1).size _ | exact below_drewN ((below_drewN HBk.out 1).alloc (below_drewN HBk.out 1).size _) 1⟩
        case measure => simp [intOf]; omega
    · obtain ⟨S1, hS1⟩ : ∃ S1, S ++ s5 = S1 := ⟨_, rfl⟩
      obtain ⟨S2, hS2⟩ : ∃ S2, S1 ++ ⟨#[101, 110, 100]⟩ = S2 := ⟨_, rfl⟩
      have u1 : ¬ (9223372036854775807 < S.size + s5.size) := by omega
      have u2 : S1.size ≤ 220 := by rw [← hS1, Sg.app_size]; omega
      have u3 : ¬ (9223372036854775807 < S1.size + 3) := by omega
      have u4 : S2.size ≤ 230 := by rw [← hS2, Sg.app_size]; show S1.size + 3 ≤ _; omega
      have hn2 : Sc.nats S2 = Sc.headR i ++ Sc.body i ws ++ Sc.lastR i := by
        rw [← hS2, ← hS1, Sc.nats_app, Sc.nats_app, HS.out.1, HN5.out, List.append_assoc]; rfl
      have hz2 : (Sc.headR i ++ Sc.body i ws ++ Sc.lastR i).length = S2.size := by rw [← hn2, Sc.nats_len]
      obtain ⟨t1, t0, at0, t2⟩ := Sc.texts_toks i hi ws HS.out.2.2 (by rw [hz2]; omega)
      rw [HS.out.2.1] at t1
      rw [hz2] at t2
      rw [← hn2] at t1 t2
      obtain ⟨T, hTT⟩ : ∃ T, Sc.tokens (Sc.nats S2) = T := ⟨_, rfl⟩
      rw [hTT] at t1 t2
      have hTl : T.length ≤ 230 := by rw [← hTT]; refine Nat.le_trans (tokens_len _) ?_; rw [Sc.nats_len]; omega
      have G1 := Lib.hid t1
      have G2 := Lib.hid t2
      have GT := Lib.hid hTT
      have GL := Lib.hid hTl
      have hk10 := hk
      clear t1 t2 hTT hn2 hz2 u2 hTl hS hbw HS
      obtain ⟨cap, w4, hcv, hrow, hb4⟩ := conv_str S2 wr (by unfold maxLen; omega)
      have HTk := Lib.hid (pTokens _ _ _ hrow.bys ((HT.out.below HBw.out).below hb4))
      have HB4 := Lib.hid (HBw.out.trans (hb4.mono HBw.out.size))
      clear hrow hb4
      by_cases hk1 : k < l.length
      · have hi1 : (k : Int) < (l.length : Int) := by omega
        have hi2 : ¬ ((k : Int) < 10) := by omega
        go_wp2_with fail
        refine HTk.out.mono ?_
        intro e w5 hg
        obtain ⟨ta, tcap, rfl, hRd, hb5⟩ := hg.read
        have HB5 := Lib.hid (HB4.out.trans (hb5.mono HB4.out.size))
        rw [GT.out] at hRd ⊢
        have ST := Lib.hid (Stand.of_reads hRd)
        obtain ⟨N, hN⟩ : ∃ N, T.length = N := ⟨_, rfl⟩
        have hN2 : N ≤ 230 := by have := GL.out; omega
        have GN := Lib.hid hN
        rw [hN]
        clear hRd hg hb5 HTk hcv hN
        go_wp2_with fail
        go_loopw [9, 10] (fun kv iv wq => ∃ j c : Nat, iv = .int .i64 j ∧ kv = .int .i64 c ∧ j ≤ N ∧ c ≤ j ∧ Hid (c = Sc.count19 (T.take j)) ∧ Below w5.heap.size w5 wq) (fun _ iv _ => N - (intOf iv).toNat)
        case atStart => exact ⟨0, 0, rfl, rfl, Nat.zero_le _, Nat.zero_le _, Lib.hid (by simp [Sc.count19]), Below.refl _ _⟩
        case round =>
          obtain ⟨j, c, rfl, rfl, hj, hc, HC, hbq⟩ := hrel
          have HBq := Lib.hid hbq
          by_cases hjN : j < N
          · have hji : (j : Int) < (N : Int) := by omega
            obtain ⟨x, hx⟩ : ∃ x, T[j]? = some x := ⟨_, List.getElem?_eq_getElem (by rw [GN.out]; exact hjN)⟩
            obtain ⟨b3, o3, rfl, d0, -, -⟩ := (ST.out.below hbq) j _ hx
            have hcnt : Sc.count19 (T.take (j + 1)) = Sc.count19 (T.take j) + (if x.1 = 19 then 1 else 0) := by
              unfold Sc.count19
              rw [List.take_add_one, hx, List.countP_append, Option.toList_some, List.countP_cons, List.countP_nil]
              simp
            by_cases h19 : x.1 = 19
            · rw [if_pos h19] at hcnt
              have HC2 := Lib.hid (show c + 1 = Sc.count19 (T.take (j + 1)) by rw [hcnt, ← HC.out])
              rw [h19] at d0
              clear hcnt hx hbq
              go_wp2_with fail
              go_roundw
              case rel => exact ⟨j + 1, c + 1, by go_num, by go_num, by omega, by omega, HC2, HBq.out⟩
              case measure => simp [intOf]; omega
            · rw [if_neg h19] at hcnt
              have HC2 := Lib.hid (show c = Sc.count19 (T.take (j + 1)) by rw [hcnt, Nat.add_zero]; exact HC.out)
              have g19 : ((x.1 : Int) == 19) = false := by rw [beq_eq_false_iff_ne]; omega
              clear hcnt hx hbq
              go_wp2_with fail
              go_roundw
              case rel => exact ⟨j + 1, c, by go_num, by go_num, by omega, by omega, HC2, HBq.out⟩
              case measure => simp [intOf]; omega
          · obtain rfl : j = N := by omega
            have hck : c = k := by rw [HC.out, List.take_of_length_le (by rw [GN.out]; exact Nat.le_refl _), G1.out]
            subst hck
            have hT0 := G2.out
            have hjz : j = t0.length + 1 := by rw [← GN.out, hT0]; simp
            have hlast : T[t0.length]? = some (15, at0, S2.size) := by rw [hT0]; simp
            obtain ⟨P, hP⟩ : ∃ P, t0.length = P := ⟨_, rfl⟩
            rw [hP] at hlast hjz
            obtain ⟨b3, o3, rfl, d0, -, d2⟩ := (ST.out.below hbq) _ _ hlast
            have d0 : wr.cell? ⟨b3, o3 + P * 3, none⟩ = some (.int .i64 15) := d0
            have d2 : wr.cell? ⟨b3, o3 + P * 3 + 2, none⟩ = some (.int .i64 S2.size) := d2
            have f1 : (j : Int) - 1 = (P : Int) := by omega
            have f2 : (0 : Int) ≤ (P : Int) := by omega
            have f3 : (P : Int) < (j : Int) := by omega
            have f4 : decide ((0 : Int) < (j : Int)) = true := by rw [decide_eq_true_eq]; omega
            have f5 : IntKind.i64.wrap (P : Int) = (P : Int) := IntWalk.i64_in _ (by omega)
            have f6 : ((c : Int) == (c : Int)) = true := by simp
            have f7 : ((S2.size : Int) == (S2.size : Int)) = true := by simp
            have HBe := Lib.hid (HB5.out.trans (hbq.mono HB5.out.size))
            have f8 : (0 : Int) < (j : Int) := by omega
            clear hT0 hjz hlast hP hbq
            go_wp2_with fail
            go_ret
            exact ⟨rfl, HBe.out⟩
      · have hi1 : ¬ ((k : Int) < (l.length : Int)) := by omega
        go_wp2_with fail
        refine HTk.out.mono ?_
        intro e w5 hg
        obtain ⟨ta, tcap, rfl, hRd, hb5⟩ := hg.read
        have HB5 := Lib.hid (HB4.out.trans (hb5.mono HB4.out.size))
        rw [GT.out] at hRd ⊢
        have ST := Lib.hid (Stand.of_reads hRd)
        obtain ⟨N, hN⟩ : ∃ N, T.length = N := ⟨_, rfl⟩
        have hN2 : N ≤ 230 := by have := GL.out; omega
        have GN := Lib.hid hN
        rw [hN]
        clear hRd hg hb5 HTk hcv hN
        go_wp2_with fail
        go_loopw [9, 10] (fun kv iv wq => ∃ j c : Nat, iv = .int .i64 j ∧ kv = .int .i64 c ∧ j ≤ N ∧ c ≤ j ∧ Hid (c = Sc.count19 (T.take j)) ∧ Below w5.heap.size w5 wq) (fun _ iv _ => N - (intOf iv).toNat)
        case atStart => exact ⟨0, 0, rfl, rfl, Nat.zero_le _, Nat.zero_le _, Lib.hid (by simp [Sc.count19]), Below.refl _ _⟩
        case round =>
          obtain ⟨j, c, rfl, rfl, hj, hc, HC, hbq⟩ := hrel
          have HBq := Lib.hid hbq
          by_cases hjN : j < N
          · have hji : (j : Int) < (N : Int) := by omega
            obtain ⟨x, hx⟩ : ∃ x, T[j]? = some x := ⟨_, List.getElem?_eq_getElem (by rw [GN.out]; exact hjN)⟩
            obtain ⟨b3, o3, rfl, d0, -, -⟩ := (ST.out.below hbq) j _ hx
            have hcnt : Sc.count19 (T.take (j + 1)) = Sc.count19 (T.take j) + (if x.1 = 19 then 1 else 0) := by
              unfold Sc.count19
              rw [List.take_add_one, hx, List.countP_append, Option.toList_some, List.countP_cons, List.countP_nil]
              simp
            by_cases h19 : x.1 = 19
            · rw [if_pos h19] at hcnt
              have HC2 := Lib.hid (show c + 1 = Sc.count19 (T.take (j + 1)) by rw [hcnt, ← HC.out])
              rw [h19] at d0
              clear hcnt hx hbq
              go_wp2_with fail
              go_roundw
              case rel => exact ⟨j + 1, c + 1, by go_num, by go_num, by omega, by omega, HC2, HBq.out⟩
              case measure => simp [intOf]; omega
            · rw [if_neg h19] at hcnt
              have HC2 := Lib.hid (show c = Sc.count19 (T.take (j + 1)) by rw [hcnt, Nat.add_zero]; exact HC.out)
              have g19 : ((x.1 : Int) == 19) = false := by rw [beq_eq_false_iff_ne]; omega
              clear hcnt hx hbq
              go_wp2_with fail
              go_roundw
              case rel => exact ⟨j + 1, c, by go_num, by go_num, by omega, by omega, HC2, HBq.out⟩
              case measure => simp [intOf]; omega
          · obtain rfl : j = N := by omega
            have hck : c = k := by rw [HC.out, List.take_of_length_le (by rw [GN.out]; exact Nat.le_refl _), G1.out]
            subst hck
            have hT0 := G2.out
            have hjz : j = t0.length + 1 := by rw [← GN.out, hT0]; simp
            have hlast : T[t0.length]? = some (15, at0, S2.size) := by rw [hT0]; simp
            obtain ⟨P, hP⟩ : ∃ P, t0.length = P := ⟨_, rfl⟩
            rw [hP] at hlast hjz
            obtain ⟨b3, o3, rfl, d0, -, d2⟩ := (ST.out.below hbq) _ _ hlast
            have d0 : wr.cell? ⟨b3, o3 + P * 3, none⟩ = some (.int .i64 15) := d0
            have d2 : wr.cell? ⟨b3, o3 + P * 3 + 2, none⟩ = some (.int .i64 S2.size) := d2
            have f1 : (j : Int) - 1 = (P : Int) := by omega
            have f2 : (0 : Int) ≤ (P : Int) := by omega
            have f3 : (P : Int) < (j : Int) := by omega
            have f4 : decide ((0 : Int) < (j : Int)) = true := by rw [decide_eq_true_eq]; omega
            have f5 : IntKind.i64.wrap (P : Int) = (P : Int) := IntWalk.i64_in _ (by omega)
            have f6 : ((c : Int) == (c : Int)) = true := by simp
            have f7 : ((S2.size : Int) == (S2.size : Int)) = true := by simp
            have HBe := Lib.hid (HB5.out.trans (hbq.mono HB5.out.size))
            have f8 : (0 : Int) < (j : Int) := by omega
            clear hT0 hjz hlast hP hbq
            go_wp2_with fail
            go_ret
            exact ⟨rfl, HBe.out⟩
end Go.Proofs.YtapkejdjbmdebaaDoor
