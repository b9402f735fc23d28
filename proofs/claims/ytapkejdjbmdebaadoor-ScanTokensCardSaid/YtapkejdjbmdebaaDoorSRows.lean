/- The walk of correctorlaw6.ScanRows: rows of no brackets and no heads are read alone as among others. -/
import Derived.Test.YtapkejdjbmdebaaDoorSSame
namespace Go.Proofs.YtapkejdjbmdebaaDoor
open Go.RowKit
open Go.Proofs.YtapkejdjbmdebaaDoor.Sg
open Go.Proofs.YtapkejdjbmdebaaDoor.Sq
set_option linter.unusedVariables false

theorem toks_bd : ∀ (f : Nat) (s : Sc.St) (p : Nat) (l : List Nat), ∀ x ∈ Sc.toks f s p l, x.2.1 ≤ p + l.length ∧ x.2.2 ≤ p + l.length
  | 0, _, _, _ => fun x h => by cases h
  | f + 1, s, p, l => fun x h => by
    rw [Sc.toks] at h
    by_cases hl : l = []
    · rw [if_pos hl] at h; cases h
    · rw [if_neg hl] at h
      have hp := Sc.step_pos s l hl
      rcases List.mem_cons.1 h with rfl | h
      · exact ⟨by show p ≤ _; omega, by show p + (Sc.step s l).2.1 ≤ _; omega⟩
      · have := toks_bd f _ _ _ x h
        rw [List.length_drop] at this
        omega
theorem tokens_bd (l : List Nat) (x : Tk) (h : x ∈ Sc.tokens l) : x.2.1 ≤ l.length ∧ x.2.2 ≤ l.length := by
  unfold Sc.tokens at h
  split at h
  · cases h
  · have := toks_bd _ _ _ _ x h; omega
theorem toks_len : ∀ (f : Nat) (s : Sc.St) (p : Nat) (l : List Nat), (Sc.toks f s p l).length ≤ f
  | 0, _, _, _ => by simp [Sc.toks]
  | f + 1, s, p, l => by
    rw [Sc.toks]
    split
    · simp
    · rw [List.length_cons]; have := toks_len f (Sc.step s l).2.2 (p + (Sc.step s l).2.1) (l.drop (Sc.step s l).2.1); omega
theorem tokens_len (l : List Nat) : (Sc.tokens l).length ≤ l.length := by
  unfold Sc.tokens
  split
  · simp
  · exact toks_len _ _ _ _
theorem Stand.below {w w' : World} {a : Option Addr} {l : List Tk} (h : Stand w a l) (hb : Below w.heap.size w w') : Stand w' a l := fun j x hj => by
  obtain ⟨b, off, h1, h2, h3, h4⟩ := h j x hj
  exact ⟨b, off, h1, at_below hb h2, at_below hb h3, at_below hb h4⟩
theorem Stand.of_reads {w : World} {a : Option Addr} {cap : Nat} {l : List Tk} (h : Reads encT w (.slice a l.length cap) l) : Stand w a l := fun j x hj => toks_at h j x hj
set_option maxHeartbeats 4000000 in
set_option maxRecDepth 100000 in
theorem walk_ScanRows (v0 : Value) (l0 : List Int) (v1 : Value) (l1 : List Int) (w : World) (h0 : Nums .i64 w v0 l0) (h1 : Nums .i64 w v1 l1) (hT : Tabs w) :
    Calls Tryd.prog 4 #[v0, v1] w fun e w' => e = .returned (.bool true) ∧ Below w.heap.size w w' := by
  have HK := Lib.hid (known_true w hT)
  have HT := Lib.hid hT
  have H0 := Lib.hid h0
  have H1 := Lib.hid h1
  clear hT h0 h1
  go_enter Tryd.func4, Tryd.ntmps4
  go_wp2_with fail
  refine HK.out.mono ?_
  rintro e w1 ⟨rfl, hb⟩
  have HB1 := Lib.hid hb
  have HQ1 := Lib.hid (quiet_any v0 l0 w1 (H0.out.below hb))
  clear hb HK
  go_wp2_with fail
  refine HQ1.out.mono ?_
  rintro e w2 ⟨X, rfl, hX, hXs, hb2⟩
  have HB2 := Lib.hid (HB1.out.trans (hb2.mono HB1.out.size))
  have HQ2 := Lib.hid (quiet_any v1 l1 w2 (H1.out.below HB2.out))
  have HX := Lib.hid hXs
  clear hb2 hXs
  go_wp2_with fail
  refine HQ2.out.mono ?_
  rintro e w3 ⟨Y, rfl, hY, hYs, hb3⟩
  have HB3 := Lib.hid (HB2.out.trans (hb3.mono HB2.out.size))
  clear hb3 hYs HQ1 HQ2
  obtain ⟨SX, hSX⟩ : ∃ SX, X ++ ⟨#[10]⟩ = SX := ⟨_, rfl⟩
  obtain ⟨SB, hSB⟩ : ∃ SB, SX ++ Y = SB := ⟨_, rfl⟩
  obtain ⟨z, hzX⟩ : ∃ z, X.size = z := ⟨_, rfl⟩
  have s1 : SX.size = z + 1 := by rw [← hSX, Sg.app_size, hzX]; rfl
  have y1 : ¬ (9223372036854775807 < z + 1) := by omega
  have y2 : ¬ (9223372036854775807 < SX.size + Y.size) := by omega
  have s3 : SB.size ≤ 1000 := by rw [← hSB, Sg.app_size]; omega
  obtain ⟨P, hP⟩ : ∃ P, Sc.tokens (Sc.nats SX) = P := ⟨_, rfl⟩
  obtain ⟨Q, hQ⟩ : ∃ Q, Sc.tokens (Sc.nats Y) = Q := ⟨_, rfl⟩
  have hB : Sc.tokens (Sc.nats SB) = P ++ Q.map (Sc.shift (z + 1)) := by
    rw [← hP, ← hQ, ← hSB, ← hSX, Sc.nats_app, Sc.nats_app, show Sc.nats ⟨#[10]⟩ = [10] from rfl]
    rw [Sc.tokens_rows _ _ HX.out (by rw [Sc.nats_len, Sc.nats_len]; omega), Sc.nats_len, hzX]
  obtain ⟨B, hBB⟩ : ∃ B, P ++ Q.map (Sc.shift (z + 1)) = B := ⟨_, rfl⟩
  rw [hBB] at hB
  have hPl : P.length ≤ 101 := by rw [← hP]; refine Nat.le_trans (tokens_len _) ?_; rw [Sc.nats_len, s1]; omega
  have hQl : Q.length ≤ 100 := by rw [← hQ]; refine Nat.le_trans (tokens_len _) ?_; rw [Sc.nats_len]; omega
  have hBl : B.length = P.length + Q.length := by rw [← hBB, List.length_append, List.length_map]
  have hQb : ∀ x ∈ Q, x.2.1 ≤ 100 ∧ x.2.2 ≤ 100 := fun x hx => by
    have := tokens_bd (Sc.nats Y) x (by rw [hQ]; exact hx)
    rw [Sc.nats_len] at this; omega
  obtain ⟨N, hN⟩ : ∃ N, P.length = N := ⟨_, rfl⟩
  obtain ⟨M, hM⟩ : ∃ M, Q.length = M := ⟨_, rfl⟩
  obtain ⟨K, hK⟩ : ∃ K, B.length = K := ⟨_, rfl⟩
  have eK : (N : Int) + (M : Int) = (K : Int) := by omega
  have kb : ((K : Int) != (K : Int)) = false := by simp
  have wK : IntKind.i64.wrap (K : Int) = (K : Int) := IntWalk.i64_in _ (by omega)
  have nN : N ≤ 101 := by omega
  have nM : M ≤ 100 := by omega
  have hNz := Lib.hid (show K = N + M by omega)
  have s1' : SX.size ≤ 1000 := by omega
  have hzz : z ≤ 100 := by omega
  have GN := Lib.hid hN
  have GM := Lib.hid hM
  have GK := Lib.hid hK
  have GP := Lib.hid hP
  have GQ := Lib.hid hQ
  have GB := Lib.hid hB
  have GBB := Lib.hid hBB
  have GQb := Lib.hid hQb
  clear hP hQ hB hBB hQb hPl hQl hBl hN hM hK HX s1
  obtain ⟨cap, w4, hcv, hrow, hb4⟩ := conv_str SX w3 (by unfold maxLen; omega)
  have HTk := Lib.hid (pTokens _ _ _ hrow.bys ((HT.out.below HB3.out).below hb4))
  have HB4 := Lib.hid (HB3.out.trans (hb4.mono HB3.out.size))
  clear hrow hb4
  go_wp2_with fail
  refine HTk.out.mono ?_
  intro e w5 hg
  obtain ⟨a1, c1, rfl, hRd, hb5⟩ := hg.read
  have HB5 := Lib.hid (HB4.out.trans (hb5.mono HB4.out.size))
  rw [GP.out] at hRd ⊢
  have S1 := Lib.hid (Stand.of_reads hRd)
  have C1 := Lib.hid hRd.cap_le
  rw [GN.out]
  clear hRd hg hb5 HTk hcv
  obtain ⟨cap2, w6, hcv2, hrow2, hb6⟩ := conv_str Y w5 (by unfold maxLen; omega)
  have HTk2 := Lib.hid (pTokens _ _ _ hrow2.bys ((HT.out.below HB5.out).below hb6))
  have HB6 := Lib.hid (HB5.out.trans (hb6.mono HB5.out.size))
  have S1 := Lib.hid (S1.out.below hb6)
  clear hrow2 hb6
  go_wp2_with fail
  refine HTk2.out.mono ?_
  intro e w7 hg
  obtain ⟨a2, c2, rfl, hRd, hb7⟩ := hg.read
  have HB7 := Lib.hid (HB6.out.trans (hb7.mono HB6.out.size))
  rw [GQ.out] at hRd ⊢
  have S2 := Lib.hid (Stand.of_reads hRd)
  have S1 := Lib.hid (S1.out.below hb7)
  rw [GM.out]
  clear hRd hg hb7 HTk2 hcv2
  obtain ⟨cap3, w8, hcv3, hrow3, hb8⟩ := conv_str SB w7 (by unfold maxLen; omega)
  have HTk3 := Lib.hid (pTokens _ _ _ hrow3.bys ((HT.out.below HB7.out).below hb8))
  have HB8 := Lib.hid (HB7.out.trans (hb8.mono HB7.out.size))
  have S1 := Lib.hid (S1.out.below hb8)
  have S2 := Lib.hid (S2.out.below hb8)
  clear hrow3 hb8
  go_wp2_with fail
  refine HTk3.out.mono ?_
  intro e w9 hg
  obtain ⟨a3, c3, rfl, hRd, hb9⟩ := hg.read
  have HB9 := Lib.hid (HB8.out.trans (hb9.mono HB8.out.size))
  rw [GB.out] at hRd ⊢
  have S3 := Lib.hid (Stand.of_reads hRd)
  have R3 := Lib.hid hRd
  have S1 := Lib.hid (S1.out.below hb9)
  have S2 := Lib.hid (S2.out.below hb9)
  rw [GK.out]
  clear hRd hg hb9 HTk3 hcv3 hSB hSX hX hY
  go_wp2_with fail
  go_loopw [10] (fun iv wr => ∃ k : Nat, iv = .int .i64 k ∧ k ≤ M ∧ Below w9.heap.size w9 wr) (fun iv _ => M - (intOf iv).toNat)
  case atStart => exact ⟨0, rfl, Nat.zero_le _, Below.refl _ _⟩
  case round =>
    obtain ⟨k, rfl, hk, hbw⟩ := hrel
    by_cases hlt : k < M
    · have hkl : k < Q.length := by rw [GM.out]; exact hlt
      have hj2 : (k : Int) < (M : Int) := by omega
      obtain ⟨x, hx⟩ : ∃ x, Q[k]? = some x := ⟨_, List.getElem?_eq_getElem hkl⟩
      obtain ⟨xb1, xb2⟩ := GQb.out x (List.mem_of_getElem? hx)
      obtain ⟨R, hR⟩ : ∃ R, N + k = R := ⟨_, rfl⟩
      have hxB : B[R]? = some (Sc.shift (z + 1) x) := by
        rw [← GBB.out, ← hR, List.getElem?_append_right (by rw [GN.out]; omega), GN.out, Nat.add_sub_cancel_left, List.getElem?_map, hx]; rfl
      obtain ⟨b3, o3, rfl, d0, d1, d2⟩ := S3.out R _ hxB
      obtain ⟨b2, o2, rfl, e0, e1, e2⟩ := S2.out k _ hx
      obtain ⟨xk, xf, xt⟩ := x
      obtain ⟨F1, hF1⟩ : ∃ F1, xf + z = F1 := ⟨_, rfl⟩
      obtain ⟨F, hF⟩ : ∃ F, xf + (z + 1) = F := ⟨_, rfl⟩
      obtain ⟨T1, hT1⟩ : ∃ T1, xt + z = T1 := ⟨_, rfl⟩
      obtain ⟨T, hT⟩ : ∃ T, xt + (z + 1) = T := ⟨_, rfl⟩
      have d0 : wr.cell? ⟨b3, o3 + R * 3, none⟩ = some (.int .i64 xk) := at_below hbw d0
      have d1 : wr.cell? ⟨b3, o3 + R * 3 + 1, none⟩ = some (.int .i64 F) := by rw [← hF]; exact at_below hbw d1
      have d2 : wr.cell? ⟨b3, o3 + R * 3 + 2, none⟩ = some (.int .i64 T) := by rw [← hT]; exact at_below hbw d2
      have xb1 : xf ≤ 100 := xb1
      have xb2 : xt ≤ 100 := xb2
      have i1 : (xf : Int) + (z : Int) = (F1 : Int) := by omega
      have i2 : (F1 : Int) + 1 = (F : Int) := by omega
      have i3 : (xt : Int) + (z : Int) = (T1 : Int) := by omega
      have i4 : (T1 : Int) + 1 = (T : Int) := by omega
      have i5 : (N : Int) + (k : Int) = (R : Int) := by omega
      have q1 : IntKind.i64.wrap (F1 : Int) = (F1 : Int) := IntWalk.i64_in _ (by omega)
      have q2 : IntKind.i64.wrap (F : Int) = (F : Int) := IntWalk.i64_in _ (by omega)
      have q3 : IntKind.i64.wrap (T1 : Int) = (T1 : Int) := IntWalk.i64_in _ (by omega)
      have q4 : IntKind.i64.wrap (T : Int) = (T : Int) := IntWalk.i64_in _ (by omega)
      have q5 : IntKind.i64.wrap (R : Int) = (R : Int) := IntWalk.i64_in _ (by omega)
      have r0 : (0 : Int) ≤ (R : Int) := by omega
      have r1 : (R : Int) < (K : Int) := by have := hNz.out; omega
      have k0 : (0 : Int) ≤ (k : Int) := by omega
      clear hF hF1 hT hT1 hR
      have e0 := at_below hbw e0
      have e1 := at_below hbw e1
      have e2 := at_below hbw e2
      have HBw := Lib.hid hbw
      clear hbw hx hxB
      go_upto_region 12 with fail
      obtain ⟨tw, htw⟩ : ∃ tw, tw = wr.heap.size := ⟨_, rfl⟩
      obtain ⟨W, hW⟩ : ∃ W, W = wr.alloc (.cells #[.int .i64 xk, .int .i64 F, .int .i64 T] 32) := ⟨_, rfl⟩
      have g0 : W.cell? ⟨tw, 0, none⟩ = some (.int .i64 xk) := by rw [hW, htw, World.cell?_alloc_new]; rfl
      have g1 : W.cell? ⟨tw, 1, none⟩ = some (.int .i64 F) := by rw [hW, htw, World.cell?_alloc_new]; rfl
      have g2 : W.cell? ⟨tw, 2, none⟩ = some (.int .i64 T) := by rw [hW, htw, World.cell?_alloc_new]; rfl
      have m0 : W.cell? ⟨b2, o2 + k * 3, none⟩ = some (.int .i64 xk) := by rw [hW]; exact at_alloc e0
      have m1 : W.cell? ⟨b2, o2 + k * 3 + 1, none⟩ = some (.int .i64 xf) := by rw [hW]; exact at_alloc e1
      have m2 : W.cell? ⟨b2, o2 + k * 3 + 2, none⟩ = some (.int .i64 xt) := by rw [hW]; exact at_alloc e2
      have HBW := Lib.hid (show Below w9.heap.size w9 W from by rw [hW]; exact HBw.out.alloc HBw.out.size _)
      rw [← htw, ← hW]
      have u1 : ((xk : Int) != (xk : Int)) = false := by simp
      have u2 : ((F : Int) != (F : Int)) = false := by simp
      have u3 : ((T : Int) != (T : Int)) = false := by simp
      clear hW htw d0 d1 d2 e0 e1 e2 i5 q5 r0 r1 S1 S2 S3
      go_big_quiet (fail)
      have HBq := Lib.hid (below_drewN HBW.out nq)
      clear g0 g1 g2 m0 m1 m2 u1 u2 u3 i1 i2 i3 i4 q1 q2 q3 q4
      go_wp2_with fail
      go_roundw
      case rel => exact ⟨k + 1, by go_num, by omega, HBq.out⟩
      case measure => simp [intOf]; omega
    · obtain rfl : k = M := by omega
      have hNc : N ≤ c3 := by have h1 := R3.out.cap_le; rw [GK.out] at h1; have h2 := hNz.out; omega
      have HS := same6_true a3 a1 c3 c1 P wr (by rw [GN.out]; omega) (fun j x hj => (S3.out.below hbw) j x (by
        rw [← GBB.out, List.getElem?_append_left (List.getElem?_eq_some_iff.1 hj).1]; exact hj)) (S1.out.below hbw)
      rw [GN.out] at HS
      have HS := Lib.hid HS
      have HBw := Lib.hid (HB9.out.trans (hbw.mono HB9.out.size))
      clear hbw
      go_wp2_with fail
      refine HS.out.mono ?_
      rintro e w10 ⟨rfl, hb10⟩
      have HB10 := Lib.hid (HBw.out.trans (hb10.mono HBw.out.size))
      clear hb10
      go_wp2_with fail
      go_ret
      exact ⟨rfl, HB10.out⟩
end Go.Proofs.YtapkejdjbmdebaaDoor
