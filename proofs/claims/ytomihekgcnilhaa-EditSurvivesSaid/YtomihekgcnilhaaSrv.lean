/- The walk of correctorlaw4.EditSurvives: what is not touched survives, in order; the length is what the edits say. -/
import Derived.Test.YtomihekgcnilhaaSet
import Derived.Test.YtomihekgcnilhaaPc
namespace Go.Proofs.Ytomihekgcnilhaa
open Go.RowKit
open Go.Proofs.Ytomihekgcnilhaa.Sq

theorem drewN_below (W : World) (m : Nat) : Below W.heap.size W (W.drewN m) := ⟨rfl, rfl, rfl, Nat.le_refl _, fun _ _ => rfl⟩
theorem conv_drewN {W : World} {v : Value} {z : ByteArray} (h : Bys W v z) (m : Nat) : (convert 22 9 v).run Try.prog (W.drewN m) = .ok (.string z) (W.drewN m) := conv_bys (h.below (drewN_below W m))
theorem apart3 {α : Type} {t a p r : List α} {k : Nat} (h : t.drop k = a ++ p ++ r) :
    k + a.length + p.length ≤ t.length + (if a.length + p.length = 0 then k else 0) ∧ (t.drop k).take a.length = a ∧ (t.drop (k + a.length)).take p.length = p ∧ t.drop (k + a.length + p.length) = r := by
  have hl : t.length - k = a.length + p.length + r.length := by rw [← List.length_drop, h]; simp; omega
  refine ⟨by split <;> omega, ?_, ?_, ?_⟩
  · rw [h, List.append_assoc, List.take_left]
  · rw [← List.drop_drop, h, List.append_assoc, List.drop_left, List.take_left]
  · rw [← List.drop_drop, ← List.drop_drop, h, List.append_assoc, List.drop_left, List.drop_left]
/-- What stands between two edits, and what the second one puts. -/
theorem survive_step {s t p : ByteArray} {A F T k : Nat} {e : Ed.E} {r : List Ed.E} (hf : e.f = F) (ht : e.t = T) (hp : e.p = p.data.toList) (hAF : A ≤ F) (hFs : F ≤ s.size) (hk : k ≤ t.size) (h : t.data.toList.drop k = Ed.applyFrom s.data.toList A (e :: r)) :
    k + (F - A) + p.size ≤ t.size ∧ t.extract k (k + (F - A)) = s.extract A F ∧ t.extract (k + (F - A)) (k + (F - A) + p.size) = p ∧ t.data.toList.drop (k + (F - A) + p.size) = Ed.applyFrom s.data.toList T r := by
  rw [apply_next hf ht, hp] at h
  have hla : ((s.data.toList.drop A).take (F - A)).length = F - A := by rw [List.length_take, List.length_drop, ← Lib.size_eq]; omega
  have hlp : p.data.toList.length = p.size := (Lib.size_eq p).symm
  obtain ⟨h1, h2, h3, h4⟩ := apart3 h
  rw [hla, hlp] at h1
  rw [hla] at h2 h3 h4
  rw [hlp] at h3 h4
  rw [← Lib.size_eq] at h1
  refine ⟨by split at h1 <;> omega, text_eq _ _ ?_, text_eq _ _ ?_, h4⟩
  · rw [tol_ext, tol_ext, show k + (F - A) - k = F - A from by omega]; exact h2
  · rw [tol_ext, show k + (F - A) + p.size - (k + (F - A)) = p.size from by omega]; exact h3
theorem survive_end {s t : ByteArray} {A k : Nat} (h : t.data.toList.drop k = Ed.applyFrom s.data.toList A []) : t.extract k t.size = s.extract A s.size := by
  apply text_eq
  rw [tol_ext, tol_ext, List.take_of_length_le (by rw [List.length_drop, ← Lib.size_eq]; exact Nat.le_refl _), List.take_of_length_le (by rw [List.length_drop, ← Lib.size_eq]; exact Nat.le_refl _), h]
  rfl
set_option maxHeartbeats 8000000 in
set_option maxRecDepth 100000 in
theorem walk_EditSurvives (bv : Value) (s : ByteArray) (v : Value) (l : List Et) (w : World) (hB : Bys w bv s) (hE : Edits w v l) (hF : Fit l) :
    Calls Try.prog 6 #[bv, v] w fun e w' => e = .returned (.bool true) ∧ Below w.heap.size w w' := by
  have hsz := hB.size_le
  unfold maxLen at hsz
  obtain ⟨sa, sc, rfl⟩ := hB.shape
  have HB := Lib.hid hB
  clear hB
  by_cases h60 : 60 < s.size
  · have h60' : (60 : Int) < (s.size : Int) := by omega
    clear hE hF
    go_enter Try.func6, Try.ntmps6
    go_wp2_with fail
    refine (known_true _).mono ?_
    rintro e w1 ⟨rfl, hbw⟩
    have HBw := Lib.hid hbw
    clear hbw
    go_wp2
    go_ret
    exact ⟨rfl, HBw.out⟩
  · have h60' : ¬ (60 : Int) < (s.size : Int) := by omega
    have HFew := Lib.hid (fun W (hW : Below w.heap.size w W) => few_any v l W (hE.below hW) hF)
    obtain ⟨fw, hfw⟩ : ∃ fw, fewB l = fw := ⟨_, rfl⟩
    rw [hfw] at HFew
    clear hfw
    cases fw with
    | false =>
      clear hE hF
      go_enter Try.func6, Try.ntmps6
      go_wp2_with fail
      refine (known_true _).mono ?_
      rintro e w1 ⟨rfl, hbw⟩
      have HBw := Lib.hid hbw
      clear hbw
      go_wp2_with fail
      refine (HFew.out _ HBw.out).mono ?_
      rintro e w2 ⟨rfl, hb2⟩
      have HB2 := Lib.hid (HBw.out.trans (hb2.mono HBw.out.size))
      clear hb2
      go_wp2
      go_ret
      exact ⟨rfl, HB2.out⟩
    | true =>
      have HGd := Lib.hid (fun W (hW : Below w.heap.size w W) => good_any (s.size : Int) v l W (by omega) (by omega) (hE.below hW) hF.short)
      have HFine := Lib.hid (fine_of s l (by omega))
      have HGs := Lib.hid (show Short (tameAll (s.size : Int) l) from fun e he => by
        have := tameAll_short (n := (s.size : Int)) (by omega) e he
        unfold maxLen; omega)
      obtain ⟨G, hG⟩ : ∃ G, tameAll (s.size : Int) l = G := ⟨_, rfl⟩
      rw [hG] at HGd HFine HGs
      obtain ⟨X, hX⟩ : ∃ X, chooseT (s.size : Int) G = X := ⟨_, rfl⟩
      rw [hX] at HFine
      have HX := Lib.hid hX
      clear hE hF hG hX
      obtain ⟨K, hK⟩ : ∃ K, X.length = K := ⟨_, rfl⟩
      have HK := Lib.hid hK
      have hK200 : K ≤ 200 := by rw [← hK]; exact HFine.out.len
      clear hK
      go_enter Try.func6, Try.ntmps6
      go_wp2_with fail
      refine (known_true _).mono ?_
      rintro e w1 ⟨rfl, hbw⟩
      have HBw := Lib.hid hbw
      clear hbw
      go_wp2_with fail
      refine (HFew.out _ HBw.out).mono ?_
      rintro e w2 ⟨rfl, hb2⟩
      have HB2 := Lib.hid (HBw.out.trans (hb2.mono HBw.out.size))
      clear hb2
      go_wp2_with fail
      refine (HGd.out _ HB2.out).mono ?_
      rintro e w4 ⟨gv, rfl, howng, hb4⟩
      have HB4 := Lib.hid (HB2.out.trans (hb4.mono HB2.out.size))
      have HC := Lib.hid (refChoose (s.size : Int) _ G w4 (Reads.of_own howng) HGs.out)
      rw [HX.out] at HC
      clear howng hb4
      go_wp2_with fail
      refine HC.out.mono ?_
      rintro e w5 ⟨xv, rfl, hownx, hb5⟩
      have HB5 := Lib.hid (HB4.out.trans (hb5.mono HB4.out.size))
      have hRX := Reads.of_own hownx
      obtain ⟨xa, xc, rfl⟩ := Reads.shape hRX
      have HA := Lib.hid (apply_done _ _ s X w5 (HB.out.below HB5.out) hRX HFine.out.short (by omega) HFine.out.chk HFine.out.long)
      have HRX5 := Lib.hid hRX
      clear hownx hb5 hRX
      rw [HK.out] at HA
      rw [HK.out]
      go_wp2_with fail
      refine HA.out.mono ?_
      rintro e w6 ⟨ov, t, rfl, ht, howno, hb6⟩
      have HB6 := Lib.hid (HB5.out.trans (hb6.mono HB5.out.size))
      have HRX := Lib.hid (HRX5.out.below hb6)
      have HBo := Lib.hid (Bys.own howno)
      obtain ⟨oa, oc, rfl⟩ := own_shape howno
      have HT := Lib.hid ht
      have hts : (Ed.apply s.data.toList (X.map Et.ed)).length = t.size := by rw [← ht, ← Lib.size_eq]
      have HTs := Lib.hid hts
      have ht20 : t.size ≤ 16384 := by rw [← hts]; exact HFine.out.long
      have HBs := Lib.hid (HB.out.below HB6.out)
      clear ht howno hb6 hts HRX5
      have HMap := Lib.hid (fun (x : Int) W (hW : Below w6.heap.size w6 W) (h0 : 0 ≤ x) (h1 : x ≤ 1000000) => by have h := editMap x _ X W (HRX.out.below hW) HFine.out.near HFine.out.len h0 h1; rw [HK.out] at h; exact h)
      have HAX := Lib.hid (fun k y hk => edits_at HRX.out k y hk)
      have HL0 := Lib.hid (show Left s.size 0 ((X.map Et.ed).drop 0) from left_start HFine.out.chk)
      have HD0 := Lib.hid (show t.data.toList.drop 0 = Ed.applyFrom s.data.toList 0 ((X.map Et.ed).drop 0) from HT.out)
      have HN0 := Lib.hid (show (s.size : Int) + Ed.more ((X.map Et.ed).drop 0) = (t.size : Int) from by
        have h := Ed.apply_len (b := s.data.toList) (X.map Et.ed) 0 (by rw [← Lib.size_eq]; exact Ed.fits_of HFine.out.good) (Nat.zero_le _)
        rw [← Lib.size_eq, show Ed.applyFrom s.data.toList 0 (X.map Et.ed) = Ed.apply s.data.toList (X.map Et.ed) from rfl, HTs.out] at h
        rw [List.drop_zero]; omega)
      clear HMap
      go_wp2_with fail
      go_loopw [8, 9, 10, 11] (fun ats ks ns is wr => ∃ (A k i : Nat) (n : Int), ats = .int .i64 A ∧ ks = .int .i64 k ∧ ns = .int .i64 n ∧ is = .int .i64 i ∧ i ≤ K ∧ A ≤ s.size ∧ k ≤ t.size ∧ -((i : Int) * 1000) ≤ n ∧ n ≤ 100 + (i : Int) * 1000 ∧ Hid (Left s.size A ((X.map Et.ed).drop i)) ∧ Hid (t.data.toList.drop k = Ed.applyFrom s.data.toList A ((X.map Et.ed).drop i)) ∧ Hid (n + Ed.more ((X.map Et.ed).drop i) = (t.size : Int)) ∧ Below w6.heap.size w6 wr) (fun _ _ _ is _ => K - (intOf is).toNat)
      case atStart => exact ⟨0, 0, 0, (s.size : Int), rfl, rfl, rfl, rfl, Nat.zero_le _, Nat.zero_le _, Nat.zero_le _, by omega, by omega, HL0, HD0, HN0, Below.refl _ _⟩
      case round =>
        obtain ⟨A, k, i, n, rfl, rfl, rfl, rfl, hi, hA, hk, hn1, hn2, HL, HD, HN, hb⟩ := hrel
        by_cases hiK : i < K
        · have hiK' : (i : Int) < (K : Int) := by omega
          have hkl : i < X.length := by rw [HK.out]; exact hiK
          obtain ⟨x, hx⟩ : ∃ x, X[i]? = some x := ⟨_, List.getElem?_eq_getElem hkl⟩
          obtain ⟨xb, xo, rfl, c0, c1, c2⟩ := HAX.out i x hx
          have c0 := cell_keep c0 hb
          have c1 := cell_keep c1 hb
          have c2 := cell_keep c2 hb
          have hL := HL.out
          have hD := HD.out
          have hN := HN.out
          rw [drop_at hx] at hL hD hN
          obtain ⟨F, T, hf, ht, g1, g2, g3, g4, g5⟩ := left_next hL
          obtain ⟨p1, p2, p3, p4⟩ := survive_step (p := x.p) hf ht rfl g1 (Nat.le_trans g2 g3) hk hD
          rw [Et.plen] at g4
          have hmo : Ed.more (x.ed :: (X.map Et.ed).drop (i + 1)) = (x.p.size : Int) - ((T : Int) - (F : Int)) + Ed.more ((X.map Et.ed).drop (i + 1)) := by
            rw [Ed.more, Et.plen, hf, ht]
          rw [hmo] at hN
          obtain ⟨f, tt, p⟩ := x
          obtain rfl : f = (F : Int) := hf
          obtain rfl : tt = (T : Int) := ht
          simp only at c0 c1 c2 g4 p1 p2 p3 p4 hN
          obtain ⟨S, hS⟩ : ∃ S, F - A = S := ⟨_, rfl⟩
          rw [hS] at p1 p2 p3 p4
          obtain ⟨k1, hk1⟩ : ∃ k1, k + S = k1 := ⟨_, rfl⟩
          rw [hk1] at p1 p2 p3 p4
          obtain ⟨k2, hk2⟩ : ∃ k2, k1 + p.size = k2 := ⟨_, rfl⟩
          rw [hk2] at p1 p3 p4
          obtain ⟨v1, hsl1, hv1⟩ := cut_lh HBo.out (show k ≤ k1 by omega) (show k1 ≤ t.size by omega)
          obtain ⟨v2, hsl2, hv2⟩ := cut_lh HBs.out g1 (Nat.le_trans g2 g3)
          obtain ⟨v3, hsl3, hv3⟩ := cut_lh HBo.out (show k1 ≤ k2 by omega) p1
          rw [p2] at hv1
          rw [p3] at hv3
          obtain ⟨z, hz⟩ : ∃ z, s.extract A F = z := ⟨_, rfl⟩
          rw [hz] at hv1 hv2
          have HV1 := Lib.hid hv1
          have HV2 := Lib.hid hv2
          have HV3 := Lib.hid hv3
          have H5 := Lib.hid g5
          have HP4 := Lib.hid p4
          obtain ⟨n1, hn1e⟩ : ∃ n1, n + (p.size : Int) = n1 := ⟨_, rfl⟩
          obtain ⟨d1, hd1e⟩ : ∃ d1, (T : Int) - (F : Int) = d1 := ⟨_, rfl⟩
          obtain ⟨n2, hn2e⟩ : ∃ n2, n1 - d1 = n2 := ⟨_, rfl⟩
          have HN2 := Lib.hid (show n2 + Ed.more ((X.map Et.ed).drop (i + 1)) = (t.size : Int) by rw [← hN, ← hn2e, ← hn1e, ← hd1e]; omega)
          have r1 : (F : Int) - (A : Int) = (S : Int) := by omega
          have r2 : (k : Int) + (S : Int) = (k1 : Int) := by omega
          have r3 : (k1 : Int) + (p.size : Int) = (k2 : Int) := by omega
          have q2 : IntKind.i64.wrap ((k : Int) + (S : Int)) = (k1 : Int) := by rw [r2]; exact IntWalk.i64_in _ (by omega)
          have q3 : IntKind.i64.wrap ((k1 : Int) + (p.size : Int)) = (k2 : Int) := by rw [r3]; exact IntWalk.i64_in _ (by omega)
          have q4 : IntKind.i64.wrap (n + (p.size : Int)) = n1 := by rw [hn1e]; exact IntWalk.i64_in _ (by omega)
          have q5 : IntKind.i64.wrap ((T : Int) - (F : Int)) = d1 := by rw [hd1e]; exact IntWalk.i64_in _ (by omega)
          have q6 : IntKind.i64.wrap (n1 - d1) = n2 := by rw [hn2e]; exact IntWalk.i64_in _ (by omega)
          have q7 : IntKind.i64.wrap (k1 : Int) = (k1 : Int) := IntWalk.i64_in _ (by omega)
          have q8 : IntKind.i64.wrap (k2 : Int) = (k2 : Int) := IntWalk.i64_in _ (by omega)
          have q9 : decide ((t.size : Int) < (k2 : Int)) = false := decide_eq_false (by omega)
          have q10 : decide (t.size < k2) = false := decide_eq_false (by omega)
          have HQs := Lib.hid (And.intro q2 (And.intro q3 (And.intro q4 (And.intro q5 (And.intro q6 (And.intro q7 (And.intro q8 (And.intro q9 q10))))))))
          have HBounds := Lib.hid (show -(((i + 1 : Nat) : Int) * 1000) ≤ n2 ∧ n2 ≤ 100 + ((i + 1 : Nat) : Int) * 1000 ∧ k2 ≤ t.size by refine ⟨?_, ?_, p1⟩ <;> omega)
          have HBox := Lib.hid (below_new wr (.cells #[.int .i64 (F : Int), .int .i64 (T : Int), .string p] 41))
          have HZ0 := Lib.hid (edit_new0 wr ⟨F, T, p⟩ 41)
          have HZ1 := Lib.hid (edit_new1 wr ⟨F, T, p⟩ 41)
          have HZ2 := Lib.hid (edit_new2 wr ⟨F, T, p⟩ 41)
          have HBb := Lib.hid (hb.trans (HBox.out.mono hb.size))
          clear hL hD hN hmo hx HL HD HN hb p1 p2 p3 p4 hS hk1 hk2 hz hv1 hv2 hv3 g5 hn1e hd1e hn2e q2 q3 q4 q5 q6 q7 q8 q9 q10 r2 r3 HBox
          have b0 : (A : Int) ≤ (F : Int) := by omega
          go_wp2_with fail
          have z0 := HZ0.out
          have z1 := HZ1.out
          have z2 := HZ2.out
          have hbb := HBb.out
          clear c0 c1 c2 HZ0 HZ1 HZ2 HBb r1 b0
          obtain ⟨xq, hxq⟩ : ∃ xq, wr.heap.size = xq := ⟨_, rfl⟩
          rw [hxq] at z0 z1 z2 ⊢
          obtain ⟨W1, hW1⟩ : ∃ W1, wr.alloc (.cells #[.int .i64 (F : Int), .int .i64 (T : Int), .string p] 41) = W1 := ⟨_, rfl⟩
          rw [hW1] at z0 z1 z2 hbb ⊢
          have HB1 := Lib.hid hbb
          have u1 := conv_drewN (HV1.out.below hbb)
          have u2 := conv_drewN (HV2.out.below hbb)
          have u3 := conv_drewN (HV3.out.below hbb)
          obtain ⟨q2, q3, q4, q5, q6, q7, q8, q9, q10⟩ := HQs.out
          clear hW1 hxq hbb
          go_big_quiet (fail)
          clear u1 u2 u3 hsl1 hsl2 hsl3
          go_wp2_with fail
          go_big_quiet (fail)
          clear z0 z1 z2 q2 q3 q4 q5 q6 q7 q8 q9 q10
          go_wp2
          go_roundw
          case rel => exact ⟨T, k2, i + 1, n2, rfl, rfl, rfl, by go_num, by omega, g3, HBounds.out.2.2, HBounds.out.1, HBounds.out.2.1, H5, HP4, HN2, ⟨HB1.out.os, HB1.out.tape, HB1.out.output, HB1.out.size, HB1.out.block⟩⟩
          case measure => simp [intOf]; omega
        · have he0 : (X.map Et.ed).drop i = [] := List.drop_of_length_le (by rw [List.length_map, HK.out]; omega)
          have hD := HD.out
          have hN := HN.out
          rw [he0] at hD hN
          clear he0
          obtain rfl : i = K := by omega
          simp only [Ed.more, Int.add_zero] at hN
          subst hN
          have he := survive_end hD
          obtain ⟨v1, hsl1, hv1⟩ := cut_l HBo.out hk
          obtain ⟨v2, hsl2, hv2⟩ := cut_l HBs.out hA
          rw [he] at hv1
          obtain ⟨z, hz⟩ : ∃ z, s.extract A s.size = z := ⟨_, rfl⟩
          rw [hz] at hv1 hv2
          have u1 := conv_drewN (hv1.below hb)
          have u2 := conv_drewN (hv2.below hb)
          have b1 : ((t.size : Int) == (t.size : Int)) = true := by simp
          have HBr := Lib.hid hb
          clear hD he hz hv1 hv2 hb HD HN HL
          go_wp2_with fail
          go_big_quiet (fail)
          clear u1 u2 hsl1 hsl2
          go_wp2
          go_ret
          exact ⟨rfl, HB6.out.trans (Below.mono (B := w6.heap.size) ⟨HBr.out.os, HBr.out.tape, HBr.out.output, HBr.out.size, HBr.out.block⟩ HB6.out.size)⟩
end Go.Proofs.Ytomihekgcnilhaa
