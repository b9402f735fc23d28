/- The walk of correctorlaw4.EditMapsOrder: places in order stay in order; a place behind all is as much further as the text is longer. -/
import Derived.Test.YtomihekgcnilhaaSet
import Derived.Test.YtomihekgcnilhaaPc
namespace Go.Proofs.Ytomihekgcnilhaa
open Go.RowKit
open Go.Proofs.Ytomihekgcnilhaa.Sq

set_option maxHeartbeats 8000000 in
set_option maxRecDepth 100000 in
theorem walk_EditMapsOrder (bv : Value) (s : ByteArray) (v : Value) (l : List Et) (w : World) (hB : Bys w bv s) (hE : Edits w v l) (hF : Fit l) :
    Calls Try.prog 10 #[bv, v] w fun e w' => e = .returned (.bool true) ∧ Below w.heap.size w w' := by
  have hsz := hB.size_le
  unfold maxLen at hsz
  obtain ⟨sa, sc, rfl⟩ := hB.shape
  have HB := Lib.hid hB
  clear hB
  by_cases h60 : 60 < s.size
  · have h60' : (60 : Int) < (s.size : Int) := by omega
    clear hE hF
    go_enter Try.func10, Try.ntmps10
    go_wp2_with fail
    refine (known_true _).mono ?_
    rintro e w1 ⟨rfl, hbw⟩
    have HBw := Lib.hid hbw
    clear hbw
    go_wp2
    go_ret
    exact ⟨rfl, HBw.out⟩
  · have h60' : ¬ (60 : Int) < (s.size : Int) := by omega
    have HFew := Lib.hid (fun W (hW : Below w.heap.size w W) => few_any v l W (hE.below hW) hF)
    obtain ⟨fw, hfw⟩ : ∃ fw, fewB l = fw := ⟨_, rfl⟩
    rw [hfw] at HFew
    clear hfw
    cases fw with
    | false =>
      clear hE hF
      go_enter Try.func10, Try.ntmps10
      go_wp2_with fail
      refine (known_true _).mono ?_
      rintro e w1 ⟨rfl, hbw⟩
      have HBw := Lib.hid hbw
      clear hbw
      go_wp2_with fail
      refine (HFew.out _ HBw.out).mono ?_
      rintro e w2 ⟨rfl, hb2⟩
      have HB2 := Lib.hid (HBw.out.trans (hb2.mono HBw.out.size))
      clear hb2
      go_wp2
      go_ret
      exact ⟨rfl, HB2.out⟩
    | true =>
      have HGd := Lib.hid (fun W (hW : Below w.heap.size w W) => good_any (s.size : Int) v l W (by omega) (by omega) (hE.below hW) hF.short)
      have HFine := Lib.hid (fine_of s l (by omega))
      have HGs := Lib.hid (show Short (tameAll (s.size : Int) l) from fun e he => by
        have := tameAll_short (n := (s.size : Int)) (by omega) e he
        unfold maxLen; omega)
      obtain ⟨G, hG⟩ : ∃ G, tameAll (s.size : Int) l = G := ⟨_, rfl⟩
      rw [hG] at HGd HFine HGs
      obtain ⟨X, hX⟩ : ∃ X, chooseT (s.size : Int) G = X := ⟨_, rfl⟩
      rw [hX] at HFine
      have HX := Lib.hid hX
      clear hE hF hG hX
      obtain ⟨K, hK⟩ : ∃ K, X.length = K := ⟨_, rfl⟩
      have HK := Lib.hid hK
      have hK200 : K ≤ 200 := by rw [← hK]; exact HFine.out.len
      clear hK
      go_enter Try.func10, Try.ntmps10
      go_wp2_with fail
      refine (known_true _).mono ?_
      rintro e w1 ⟨rfl, hbw⟩
      have HBw := Lib.hid hbw
      clear hbw
      go_wp2_with fail
      refine (HFew.out _ HBw.out).mono ?_
      rintro e w2 ⟨rfl, hb2⟩
      have HB2 := Lib.hid (HBw.out.trans (hb2.mono HBw.out.size))
      clear hb2
      go_wp2_with fail
      refine (HGd.out _ HB2.out).mono ?_
      rintro e w4 ⟨gv, rfl, howng, hb4⟩
      have HB4 := Lib.hid (HB2.out.trans (hb4.mono HB2.out.size))
      have HC := Lib.hid (refChoose (s.size : Int) _ G w4 (Reads.of_own howng) HGs.out)
      rw [HX.out] at HC
      clear howng hb4
      go_wp2_with fail
      refine HC.out.mono ?_
      rintro e w5 ⟨xv, rfl, hownx, hb5⟩
      have HB5 := Lib.hid (HB4.out.trans (hb5.mono HB4.out.size))
      have hRX := Reads.of_own hownx
      obtain ⟨xa, xc, rfl⟩ := Reads.shape hRX
      have HA := Lib.hid (apply_done _ _ s X w5 (HB.out.below HB5.out) hRX HFine.out.short (by omega) HFine.out.chk HFine.out.long)
      have HRX5 := Lib.hid hRX
      clear hownx hb5 hRX
      rw [HK.out] at HA
      rw [HK.out]
      go_wp2_with fail
      refine HA.out.mono ?_
      rintro e w6 ⟨ov, t, rfl, ht, howno, hb6⟩
      have HB6 := Lib.hid (HB5.out.trans (hb6.mono HB5.out.size))
      have HRX := Lib.hid (HRX5.out.below hb6)
      have HBo := Lib.hid (Bys.own howno)
      obtain ⟨oa, oc, rfl⟩ := own_shape howno
      have HT := Lib.hid ht
      have hts : (Ed.apply s.data.toList (X.map Et.ed)).length = t.size := by rw [← ht, ← Lib.size_eq]
      have HTs := Lib.hid hts
      have ht20 : t.size ≤ 16384 := by rw [← hts]; exact HFine.out.long
      have HBs := Lib.hid (HB.out.below HB6.out)
      clear ht howno hb6 hts HRX5
      have HMap := Lib.hid (fun (x : Int) W (hW : Below w6.heap.size w6 W) (h0 : 0 ≤ x) (h1 : x ≤ 1000000) => by have h := editMap x _ X W (HRX.out.below hW) HFine.out.near HFine.out.len h0 h1; rw [HK.out] at h; exact h)
      obtain ⟨mp, hmp⟩ : ∃ mp : Int → Int, Ed.map (X.map Et.ed) = mp := ⟨_, rfl⟩
      have HMono := Lib.hid (fun (x y : Int) (h0 : 0 ≤ x) (h1 : x ≤ y) => by have h := HFine.out.mono h0 h1; rw [hmp] at h; exact h)
      have HBd := Lib.hid (fun (x : Int) (h0 : 0 ≤ x) (h1 : x ≤ s.size) => by have h := HFine.out.bound h0 h1; rw [hmp, HTs.out] at h; exact h)
      have HEnd := Lib.hid (fun j : Nat => by have h := HFine.out.at_end j; rw [hmp, HTs.out] at h; exact h)
      rw [hmp] at HMap
      clear hmp
      go_wp2_with fail
      go_loopw [8, 9] (fun ls is wr => ∃ (k : Nat) (L : Int), is = .int .i64 k ∧ ls = .int .i64 L ∧ k ≤ s.size + 1 ∧ Hid (k ≤ s.size → L ≤ mp k) ∧ Below w6.heap.size w6 wr) (fun _ is _ => s.size + 1 - (intOf is).toNat)
      case atStart => exact ⟨0, 0, rfl, rfl, Nat.zero_le _, Lib.hid (fun _ => (HBd.out 0 (Int.le_refl _) (by omega)).1), Below.refl _ _⟩
      case round =>
        obtain ⟨k, L, rfl, rfl, hk, HL, hb⟩ := hrel
        by_cases hlt : k ≤ s.size
        · have hlt' : (k : Int) ≤ (s.size : Int) := by omega
          have HMk := Lib.hid (HMap.out (k : Int) wr hb (by omega) (by omega))
          have hq0 := HBd.out (k : Int) (by omega) hlt'
          have hq1 := HL.out hlt
          have HQn := Lib.hid (fun h : k + 1 ≤ s.size => HMono.out (k : Int) ((k + 1 : Nat) : Int) (by omega) (by omega))
          obtain ⟨q, hq⟩ : ∃ q, mp (k : Int) = q := ⟨_, rfl⟩
          rw [hq] at HMk hq0 hq1 HQn
          have hq2 : decide (q < L) = false := decide_eq_false (by omega)
          have hq3 : ¬ q < L := by omega
          have HB7 := Lib.hid hb
          clear hq hb hq0 HL
          go_wp2_with fail
          refine HMk.out.mono ?_
          rintro e w7 ⟨rfl, hb7⟩
          have HB8 := Lib.hid (HB7.out.trans (hb7.mono HB7.out.size))
          clear hb7
          go_wp2
          go_roundw
          case rel => exact ⟨k + 1, q, by go_num, rfl, by omega, HQn, HB8.out⟩
          case measure => simp [intOf]; omega
        · obtain rfl : k = s.size + 1 := by omega
          have hn : ¬ ((s.size + 1 : Nat) : Int) ≤ (s.size : Int) := by omega
          have H0 := Lib.hid (fun W (hW : Below w6.heap.size w6 W) => by have h := HMap.out (s.size : Int) W hW (by omega) (by omega); rw [show mp (s.size : Int) = (t.size : Int) from by have e := HEnd.out 0; simpa using e] at h; exact h)
          have H7 := Lib.hid (fun W (hW : Below w6.heap.size w6 W) => by have h := HMap.out ((s.size : Int) + 7) W hW (by omega) (by omega); rw [show mp ((s.size : Int) + 7) = (t.size : Int) + 7 from HEnd.out 7] at h; exact h)
          have HB7 := Lib.hid hb
          clear hb
          go_wp2_with fail
          refine (H0.out _ HB7.out).mono ?_
          rintro e w7 ⟨rfl, hb7⟩
          have HB8 := Lib.hid (HB7.out.trans (hb7.mono HB7.out.size))
          clear hb7
          go_wp2_with fail
          refine (H7.out _ HB8.out).mono ?_
          rintro e w8 ⟨rfl, hb8⟩
          have HB9 := Lib.hid (HB6.out.trans ((HB8.out.trans (hb8.mono HB8.out.size)).mono HB6.out.size))
          clear hb8
          go_wp2
          go_ret
          exact ⟨by simp, HB9.out⟩
end Go.Proofs.Ytomihekgcnilhaa
