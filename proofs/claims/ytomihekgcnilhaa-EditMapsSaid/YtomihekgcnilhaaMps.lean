/- The walk of correctorlaw4.EditMaps: where each place is then is the document's; a byte that no edit touches is there. -/
import Derived.Test.YtomihekgcnilhaaSet
import Derived.Test.YtomihekgcnilhaaPc
namespace Go.Proofs.Ytomihekgcnilhaa
open Go.RowKit
open Go.Proofs.Ytomihekgcnilhaa.Sq

theorem bys_at {w : World} {a : Option Addr} {s : ByteArray} {cap : Nat} (h : Bys w (.slice a s.size cap) s) (j : Nat) (hj : j < s.size) : ∃ b off, a = some ⟨b, off, none⟩ ∧ w.cell? ⟨b, off + j, none⟩ = some (.int .u8 (s.get! j).toNat) := by
  rcases h with ⟨hv, h0⟩ | ⟨b, off, cap', hv, h2, h3, h4⟩
  · omega
  · obtain ⟨rfl, -, rfl⟩ := Value.slice.inj hv
    exact ⟨b, off, rfl, h4 j hj⟩
theorem get_of {s : ByteArray} {j : Nat} (h : j < s.size) : s.data.toList[j]? = some (s.get! j) := by
  have hj : j < s.data.toList.length := by rw [← Lib.size_eq]; exact h
  rw [← Lib.getD_get!', List.getD_eq_getElem?_getD, List.getElem?_eq_getElem hj]
  rfl
/-- If f: no edit of the first i touches place k, and there is a byte. -/
def FreeTo (X : List Et) (n k i : Nat) (f : Bool) : Prop := f = true → k < n ∧ ∀ (j : Nat) (x : Et), j < i → X[j]? = some x → ¬ (x.f ≤ (k : Int) ∧ (k : Int) < x.t)
theorem free_start (X : List Et) (n k : Nat) : FreeTo X n k 0 (decide (k < n)) := fun h => ⟨of_decide_eq_true h, fun j _ hj _ => absurd hj (Nat.not_lt_zero j)⟩
theorem free_off (X : List Et) (n k i : Nat) : FreeTo X n k i false := fun h => by cases h
theorem free_more {X : List Et} {n k i : Nat} {x : Et} (h : FreeTo X n k i true) (hx : X[i]? = some x) (hn : ¬ (x.f ≤ (k : Int) ∧ (k : Int) < x.t)) : FreeTo X n k (i + 1) true := fun _ => by
  obtain ⟨h1, h2⟩ := h rfl
  refine ⟨h1, fun j y hj hy => ?_⟩
  by_cases hji : j = i
  · subst hji; rw [hx] at hy; rw [← Option.some.inj hy]; exact hn
  · exact h2 j y (by omega) hy
theorem free_all_of {X : List Et} {n k K : Nat} (h : FreeTo X n k K true) (hK : X.length = K) : k < n ∧ ∀ e ∈ X, ¬ (e.f ≤ (k : Int) ∧ (k : Int) < e.t) := by
  obtain ⟨h1, h2⟩ := h rfl
  refine ⟨h1, fun e he => ?_⟩
  obtain ⟨j, hj⟩ := List.mem_iff_getElem?.1 he
  exact h2 j e (by rw [← hK]; exact (List.getElem?_eq_some_iff.1 hj).1) hj
set_option maxHeartbeats 8000000 in
set_option maxRecDepth 100000 in
theorem walk_EditMaps (bv : Value) (s : ByteArray) (v : Value) (l : List Et) (w : World) (hB : Bys w bv s) (hE : Edits w v l) (hF : Fit l) :
    Calls Try.prog 5 #[bv, v] w fun e w' => e = .returned (.bool true) ∧ Below w.heap.size w w' := by
  have hsz := hB.size_le
  unfold maxLen at hsz
  obtain ⟨sa, sc, rfl⟩ := hB.shape
  have HB := Lib.hid hB
  clear hB
  by_cases h60 : 60 < s.size
  · have h60' : (60 : Int) < (s.size : Int) := by omega
    clear hE hF
    go_enter Try.func5, Try.ntmps5
    go_wp2_with fail
    refine (known_true _).mono ?_
    rintro e w1 ⟨rfl, hbw⟩
    have HBw := Lib.hid hbw
    clear hbw
    go_wp2
    go_ret
    exact ⟨rfl, HBw.out⟩
  · have h60' : ¬ (60 : Int) < (s.size : Int) := by omega
    have HFew := Lib.hid (fun W (hW : Below w.heap.size w W) => few_any v l W (hE.below hW) hF)
    obtain ⟨fw, hfw⟩ : ∃ fw, fewB l = fw := ⟨_, rfl⟩
    rw [hfw] at HFew
    clear hfw
    cases fw with
    | false =>
      clear hE hF
      go_enter Try.func5, Try.ntmps5
      go_wp2_with fail
      refine (known_true _).mono ?_
      rintro e w1 ⟨rfl, hbw⟩
      have HBw := Lib.hid hbw
      clear hbw
      go_wp2_with fail
      refine (HFew.out _ HBw.out).mono ?_
      rintro e w2 ⟨rfl, hb2⟩
      have HB2 := Lib.hid (HBw.out.trans (hb2.mono HBw.out.size))
      clear hb2
      go_wp2
      go_ret
      exact ⟨rfl, HB2.out⟩
    | true =>
      have HGd := Lib.hid (fun W (hW : Below w.heap.size w W) => good_any (s.size : Int) v l W (by omega) (by omega) (hE.below hW) hF.short)
      have HFine := Lib.hid (fine_of s l (by omega))
      have HGs := Lib.hid (show Short (tameAll (s.size : Int) l) from fun e he => by
        have := tameAll_short (n := (s.size : Int)) (by omega) e he
        unfold maxLen; omega)
      obtain ⟨G, hG⟩ : ∃ G, tameAll (s.size : Int) l = G := ⟨_, rfl⟩
      rw [hG] at HGd HFine HGs
      obtain ⟨X, hX⟩ : ∃ X, chooseT (s.size : Int) G = X := ⟨_, rfl⟩
      rw [hX] at HFine
      have HX := Lib.hid hX
      clear hE hF hG hX
      obtain ⟨K, hK⟩ : ∃ K, X.length = K := ⟨_, rfl⟩
      have HK := Lib.hid hK
      have hK200 : K ≤ 200 := by rw [← hK]; exact HFine.out.len
      clear hK
      go_enter Try.func5, Try.ntmps5
      go_wp2_with fail
      refine (known_true _).mono ?_
      rintro e w1 ⟨rfl, hbw⟩
      have HBw := Lib.hid hbw
      clear hbw
      go_wp2_with fail
      refine (HFew.out _ HBw.out).mono ?_
      rintro e w2 ⟨rfl, hb2⟩
      have HB2 := Lib.hid (HBw.out.trans (hb2.mono HBw.out.size))
      clear hb2
      go_wp2_with fail
      refine (HGd.out _ HB2.out).mono ?_
      rintro e w4 ⟨gv, rfl, howng, hb4⟩
      have HB4 := Lib.hid (HB2.out.trans (hb4.mono HB2.out.size))
      have HC := Lib.hid (refChoose (s.size : Int) _ G w4 (Reads.of_own howng) HGs.out)
      rw [HX.out] at HC
      clear howng hb4
      go_wp2_with fail
      refine HC.out.mono ?_
      rintro e w5 ⟨xv, rfl, hownx, hb5⟩
      have HB5 := Lib.hid (HB4.out.trans (hb5.mono HB4.out.size))
      have hRX := Reads.of_own hownx
      obtain ⟨xa, xc, rfl⟩ := Reads.shape hRX
      have HA := Lib.hid (apply_done _ _ s X w5 (HB.out.below HB5.out) hRX HFine.out.short (by omega) HFine.out.chk HFine.out.long)
      have HRX5 := Lib.hid hRX
      clear hownx hb5 hRX
      rw [HK.out] at HA
      rw [HK.out]
      go_wp2_with fail
      refine HA.out.mono ?_
      rintro e w6 ⟨ov, t, rfl, ht, howno, hb6⟩
      have HB6 := Lib.hid (HB5.out.trans (hb6.mono HB5.out.size))
      have HRX := Lib.hid (HRX5.out.below hb6)
      have HBo := Lib.hid (Bys.own howno)
      obtain ⟨oa, oc, rfl⟩ := own_shape howno
      have HT := Lib.hid ht
      have hts : (Ed.apply s.data.toList (X.map Et.ed)).length = t.size := by rw [← ht, ← Lib.size_eq]
      have HTs := Lib.hid hts
      have ht20 : t.size ≤ 16384 := by rw [← hts]; exact HFine.out.long
      have HBs := Lib.hid (HB.out.below HB6.out)
      clear ht howno hb6 hts HRX5
      have HMap := Lib.hid (fun (x : Int) W (hW : Below w6.heap.size w6 W) (h0 : 0 ≤ x) (h1 : x ≤ 1000000) => by have h := editMap x _ X W (HRX.out.below hW) HFine.out.near HFine.out.len h0 h1; rw [HK.out] at h; exact h)
      obtain ⟨mp, hmp⟩ : ∃ mp : Int → Int, Ed.map (X.map Et.ed) = mp := ⟨_, rfl⟩
      have HBd := Lib.hid (fun (x : Int) (h0 : 0 ≤ x) (h1 : x ≤ s.size) => by have h := HFine.out.bound h0 h1; rw [hmp, HTs.out] at h; exact h)
      have HByte := Lib.hid (fun (x : Nat) (hx : x < s.size) (hf : ∀ e ∈ X, ¬ (e.f ≤ (x : Int) ∧ (x : Int) < e.t)) => by have h := HFine.out.byte hx hf; rw [hmp, ← HT.out] at h; exact h)
      have HRef := Lib.hid (fun (x : Int) W (hW : Below w6.heap.size w6 W) (h0 : 0 ≤ x) (h1 : x ≤ 1000000) => by have h := refMap x _ X W (HRX.out.below hW) HFine.out.near HFine.out.len h0 h1; rw [HK.out, hmp] at h; exact h)
      rw [hmp] at HMap
      clear hmp
      have HAX := Lib.hid (fun k y hk => edits_at HRX.out k y hk)
      go_wp2_with fail
      go_loopw [8] (fun is wr => ∃ k : Nat, is = .int .i64 k ∧ k ≤ s.size + 1 ∧ Below w6.heap.size w6 wr) (fun is _ => s.size + 1 - (intOf is).toNat)
      case atStart => exact ⟨0, rfl, Nat.zero_le _, Below.refl _ _⟩
      case round =>
        obtain ⟨k, rfl, hk, hb⟩ := hrel
        by_cases hlt : k ≤ s.size
        · have hlt' : (k : Int) ≤ (s.size : Int) := by omega
          have HMk := Lib.hid (HMap.out (k : Int) wr hb (by omega) (by omega))
          have hq0 := HBd.out (k : Int) (by omega) hlt'
          have HQ := Lib.hid (HByte.out k)
          have HRk := Lib.hid (fun W (hW : Below w6.heap.size w6 W) => HRef.out (k : Int) W hW (by omega) (by omega))
          obtain ⟨q, hq⟩ : ∃ q, mp (k : Int) = q := ⟨_, rfl⟩
          rw [hq] at HMk hq0 HQ HRk
          obtain ⟨Q, rfl⟩ : ∃ Q : Nat, q = (Q : Int) := ⟨q.toNat, by omega⟩
          obtain ⟨hq1, hq2⟩ := hq0
          have b1 : ((Q : Int) != (Q : Int)) = false := by simp
          have b2 : decide ((Q : Int) < 0) = false := decide_eq_false (by omega)
          have b3 : decide ((t.size : Int) < (Q : Int)) = false := decide_eq_false (by omega)
          have b4 : ¬ (t.size : Int) < (Q : Int) := by omega
          have hQt : Q ≤ t.size := by omega
          have HB7 := Lib.hid hb
          clear hq hb
          go_wp2_with fail
          refine HMk.out.mono ?_
          rintro e w7 ⟨rfl, hb7⟩
          have HB8 := Lib.hid (HB7.out.trans (hb7.mono HB7.out.size))
          clear hb7
          go_wp2_with fail
          refine (HRk.out _ HB8.out).mono ?_
          rintro e w8 ⟨rfl, hb8⟩
          have HB9 := Lib.hid (HB8.out.trans (hb8.mono HB8.out.size))
          clear hb8
          obtain ⟨f0, hf0⟩ : ∃ f0, decide (k < s.size) = f0 := ⟨_, rfl⟩
          have HF0 := Lib.hid (by have h := free_start X s.size k; rw [hf0] at h; exact h)
          have hf1 : decide ((k : Int) < (s.size : Int)) = f0 := by rw [← hf0]; exact decide_eq_decide.2 (by omega)
          go_wp2_with fail
          clear hf0 hf1
          go_loopw [10, 11] (fun fs is wr => ∃ (i : Nat) (f : Bool), fs = .bool f ∧ is = .int .i64 i ∧ i ≤ K ∧ Hid (FreeTo X s.size k i f) ∧ Below w6.heap.size w6 wr) (fun _ is _ => K - (intOf is).toNat)
          case atStart => exact ⟨0, _, rfl, rfl, Nat.zero_le _, HF0, HB9.out⟩
          case round =>
            obtain ⟨i, f, rfl, rfl, hi, HFr, hb⟩ := hrel
            have HBi := Lib.hid hb
            by_cases hiK : i < K
            · have hiK' : (i : Int) < (K : Int) := by omega
              have hkl : i < X.length := by rw [HK.out]; exact hiK
              obtain ⟨x, hx⟩ : ∃ x, X[i]? = some x := ⟨_, List.getElem?_eq_getElem hkl⟩
              obtain ⟨xb, xo, rfl, c0, c1, c2⟩ := HAX.out i x hx
              have c0 := cell_keep c0 hb
              have c1 := cell_keep c1 hb
              have HXi := Lib.hid hx
              clear c2 hx hb
              cases f with
              | false =>
                go_wp2
                go_roundw
                case rel => exact ⟨i + 1, _, rfl, by go_num, by omega, Lib.hid (free_off _ _ _ _), HBi.out⟩
                case measure => simp [intOf]; omega
              | true =>
                by_cases a1 : x.f ≤ (k : Int)
                · by_cases a2 : (k : Int) < x.t
                  · skip
                    go_wp2
                    go_roundw
                    case rel => exact ⟨i + 1, _, rfl, by go_num, by omega, Lib.hid (free_off _ _ _ _), HBi.out⟩
                    case measure => simp [intOf]; omega
                  · have a2' : decide ((k : Int) < x.t) = false := decide_eq_false a2
                    have HFr2 := Lib.hid (free_more HFr.out HXi.out (fun h => a2 h.2))
                    go_wp2
                    go_roundw
                    case rel => exact ⟨i + 1, _, rfl, by go_num, by omega, HFr2, HBi.out⟩
                    case measure => simp [intOf]; omega
                · have a1' : decide (x.f ≤ (k : Int)) = false := decide_eq_false a1
                  have HFr2 := Lib.hid (free_more HFr.out HXi.out (fun h => a1 h.1))
                  go_wp2
                  go_roundw
                  case rel => exact ⟨i + 1, _, rfl, by go_num, by omega, HFr2, HBi.out⟩
                  case measure => simp [intOf]; omega
            · obtain rfl : i = K := by omega
              cases f with
              | false =>
                go_wp2_with fail
                go_big_quiet (fail)
                have HBn := Lib.hid (show Below w6.heap.size w6 (wr.drewN nq) from ⟨hb.os, hb.tape, hb.output, hb.size, hb.block⟩)
                clear hb
                go_wp2
                go_roundw
                case rel => exact ⟨k + 1, by go_num, by omega, HBn.out⟩
                case measure => simp [intOf]; omega
              | true =>
                obtain ⟨hks, hfree⟩ := free_all_of HFr.out HK.out
                have hby := (HQ.out hks hfree).2
                rw [Int.toNat_natCast, get_of hks] at hby
                have hQ1 : Q < t.size := by rw [Lib.size_eq]; exact (List.getElem?_eq_some_iff.1 hby).1
                rw [get_of hQ1] at hby
                obtain ⟨ob, oo, rfl, z0⟩ := bys_at HBo.out Q hQ1
                obtain ⟨sb, so, rfl, z1⟩ := bys_at HBs.out k hks
                rw [Option.some.inj hby] at z0
                obtain ⟨c, hc⟩ : ∃ c : Int, ((s.get! k).toNat : Int) = c := ⟨_, rfl⟩
                rw [hc] at z0 z1
                have z0 := cell_keep z0 hb
                have z1 := cell_keep z1 hb
                have b5 : decide ((t.size : Int) ≤ (Q : Int)) = false := decide_eq_false (by omega)
                have b6 : (Q : Int) < (t.size : Int) := by omega
                have b7 : (k : Int) < (s.size : Int) := by omega
                have b8 : (c != c) = false := by simp
                clear hc hby hfree hb
                go_wp2_with fail
                have b5 : decide ((t.size : Int) ≤ (Q : Int)) = false := decide_eq_false (by omega)
                have b9 : decide (t.size ≤ Q) = false := decide_eq_false (by omega)
                go_big_quiet (fail)
                have HBn := Lib.hid (show Below w6.heap.size w6 (wr.drewN nq) from ⟨HBi.out.os, HBi.out.tape, HBi.out.output, HBi.out.size, HBi.out.block⟩)
                clear z0 z1
                go_wp2
                go_roundw
                case rel => exact ⟨k + 1, by go_num, by omega, HBn.out⟩
                case measure => simp [intOf]; omega
        · obtain rfl : k = s.size + 1 := by omega
          have hn : ¬ ((s.size + 1 : Nat) : Int) ≤ (s.size : Int) := by omega
          go_wp2
          go_ret
          exact ⟨rfl, HB6.out.trans (hb.mono HB6.out.size)⟩
end Go.Proofs.Ytomihekgcnilhaa
