/- package edit: Choose. -/
import Derived.Test.YtomihekgcnilhaaPg
import Derived.Test.YtomihekgcnilhaaPb
namespace Go.Proofs.Ytomihekgcnilhaa
open Go.RowKit
open Go.Proofs.Ytomihekgcnilhaa.Sq

theorem check_one (n : Int) (e : Ed.E) : Ed.check n [e] = Ed.one n e := by
  unfold Ed.check
  rw [if_neg (by simp)]
  unfold Ed.checkFrom
  by_cases h : Ed.one n e = 0
  · rw [if_neg (by simp [h]), h]; rfl
  · rw [if_pos h]
theorem free_all (n : Int) (out : List Et) (e : Et) : freeN n out e out.length = (decide (Ed.one n e.ed = 0) && !uponT e out) := by
  unfold freeN uponT
  rw [List.take_length, List.not_any_eq_all_not]
theorem good_rises {n : Int} {out : List Et} (e : Et) (h : Ed.Good n (out.map Et.ed)) : Rises out e := by
  intro i j x y hij hx hy hay
  have hp := h.1
  rw [List.pairwise_map] at hp
  obtain ⟨hi, rfl⟩ := List.getElem?_eq_some_iff.1 hx
  obtain ⟨hj, rfl⟩ := List.getElem?_eq_some_iff.1 hy
  exact Ed.ahead_trans (List.pairwise_iff_getElem.1 hp i j hi hj hij).2 hay
theorem step_in {n : Int} {out : List Et} {e : Et} (h1 : out.length < 200) (h2 : Ed.one n e.ed = 0) (h3 : uponT e out = false) : stepT n out e = insT e out := by
  unfold stepT
  rw [if_pos ⟨h1, by rw [free_all, h2, h3]; rfl⟩]
theorem step_bad {n : Int} {out : List Et} {e : Et} (h2 : Ed.one n e.ed ≠ 0) : stepT n out e = out := by
  unfold stepT
  rw [if_neg (fun h => by rw [free_all] at h; simp [h2] at h)]
theorem step_upon {n : Int} {out : List Et} {e : Et} (h3 : uponT e out = true) : stepT n out e = out := by
  unfold stepT
  rw [if_neg (fun h => by rw [free_all] at h; simp [h3] at h)]
theorem good_step {n : Int} {out : List Et} {e : Et} (h : Ed.Good n (out.map Et.ed)) : Ed.Good n ((stepT n out e).map Et.ed) := by
  rw [stepT_ed]; exact Ed.step_good h
theorem own_spell {W : World} {B t M vc : Nat} {va : Option Addr} {out R : List Et} (h : W.ownsRow B t 3 (.slice va out.length vc) out.length (encE.all out)) (hM : out.length = M) (hR : out = R) : W.ownsRow B t 3 (.slice va M vc) R.length (encE.all R) := by
  subst hM
  subst hR
  exact h
set_option maxHeartbeats 3000000 in
set_option maxRecDepth 100000 in
theorem editChoose (n : Int) (lv : Value) (l : List Et) (w : World) (hE : Edits w lv l) (hS : Short l) :
    Calls Try.prog 21 #[.int .i64 n, lv] w fun r w' => ∃ v, r = .returned v ∧ w'.ownsRow w.heap.size 41 3 v (chooseT n l).length (encE.all (chooseT n l)) ∧ Below w.heap.size w w' := by
  obtain ⟨a, cap, rfl⟩ := hE.shape
  obtain ⟨N, hN⟩ : ∃ N, l.length = N := ⟨_, rfl⟩
  have hsz := hE.size_le
  unfold maxLen at hsz
  have HA := Lib.hid (fun k y hk => edits_at hE k y hk)
  have HN := Lib.hid hN
  have HS := Lib.hid hS
  have HE := Lib.hid hE
  rw [hN] at hsz
  rw [hN]
  obtain ⟨R, hR⟩ : ∃ R, chooseT n l = R := ⟨_, rfl⟩
  have HR := Lib.hid (show (l.drop 0).foldl (stepT n) [] = R from hR)
  rw [hR]
  clear hR hN hE hS
  go_enter Try.func21, Try.ntmps21
  go_wp2_with fail
  go_loopw [5, 10] (fun ov is wr => ∃ (k : Nat) (out : List Et) (V : Value), V = ov ∧ is = .int .i64 k ∧ k ≤ N ∧ out.length ≤ 200 ∧ Hid (wr.ownsRow w.heap.size 41 3 V out.length (encE.all out)) ∧ Hid (Ed.Good n (out.map Et.ed)) ∧ Hid ((l.drop k).foldl (stepT n) out = R) ∧ Below w.heap.size w wr) (fun _ is _ => N - (intOf is).toNat)
  case atStart => exact ⟨0, [], _, rfl, rfl, Nat.zero_le _, Nat.zero_le _, Lib.hid (own_nil encE _ _), Lib.hid (Ed.good_nil n), HR, Below.refl _ _⟩
  case round =>
    obtain ⟨k, out, V, rfl, rfl, hk, ho, HO, HG, HK, hb⟩ := hrel
    obtain ⟨va, vc, rfl⟩ := own_shape HO.out
    obtain ⟨M, hM⟩ : ∃ M, out.length = M := ⟨_, rfl⟩
    have HM := Lib.hid hM
    rw [hM] at ho
    rw [hM]
    clear hM
    by_cases hlt : k < N
    · have hkl : k < l.length := by rw [HN.out]; exact hlt
      have hj2 : (k : Int) < (N : Int) := by omega
      obtain ⟨x, hx⟩ : ∃ x, l[k]? = some x := ⟨_, List.getElem?_eq_getElem hkl⟩
      obtain ⟨b, off, rfl, c0, c1, c2⟩ := HA.out k x hx
      have c0 := cell_keep c0 hb
      have c1 := cell_keep c1 hb
      have c2 := cell_keep c2 hb
      have hK := HK.out
      have HBox := Lib.hid (below_new wr (.cells #[.int .i64 x.f, .int .i64 x.t, .string x.p] 41))
      have HB := Lib.hid (hb.trans (HBox.out.mono hb.size))
      have HZ0 := Lib.hid (edit_new0 wr x 41)
      have HZ1 := Lib.hid (edit_new1 wr x 41)
      have HZ2 := Lib.hid (edit_new2 wr x 41)
      by_cases hM2 : M = 200
      · rw [fold_full _ _ (by rw [HM.out]; omega)] at hK
        have hMb : ((M : Int) == 200) = true := by simp; omega
        have HF := Lib.hid (own_spell HO.out HM.out hK)
        have HF2 := Lib.hid (own_below HF.out HBox.out)
        clear hK HK hx hM2 hb
        go_wp2
        go_ret
        exact ⟨_, rfl, HF2.out, HB.out⟩
      · have hMb : ((M : Int) == 200) = false := by simp; omega
        have hM3 : M < 200 := by omega
        rw [drop_cons hx, List.foldl_cons] at hK
        have hps := HS.out x (List.mem_of_getElem? hx)
        obtain ⟨pc, hsl, hpc⟩ := Sq.cut_lhm tyE (HE.out.below HB.out) (Nat.le_succ k) hkl
        rw [show ((l.drop k).take (k + 1 - k)) = [x] from by rw [drop_cons hx, show k + 1 - k = 1 from by omega]; rfl] at hpc
        rw [HN.out, show ((k + 1 : Nat) : Int) = (k : Int) + 1 from rfl] at hsl
        have hchk := editCheck n pc [x] (wr.alloc (.cells #[.int .i64 x.f, .int .i64 x.t, .string x.p] 41)) hpc.1 (fun e he => by rw [List.mem_singleton.1 he]; exact hps)
        rw [show Ed.check n ([x].map Et.ed) = Ed.one n x.ed from check_one n x.ed] at hchk
        obtain ⟨r, hr⟩ : ∃ r, Ed.one n x.ed = r := ⟨_, rfl⟩
        rw [hr] at hchk
        have HC := Lib.hid hchk
        have HK2 := Lib.hid hK
        have HR1 := Lib.hid hr
        clear hchk hK hr hpc hps hM2 HK
        by_cases hr0 : r = 0
        · subst hr0
          obtain ⟨u, hu⟩ : ∃ u, uponT x out = u := ⟨_, rfl⟩
          have HU := Lib.hid hu
          clear hu
          go_wp2_with fail
          refine HC.out.mono ?_
          rintro e w2 ⟨rfl, hb2⟩
          have z0 := cell_keep HZ0.out hb2
          have z1 := cell_keep HZ1.out hb2
          have z2 := cell_keep HZ2.out hb2
          have HB2 := Lib.hid (HB.out.trans (hb2.mono HB.out.size))
          have HO2 := Lib.hid (own_below (own_below HO.out HBox.out) hb2)
          have HUp := Lib.hid (show Calls Try.prog 32 #[x.val, .slice va M vc] w2 _ from by have h := uponOne_any _ out x w2 (Reads.of_own HO2.out) (by rw [HM.out]; omega); rw [HU.out, HM.out] at h; exact h)
          clear hb2 hb c0 c1 c2
          cases u with
          | true =>
            have HK3 := Lib.hid (show (l.drop (k + 1)).foldl (stepT n) out = R by rw [← HK2.out, step_upon HU.out])
            go_wp2_with fail
            refine HUp.out.mono ?_
            rintro e w3 ⟨rfl, hb3⟩
            have HO3 := Lib.hid (own_below HO2.out hb3)
            have HB3 := Lib.hid (HB2.out.trans (hb3.mono HB2.out.size))
            clear hb3 z0 z1 z2
            go_wp2
            go_roundw
            case rel => exact ⟨k + 1, out, _, by rw [← HM.out], by go_num, by omega, by rw [HM.out]; omega, HO3, HG, HK3, HB3.out⟩
            case measure => simp [intOf]; omega
          | false =>
            have HK3 := Lib.hid (show (l.drop (k + 1)).foldl (stepT n) (insT x out) = R by rw [← HK2.out, step_in (by rw [HM.out]; exact hM3) HR1.out HU.out])
            have HG3 := Lib.hid (show Ed.Good n ((insT x out).map Et.ed) by rw [← step_in (n := n) (by rw [HM.out]; exact hM3) HR1.out HU.out]; exact good_step HG.out)
            have hlen : (insT x out).length ≤ 200 := by rw [insT_len, HM.out]; omega
            have HLen := Lib.hid hlen
            clear hlen
            go_wp2_with fail
            refine HUp.out.mono ?_
            rintro e w3 ⟨rfl, hb3⟩
            have y0 := cell_keep z0 hb3
            have y1 := cell_keep z1 hb3
            have y2 := cell_keep z2 hb3
            have HO3 := Lib.hid (own_below HO2.out hb3)
            have HB3 := Lib.hid (HB2.out.trans (hb3.mono HB2.out.size))
            have HIn := Lib.hid (show Calls Try.prog 33 #[.slice va M vc, x.val] w3 _ from by have h := insert_any _ out x w3 (Reads.of_own HO3.out) (by rw [HM.out]; omega) (good_rises x HG.out); rw [HM.out] at h; exact h)
            clear hb3 z0 z1 z2
            go_wp2_with fail
            refine HIn.out.mono ?_
            rintro e w4 ⟨v4, rfl, hown4, hb4⟩
            have HO4 := Lib.hid (own_base hown4 HB3.out.size)
            have HB4 := Lib.hid (HB3.out.trans (hb4.mono HB3.out.size))
            clear hb4 hown4 y0 y1 y2
            go_wp2
            go_roundw
            case rel => exact ⟨k + 1, insT x out, _, rfl, by go_num, by omega, HLen.out, HO4, HG3, HK3, HB4.out⟩
            case measure => simp [intOf]; omega
        · have hr2 : (r == 0) = false := by simp [hr0]
          have HK3 := Lib.hid (show (l.drop (k + 1)).foldl (stepT n) out = R by rw [← HK2.out, step_bad (by rw [HR1.out]; exact hr0)])
          clear hr0
          go_wp2_with fail
          refine HC.out.mono ?_
          rintro e w2 ⟨rfl, hb2⟩
          have HB2 := Lib.hid (HB.out.trans (hb2.mono HB.out.size))
          have HO2 := Lib.hid (own_below (own_below HO.out HBox.out) hb2)
          clear hb2 hb c0 c1 c2
          go_wp2
          go_roundw
          case rel => exact ⟨k + 1, out, _, by rw [← HM.out], by go_num, by omega, by rw [HM.out]; omega, HO2, HG, HK3, HB2.out⟩
          case measure => simp [intOf]; omega
    · obtain rfl : k = N := by omega
      have hK := HK.out
      rw [List.drop_of_length_le (by rw [HN.out]; exact Nat.le_refl _)] at hK
      have hK2 : out = R := hK
      have HF := Lib.hid (own_spell HO.out HM.out hK2)
      clear hK hK2
      go_wp2
      go_ret
      exact ⟨_, rfl, HF.out, hb⟩
end Go.Proofs.Ytomihekgcnilhaa
