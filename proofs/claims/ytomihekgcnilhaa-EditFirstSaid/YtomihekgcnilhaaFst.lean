/- The walk of correctorlaw4.EditFirst. -/
import Derived.Test.YtomihekgcnilhaaLb
import Derived.Test.YtomihekgcnilhaaLc
import Derived.Test.YtomihekgcnilhaaArg4
namespace Go.Proofs.Ytomihekgcnilhaa
open Go.RowKit
open Go.Proofs.Ytomihekgcnilhaa.Sq

theorem ed_inj {x y : Et} (h : x.ed = y.ed) : x = y := by
  obtain ⟨f, t, p⟩ := x
  obtain ⟨g, u, q⟩ := y
  have h1 : f = g := congrArg Ed.E.f h
  have h2 : t = u := congrArg Ed.E.t h
  have h3 : p.data.toList = q.data.toList := congrArg Ed.E.p h
  have h4 : p = q := by
    cases p; cases q
    simp at h3
    rw [h3]
  rw [h1, h2, h4]
theorem first_in {n : Int} {e : Et} {r : List Et} (h : Ed.one n e.ed = 0) : e ∈ chooseT n (e :: r) := by
  have h1 : e.ed ∈ (chooseT n (e :: r)).map Et.ed := by rw [chooseT_ed]; exact Ed.choose_first h
  obtain ⟨x, hx, he⟩ := List.mem_map.1 h1
  obtain rfl := ed_inj he
  exact hx
theorem near_in {n : Int} {l : List Et} (hl : l.length ≤ 200) (h1 : ∀ e ∈ l, Ed.one n e.ed = 0) {e : Et} (he : e ∈ l) : ((chooseT n l).any fun x => Ed.upon e.ed x.ed) = true := by
  have h := Ed.fold_near (n := n) (l.map Et.ed) [] (by simpa using hl) (fun y hy => by obtain ⟨x, hx, rfl⟩ := List.mem_map.1 hy; exact h1 x hx) e.ed (List.mem_map.2 ⟨e, he, rfl⟩)
  rw [show (l.map Et.ed).foldl (Ed.step n) [] = (chooseT n l).map Et.ed from (chooseT_ed n l).symm] at h
  rw [List.any_eq_true]
  rcases h with h | ⟨k, hk, hu⟩
  · obtain ⟨x, hx, hxe⟩ := List.mem_map.1 h
    refine ⟨x, hx, ?_⟩
    rw [hxe]
    exact decide_eq_true (.inr ⟨rfl, rfl⟩)
  · obtain ⟨x, hx, rfl⟩ := List.mem_map.1 hk
    exact ⟨x, hx, hu⟩
/-- Is it there, or does it lie upon one of the first k? -/
def uponBy (u : Bool) (g : Et) (X : List Et) (k : Nat) : Bool := u || (X.take k).any fun x => Ed.upon g.ed x.ed
theorem uponBy_next {u : Bool} {g x : Et} {X : List Et} {k : Nat} (h : X[k]? = some x) : uponBy u g X (k + 1) = (uponBy u g X k || Ed.upon g.ed x.ed) := by
  unfold uponBy
  rw [take_snoc h, List.any_append, Bool.or_assoc]
  simp
theorem upon_yes {g x : Et} (h : (g.f < x.t ∧ x.f < g.t) ∨ (g.f = x.f ∧ g.t = x.t)) : Ed.upon g.ed x.ed = true := decide_eq_true h
theorem upon_no {g x : Et} (h : ¬ ((g.f < x.t ∧ x.f < g.t) ∨ (g.f = x.f ∧ g.t = x.t))) : Ed.upon g.ed x.ed = false := decide_eq_false h
set_option maxHeartbeats 8000000 in
set_option maxRecDepth 100000 in
theorem walk_EditFirst (n0 : Int) (v : Value) (l : List Et) (w : World) (_ : (Lit.int .i64 n0).wf = true) (hE : Edits w v l) (hF : Fit l) :
    Calls Try.prog 11 #[.int .i64 n0, v] w fun e w' => e = .returned (.bool true) ∧ Below w.heap.size w w' := by
  have HFew := Lib.hid (fun W (hW : Below w.heap.size w W) => few_any v l W (hE.below hW) hF)
  obtain ⟨fw, hfw⟩ : ∃ fw, fewB l = fw := ⟨_, rfl⟩
  rw [hfw] at HFew
  clear hfw
  cases fw with
  | false =>
    clear hE hF
    go_enter Try.func11, Try.ntmps11
    go_wp2_with fail
    refine (known_true _).mono ?_
    rintro e w1 ⟨rfl, hbw⟩
    have HBw := Lib.hid hbw
    clear hbw
    go_wp2_with fail
    refine (HFew.out _ HBw.out).mono ?_
    rintro e w2 ⟨rfl, hb2⟩
    have HB2 := Lib.hid (HBw.out.trans (hb2.mono HBw.out.size))
    clear hb2
    go_wp2
    go_ret
    exact ⟨rfl, HB2.out⟩
  | true =>
    have hn := wit_bd n0 60 (by decide)
    have H1 := Lib.hid (fun W => within_any n0 60 W (by decide) (by decide))
    obtain ⟨n, hnn⟩ : ∃ n, wit n0 60 = n := ⟨_, rfl⟩
    rw [hnn] at hn H1
    clear hnn
    obtain ⟨hn0, hn1⟩ := hn
    have HGd := Lib.hid (fun W (hW : Below w.heap.size w W) => good_any n v l W hn0 (by omega) (hE.below hW) hF.short)
    obtain ⟨G, hG⟩ : ∃ G, tameAll n l = G := ⟨_, rfl⟩
    rw [hG] at HGd
    have HG1 := Lib.hid (show ∀ e ∈ G, Ed.one n e.ed = 0 from fun e he => by
      rw [← hG] at he
      obtain ⟨x, rfl⟩ := tameAll_mem he
      exact tame_one n x hn0)
    have HGs := Lib.hid (show Short G from fun e he => by
      rw [← hG] at he
      have := tameAll_short hn0 e he
      unfold maxLen; omega)
    have hGl : G.length ≤ 30 := by rw [← hG]; exact tameAll_len n l
    obtain ⟨X, hX⟩ : ∃ X, chooseT n G = X := ⟨_, rfl⟩
    have HNear := Lib.hid (show ∀ e ∈ G, (X.any fun x => Ed.upon e.ed x.ed) = true from fun e he => by rw [← hX]; exact near_in (by omega) HG1.out he)
    have hXl : X.length ≤ 200 := by rw [← hX]; exact chooseT_len n G
    have HFst := Lib.hid (show ∀ g r, G = g :: r → g ∈ X from fun g r h => by
      rw [← hX, h]; exact first_in (HG1.out g (by rw [h]; exact List.mem_cons_self ..)))
    have HX := Lib.hid hX
    clear hE hF hG hX
    obtain ⟨M, hM⟩ : ∃ M, G.length = M := ⟨_, rfl⟩
    obtain ⟨K, hK⟩ : ∃ K, X.length = K := ⟨_, rfl⟩
    have HM := Lib.hid hM
    have HK := Lib.hid hK
    rw [hM] at hGl
    rw [hK] at hXl
    clear hM hK
    go_enter Try.func11, Try.ntmps11
    go_wp2_with fail
    refine (known_true _).mono ?_
    rintro e w1 ⟨rfl, hbw⟩
    have HBw := Lib.hid hbw
    clear hbw
    go_wp2_with fail
    refine (HFew.out _ HBw.out).mono ?_
    rintro e w2 ⟨rfl, hb2⟩
    have HB2 := Lib.hid (HBw.out.trans (hb2.mono HBw.out.size))
    clear hb2
    go_wp2_with fail
    refine (H1.out _).mono ?_
    rintro e w3 ⟨rfl, rfl⟩
    go_wp2_with fail
    refine (HGd.out _ HB2.out).mono ?_
    rintro e w4 ⟨gv, rfl, howng, hb4⟩
    have HB4 := Lib.hid (HB2.out.trans (hb4.mono HB2.out.size))
    have hRG := Reads.of_own howng
    obtain ⟨ga, gc, rfl⟩ := Reads.shape hRG
    have HC := Lib.hid (editChoose n _ G w4 hRG HGs.out)
    rw [HX.out] at HC
    have HRG := Lib.hid hRG
    rw [HM.out] at HC
    clear howng hb4 hRG
    rw [HM.out]
    go_wp2_with fail
    refine HC.out.mono ?_
    rintro e w5 ⟨xv, rfl, hownx, hb5⟩
    have hRX := Reads.of_own hownx
    obtain ⟨xa, xc, rfl⟩ := Reads.shape hRX
    have HRX := Lib.hid hRX
    have HRG5 := Lib.hid (HRG.out.below hb5)
    have HB5 := Lib.hid (HB4.out.trans (hb5.mono HB4.out.size))
    clear hownx hb5 hRX HRG
    rw [HK.out]
    have HAG := Lib.hid (fun k y hk => edits_at HRG5.out k y hk)
    have HAX := Lib.hid (fun k y hk => edits_at HRX.out k y hk)
    have HHas := Lib.hid (fun e W (hW : Below w5.heap.size w5 W) => by have h := has_any _ X e W (HRX.out.below hW); rw [HK.out] at h; exact h)
    by_cases hM0 : M = 0
    · have m0 : ¬ (0 : Int) < (M : Int) := by omega
      have m1 : decide ((0 : Int) < (M : Int)) = false := decide_eq_false m0
      have HM0 := Lib.hid hM0
      clear hM0
      go_wp2_with fail
      go_loopw [7] (fun is wr => ∃ i : Nat, is = .int .i64 i ∧ i ≤ M ∧ Below w5.heap.size w5 wr) (fun is _ => M - (intOf is).toNat)
      case atStart => exact ⟨0, rfl, Nat.zero_le _, Below.refl _ _⟩
      case round =>
        obtain ⟨i, rfl, hi, hb⟩ := hrel
        obtain rfl : i = M := by have := HM0.out; omega
        go_wp2
        go_ret
        exact ⟨rfl, HB5.out.trans (hb.mono HB5.out.size)⟩
    · have m0 : (0 : Int) < (M : Int) := by omega
      have m2 : 0 < M := by omega
      obtain ⟨g0, hg0⟩ : ∃ g, G[0]? = some g := ⟨_, List.getElem?_eq_getElem (by rw [HM.out]; exact m2)⟩
      have hin : g0 ∈ X := by
        have hgd : G = g0 :: G.drop 1 := by have h := drop_cons hg0; rw [List.drop_zero] at h; exact h
        exact HFst.out g0 _ hgd
      have hK0 : 0 < K := by rw [← HK.out]; exact List.length_pos_of_mem hin
      have k1 : ((K : Int) == 0) = false := by simp; omega
      obtain ⟨gb0, go0, rfl, e0, e1, e2⟩ := HAG.out 0 g0 hg0
      rw [Nat.zero_mul, Nat.add_zero] at e0 e1 e2
      have HH0 := Lib.hid (HHas.out g0 w5 (Below.refl _ _))
      rw [has_mem hin] at HH0
      clear hg0 hin hM0
      go_wp2_with fail
      refine HH0.out.mono ?_
      rintro e w7 ⟨rfl, hb7⟩
      have HB7 := Lib.hid hb7
      clear hb7 e0 e1 e2
      go_wp2_with fail
      go_loopw [7] (fun is wr => ∃ i : Nat, is = .int .i64 i ∧ i ≤ M ∧ Below w5.heap.size w5 wr) (fun is _ => M - (intOf is).toNat)
      case atStart => exact ⟨0, rfl, Nat.zero_le _, HB7.out⟩
      case round =>
        obtain ⟨i, rfl, hi, hb⟩ := hrel
        by_cases hlt : i < M
        · have hlt' : (i : Int) < (M : Int) := by omega
          have hkl : i < G.length := by rw [HM.out]; exact hlt
          obtain ⟨g, hg⟩ : ∃ g, G[i]? = some g := ⟨_, List.getElem?_eq_getElem hkl⟩
          obtain ⟨gb, go, hge, c0, c1, c2⟩ := HAG.out i g hg
          injection hge with hge
          injection hge with hge1 hge2
          subst hge1
          subst hge2
          have hnear := HNear.out g (List.mem_of_getElem? hg)
          have C0 := Lib.hid c0
          have C1 := Lib.hid c1
          have c0 := cell_keep c0 hb
          have c1 := cell_keep c1 hb
          have c2 := cell_keep c2 hb
          have HH := Lib.hid (HHas.out g wr hb)
          obtain ⟨u, hu⟩ : ∃ u, hasB X g = u := ⟨_, rfl⟩
          rw [hu] at HH
          have HN := Lib.hid (show uponBy u g X K = true by
            unfold uponBy
            rw [List.take_of_length_le (by rw [HK.out]; exact Nat.le_refl _), hnear, Bool.or_true])
          have HB := Lib.hid hb
          clear hnear hg hu hb
          go_wp2_with fail
          refine HH.out.mono ?_
          rintro e w6 ⟨rfl, hb6⟩
          have HB6 := Lib.hid (HB.out.trans (hb6.mono HB.out.size))
          clear hb6 c0 c1 c2
          go_wp2_with fail
          go_loopw [8, 9] (fun us ks wr => ∃ (k : Nat) (f : Bool), us = .bool f ∧ ks = .int .i64 k ∧ k ≤ K ∧ Hid (uponBy u g X k = f) ∧ Below w5.heap.size w5 wr) (fun _ ks _ => K - (intOf ks).toNat)
          case atStart => exact ⟨0, u, rfl, rfl, Nat.zero_le _, Lib.hid (by simp [uponBy]), HB6.out⟩
          case round =>
            obtain ⟨k, f, rfl, rfl, hk, HU, hb⟩ := hrel
            by_cases hkK : k < K
            · have hkK' : (k : Int) < (K : Int) := by omega
              have hkl2 : k < X.length := by rw [HK.out]; exact hkK
              obtain ⟨x, hx⟩ : ∃ x, X[k]? = some x := ⟨_, List.getElem?_eq_getElem hkl2⟩
              obtain ⟨xb, xo, rfl, d0, d1, d2⟩ := HAX.out k x hx
              have d0 := cell_keep d0 hb
              have d1 := cell_keep d1 hb
              have c0 := cell_keep C0.out hb
              have c1 := cell_keep C1.out hb
              have HNx := Lib.hid (uponBy_next (u := u) (g := g) hx)
              have HB := Lib.hid hb
              clear hx hb d2
              cases f with
              | true =>
                have HU2 := Lib.hid (show uponBy u g X (k + 1) = true by rw [HNx.out, HU.out, Bool.true_or])
                go_wp2_with fail
                go_big_quiet (fail)
                have HBn := Lib.hid (show Below w5.heap.size w5 (wr.drewN nq) from ⟨HB.out.os, HB.out.tape, HB.out.output, HB.out.size, HB.out.block⟩)
                clear c0 c1 d0 d1
                go_wp2
                go_roundw
                case rel => exact ⟨k + 1, _, rfl, by go_num, by omega, HU2, HBn.out⟩
                case measure => simp [intOf]; omega
              | false =>
                have HNx2 := Lib.hid (show uponBy u g X (k + 1) = Ed.upon g.ed x.ed by rw [HNx.out, HU.out, Bool.false_or])
                by_cases h1 : g.f < x.t
                · by_cases h2 : x.f < g.t
                  · have HU2 := Lib.hid (HNx2.out.trans (upon_yes (.inl ⟨h1, h2⟩)))
                    go_wp2_with fail
                    go_big_quiet (fail)
                    have HBn := Lib.hid (show Below w5.heap.size w5 (wr.drewN nq) from ⟨HB.out.os, HB.out.tape, HB.out.output, HB.out.size, HB.out.block⟩)
                    clear c0 c1 d0 d1
                    go_wp2
                    go_roundw
                    case rel => exact ⟨k + 1, _, rfl, by go_num, by omega, HU2, HBn.out⟩
                    case measure => simp [intOf]; omega
                  · have n2 : decide (x.f < g.t) = false := decide_eq_false h2
                    by_cases h3 : g.f = x.f
                    · have b3 : (g.f == x.f) = true := by simp [h3]
                      by_cases h4 : g.t = x.t
                      · have b4 : (g.t == x.t) = true := by simp [h4]
                        have HU2 := Lib.hid (HNx2.out.trans (upon_yes (.inr ⟨h3, h4⟩)))
                        clear h3 h4
                        go_wp2_with fail
                        go_big_quiet (fail)
                        have HBn := Lib.hid (show Below w5.heap.size w5 (wr.drewN nq) from ⟨HB.out.os, HB.out.tape, HB.out.output, HB.out.size, HB.out.block⟩)
                        clear c0 c1 d0 d1
                        go_wp2
                        go_roundw
                        case rel => exact ⟨k + 1, _, rfl, by go_num, by omega, HU2, HBn.out⟩
                        case measure => simp [intOf]; omega
                      · have b4 : (g.t == x.t) = false := by simp [h4]
                        have HU2 := Lib.hid (HNx2.out.trans (upon_no (fun h => by omega)))
                        clear h3 h4
                        go_wp2_with fail
                        go_big_quiet (fail)
                        have HBn := Lib.hid (show Below w5.heap.size w5 (wr.drewN nq) from ⟨HB.out.os, HB.out.tape, HB.out.output, HB.out.size, HB.out.block⟩)
                        clear c0 c1 d0 d1
                        go_wp2
                        go_roundw
                        case rel => exact ⟨k + 1, _, rfl, by go_num, by omega, HU2, HBn.out⟩
                        case measure => simp [intOf]; omega
                    · have b3 : (g.f == x.f) = false := by simp [h3]
                      have HU2 := Lib.hid (HNx2.out.trans (upon_no (fun h => by omega)))
                      clear h3
                      go_wp2_with fail
                      go_big_quiet (fail)
                      have HBn := Lib.hid (show Below w5.heap.size w5 (wr.drewN nq) from ⟨HB.out.os, HB.out.tape, HB.out.output, HB.out.size, HB.out.block⟩)
                      clear c0 c1 d0 d1
                      go_wp2
                      go_roundw
                      case rel => exact ⟨k + 1, _, rfl, by go_num, by omega, HU2, HBn.out⟩
                      case measure => simp [intOf]; omega
                · have n1 : decide (g.f < x.t) = false := decide_eq_false h1
                  by_cases h3 : g.f = x.f
                  · have b3 : (g.f == x.f) = true := by simp [h3]
                    by_cases h4 : g.t = x.t
                    · have b4 : (g.t == x.t) = true := by simp [h4]
                      have HU2 := Lib.hid (HNx2.out.trans (upon_yes (.inr ⟨h3, h4⟩)))
                      clear h3 h4
                      go_wp2_with fail
                      go_big_quiet (fail)
                      have HBn := Lib.hid (show Below w5.heap.size w5 (wr.drewN nq) from ⟨HB.out.os, HB.out.tape, HB.out.output, HB.out.size, HB.out.block⟩)
                      clear c0 c1 d0 d1
                      go_wp2
                      go_roundw
                      case rel => exact ⟨k + 1, _, rfl, by go_num, by omega, HU2, HBn.out⟩
                      case measure => simp [intOf]; omega
                    · have b4 : (g.t == x.t) = false := by simp [h4]
                      have HU2 := Lib.hid (HNx2.out.trans (upon_no (fun h => by omega)))
                      clear h3 h4
                      go_wp2_with fail
                      go_big_quiet (fail)
                      have HBn := Lib.hid (show Below w5.heap.size w5 (wr.drewN nq) from ⟨HB.out.os, HB.out.tape, HB.out.output, HB.out.size, HB.out.block⟩)
                      clear c0 c1 d0 d1
                      go_wp2
                      go_roundw
                      case rel => exact ⟨k + 1, _, rfl, by go_num, by omega, HU2, HBn.out⟩
                      case measure => simp [intOf]; omega
                  · have b3 : (g.f == x.f) = false := by simp [h3]
                    have HU2 := Lib.hid (HNx2.out.trans (upon_no (fun h => by omega)))
                    clear h3
                    go_wp2_with fail
                    go_big_quiet (fail)
                    have HBn := Lib.hid (show Below w5.heap.size w5 (wr.drewN nq) from ⟨HB.out.os, HB.out.tape, HB.out.output, HB.out.size, HB.out.block⟩)
                    clear c0 c1 d0 d1
                    go_wp2
                    go_roundw
                    case rel => exact ⟨k + 1, _, rfl, by go_num, by omega, HU2, HBn.out⟩
                    case measure => simp [intOf]; omega
            · obtain rfl : k = K := by omega
              have hT := HU.out
              rw [HN.out] at hT
              subst hT
              go_wp2
              go_roundw
              case rel => exact ⟨i + 1, by go_num, by omega, hb⟩
              case measure => simp [intOf]; omega
        · obtain rfl : i = M := by omega
          go_wp2
          go_ret
          exact ⟨rfl, HB5.out.trans (hb.mono HB5.out.size)⟩
end Go.Proofs.Ytomihekgcnilhaa
