/- The walk of correctorlaw4.EditChooses. -/
import Derived.Test.YtomihekgcnilhaaSet
import Derived.Deep.DeepMust
namespace Go.Proofs.Ytomihekgcnilhaa
open Go.RowKit
open Go.Proofs.Ytomihekgcnilhaa.Sq

theorem eds_one {x y : Et} (h : x.ed = y.ed) : x = y := by
  obtain ⟨f, t, p⟩ := x
  obtain ⟨g, u, q⟩ := y
  have h1 : f = g := congrArg Ed.E.f h
  have h2 : t = u := congrArg Ed.E.t h
  have h4 : p = q := text_eq p q (congrArg Ed.E.p h)
  rw [h1, h2, h4]
theorem eds_inj (a : List Et) : ∀ b : List Et, a.map Et.ed = b.map Et.ed → a = b := by
  induction a with
  | nil => intro b h; cases b with
    | nil => rfl
    | cons y r => cases h
  | cons x r ih =>
    intro b h
    cases b with
    | nil => cases h
    | cons y q =>
      injection h with h1 h2
      rw [eds_one h1, ih q h2]
theorem choose_again (n : Int) (l : List Et) : chooseT n (chooseT n l) = chooseT n l := by
  apply eds_inj
  rw [chooseT_ed n (chooseT n l), chooseT_ed n l]
  exact Ed.choose_same (Ed.choose_good _ _)
set_option maxHeartbeats 8000000 in
set_option maxRecDepth 100000 in
theorem walk_EditChooses (n0 : Int) (v : Value) (l : List Et) (raw : Int) (w : World) (_ : (Lit.int .i64 n0).wf = true) (hE : Edits w v l) (hF : Fit l) (_ : (Lit.int .i64 raw).wf = true) :
    Calls Try.prog 4 #[.int .i64 n0, v, .int .i64 raw] w fun e w' => e = .returned (.bool true) ∧ Below w.heap.size w w' := by
  have HE := Lib.hid (fun W (hW : Below w.heap.size w W) => hE.below hW)
  have HS := Lib.hid hF.short
  have HFew := Lib.hid (fun W (hW : Below w.heap.size w W) => few_any v l W (hE.below hW) hF)
  obtain ⟨fw, hfw⟩ : ∃ fw, fewB l = fw := ⟨_, rfl⟩
  rw [hfw] at HFew
  clear hfw
  cases fw with
  | false =>
    clear hE hF
    go_enter Try.func4, Try.ntmps4
    go_wp2_with fail
    refine (known_true _).mono ?_
    rintro e w1 ⟨rfl, hbw⟩
    have HBw := Lib.hid hbw
    clear hbw
    go_wp2_with fail
    refine (HFew.out _ HBw.out).mono ?_
    rintro e w2 ⟨rfl, hb2⟩
    have HB2 := Lib.hid (HBw.out.trans (hb2.mono HBw.out.size))
    clear hb2
    go_wp2
    go_ret
    exact ⟨rfl, HB2.out⟩
  | true =>
    have hn := wit_bd n0 100 (by decide)
    have H1 := Lib.hid (fun W => within_any n0 100 W (by decide) (by decide))
    obtain ⟨n, hnn⟩ : ∃ n, wit n0 100 = n := ⟨_, rfl⟩
    rw [hnn] at hn H1
    clear hnn
    obtain ⟨hn0, hn1⟩ := hn
    have HGd := Lib.hid (fun W (hW : Below w.heap.size w W) => good_any n v l W hn0 (by omega) (hE.below hW) hF.short)
    have HGs := Lib.hid (show Short (tameAll n l) from fun e he => by
      have := tameAll_short hn0 e he
      unfold maxLen; omega)
    have hGl := tameAll_len n l
    obtain ⟨G, hG⟩ : ∃ G, tameAll n l = G := ⟨_, rfl⟩
    rw [hG] at HGd HGs hGl
    have HXX := Lib.hid (choose_again n G)
    have HXs := Lib.hid (show Short (chooseT n G) from fun e he => HGs.out e (choose_from he))
    have HXc := Lib.hid (show Ed.check n ((chooseT n G).map Et.ed) = 0 from by rw [chooseT_ed]; exact Ed.check_good (Ed.choose_good _ _))
    obtain ⟨X, hX⟩ : ∃ X, chooseT n G = X := ⟨_, rfl⟩
    rw [hX] at HXX HXs HXc
    have HX := Lib.hid hX
    have HC1 := Lib.hid (fun W V h => editChoose n V G W h HGs.out)
    have HC2 := Lib.hid (fun W V h => refChoose n V G W h HGs.out)
    rw [hX] at HC1 HC2
    have m1 := Lib.hid (show ([] : List Et).length + G.length ≤ maxLen by simp [maxLen]; omega)
    have m2 := Lib.hid (show (([] : List Et).length + G.length) * 32 ≤ 140737488355328 by simp; omega)
    clear hE hF hG hX hGl
    go_enter Try.func4, Try.ntmps4
    go_wp2_with fail
    refine (known_true _).mono ?_
    rintro e w1 ⟨rfl, hbw⟩
    have HBw := Lib.hid hbw
    clear hbw
    go_wp2_with fail
    refine (HFew.out _ HBw.out).mono ?_
    rintro e w2 ⟨rfl, hb2⟩
    have HB2 := Lib.hid (HBw.out.trans (hb2.mono HBw.out.size))
    clear hb2
    go_wp2_with fail
    refine (H1.out _).mono ?_
    rintro e w3 ⟨rfl, rfl⟩
    go_wp2_with fail
    refine (HGd.out _ HB2.out).mono ?_
    rintro e w3 ⟨gv, rfl, howng, hb3⟩
    have HB3 := Lib.hid (HB2.out.trans (hb3.mono HB2.out.size))
    have HRG := Lib.hid (Reads.of_own howng)
    have HB0 := Lib.hid (below_new w3 (.cells #[] 41))
    have HM0 := Lib.hid (own_made (e := 41) encE w3)
    clear howng hb3
    go_wp2_with (at_builtin; go_must (refine append_all tyE rfl (.tmp 20) (.tmp 21) rfl w3.heap.size _ ([] : List Et) rfl HM0.out gv G rfl (HRG.out.below HB0.out) m1.out m2.out HB0.out.size ?_); intro v1 w4 hown1 hg1; have HR1 := Lib.hid (show Edits w4 v1 G from Reads.of_own hown1); have HD4 := Lib.hid (own_grown (B := w3.heap.size) HB0.out hg1 (fun q hq => Nat.le_of_eq (Option.some.inj hq)) HB0.out.size); clear hown1 hg1)
    have HB4 := Lib.hid (HB3.out.trans (HD4.out.mono HB3.out.size))
    refine (HC1.out w4 v1 HR1.out).mono ?_
    rintro e w5 ⟨xv, rfl, hownx, hb5⟩
    have HRX := Lib.hid (Reads.of_own hownx)
    have HRG5 := Lib.hid ((HRG.out.below HD4.out).below hb5)
    have HB5 := Lib.hid (HB4.out.trans (hb5.mono HB4.out.size))
    clear hownx hb5
    go_wp2_with fail
    refine (HC2.out w5 gv HRG5.out).mono ?_
    rintro e w6 ⟨yv, rfl, howny, hb6⟩
    have HRX6 := Lib.hid (HRX.out.below hb6)
    have HRY := Lib.hid (Reads.of_own howny)
    have HB6 := Lib.hid (HB5.out.trans (hb6.mono HB5.out.size))
    clear howny hb6
    go_wp2_with fail
    refine (same_true xv yv X w6 HRX6.out HRY.out).mono ?_
    rintro e w7 ⟨rfl, hb7⟩
    have HRX7 := Lib.hid (HRX6.out.below hb7)
    have HB7 := Lib.hid (HB6.out.trans (hb7.mono HB6.out.size))
    clear hb7
    have HCk := Lib.hid (by have h := editCheck n xv X w7 HRX7.out HXs.out; rw [HXc.out] at h; exact h)
    go_wp2_with fail
    refine HCk.out.mono ?_
    rintro e w8 ⟨rfl, hb8⟩
    have HRX8 := Lib.hid (HRX7.out.below hb8)
    have HB8 := Lib.hid (HB7.out.trans (hb8.mono HB7.out.size))
    clear hb8
    go_wp2_with fail
    refine (editChoose n v l w8 (HE.out _ HB8.out) HS.out).mono ?_
    rintro e w9 ⟨p8, rfl, hownp, hbp⟩
    have HP8 := Lib.hid (Reads.of_own hownp)
    have HRX9 := Lib.hid (HRX8.out.below hbp)
    have HB9 := Lib.hid (HB8.out.trans (hbp.mono HB8.out.size))
    clear hownp hbp
    go_wp2_with fail
    refine (refChoose n v l w9 (HE.out _ HB9.out) HS.out).mono ?_
    rintro e w10 ⟨q8, rfl, hownq, hbq⟩
    have HQ8 := Lib.hid (Reads.of_own hownq)
    have HPb8 := Lib.hid (HP8.out.below hbq)
    have HRX10 := Lib.hid (HRX9.out.below hbq)
    have HB10 := Lib.hid (HB9.out.trans (hbq.mono HB9.out.size))
    clear hownq hbq
    go_wp2_with fail
    refine (same_true p8 q8 (chooseT n l) w10 HPb8.out HQ8.out).mono ?_
    rintro e w11 ⟨rfl, hbs⟩
    have HRX11 := Lib.hid (HRX10.out.below hbs)
    have HB11 := Lib.hid (HB10.out.trans (hbs.mono HB10.out.size))
    clear hbs
    go_wp2_with fail
    refine (editChoose raw v l w11 (HE.out _ HB11.out) HS.out).mono ?_
    rintro e w12 ⟨p11, rfl, hownp, hbp⟩
    have HP11 := Lib.hid (Reads.of_own hownp)
    have HRX12 := Lib.hid (HRX11.out.below hbp)
    have HB12 := Lib.hid (HB11.out.trans (hbp.mono HB11.out.size))
    clear hownp hbp
    go_wp2_with fail
    refine (refChoose raw v l w12 (HE.out _ HB12.out) HS.out).mono ?_
    rintro e w13 ⟨q11, rfl, hownq, hbq⟩
    have HQ11 := Lib.hid (Reads.of_own hownq)
    have HPb11 := Lib.hid (HP11.out.below hbq)
    have HRX13 := Lib.hid (HRX12.out.below hbq)
    have HB13 := Lib.hid (HB12.out.trans (hbq.mono HB12.out.size))
    clear hownq hbq
    go_wp2_with fail
    refine (same_true p11 q11 (chooseT raw l) w13 HPb11.out HQ11.out).mono ?_
    rintro e w14 ⟨rfl, hbs⟩
    have HRX14 := Lib.hid (HRX13.out.below hbs)
    have HB14 := Lib.hid (HB13.out.trans (hbs.mono HB13.out.size))
    clear hbs
    have HCx := Lib.hid (by have h := editChoose n xv X w14 HRX14.out HXs.out; rw [HXX.out] at h; exact h)
    go_wp2_with fail
    refine HCx.out.mono ?_
    rintro e w15 ⟨zv, rfl, hownz, hbz⟩
    have HZ := Lib.hid (Reads.of_own hownz)
    have HRX15 := Lib.hid (HRX14.out.below hbz)
    have HB15 := Lib.hid (HB14.out.trans (hbz.mono HB14.out.size))
    clear hownz hbz
    go_wp2_with fail
    refine (same_true zv xv X w15 HZ.out HRX15.out).mono ?_
    rintro e w16 ⟨rfl, hbe⟩
    have HB16 := Lib.hid (HB15.out.trans (hbe.mono HB15.out.size))
    clear hbe
    go_wp2
    go_ret
    exact ⟨rfl, HB16.out⟩
end Go.Proofs.Ytomihekgcnilhaa
