/- The walk of correctorlaw4.EditChecks. -/
import Derived.Test.YtomihekgcnilhaaSet
import Derived.Deep.DeepMust
import Derived.Test.YtomihekgcnilhaaStp
namespace Go.Proofs.Ytomihekgcnilhaa
open Go.RowKit
open Go.Proofs.Ytomihekgcnilhaa.Sq

/-- What Apply tells, and the text. -/
def codeOf (s : ByteArray) (L : List Et) : Int := if Ed.check s.size (L.map Et.ed) ≠ 0 then Ed.check s.size (L.map Et.ed) else if 16384 < (Ed.apply s.data.toList (L.map Et.ed)).length then 4 else 0
def textOf (s : ByteArray) (L : List Et) : ByteArray := if Ed.check s.size (L.map Et.ed) ≠ 0 then ⟨#[]⟩ else if 16384 < (Ed.apply s.data.toList (L.map Et.ed)).length then ⟨#[]⟩ else ⟨(Ed.apply s.data.toList (L.map Et.ed)).toArray⟩
def Tells (w : World) (s : ByteArray) (L : List Et) (r : Ending) (w' : World) : Prop := ∃ v, r = .returned (.tuple #[v, .int .i64 (codeOf s L)]) ∧ Bys w' v (textOf s L) ∧ Below w.heap.size w w'
theorem bys_none (w : World) : Bys w (.slice none 0 0) ⟨#[]⟩ := .inl ⟨rfl, rfl⟩
theorem tells_of {w w' : World} {s : ByteArray} {L : List Et} {r : Ending} (h : Yields w w' s (L.map Et.ed) r) (hb : Below w.heap.size w w') : Tells w s L r w' := by
  rcases h with ⟨h1, hr⟩ | ⟨h1, h2, hr⟩ | ⟨h1, h2, v, t, hr, ht, ho⟩
  · refine ⟨.slice none 0 0, ?_, ?_, hb⟩
    · rw [codeOf, if_pos h1]; exact hr
    · rw [textOf, if_pos h1]; exact bys_none _
  · refine ⟨.slice none 0 0, ?_, ?_, hb⟩
    · rw [codeOf, if_neg (fun h => h h1), if_pos h2]; exact hr
    · rw [textOf, if_neg (fun h => h h1), if_pos h2]; exact bys_none _
  · have h3 : ¬ 16384 < (Ed.apply s.data.toList (L.map Et.ed)).length := by omega
    refine ⟨v, ?_, ?_, hb⟩
    · rw [codeOf, if_neg (fun h => h h1), if_neg h3]; exact hr
    · rw [textOf, if_neg (fun h => h h1), if_neg h3]
      have e : (⟨(Ed.apply s.data.toList (L.map Et.ed)).toArray⟩ : ByteArray) = t := text_eq _ _ (by simp [ht])
      rw [e]
      exact Bys.own ho
theorem edit_tells (bv lv : Value) (s : ByteArray) (L : List Et) (w : World) (hB : Bys w bv s) (hE : Edits w lv L) (hS : Short L) (hm : s.size ≤ 100000) : Calls Try.prog 16 #[bv, lv] w (Tells w s L) :=
  (editApply bv lv s L w hB hE hS hm).mono fun _ _ h => tells_of h.1 h.2
theorem ref_tells (bv lv : Value) (s : ByteArray) (L : List Et) (w : World) (hB : Bys w bv s) (hE : Edits w lv L) (hS : Short L) (hm : s.size ≤ 100000) : Calls Try.prog 17 #[bv, lv] w (Tells w s L) :=
  (refApply bv lv s L w hB hE hS hm).mono fun _ _ h => tells_of h.1 h.2
set_option maxHeartbeats 8000000 in
set_option maxRecDepth 100000 in
theorem walk_EditChecks (bv : Value) (s : ByteArray) (v : Value) (l : List Et) (n0 : Int) (w : World) (hB : Bys w bv s) (hE : Edits w v l) (hF : Fit l) (_ : (Lit.int .i64 n0).wf = true) :
    Calls Try.prog 3 #[bv, v, .int .i64 n0] w fun e w' => e = .returned (.bool true) ∧ Below w.heap.size w w' := by
  have hsz := hB.size_le
  unfold maxLen at hsz
  obtain ⟨sa, sc, rfl⟩ := hB.shape
  obtain ⟨la, lc, rfl⟩ := hE.shape
  have HB := Lib.hid hB
  have HE := Lib.hid (fun W (hW : Below w.heap.size w W) => hE.below hW)
  have HS := Lib.hid hF.short
  clear hB
  by_cases h100 : 100 < s.size
  · have h100' : (100 : Int) < (s.size : Int) := by omega
    clear hE hF
    go_enter Try.func3, Try.ntmps3
    go_wp2_with fail
    refine (known_true _).mono ?_
    rintro e w1 ⟨rfl, hbw⟩
    have HBw := Lib.hid hbw
    clear hbw
    go_wp2
    go_ret
    exact ⟨rfl, HBw.out⟩
  · have h100' : ¬ (100 : Int) < (s.size : Int) := by omega
    have HFew := Lib.hid (fun W (hW : Below w.heap.size w W) => few_any _ l W (hE.below hW) hF)
    obtain ⟨fw, hfw⟩ : ∃ fw, fewB l = fw := ⟨_, rfl⟩
    rw [hfw] at HFew
    clear hfw
    cases fw with
    | false =>
      clear hE hF
      go_enter Try.func3, Try.ntmps3
      go_wp2_with fail
      refine (known_true _).mono ?_
      rintro e w1 ⟨rfl, hbw⟩
      have HBw := Lib.hid hbw
      clear hbw
      go_wp2_with fail
      refine (HFew.out _ HBw.out).mono ?_
      rintro e w2 ⟨rfl, hb2⟩
      have HB2 := Lib.hid (HBw.out.trans (hb2.mono HBw.out.size))
      clear hb2
      go_wp2
      go_ret
      exact ⟨rfl, HB2.out⟩
    | true =>
      have HGd := Lib.hid (fun W (hW : Below w.heap.size w W) => good_any (s.size : Int) _ l W (by omega) (by omega) (hE.below hW) hF.short)
      have HGs := Lib.hid (show Short (tameAll (s.size : Int) l) from fun e he => by
        have := tameAll_short (n := (s.size : Int)) (by omega) e he
        unfold maxLen; omega)
      obtain ⟨G, hG⟩ : ∃ G, tameAll (s.size : Int) l = G := ⟨_, rfl⟩
      rw [hG] at HGd HGs
      have HXs := Lib.hid (show Short (chooseT (s.size : Int) G) from fun e he => HGs.out e (choose_from he))
      obtain ⟨X, hX⟩ : ∃ X, chooseT (s.size : Int) G = X := ⟨_, rfl⟩
      rw [hX] at HXs
      have HX := Lib.hid hX
      clear hE hF hG hX
      go_enter Try.func3, Try.ntmps3
      go_wp2_with fail
      refine (known_true _).mono ?_
      rintro e w1 ⟨rfl, hbw⟩
      have HBw := Lib.hid hbw
      clear hbw
      go_wp2_with fail
      refine (HFew.out _ HBw.out).mono ?_
      rintro e w2 ⟨rfl, hb2⟩
      have HB2 := Lib.hid (HBw.out.trans (hb2.mono HBw.out.size))
      clear hb2
      go_wp2_with fail
      refine (HGd.out _ HB2.out).mono ?_
      rintro e w4 ⟨gv, rfl, howng, hb4⟩
      have HB4 := Lib.hid (HB2.out.trans (hb4.mono HB2.out.size))
      have HRG4 := Lib.hid (Reads.of_own howng)
      obtain ⟨ga, gc, rfl⟩ := own_shape howng
      have HC := Lib.hid (refChoose (s.size : Int) _ G w4 HRG4.out HGs.out)
      rw [HX.out] at HC
      clear howng hb4
      go_wp2_with fail
      refine HC.out.mono ?_
      rintro e w5 ⟨xv, rfl, hownx, hb5⟩
      have HB5 := Lib.hid (HB4.out.trans (hb5.mono HB4.out.size))
      have HRX := Lib.hid (Reads.of_own hownx)
      obtain ⟨xa, xc, rfl⟩ := own_shape hownx
      have HRG := Lib.hid (HRG4.out.below hb5)
      clear hownx hb5 HRG4
      have HIn := Lib.hid (show ∀ i : Nat, i < 3 → ∃ (V : Value) (L : List Et), (w5.alloc (.cells #[.slice la l.length lc, .slice ga G.length gc, .slice xa X.length xc] 23)).cell? ⟨w5.heap.size, i, none⟩ = some V ∧ Edits w5 V L ∧ Short L from fun i hi => by
        match i, hi with
        | 0, _ => exact ⟨_, l, by rw [World.cell?_alloc_mark]; rfl, HE.out w5 HB5.out, HS.out⟩
        | 1, _ => exact ⟨_, G, by rw [World.cell?_alloc_mark]; rfl, HRG.out, HGs.out⟩
        | 2, _ => exact ⟨_, X, by rw [World.cell?_alloc_mark]; rfl, HRX.out, HXs.out⟩)
      have HW5 := Lib.hid (below_new w5 (.cells #[.slice la l.length lc, .slice ga G.length gc, .slice xa X.length xc] 23))
      go_wp2_with fail
      go_loopw [9] (fun is wr => ∃ i : Nat, is = .int .i64 i ∧ i ≤ 3 ∧ Below (w5.heap.size + 1) (w5.alloc (.cells #[.slice la l.length lc, .slice ga G.length gc, .slice xa X.length xc] 23)) wr) (fun is _ => 3 - (intOf is).toNat)
      case atStart => exact ⟨0, rfl, by omega, Below.refl _ _⟩
      case round =>
        obtain ⟨i, rfl, hi, hb⟩ := hrel
        have hb' : Below (w5.alloc (.cells #[.slice la l.length lc, .slice ga G.length gc, .slice xa X.length xc] 23)).heap.size (w5.alloc (.cells #[.slice la l.length lc, .slice ga G.length gc, .slice xa X.length xc] 23)) wr := by simpa using hb
        have HBr := Lib.hid hb'
        clear hb
        by_cases hlt : i < 3
        · have hlt' : (i : Int) < 3 := by omega
          obtain ⟨V, L, hcell, hEd, hSh⟩ := HIn.out i hlt
          have c0 := cell_keep hcell hb'
          have hEr := (hEd.below HW5.out).below hb'
          have hBr := HB.out.below (HB5.out.trans ((HW5.out.mono HB5.out.size).trans (hb'.mono (by have := HB5.out.size; simp; omega))))
          have HEr := Lib.hid hEr
          have HBy := Lib.hid hBr
          have HSh := Lib.hid hSh
          obtain ⟨cd, hcd⟩ : ∃ cd, codeOf s L = cd := ⟨_, rfl⟩
          obtain ⟨z, hz⟩ : ∃ z, textOf s L = z := ⟨_, rfl⟩
          have HCd := Lib.hid hcd
          have HZ := Lib.hid hz
          have HSz := Lib.hid (show s.size ≤ 100000 by omega)
          have HMade := Lib.hid (show (wr.alloc (.cells #[] 5)).drew.ownsRow wr.heap.size 5 1 (.slice (some ⟨wr.heap.size, 0, none⟩) 0 0) 0 [] from Sq.own_below (own_empty wr) (below_new (wr.alloc (.cells #[] 5)) (.cells #[] 0) |> fun _ => ⟨rfl, rfl, rfl, Nat.le_refl _, fun _ _ => rfl⟩))
          have HM1 := Lib.hid (show Below wr.heap.size wr (wr.alloc (.cells #[] 5)).drew from (below_new _ _).drew)
          have HBm := Lib.hid (HBy.out.below HM1.out)
          have HLen := Lib.hid (show 0 + s.size ≤ 140737488355328 by omega)
          have HD0 := Lib.hid (cell_keep c0 HM1.out)
          have HNe : Hid (some w5.heap.size ≠ (Value.slice (some ⟨wr.heap.size, 0, none⟩) 0 0).ownBlock) := Lib.hid (fun e => by
            have h1 : w5.heap.size = wr.heap.size := Option.some.inj e
            have h2 := cell_lt c0
            simp only at h2
            omega)
          clear hcell hEd hSh hEr hBr hcd hz hb'
          go_wp2_with fail
          go_region_held3 (fun wx => wx.cell? ⟨w5.heap.size, i, none⟩ = some V) ((repeat (first | (with_reducible exact c0) | (with_reducible exact q0) | (with_reducible exact r0) | (with_reducible refine drew_cell ?_) | (with_reducible refine at_alloc ?_))))
            (first | (refine step_append_bys rfl (.tmp 40) (.tmp 41) rfl wr.heap.size _ 0 [] rfl HMade.out _ s rfl HBm.out HLen.out HM1.out.size ?_; intro v2 w2 hown2 hg2; have q0 := hg2.cell HD0.out HNe.out; have HG2 := Lib.hid (own_grown (B := wr.heap.size) HM1.out hg2 (fun q hq => Nat.le_of_eq (Option.some.inj hq)) HM1.out.size); have HV2 := Lib.hid (show Bys w2 v2 s from Bys.own (by have h := hown2; rw [Nat.zero_add, List.nil_append] at h; exact h)); clear hown2 hg2) | ((with_reducible refine (edit_tells v2 V s L w2 HV2.out (HEr.out.below HG2.out) HSh.out HSz.out).mono ?_); rintro e w3 ⟨v3, rfl, hv3, hb3⟩; have r0 := cell_keep q0 hb3; have HV3 := Lib.hid hv3; have HG3 := Lib.hid (HG2.out.trans (hb3.mono HG2.out.size)); clear hv3 hb3))
          rw [HCd.out]
          rw [HZ.out] at HV3
          go_wp2_with fail
          refine (ref_tells _ V s L w3 (HBy.out.below HG3.out) (HEr.out.below HG3.out) HSh.out HSz.out).mono ?_
          rintro e w4 ⟨v4, rfl, hv4, hb4⟩
          rw [HCd.out]
          rw [HZ.out] at hv4
          have s0 := cell_keep r0 hb4
          have HG4 := Lib.hid (HG3.out.trans (hb4.mono HG3.out.size))
          have HV4 := Lib.hid hv4
          have HV34 := Lib.hid (HV3.out.below hb4)
          have HDr := Lib.hid (show Below w4.heap.size w4 w4.drew from ⟨rfl, rfl, rfl, Nat.le_refl _, fun _ _ => rfl⟩)
          have hc3 := conv_bys (HV34.out.below HDr.out)
          have hc4 := conv_bys (HV4.out.below HDr.out)
          obtain ⟨cc, hcc⟩ : ∃ cc, Ed.check (s.size : Int) (L.map Et.ed) = cc := ⟨_, rfl⟩
          have HK1 := Lib.hid (fun W (hW : Below wr.heap.size wr W) => by have h := editCheck (s.size : Int) V L W (HEr.out.below hW) HSh.out; rw [hcc] at h; exact h)
          have HK2 := Lib.hid (fun W (hW : Below wr.heap.size wr W) => by have h := refCheck (s.size : Int) V L W (HEr.out.below hW) HSh.out; rw [hcc] at h; exact h)
          have HG4d := Lib.hid (HG4.out.trans (HDr.out.mono HG4.out.size))
          have b1 : (cd != cd) = false := by simp
          have b2 : (cc != cc) = false := by simp
          clear hcc hv4 hb4 r0 c0 q0 HD0
          go_wp2_with fail
          go_region_held3 (fun wx => wx.cell? ⟨w5.heap.size, i, none⟩ = some V ∧ (convert 22 9 v3).run Try.prog wx = .ok (.string z) wx ∧ (convert 22 9 v4).run Try.prog wx = .ok (.string z) wx) (((refine ⟨?_, ?_, ?_⟩); all_goals (repeat (first | (with_reducible exact s0) | (with_reducible exact hc3) | (with_reducible exact hc4) | (with_reducible exact t0) | (with_reducible exact t3) | (with_reducible exact t4) | (with_reducible exact u0) | (with_reducible exact u3) | (with_reducible exact u4) | (with_reducible refine drew_cell ?_)))))
            (first | ((with_reducible refine (HK1.out _ HG4d.out).mono ?_); rintro e w6 ⟨rfl, hb6⟩; have t0 := cell_keep (w := w4.drew) s0 hb6; have t3 := conv_bys ((HV34.out.below HDr.out).below hb6); have t4 := conv_bys ((HV4.out.below HDr.out).below hb6); have HV6 := Lib.hid ((HV34.out.below HDr.out).below hb6); have HW6 := Lib.hid ((HV4.out.below HDr.out).below hb6); have HG6 := Lib.hid (HG4d.out.trans (hb6.mono HG4d.out.size)); clear hb6) | ((with_reducible refine (HK2.out _ HG6.out).mono ?_); rintro e w7 ⟨rfl, hb7⟩; have u0 := cell_keep t0 hb7; have u3 := conv_bys (HV6.out.below hb7); have u4 := conv_bys (HW6.out.below hb7); have HG7 := Lib.hid (HG6.out.trans (hb7.mono HG6.out.size)); clear hb7))
          clear s0 t0 u0 hc3 hc4 t3 t4 u3 u4
          have HFin := Lib.hid (show Below (w5.heap.size + 1) (w5.alloc (.cells #[.slice la l.length lc, .slice ga G.length gc, .slice xa X.length xc] 23)) w7 from by
            have h := HBr.out.trans (HG7.out.mono HBr.out.size)
            simpa using h)
          go_wp2
          go_roundw
          case rel => exact ⟨i + 1, by go_num, by omega, HFin.out⟩
          case measure => simp [intOf]; omega
        · obtain rfl : i = 3 := by omega
          have hbw5 := HB5.out.trans ((HW5.out.mono HB5.out.size).trans (HBr.out.mono (by have := HB5.out.size; simp; omega)))
          obtain ⟨cn, hcn⟩ : ∃ cn, Ed.check n0 (l.map Et.ed) = cn := ⟨_, rfl⟩
          have HK1 := Lib.hid (by have h := editCheck n0 _ l wr (HE.out wr hbw5) HS.out; rw [hcn] at h; exact h)
          have HK2 := Lib.hid (fun W (hW : Below w.heap.size w W) => by have h := refCheck n0 _ l W (HE.out W hW) HS.out; rw [hcn] at h; exact h)
          have HBw5 := Lib.hid hbw5
          have b2 : (cn == cn) = true := by simp
          clear hcn hbw5
          go_wp2_with fail
          refine HK1.out.mono ?_
          rintro e w6 ⟨rfl, hb6⟩
          have HB6 := Lib.hid (HBw5.out.trans (hb6.mono HBw5.out.size))
          clear hb6
          go_wp2_with fail
          refine (HK2.out _ HB6.out).mono ?_
          rintro e w7 ⟨rfl, hb7⟩
          have HB7 := Lib.hid (HB6.out.trans (hb7.mono HB6.out.size))
          clear hb7
          go_wp2
          go_ret
          exact ⟨by simp, HB7.out⟩
end Go.Proofs.Ytomihekgcnilhaa
