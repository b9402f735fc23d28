/- Chapter 4's reference: Choose, its walk. -/
import Derived.Test.YtomihekgcnilhaaE5
import Derived.Test.YtomihekgcnilhaaE6
import Derived.Test.YtomihekgcnilhaaPf
import Derived.Deep.DeepCutAuto
import Derived.Deep.CutBlock
namespace Go.Proofs.Ytomihekgcnilhaa
open Go.RowKit
open Go.Proofs.Ytomihekgcnilhaa.Sq

set_option maxHeartbeats 8000000 in
set_option maxRecDepth 100000 in
theorem refChoose (n : Int) (lv : Value) (l : List Et) (w : World) (hE : Edits w lv l) (hS : Short l) :
    Calls Try.prog 15 #[.int .i64 n, lv] w fun r w' => ∃ v, r = .returned v ∧ w'.ownsRow w.heap.size 41 3 v (chooseT n l).length (encE.all (chooseT n l)) ∧ Below w.heap.size w w' := by
  obtain ⟨a, cap, rfl⟩ := hE.shape
  obtain ⟨N, hN⟩ : ∃ N, l.length = N := ⟨_, rfl⟩
  have hsz := hE.size_le
  unfold maxLen at hsz
  have HA := Lib.hid (fun k y hk => edits_at hE k y hk)
  have HN := Lib.hid hN
  have HS := Lib.hid hS
  rw [hN] at hsz
  rw [hN]
  obtain ⟨R, hR⟩ : ∃ R, chooseT n l = R := ⟨_, rfl⟩
  have HR := Lib.hid (show (l.drop 0).foldl (stepT n) [] = R from hR)
  rw [hR]
  clear hR hN hE hS
  go_enter Try.func15, Try.ntmps15
  go_wp2_with fail
  go_loopw [5, 6] (fun ov is wr => ∃ (k : Nat) (out : List Et) (V : Value), V = ov ∧ is = .int .i64 k ∧ k ≤ N ∧ out.length ≤ 200 ∧ wr.ownsRow w.heap.size 41 3 V out.length (encE.all out) ∧ Hid ((l.drop k).foldl (stepT n) out = R) ∧ Below w.heap.size w wr) (fun _ is _ => N - (intOf is).toNat)
  case atStart => exact ⟨0, [], _, rfl, rfl, Nat.zero_le _, Nat.zero_le _, own_nil encE _ _, HR, Below.refl _ _⟩
  case round =>
    obtain ⟨k, out, V, rfl, rfl, hk, ho, hown, HK, hb⟩ := hrel
    obtain ⟨va, vc, rfl⟩ := own_shape hown
    obtain ⟨M, hM⟩ : ∃ M, out.length = M := ⟨_, rfl⟩
    have HO := Lib.hid hown
    have HM := Lib.hid hM
    rw [hM] at ho
    rw [hM]
    clear hM hown
    by_cases hlt : k < N
    · have hkl : k < l.length := by rw [HN.out]; exact hlt
      have hj2 : (k : Int) < (N : Int) := by omega
      by_cases hM2 : M < 200
      · have hM2' : (M : Int) < 200 := by omega
        obtain ⟨y, hy⟩ : ∃ y, l[k]? = some y := ⟨_, List.getElem?_eq_getElem hkl⟩
        obtain ⟨b, off, rfl, c0, c1, c2⟩ := HA.out k y hy
        have hlb : b < w.heap.size := cell_lt c0
        have hK := HK.out
        rw [drop_cons hy, List.foldl_cons] at hK
        have hps := HS.out y (List.mem_of_getElem? hy)
        have C0 := Lib.hid c0
        have C1 := Lib.hid c1
        have C2 := Lib.hid c2
        rw [← hb.cell (p := ⟨b, off + k * 3, none⟩) (cell_lt c0)] at c0
        rw [← hb.cell (p := ⟨b, off + k * 3 + 1, none⟩) (cell_lt c1)] at c1
        rw [← hb.cell (p := ⟨b, off + k * 3 + 2, none⟩) (cell_lt c2)] at c2
        have HOne := Lib.hid (fun W => refOne n y W hps)
        obtain ⟨o1, ho1⟩ : ∃ o1, Ed.one n y.ed = o1 := ⟨_, rfl⟩
        have HO1 := Lib.hid ho1
        rw [ho1] at HOne
        have HK2 := Lib.hid hK
        clear hK ho1 HK hps hy
        have hbool : (o1 == 0) = decide (o1 = 0) := by by_cases h : o1 = 0 <;> simp [h]
        obtain ⟨fr, hfr⟩ : ∃ fr, decide (o1 = 0) = fr := ⟨_, rfl⟩
        rw [hfr] at hbool
        have HFr := Lib.hid (show freeN n out y 0 = fr by rw [free_zero, HO1.out, hfr])
        clear hfr
        go_wp2_with fail
        refine (HOne.out _).mono ?_
        rintro e w1 ⟨rfl, hb1⟩
        have hbw := hb.trans (hb1.mono hb.size)
        have HOw := Lib.hid (own_below HO.out hb1)
        clear c0 c1 c2 hb1
        go_wp2_with fail
        go_loopw [7, 8] (fun fs js wq => ∃ j : Nat, js = .int .i64 j ∧ j ≤ M ∧ (∃ f, fs = .bool f ∧ Hid (freeN n out y j = f)) ∧ Below w1.heap.size w1 wq) (fun _ js _ => M - (intOf js).toNat)
        case atStart => exact ⟨0, rfl, Nat.zero_le _, ⟨_, rfl, HFr⟩, Below.refl _ _⟩
        case round =>
          obtain ⟨j, rfl, hj, ⟨f, rfl, HF⟩, hbq⟩ := hrel
          have hbo := hbw.trans (hbq.mono hbw.size)
          have HOq := Lib.hid (own_below HOw.out hbq)
          have c0 := (hbo.cell (p := ⟨b, off + k * 3, none⟩) (cell_lt C0.out)).trans C0.out
          have c1 := (hbo.cell (p := ⟨b, off + k * 3 + 1, none⟩) (cell_lt C1.out)).trans C1.out
          have c2 := (hbo.cell (p := ⟨b, off + k * 3 + 2, none⟩) (cell_lt C2.out)).trans C2.out
          by_cases hjM : j < M
          · have hjl : j < out.length := by rw [HM.out]; exact hjM
            have hjM' : (j : Int) < (M : Int) := by omega
            obtain ⟨x, hx⟩ : ∃ x, out[j]? = some x := ⟨_, List.getElem?_eq_getElem hjl⟩
            obtain ⟨xb, xo, hxe, d0, d1, d2⟩ := edits_at (Reads.of_own HOq.out) j x hx
            obtain rfl : va = _ := hxe
            have hn := free_next (n := n) (e := y) hx
            rw [HF.out] at hn
            obtain ⟨u, hu⟩ : ∃ u, Ed.upon y.ed x.ed = u := ⟨_, rfl⟩
            rw [hu] at hn
            have HU := Lib.hid (fun W => by have h := refUpon y x W; rw [hu] at h; exact h)
            clear hu hx
            cases f with
            | true =>
              have HN2 := Lib.hid (show freeN n out y (j + 1) = !u by rw [hn]; simp)
              clear hn HF
              go_wp2_with fail
              go_region_held3 (fun wx => wx.cell? ⟨b, off + k * 3, none⟩ = some (.int .i64 y.f) ∧ wx.cell? ⟨b, off + k * 3 + 1, none⟩ = some (.int .i64 y.t) ∧ wx.cell? ⟨b, off + k * 3 + 2, none⟩ = some (.string y.p) ∧ wx.cell? ⟨xb, xo + j * 3, none⟩ = some (.int .i64 x.f) ∧ wx.cell? ⟨xb, xo + j * 3 + 1, none⟩ = some (.int .i64 x.t) ∧ wx.cell? ⟨xb, xo + j * 3 + 2, none⟩ = some (.string x.p)) (((refine ⟨?_, ?_, ?_, ?_, ?_, ?_⟩); all_goals (repeat (first | (with_reducible exact c0) | (with_reducible exact c1) | (with_reducible exact c2) | (with_reducible exact d0) | (with_reducible exact d1) | (with_reducible exact d2) | (with_reducible exact q0) | (with_reducible exact q1) | (with_reducible exact q2) | (with_reducible exact q3) | (with_reducible exact q4) | (with_reducible exact q5) | (with_reducible refine at_drew4 ?_)))))
                (((with_reducible refine (HU.out _).mono ?_); rintro e w2 ⟨rfl, hb2⟩; have q0 := (hb2.cell (p := ⟨b, off + k * 3, none⟩) (cell_lt (at_drew4 c0))).trans c0; have q1 := (hb2.cell (p := ⟨b, off + k * 3 + 1, none⟩) (cell_lt (at_drew4 c1))).trans c1; have q2 := (hb2.cell (p := ⟨b, off + k * 3 + 2, none⟩) (cell_lt (at_drew4 c2))).trans c2; have q3 := (hb2.cell (p := ⟨xb, xo + j * 3, none⟩) (cell_lt (at_drew4 d0))).trans d0; have q4 := (hb2.cell (p := ⟨xb, xo + j * 3 + 1, none⟩) (cell_lt (at_drew4 d1))).trans d1; have q5 := (hb2.cell (p := ⟨xb, xo + j * 3 + 2, none⟩) (cell_lt (at_drew4 d2))).trans d2; have hbq2 := hbq.trans (Below.mono (Below.trans (b := wr.drew) ⟨rfl, rfl, rfl, Nat.le_refl _, fun _ _ => rfl⟩ hb2) hbq.size)))
              clear c0 c1 c2 d0 d1 d2 q0 q1 q2 q3 q4 q5 hb2 hbo hbq
              go_wp2
              go_roundw
              case rel => exact ⟨j + 1, by go_num, by omega, ⟨_, rfl, HN2⟩, hbq2⟩
              case measure => simp [intOf]; omega
            | false =>
              have HN2 := Lib.hid (show freeN n out y (j + 1) = false by rw [hn]; simp)
              clear hn HF
              go_wp2_with fail
              go_quiet (fail)
              have HBq := Lib.hid (show Below w1.heap.size w1 (wr.drewN nq) from ⟨hbq.os, hbq.tape, hbq.output, hbq.size, hbq.block⟩)
              clear c0 c1 c2 d0 d1 d2 hbo hbq
              go_wp2
              go_roundw
              case rel => exact ⟨j + 1, by go_num, by omega, ⟨_, rfl, HN2⟩, HBq.out⟩
              case measure => simp [intOf]; omega
          · obtain rfl : j = M := by omega
            have hF := HF.out
            cases f with
            | true =>
              have hst : stepT n out y = insT y out := by
                unfold stepT
                rw [HM.out, hF, if_pos ⟨hM2, rfl⟩]
              clear hF
              clear c0 c1 c2
              go_upto_block 4 with fail
              go_cut [9] (fun ps wx => ∃ p : Nat, ps = .int .i64 p ∧ p ≤ j ∧ Hid (insT y out = out.take p ++ y :: out.drop p) ∧ Hid (wx.ownsRow w.heap.size 41 3 (.slice va out.length vc) out.length (encE.all out)) ∧ Below w.heap.size w wx)
              case first =>
               go_wp2_with fail
               go_loopw [9] (fun ps wq => ∃ p : Nat, ps = .int .i64 p ∧ p ≤ j ∧ Hid (∀ x ∈ out.take p, Ed.ahead x.ed y.ed = true) ∧ Hid (wq.ownsRow w.heap.size 41 3 (.slice va out.length vc) out.length (encE.all out)) ∧ Below w.heap.size w wq) (fun ps _ => j - (intOf ps).toNat)
               case atStart => exact ⟨0, rfl, Nat.zero_le _, Lib.hid (by simp), HOq, hbo⟩
               case round =>
                 obtain ⟨p, rfl, hp, HAh, HOp, hbp⟩ := hrel
                 clear hbo HOq
                 have e0 := (hbp.cell (p := ⟨b, off + k * 3, none⟩) (cell_lt C0.out)).trans C0.out
                 have e1 := (hbp.cell (p := ⟨b, off + k * 3 + 1, none⟩) (cell_lt C1.out)).trans C1.out
                 have e2 := (hbp.cell (p := ⟨b, off + k * 3 + 2, none⟩) (cell_lt C2.out)).trans C2.out
                 by_cases hpM : p < j
                 · have hpl : p < out.length := by rw [HM.out]; exact hpM
                   have hpM' : (p : Int) < (j : Int) := by omega
                   obtain ⟨x, hx⟩ : ∃ x, out[p]? = some x := ⟨_, List.getElem?_eq_getElem hpl⟩
                   obtain ⟨xb, xo, hxe, d0, d1, d2⟩ := edits_at (Reads.of_own HOp.out) p x hx
                   obtain rfl : va = _ := hxe
                   have HX := Lib.hid hx
                   clear hx
                   by_cases g1 : x.f < y.f
                   · have HAh2 := Lib.hid (show ∀ z ∈ out.take (p + 1), Ed.ahead z.ed y.ed = true by
                       rw [take_snoc HX.out]
                       intro z hz
                       rcases List.mem_append.1 hz with h | h
                       · exact HAh.out z h
                       · rw [List.mem_singleton.1 h]; exact decide_eq_true (.inl g1))
                     go_wp2_with fail
                     go_big_quiet (fail)
                     have HBq := Lib.hid (show Below w.heap.size w (wr.drewN nq) from ⟨hbp.os, hbp.tape, hbp.output, hbp.size, hbp.block⟩)
                     have HOz := Lib.hid (show (wr.drewN nq).ownsRow w.heap.size 41 3 (.slice _ out.length vc) out.length (encE.all out) from HOp.out)
                     clear e0 e1 e2 d0 d1 d2 hbp
                     go_wp2
                     go_roundw
                     case rel => exact ⟨p + 1, by go_num, by omega, HAh2, HOz, HBq.out⟩
                     case measure => simp [intOf]; omega
                   · have n1 : decide (x.f < y.f) = false := decide_eq_false g1
                     by_cases g2 : x.f = y.f
                     · have g2' : (x.f == y.f) = true := by simp [g2]
                       by_cases g3 : x.t < y.t
                       · have HAh2 := Lib.hid (show ∀ z ∈ out.take (p + 1), Ed.ahead z.ed y.ed = true by
                           rw [take_snoc HX.out]
                           intro z hz
                           rcases List.mem_append.1 hz with h | h
                           · exact HAh.out z h
                           · rw [List.mem_singleton.1 h]; exact decide_eq_true (.inr ⟨g2, g3⟩))
                         clear g2
                         go_wp2_with fail
                         go_big_quiet (fail)
                         have HBq := Lib.hid (show Below w.heap.size w (wr.drewN nq) from ⟨hbp.os, hbp.tape, hbp.output, hbp.size, hbp.block⟩)
                         have HOz := Lib.hid (show (wr.drewN nq).ownsRow w.heap.size 41 3 (.slice _ out.length vc) out.length (encE.all out) from HOp.out)
                         clear e0 e1 e2 d0 d1 d2 hbp
                         go_wp2
                         go_roundw
                         case rel => exact ⟨p + 1, by go_num, by omega, HAh2, HOz, HBq.out⟩
                         case measure => simp [intOf]; omega
                       · have n3 : decide (x.t < y.t) = false := decide_eq_false g3
                         have HIns := Lib.hid (insT_at y out p (by rw [HM.out]; exact hp) HAh.out (fun z hz => by
                           rw [HX.out] at hz; obtain rfl := Option.some.inj hz; exact decide_eq_false (fun h => by have h1 : x.f < y.f ∨ (x.f = y.f ∧ x.t < y.t) := h; omega)))
                         clear g2
                         go_wp2_with fail
                         go_big_quiet (fail)
                         have HBq := Lib.hid (show Below w.heap.size w (wr.drewN nq) from ⟨hbp.os, hbp.tape, hbp.output, hbp.size, hbp.block⟩)
                         have HOz := Lib.hid (show (wr.drewN nq).ownsRow w.heap.size 41 3 (.slice _ out.length vc) out.length (encE.all out) from HOp.out)
                         clear e0 e1 e2 d0 d1 d2 hbp
                         go_wp2_with fail
                         go_meet
                         exact ⟨p, rfl, hp, HIns, HOz, HBq.out⟩
                     · have g2' : (x.f == y.f) = false := by simp [g2]
                       have HIns := Lib.hid (insT_at y out p (by rw [HM.out]; exact hp) HAh.out (fun z hz => by
                         rw [HX.out] at hz; obtain rfl := Option.some.inj hz; exact decide_eq_false (fun h => by have h1 : x.f < y.f ∨ (x.f = y.f ∧ x.t < y.t) := h; omega)))
                       clear g2
                       go_wp2_with fail
                       go_big_quiet (fail)
                       have HBq := Lib.hid (show Below w.heap.size w (wr.drewN nq) from ⟨hbp.os, hbp.tape, hbp.output, hbp.size, hbp.block⟩)
                       have HOz := Lib.hid (show (wr.drewN nq).ownsRow w.heap.size 41 3 (.slice _ out.length vc) out.length (encE.all out) from HOp.out)
                       clear e0 e1 e2 d0 d1 d2 hbp
                       go_wp2_with fail
                       go_meet
                       exact ⟨p, rfl, hp, HIns, HOz, HBq.out⟩
                 · obtain rfl : p = j := by omega
                   have HIns := Lib.hid (insT_at y out p (by rw [HM.out]; exact Nat.le_refl _) HAh.out (fun z hz => by
                     have := (List.getElem?_eq_some_iff.1 hz).1; rw [HM.out] at this; omega))
                   go_wp2_with fail
                   go_big_quiet (fail)
                   have HBq := Lib.hid (show Below w.heap.size w (wr.drewN nq) from ⟨hbp.os, hbp.tape, hbp.output, hbp.size, hbp.block⟩)
                   have HOz := Lib.hid (show (wr.drewN nq).ownsRow w.heap.size 41 3 (.slice _ out.length vc) out.length (encE.all out) from HOp.out)
                   clear e0 e1 e2 hbp
                   go_wp2_with fail
                   go_meet
                   exact ⟨p, rfl, hp, HIns, HOz, HBq.out⟩
              case rest =>
                obtain ⟨p, rfl, hp, HIns, HOz, hbz⟩ := hcut
                have z0 := (hbz.cell (p := ⟨b, off + k * 3, none⟩) (cell_lt C0.out)).trans C0.out
                have z1 := (hbz.cell (p := ⟨b, off + k * 3 + 1, none⟩) (cell_lt C1.out)).trans C1.out
                have z2 := (hbz.cell (p := ⟨b, off + k * 3 + 2, none⟩) (cell_lt C2.out)).trans C2.out
                have HBz := Lib.hid hbz
                obtain ⟨pa, hsa, hpa⟩ := Sq.cut_h tyE (Reads.of_own HOz.out) (show p ≤ out.length by rw [HM.out]; exact hp)
                obtain ⟨pb, hsb, hpb⟩ := Sq.cut_l tyE (Reads.of_own HOz.out) (show p ≤ out.length by rw [HM.out]; exact hp)
                rw [HM.out] at hsa hsb
                have Hpa := Lib.hid hpa
                have Hpb := Lib.hid hpb
                have l1 : (out.take p).length ≤ 200 := by rw [List.length_take]; have := HM.out; omega
                have l2 : (out.drop p).length ≤ 200 := by rw [List.length_drop]; have := HM.out; omega
                obtain ⟨tk, htk⟩ : ∃ tk, out.take p = tk := ⟨_, rfl⟩
                obtain ⟨dr, hdr⟩ : ∃ dr, out.drop p = dr := ⟨_, rfl⟩
                have HK3 := Lib.hid (show (l.drop (k + 1)).foldl (stepT n) (tk ++ [y] ++ dr) = R by
                  rw [← HK2.out, hst, HIns.out, htk, hdr]; simp)
                rw [htk] at Hpa l1
                rw [hdr] at Hpb l2
                have HL := Lib.hid (show tk.length + dr.length + 1 ≤ 200 by
                  have h1 := insT_len y out
                  rw [HIns.out, htk, hdr, HM.out] at h1
                  simp at h1
                  omega)
                have m1 := Lib.hid (show ([] : List Et).length + tk.length ≤ maxLen by simp [maxLen]; omega)
                have m2 := Lib.hid (show (([] : List Et).length + tk.length) * 32 ≤ 140737488355328 by simp; omega)
                have m3 := Lib.hid (show tk.length + 1 ≤ maxLen by simp [maxLen]; omega)
                have m4 := Lib.hid (show (tk.length + 1) * 32 ≤ 140737488355328 by omega)
                have m5 := Lib.hid (show (tk ++ [y]).length + dr.length ≤ maxLen by simp [maxLen]; omega)
                have m6 := Lib.hid (show ((tk ++ [y]).length + dr.length) * 32 ≤ 140737488355328 by simp; omega)
                have HB0 := Lib.hid (below_new wc (.cells #[] 41))
                have HM0 := Lib.hid (own_made (e := 41) encE wc)
                have tok1 : True := trivial
                have tok2 : True := trivial
                clear hpa hpb htk hdr HIns hst hbz l1 l2
                go_wp2_with (first | (at_builtin; have _t := tok1; clear tok1; go_must (refine append_all tyE rfl (.tmp 95) (.tmp 98) rfl wc.heap.size _ ([] : List Et) rfl HM0.out pa tk rfl (Hpa.out.below HB0.out) m1.out m2.out HB0.out.size ?_); intro v1 w3 hown1 hg1; have HO1 := Lib.hid (show w3.ownsRow wc.heap.size 41 3 v1 tk.length (encE.all tk) from hown1); have HB1 := Lib.hid (own_grown (B := wc.heap.size) HB0.out hg1 (fun q hq => Nat.le_of_eq (Option.some.inj hq)) HB0.out.size); have y0 := cell_keep z0 HB1.out; have y1 := cell_keep z1 HB1.out; have y2 := cell_keep z2 HB1.out; clear hown1 hg1) | (at_builtin; have _t := tok2; clear tok2; go_must (refine append_one tyE rfl (.tmp 100) (.tmp 105) rfl wc.heap.size v1 tk y (Et.cells y) rfl rfl HO1.out rfl m3.out m4.out HB1.out.size ?_); intro v2 w4 hown2 hg2; have HO2 := Lib.hid hown2; have HB2 := Lib.hid (own_grown (B := wc.heap.size) (HB1.out.alloc HB1.out.size _) hg2 (fun q hq => (HO1.out.lt q hq).1) (HB1.out.alloc HB1.out.size _).size); clear hown2 hg2) | (at_builtin; go_must (refine append_all tyE rfl (.tmp 107) (.tmp 110) rfl wc.heap.size v2 (tk ++ [y]) rfl HO2.out pb dr rfl (Hpb.out.below HB2.out) m5.out m6.out HB2.out.size ?_); intro v3 w5 hown3 hg3; have HO3 := Lib.hid hown3; have HB3 := Lib.hid (own_grown (B := wc.heap.size) HB2.out hg3 (fun q hq => (HO2.out.lt q hq).1) HB2.out.size); clear hown3 hg3))
                clear z0 z1 z2 y0 y1 y2
                go_roundw
                case rel => exact ⟨k + 1, tk ++ [y] ++ dr, v3, rfl, by go_num, by omega, by have := HL.out; simp; omega, own_base HO3.out HBz.out.size, HK3, HBz.out.trans (HB3.out.mono HBz.out.size)⟩
                case measure => simp [intOf]; omega
            | false =>
              have hst : stepT n out y = out := by
                unfold stepT
                rw [HM.out, hF]
                simp
              have hK := HK2.out
              rw [hst] at hK
              have HK3 := Lib.hid hK
              clear hK hst hF c0 c1 c2
              go_wp2
              go_roundw
              case rel => exact ⟨k + 1, out, _, rfl, by go_num, by omega, by rw [HM.out]; omega, by have h := HOq.out; rw [HM.out] at h ⊢; exact h, HK3, hbo⟩
              case measure => simp [intOf]; omega
      · have hM2' : ¬ (M : Int) < 200 := by omega
        have hK := HK.out
        rw [fold_full _ _ (by rw [HM.out]; omega)] at hK
        go_wp2
        go_ret
        exact ⟨_, rfl, by rw [← hK, HM.out]; have h := HO.out; rw [HM.out] at h; exact h, hb⟩
    · obtain rfl : k = N := by omega
      have hK := HK.out
      rw [List.drop_of_length_le (by rw [HN.out]; exact Nat.le_refl _)] at hK
      have hK2 : out = R := hK
      clear hK
      go_wp2
      go_ret
      exact ⟨_, rfl, by rw [← hK2, HM.out]; have h := HO.out; rw [HM.out] at h; exact h, hb⟩
end Go.Proofs.Ytomihekgcnilhaa
