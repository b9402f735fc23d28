/- The walk of the law FlowEnds. -/
import Derived.Test.YtmlpaafclobgcaaAidx
import Derived.Test.YtmlpaafclobgcaaAidf
import Derived.Test.YtmlpaafclobgcaaFle
import Derived.Test.YtmlpaafclobgcaaAqe
namespace Go.Proofs.Ytmlpaafclobgcaa
open Go.RowKit
open Go.Proofs.Ytmlpaafclobgcaa.Sg
open Go.Proofs.Ytmlpaafclobgcaa.Sq
open Go.Proofs.Ytmlpaafclobgcaa.Ar
set_option linter.unusedVariables false

theorem toks_pos (L : List Nat) (h0 : 0 < L.length) (h1 : L.length ≤ 16384) : 0 < (Sc.tokens L).length := by
  unfold Sc.tokens
  rw [if_neg (by omega)]
  obtain ⟨f, hf⟩ : ∃ f, L.length = f + 1 := ⟨L.length - 1, by omega⟩
  rw [hf, Sc.toks, if_neg (fun e => by rw [e] at h0; exact absurd h0 (by decide))]
  simp
theorem errs_nk (l : List Nd) : nk 11 (Fl.sig l) = Fl.errs l := by
  unfold nk Fl.sig Fl.errs
  rw [List.countP_map]
  rfl
def tdn (d : List Fl.Dg) : Nat := d.countP (fun x => x.code != 9)
theorem tdn_step {l : List Fl.Dg} {i : Nat} {x : Fl.Dg} (h : l[i]? = some x) : tdn (l.take (i + 1)) = tdn (l.take i) + (if x.code = 9 then 0 else 1) := by
  rw [List.take_add_one, h]
  unfold tdn
  rw [List.countP_append]
  by_cases e : x.code = 9
  · simp [e]
  · simp [e]
theorem tdn_le (l : List Fl.Dg) (i : Nat) : tdn (l.take i) ≤ i := by
  have h1 := List.countP_le_length (p := fun x : Fl.Dg => x.code != 9) (l := l.take i)
  have h2 := List.length_take_le i l
  unfold tdn; omega
set_option maxHeartbeats 2000000 in
set_option maxRecDepth 100000 in
theorem walk_FlowEnds (v : Value) (l : List Int) (a1 a2 : Int) (w : World) (hl : Nums .i64 w v l) (_ : (Lit.int .i64 a1).wf = true) (_ : (Lit.int .i64 a2).wf = true) :
    Calls Try.prog 3 #[v, .int .i64 a1, .int .i64 a2] w fun e w' => e = .returned (.bool true) ∧ Below w.heap.size w w' := by
  have HQ := Lib.hid (fun w' => show Below w.heap.size w w' → (fun e (w' : World) => e = Ending.returned (.bool true) ∧ Below w.heap.size w w') (.returned (.bool true)) w' from fun h => ⟨rfl, h⟩)
  obtain ⟨Q, hQ⟩ : ∃ Q, (fun e (w' : World) => e = Ending.returned (.bool true) ∧ Below w.heap.size w w') = Q := ⟨_, rfl⟩
  rw [hQ] at HQ ⊢
  have HK := Lib.hid (known_true w)
  have HF := Lib.hid (fun W (hb : Below w.heap.size w W) => flow_any v l W (hl.below hb))
  clear hl hQ
  go_enter Try.func3, Try.ntmps3
  go_wp2_with fail
  refine HK.out.mono ?_
  rintro e w1 ⟨rfl, hb1⟩
  have HB1 := Lib.hid hb1
  have HF1 := Lib.hid (HF.out w1 hb1)
  clear hb1 HK HF
  go_wp2_with fail
  refine HF1.out.mono ?_
  rintro e w2 ⟨bv, X, rfl, hBy, hx0, hx1, hTame, hb2⟩
  have HB2 := Lib.hid (below_from HB1.out hb2)
  have HTk := Lib.hid (rTokens _ _ _ hBy)
  have HRd := Lib.hid (fun e w' (h : Gives (Sc.nats X) w2 e w') => h.read)
  have hOk := toks_ok _ hTame
  have hnl := Sc.nats_len X
  have hp0 := toks_pos (Sc.nats X) (by omega) (by omega)
  have hp1 := tokens_len (Sc.nats X)
  obtain ⟨T, hT⟩ : ∃ T, Sc.tokens (Sc.nats X) = T := ⟨_, rfl⟩
  rw [hT] at HRd hOk hp0 hp1
  obtain ⟨N, hN⟩ : ∃ N, T.length = N := ⟨_, rfl⟩
  rw [hN] at HRd hp0 hp1
  have hN1 : N ≤ 201 := by omega
  obtain ⟨p, hp, hw1⟩ := within_lit a1 N N rfl (by omega) (by omega)
  obtain ⟨d, hd, hw2⟩ := within_lit a2 9 9 rfl (by decide) (by decide)
  obtain ⟨node, next, s', hv, hchk, hgd, hers, hcase⟩ := Fl.ends_all T d p (by omega) (by omega)
  have hsz := Fl.ends_size T d p (by omega) (by omega)
  rw [hN] at hv hchk hcase hsz
  rw [hv] at hsz
  have HVal := Lib.hid (fun bv v tv W (h1 : Reads encT W v T) (h2 : Nodes W tv (newN N)) => fNewVal bv v tv T N p d W hN h1 (by omega) hOk h2 (by omega) (by omega))
  rw [hv] at HVal
  have HW1 := Lib.hid hw1
  have HW2 := Lib.hid hw2
  have HChk := Lib.hid hchk
  have HErs := Lib.hid hers
  have htpos := hgd.pos
  have HSz := Lib.hid hsz
  clear hBy hTame hb2 hOk hnl hp1 hT hN hw1 hw2 hv hchk hgd hers hsz hx0 hx1 HF1
  go_wp2_with fail
  refine HTk.out.mono ?_
  intro e w3 hg
  obtain ⟨a, cap, rfl, hRt, hb3⟩ := HRd.out _ _ hg
  have HR := Lib.hid hRt
  have HB3 := Lib.hid (below_from HB2.out hb3)
  clear hRt hg hb3 HTk HRd
  go_wp2_with fail
  refine (HW1.out _).mono ?_
  rintro e w4 ⟨rfl, rfl⟩
  go_wp2_with fail
  refine (aNew N w3).mono ?_
  rintro e w5 ⟨u, rfl, hn, -, hb5⟩
  have HV := Lib.hid (fun bv => HVal.out bv _ u w5 (HR.out.below hb5) hn)
  have HB5 := Lib.hid (below_from HB3.out hb5)
  clear hn hb5
  go_wp2_with fail
  refine (HW2.out _).mono ?_
  rintro e w6 ⟨rfl, rfl⟩
  go_wp2_with fail
  refine (HV.out _).mono ?_
  rintro e w7 ⟨z, dv, rfl, hn7, hd7, hb7⟩
  obtain ⟨za, zc, rfl⟩ := hn7.shape
  obtain ⟨da, dc, rfl⟩ := hd7.shape
  have htp : s'.t.length ≤ 1000 := HSz.out.1
  obtain ⟨TL, hTL⟩ : ∃ TL, s'.t.length = TL := ⟨_, rfl⟩
  obtain ⟨DL, hDL⟩ : ∃ DL, s'.d.length = DL := ⟨_, rfl⟩
  obtain ⟨W0, hW0⟩ : ∃ W0, w7.alloc (.cells #[.slice za TL zc] 31) = W0 := ⟨_, rfl⟩
  have hbW : Below w7.heap.size w7 W0 := hW0 ▸ below_alloc w7 _
  have m1 : W0.cell? ⟨w7.heap.size, 0, none⟩ = some (.slice za TL zc) := by rw [← hW0]; exact at_new rfl
  have hnW := hn7.below hbW
  have hdW := hd7.below hbW
  have HCk := Lib.hid (aCheckL _ s'.t N W0 hnW.weak HSz.out.1 HSz.out.2)
  rw [HChk.out] at HCk
  rw [hTL] at hcase htpos
  rw [hTL] at hnW htp HCk ⊢
  rw [hDL] at hdW ⊢
  have HBW := Lib.hid (below_from (below_from HB5.out hb7) hbW)
  have HNW := Lib.hid hnW
  have HDW := Lib.hid hdW
  have HW0 := Lib.hid hW0
  have HTL := Lib.hid hTL
  have HDL := Lib.hid hDL
  have hdlb : DL ≤ 9223372036854775807 := by
    have h := hd7.size_le
    rw [hDL] at h
    simp only [maxLen] at h
    omega
  clear hn7 hd7 hb7 hTL hDL hW0 hbW hnW hdW HV HVal HR
  go_upto_region 7 with fail
  rw [HW0.out]
  clear HW0
  go_wp2_with fail
  refine HCk.out.mono ?_
  rintro e W ⟨rfl, hbc⟩
  have m1 := at_below hbc m1
  have hnW := HNW.out.below hbc
  have hdW := HDW.out.below hbc
  rw [← HTL.out] at hnW
  obtain ⟨b, off, rfl, hat⟩ := nodes_all hnW (by rw [HTL.out]; exact htpos)
  rw [← HDL.out] at hdW
  have HAt := Lib.hid (fun j x hx => (hat j x hx).1)
  have HDt := Lib.hid hdW
  have HD := Lib.hid (HQ.out W (below_from HBW.out hbc))
  clear hnW hdW hat hbc HNW HDW HBW HCk HChk HSz
  have hends : (node = -1 ∧ next = p ∧ TL = 1 ∧ DL = 0) ∨ (node = 1 ∧ p < next ∧ next ≤ N) := by
    rcases hcase with ⟨h1, h2, h3, h4⟩ | h
    · exact .inl ⟨h1, h2, h3, by rw [← HDL.out, h4]; rfl⟩
    · exact .inr h
  clear hcase
  rcases hends with ⟨rfl, rfl, h3, h4⟩ | ⟨rfl, h1, h2⟩
  · have n3 : ((TL : Int) != 1) = false := by rw [h3]; rfl
    have n4 : ((DL : Int) != 0) = false := by rw [h4]; rfl
    clear h3 h4
    go_upto_region 11 with fail
    go_loopw [13, 15] (fun cv iv wx => ∃ j : Nat, iv = .int .i64 (j : Int) ∧ j ≤ TL ∧ cv = .int .i64 (nk 11 ((Fl.sig s'.t).take j) : Int) ∧ wx = W) (fun _ iv _ => TL - (intOf iv).toNat)
    case atStart => exact ⟨0, rfl, by omega, rfl, rfl⟩
    case round =>
      obtain ⟨j, rfl, hj, rfl, rfl⟩ := hrel
      have hC := nk_le 11 (Fl.sig s'.t) j
      by_cases hlt : j < TL
      · have g1 : (j : Int) < (TL : Int) := by omega
        obtain ⟨x, hx⟩ : ∃ x, s'.t[j]? = some x := ⟨_, List.getElem?_eq_getElem (by rw [HTL.out]; exact hlt)⟩
        have c1 := HAt.out j x hx
        have hs := nk_step (c := 11) hx
        obtain ⟨C, hCn⟩ : ∃ C, nk 11 ((Fl.sig s'.t).take j) = C := ⟨_, rfl⟩
        rw [hCn] at hs hC ⊢
        have HS := Lib.hid hs
        clear hs hx hCn
        by_cases e : x.k = 11
        · have g2 : (x.k == 11) = true := by simp [e]
          go_wp2_with fail
          go_roundw
          case rel => exact ⟨j + 1, by go_num, by omega, by rw [HS.out, if_pos e]; go_num, trivial⟩
          case measure => simp [intOf]; omega
        · have g2 : (x.k == 11) = false := by simp [e]
          go_wp2_with fail
          go_roundw
          case rel => exact ⟨j + 1, by go_num, by omega, by rw [HS.out, if_neg e]; go_num, trivial⟩
          case measure => simp [intOf]; omega
      · obtain rfl : j = TL := by omega
        have g1 : ¬ ((j : Int) < (j : Int)) := by omega
        have hfin : nk 11 ((Fl.sig s'.t).take j) = Fl.errs s'.t := by rw [← HTL.out, nk_all]; exact errs_nk _
        obtain ⟨ER, hER⟩ : ∃ ER, Fl.errs s'.t = ER := ⟨_, rfl⟩
        rw [hfin, hER]
        have HER := Lib.hid hER
        clear hfin hC hER
        go_upto_region 16 with fail
        go_loopw [14, 16] (fun cv iv wy => ∃ q : Nat, iv = .int .i64 (q : Int) ∧ q ≤ DL ∧ cv = .int .i64 (tdn (s'.d.take q) : Int) ∧ wy = wr) (fun _ iv _ => DL - (intOf iv).toNat)
        case atStart => exact ⟨0, rfl, by omega, rfl, rfl⟩
        case round =>
          obtain ⟨q, rfl, hq, rfl, rfl⟩ := hrel
          have hC := tdn_le s'.d q
          by_cases hlt2 : q < DL
          · have g2 : (q : Int) < (DL : Int) := by omega
            have hdt := HDt.out
            obtain ⟨x, hx⟩ : ∃ x, s'.d[q]? = some x := ⟨_, List.getElem?_eq_getElem (by rw [HDL.out]; exact hlt2)⟩
            obtain ⟨b2, off2, rfl, hat2⟩ := hdt.at_ q x hx
            have c0 : wr.cell? ⟨b2, off2 + q * 3, none⟩ = some (.int .i64 (x.code : Int)) := hat2 0 _ rfl
            have hs := tdn_step hx
            obtain ⟨C, hCn⟩ : ∃ C, tdn (s'.d.take q) = C := ⟨_, rfl⟩
            rw [hCn] at hs hC ⊢
            have HS := Lib.hid hs
            clear hs hx hCn hat2 hdt
            obtain ⟨xc, hxc⟩ : ∃ xc, x.code = xc := ⟨_, rfl⟩
            rw [hxc] at c0 HS
            clear hxc
            by_cases e : xc = 9
            · subst e
              go_wp2_with fail
              go_roundw
              case rel => exact ⟨q + 1, by go_num, by omega, by rw [HS.out, if_pos rfl]; go_num, trivial⟩
              case measure => simp [intOf]; omega
            · have g3 : ((xc : Int) != 9) = true := by simp; omega
              have g4 : ((xc : Int) == 9) = false := by simp; omega
              go_wp2_with fail
              go_roundw
              case rel => exact ⟨q + 1, by go_num, by omega, by rw [HS.out, if_neg e]; go_num, trivial⟩
              case measure => simp [intOf]; omega
          · obtain rfl : q = DL := by omega
            have g2 : ¬ ((q : Int) < (q : Int)) := by omega
            have hfin : tdn (s'.d.take q) = ER := by
              rw [List.take_of_length_le (by rw [HDL.out]; exact Nat.le_refl _), ← HER.out, HErs.out]; rfl
            rw [hfin]
            clear hfin hC
            go_wp2_with fail
            try simp only [Exit.jump]
            exact HD.out
  · have n1 : ¬ ((next : Int) ≤ (p : Int)) := by omega
    have n2 : ¬ ((N : Int) < (next : Int)) := by omega
    go_upto_region 11 with fail
    go_loopw [13, 15] (fun cv iv wx => ∃ j : Nat, iv = .int .i64 (j : Int) ∧ j ≤ TL ∧ cv = .int .i64 (nk 11 ((Fl.sig s'.t).take j) : Int) ∧ wx = W) (fun _ iv _ => TL - (intOf iv).toNat)
    case atStart => exact ⟨0, rfl, by omega, rfl, rfl⟩
    case round =>
      obtain ⟨j, rfl, hj, rfl, rfl⟩ := hrel
      have hC := nk_le 11 (Fl.sig s'.t) j
      by_cases hlt : j < TL
      · have g1 : (j : Int) < (TL : Int) := by omega
        obtain ⟨x, hx⟩ : ∃ x, s'.t[j]? = some x := ⟨_, List.getElem?_eq_getElem (by rw [HTL.out]; exact hlt)⟩
        have c1 := HAt.out j x hx
        have hs := nk_step (c := 11) hx
        obtain ⟨C, hCn⟩ : ∃ C, nk 11 ((Fl.sig s'.t).take j) = C := ⟨_, rfl⟩
        rw [hCn] at hs hC ⊢
        have HS := Lib.hid hs
        clear hs hx hCn
        by_cases e : x.k = 11
        · have g2 : (x.k == 11) = true := by simp [e]
          go_wp2_with fail
          go_roundw
          case rel => exact ⟨j + 1, by go_num, by omega, by rw [HS.out, if_pos e]; go_num, trivial⟩
          case measure => simp [intOf]; omega
        · have g2 : (x.k == 11) = false := by simp [e]
          go_wp2_with fail
          go_roundw
          case rel => exact ⟨j + 1, by go_num, by omega, by rw [HS.out, if_neg e]; go_num, trivial⟩
          case measure => simp [intOf]; omega
      · obtain rfl : j = TL := by omega
        have g1 : ¬ ((j : Int) < (j : Int)) := by omega
        have hfin : nk 11 ((Fl.sig s'.t).take j) = Fl.errs s'.t := by rw [← HTL.out, nk_all]; exact errs_nk _
        obtain ⟨ER, hER⟩ : ∃ ER, Fl.errs s'.t = ER := ⟨_, rfl⟩
        rw [hfin, hER]
        have HER := Lib.hid hER
        clear hfin hC hER
        go_upto_region 16 with fail
        go_loopw [14, 16] (fun cv iv wy => ∃ q : Nat, iv = .int .i64 (q : Int) ∧ q ≤ DL ∧ cv = .int .i64 (tdn (s'.d.take q) : Int) ∧ wy = wr) (fun _ iv _ => DL - (intOf iv).toNat)
        case atStart => exact ⟨0, rfl, by omega, rfl, rfl⟩
        case round =>
          obtain ⟨q, rfl, hq, rfl, rfl⟩ := hrel
          have hC := tdn_le s'.d q
          by_cases hlt2 : q < DL
          · have g2 : (q : Int) < (DL : Int) := by omega
            have hdt := HDt.out
            obtain ⟨x, hx⟩ : ∃ x, s'.d[q]? = some x := ⟨_, List.getElem?_eq_getElem (by rw [HDL.out]; exact hlt2)⟩
            obtain ⟨b2, off2, rfl, hat2⟩ := hdt.at_ q x hx
            have c0 : wr.cell? ⟨b2, off2 + q * 3, none⟩ = some (.int .i64 (x.code : Int)) := hat2 0 _ rfl
            have hs := tdn_step hx
            obtain ⟨C, hCn⟩ : ∃ C, tdn (s'.d.take q) = C := ⟨_, rfl⟩
            rw [hCn] at hs hC ⊢
            have HS := Lib.hid hs
            clear hs hx hCn hat2 hdt
            obtain ⟨xc, hxc⟩ : ∃ xc, x.code = xc := ⟨_, rfl⟩
            rw [hxc] at c0 HS
            clear hxc
            by_cases e : xc = 9
            · subst e
              go_wp2_with fail
              go_roundw
              case rel => exact ⟨q + 1, by go_num, by omega, by rw [HS.out, if_pos rfl]; go_num, trivial⟩
              case measure => simp [intOf]; omega
            · have g3 : ((xc : Int) != 9) = true := by simp; omega
              have g4 : ((xc : Int) == 9) = false := by simp; omega
              go_wp2_with fail
              go_roundw
              case rel => exact ⟨q + 1, by go_num, by omega, by rw [HS.out, if_neg e]; go_num, trivial⟩
              case measure => simp [intOf]; omega
          · obtain rfl : q = DL := by omega
            have g2 : ¬ ((q : Int) < (q : Int)) := by omega
            have hfin : tdn (s'.d.take q) = ER := by
              rw [List.take_of_length_le (by rw [HDL.out]; exact Nat.le_refl _), ← HER.out, HErs.out]; rfl
            rw [hfin]
            clear hfin hC
            go_wp2_with fail
            try simp only [Exit.jump]
            exact HD.out
end Go.Proofs.Ytmlpaafclobgcaa
