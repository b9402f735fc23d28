/- The walk of correctorlaw8.BlockIndent: how far lines are in does not count, if all are as much further in. -/
import Derived.Test.YtogiaaiphbamnaaAid8
import Derived.Test.YtogiaaiphbamnaaNumb
import Derived.Test.YtogiaaiphbamnaaTwo
import Derived.Deep.RegionLaw
namespace Go.Proofs.Ytogiaaiphbamnaa
open Go.RowKit
open Go.Proofs.Ytogiaaiphbamnaa.Sq
open Go.Proofs.Ytogiaaiphbamnaa.Bk
set_option linter.unusedVariables false

abbrev abcdV : List Value := [.string ⟨#[97]⟩, .string ⟨#[98, 32, 99]⟩, .string ⟨#[45, 32, 100]⟩, .string ⟨#[101]⟩]
abbrev sixH : List Value := [.string ⟨#[124]⟩, .string ⟨#[62]⟩, .string ⟨#[124, 45]⟩, .string ⟨#[62, 45]⟩, .string ⟨#[124, 43]⟩, .string ⟨#[62, 43]⟩]
theorem abcd_at (k : Nat) (hk : k < 4) : ∃ X : ByteArray, X.size ≤ 3 ∧ abcdV[k]? = some (.string X) := by
  have : ∀ k : Fin 4, ∃ X : ByteArray, X.size ≤ 3 ∧ abcdV[k.val]? = some (.string X) := by
    intro k
    match k with
    | 0 | 1 | 2 | 3 => exact ⟨_, by decide, rfl⟩
  exact this ⟨k, hk⟩
theorem sixh_at (k : Nat) (hk : k < 6) : ∃ X : ByteArray, sixH[k]? = some (.string X) := by
  have : ∀ k : Fin 6, ∃ X : ByteArray, sixH[k.val]? = some (.string X) := by
    intro k
    match k with
    | 0 | 1 | 2 | 3 | 4 | 5 => exact ⟨_, rfl⟩
  exact this ⟨k, hk⟩
theorem rest_app9 (a b : List ByteArray) : rest (a ++ b) 0 = rest a 0 + rest b 0 := by
  unfold rest
  rw [List.drop_zero, List.drop_zero, List.drop_zero, List.map_append, List.sum_append]
theorem rest_one9 (x : ByteArray) : rest [x] 0 = x.size := by unfold rest; rw [List.drop_zero, List.map_cons, List.map_nil, List.sum_cons, List.sum_nil, Nat.add_zero]
/-- Further in. -/
def inB (b : Nat) (x : ByteArray) : ByteArray := sp b ++ x
theorem said_in (hd : ByteArray) (b : Nat) (ls : List ByteArray) : said hd (ls.map (inB b)) = said hd ls := by
  have e : (ls.map (inB b)).map tol = (ls.map tol).map (List.replicate b 32 ++ ·) := by
    rw [List.map_map, List.map_map]
    refine List.map_congr_left fun x _ => ?_
    show tol (inB b x) = _
    unfold inB
    rw [tol_app, tol_sp]
    rfl
  unfold said
  rw [e, text_in]
set_option maxHeartbeats 4000000 in
set_option maxRecDepth 100000 in
theorem walk_BlockIndent (v : Value) (ns : List Int) (by' hd' : Int) (w : World) (h : Nums .i64 w v ns) (_ : (Lit.int .i64 by').wf = true) (_ : (Lit.int .i64 hd').wf = true) :
    Calls Try.prog 7 #[v, .int .i64 by', .int .i64 hd'] w fun e w' => e = .returned (.bool true) ∧ Below w.heap.size w w' := by
  have hlm := h.len
  obtain ⟨a0, cap, rfl⟩ := h.shape
  have H := Lib.hid h
  obtain ⟨c, hc, -, hwc⟩ := within_lit by' 9 9 rfl (by decide) (by decide)
  obtain ⟨c6, hc6, -, hwc6⟩ := within_lit hd' 6 6 rfl (by decide) (by decide)
  have HWc := Lib.hid hwc
  have HWh := Lib.hid hwc6
  clear h hwc hwc6
  go_enter Try.func7, Try.ntmps7
  go_wp2_with fail
  refine (known_true w).mono ?_
  rintro e w1 ⟨rfl, hb⟩
  go_wp2_with fail
  refine (HWc.out _).mono ?_
  rintro e w2 ⟨rfl, rfl⟩
  go_wp2_with fail
  go_loopw [7, 8, 9] (fun ov pv kv wr => ∃ (k : Nat) (ls : List ByteArray), kv = .int .i64 k ∧ k ≤ ns.length ∧ k ≤ 15 ∧ ls.length = k ∧ Hid (Two w1 wr w1.heap.size ov ls pv (ls.map (inB c))) ∧ Hid (rest ls 0 ≤ 10 * k ∧ rest (ls.map (inB c)) 0 ≤ 20 * k)) (fun _ _ kv _ => 15 - (intOf kv).toNat)
  case atStart => exact ⟨0, [], rfl, Nat.zero_le _, Nat.zero_le _, rfl, Lib.hid (Two.none w1 _ (Nat.le_refl _)), Lib.hid ⟨Nat.zero_le _, Nat.zero_le _⟩⟩
  case round =>
    obtain ⟨k, ls, rfl, hk, hk15, hls, HT, HR⟩ := hrel
    have HBr := Lib.hid HT.out.bel
    obtain ⟨Q, hQ⟩ : ∃ Q, (decide (k < ns.length) && decide (k < 15)) = Q := ⟨_, rfl⟩
    have HQ := Lib.hid hQ
    have HLs := Lib.hid hls
    clear hQ hls
    go_upto_region 6 with fail
    go_cut [25] (fun q wx => q = .bool Q ∧ wr = wx)
    case first =>
      have hq := HQ.out
      clear HQ HT HBr
      by_cases c1 : k < ns.length
      · have i1 : (k : Int) < (ns.length : Int) := by omega
        by_cases c2 : k < 15
        · have i2 : (k : Int) < 15 := by omega
          rw [decide_eq_true c1, decide_eq_true c2] at hq
          subst hq
          go_wp2_with fail
          go_meet
          exact ⟨rfl, rfl⟩
        · have i2 : ¬ (k : Int) < 15 := by omega
          rw [decide_eq_true c1, decide_eq_false c2] at hq
          subst hq
          go_wp2_with fail
          go_meet
          exact ⟨rfl, rfl⟩
      · have i1 : ¬ (k : Int) < (ns.length : Int) := by omega
        rw [decide_eq_false c1] at hq
        subst hq
        go_wp2_with fail
        go_meet
        exact ⟨rfl, rfl⟩
    case rest =>
    obtain ⟨rfl, rfl⟩ := hcut
    cases Q with
    | true =>
      have hq := HQ.out
      rw [Bool.and_eq_true, decide_eq_true_eq, decide_eq_true_eq] at hq
      obtain ⟨hlt, hlt2⟩ := hq
      · obtain ⟨b, off, rfl, gl, gm, hc0⟩ := (H.out.below hb).at_ hlt
        have hcell := at_below HBr.out hc0
        have HC0 := Lib.hid hc0
        obtain ⟨y, hy⟩ : ∃ y, ns.getD k 0 = y := ⟨_, rfl⟩
        rw [hy] at hcell HC0
        obtain ⟨c1, hc1, -, hw1⟩ := within_lit y 5 5 rfl (by decide) (by decide)
        obtain ⟨c2, hc2, -, hw2⟩ := within_lit (IntKind.i64.wrap (y.tdiv 5)) 4 4 rfl (by decide) (by decide)
        have HW1 := Lib.hid hw1
        have HW2 := Lib.hid hw2
        have hcut := cut_sp 6 c1 (by omega)
        rw [show sp 6 = ⟨#[32, 32, 32, 32, 32, 32]⟩ from rfl] at hcut
        obtain ⟨Y, hY9, hY⟩ := abcd_at c2 hc2
        have hz1 : (sp c1).size ≤ 4 := by rw [sp_size]; omega
        have hn1 : ¬ (9223372036854775807 < (sp c1).size + Y.size) := by omega
        have hn2 : ¬ (9223372036854775807 < (sp c1 ++ Y).size + (⟨#[10]⟩ : ByteArray).size) := by rw [size_ap]; show ¬ (_ < _ + 1); omega
        have hcx : (wr.alloc (.cells #[.string ⟨#[97]⟩, .string ⟨#[98, 32, 99]⟩, .string ⟨#[45, 32, 100]⟩, .string ⟨#[101]⟩] 9)).cell? ⟨wr.heap.size, c2, none⟩ = some (.string Y) := by
          rw [World.cell?_alloc_new]; show (abcdV.toArray)[c2]? = _; rw [List.getElem?_toArray]; exact hY
        have hcy := at_alloc (o := .cells #[.string ⟨#[97]⟩, .string ⟨#[98, 32, 99]⟩, .string ⟨#[45, 32, 100]⟩, .string ⟨#[101]⟩] 9) hcell
        have i9 : (c2 : Int) < 4 := by omega
        have i90 : (0 : Int) ≤ (c2 : Int) := by omega
        have hbA := below_alloc wr (.cells #[.string ⟨#[97]⟩, .string ⟨#[98, 32, 99]⟩, .string ⟨#[45, 32, 100]⟩, .string ⟨#[101]⟩] 9)
        have HBA := Lib.hid hbA
        have hsX : (sp c1 ++ Y ++ ⟨#[10]⟩).size ≤ 8 := by rw [size_ap, size_ap]; show _ + 1 ≤ _; omega
        obtain ⟨X, hX⟩ : ∃ X, sp c1 ++ Y ++ ⟨#[10]⟩ = X := ⟨_, rfl⟩
        have HX := Lib.hid hX
        rw [hX] at hsX
        obtain ⟨XA, hXA⟩ : ∃ XA, sp c1 ++ Y = XA := ⟨_, rfl⟩
        generalize sp c1 = C1 at *
        clear hc0 hw1 hw2 hY hX hbA hy hXA
        go_upto_region 8 with fail
        go_cut [10] (fun sv wx => sv = .string X ∧ Below wr.heap.size wr wx)
        case first =>
          go_region_with (go_at_call 10; (first | (with_reducible refine (HW1.out _).mono ?_) | (with_reducible refine (HW2.out _).mono ?_)); rintro e w2 ⟨rfl, rfl⟩)
          all_goals
            go_wp2_with fail
            go_meet
            exact ⟨by rw [HX.out], by first | exact HBA.out | exact below_drewN HBA.out 1 | exact (below_drewN (Below.refl _ wr) 1).alloc (Nat.le_refl _) _ | exact below_drewN ((below_drewN (Below.refl _ wr) 1).alloc (Nat.le_refl _) _) 1⟩
        case rest =>
          obtain ⟨rfl, hbc⟩ := hcut
          have T0 := HT.out.below hbc
          obtain ⟨D, hD⟩ : ∃ D, inB c X = D := ⟨_, rfl⟩
          have hcut2 := cut_sp 9 c (by omega)
          rw [show sp 9 = ⟨#[32, 32, 32, 32, 32, 32, 32, 32, 32]⟩ from rfl] at hcut2
          have hn3 : ¬ (9223372036854775807 < (sp c).size + X.size) := by rw [sp_size]; omega
          have hDD : sp c ++ X = D := hD
          have HD := Lib.hid hDD
          have HDz := Lib.hid (show D.size ≤ 17 by rw [← hDD, size_ap, sp_size]; omega)
          have HDm := Lib.hid (show (ls ++ [X]).map (inB c) = ls.map (inB c) ++ [D] by rw [List.map_append, ← hD]; rfl)
          have HL1 := Lib.hid (show ls.length + 1 ≤ 1000000 by have := HLs.out; omega)
          have HL2 := Lib.hid (show (ls.map (inB c)).length + 1 ≤ 1000000 by rw [List.length_map]; have := HLs.out; omega)
          obtain ⟨L2, hL2⟩ : ∃ L2, ls.map (inB c) = L2 := ⟨_, rfl⟩
          have HLL := Lib.hid hL2
          rw [hL2] at T0 HL2 HDm
          have HNe := T0.far
          generalize sp c = C2 at *
          clear hD hDD hcell hcx hcy hn1 hn2 hcut hbc HT HBr hL2
          go_upto_region 9 with fail
          go_region_law ((first
              | (refine step_two rfl (.tmp 45) (.tmp 47) rfl X rfl (by first | exact (T0.al _).dr | exact ((T0.al _).al _).dr | exact hT5 | exact hT5.al _) rfl (by first | exact at_drew (new_at rfl rfl) | exact at_drew (at_alloc (new_at rfl rfl)) | exact at_drew (new_at (by simp) rfl) | exact new_at rfl rfl | exact hk4 _ _ _ (at_drew (at_alloc (new_at rfl rfl))) (HNe _ (by simp)).2 | exact hk4 _ _ _ (at_drew (new_at (by simp) rfl)) (HNe _ (by simp)).2) HL1.out ?_; intro v3 w3 hT3 hk3)
              | (refine step_two rfl (.tmp 49) (.tmp 54) rfl (C2 ++ X) rfl (by first | exact ((T0.al _).dr).swap | exact (((T0.al _).al _).dr).swap | exact hT3.swap | exact (hT3.al _).swap) rfl (by first | exact at_drew (new_at rfl rfl) | exact at_drew (at_alloc (new_at rfl rfl)) | exact at_drew (new_at (by simp) rfl) | exact new_at rfl rfl | exact hk3 _ _ _ (at_drew (at_alloc (new_at rfl rfl))) (HNe _ (by simp)).1 | exact hk3 _ _ _ (at_drew (new_at (by simp) rfl)) (HNe _ (by simp)).1) HL2.out ?_; intro v4 w4 hT4 hk4; have hT5 := hT4.swap)))
          all_goals
            go_wp2_with fail
            go_roundw
            case rel => exact ⟨k + 1, ls ++ [X], by go_num, by omega, by omega, by rw [List.length_append, HLs.out]; rfl, Lib.hid (by rw [HDm.out, ← HD.out]; first | exact hT5 | exact hT3), Lib.hid ⟨by rw [rest_app9, rest_one9]; have := HR.out; omega, by rw [HDm.out, rest_app9, rest_one9, ← HLL.out]; have := HR.out; have := HDz.out; omega⟩⟩
            case measure => simp [intOf]; omega
    | false =>
      have hr1 := HR.out.1
      have hr2 := HR.out.2
      have hM1 : 2 * ls.length + rest ls 0 ≤ 1000000 := by have := HLs.out; omega
      have hM2 : 2 * (ls.map (inB c)).length + rest (ls.map (inB c)) 0 ≤ 1000000 := by rw [List.length_map]; have := HLs.out; omega
      have HM1 := Lib.hid hM1
      have HM2 := Lib.hid hM2
      have HTw := Lib.hid HT.out
      obtain ⟨Hd, hHd⟩ := sixh_at c6 hc6
      have hcx := fun (W : World) => show (W.alloc (.cells #[.string ⟨#[124]⟩, .string ⟨#[62]⟩, .string ⟨#[124, 45]⟩, .string ⟨#[62, 45]⟩, .string ⟨#[124, 43]⟩, .string ⟨#[62, 43]⟩] 9)).cell? ⟨W.heap.size, c6, none⟩ = some (.string Hd) by
          rw [World.cell?_alloc_new]; show (sixH.toArray)[c6]? = _; rw [List.getElem?_toArray]; exact hHd
      have hcx1 := hcx wr
      have T9 := Lib.hid (HT.out.al (.cells #[.string ⟨#[124]⟩, .string ⟨#[62]⟩, .string ⟨#[124, 45]⟩, .string ⟨#[62, 45]⟩, .string ⟨#[124, 43]⟩, .string ⟨#[62, 43]⟩] 9))
      have i9 : (c6 : Int) < 6 := by omega
      have i90 : (0 : Int) ≤ (c6 : Int) := by omega
      obtain ⟨W9, hW9⟩ : ∃ W, wr.alloc (.cells #[.string ⟨#[124]⟩, .string ⟨#[62]⟩, .string ⟨#[124, 45]⟩, .string ⟨#[62, 45]⟩, .string ⟨#[124, 43]⟩, .string ⟨#[62, 43]⟩] 9) = W := ⟨_, rfl⟩
      rw [hW9] at T9 hcx1
      have HW9 := Lib.hid hW9
      clear hcx hHd HT HTw HBr hM1 hM2 hr1 hr2 hW9
      go_wp2_with fail
      rw [HW9.out]
      refine (HWh.out _).mono ?_
      rintro e w2 ⟨rfl, rfl⟩
      go_upto_if 63 with fail
      go_cut [12] (fun q wx => ∃ m : Int, q = .int .i64 m ∧ W9 = wx)
      case first =>
        by_cases hn0 : 0 < ns.length
        · have i0 : (0 : Int) < (ns.length : Int) := by omega
          obtain ⟨b, off, rfl, gl, gm, hc0⟩ := (H.out.below hb).at_ hn0
          have hcell := at_below T9.out.bel hc0
          rw [Nat.add_zero] at hcell
          obtain ⟨c0, -, -, hw0⟩ := within_lit (ns.getD 0 0) 5 5 rfl (by decide) (by decide)
          have HW0 := Lib.hid hw0
          generalize ns.getD 0 0 = Y0 at *
          clear hw0 hc0
          go_wp2_with fail
          refine (HW0.out _).mono ?_
          rintro e w2 ⟨rfl, rfl⟩
          go_wp2_with fail
          go_meet
          exact ⟨_, rfl, rfl⟩
        · have i0 : ¬ (0 : Int) < (ns.length : Int) := by omega
          go_wp2_with fail
          go_meet
          exact ⟨_, rfl, rfl⟩
      case rest =>
        obtain ⟨m, rfl, rfl⟩ := hcut
        obtain ⟨a1, cap1, rfl⟩ := T9.out.fst.shape
        go_wp2_with fail
        go_loopw [13] (fun jv wx => ∃ j : Nat, jv = .int .i64 j ∧ j ≤ ls.length ∧ W9 = wx) (fun jv _ => ls.length - (intOf jv).toNat)
        case atStart => exact ⟨0, rfl, Nat.zero_le _, rfl⟩
        case round =>
          obtain ⟨j, rfl, hj, rfl⟩ := hrel
          by_cases hjl : j < ls.length
          · have ij : (j : Int) < (ls.length : Int) := by omega
            have hjn : j < ns.length := by have := HLs.out; omega
            have ijn : (j : Int) < (ns.length : Int) := by omega
            obtain ⟨b, off, rfl, gl, gm, hc0⟩ := (H.out.below hb).at_ hjn
            have hcell := at_below T9.out.bel hc0
            obtain ⟨c0, -, -, hw0⟩ := within_lit (ns.getD j 0) 5 5 rfl (by decide) (by decide)
            have HW0 := Lib.hid hw0
            generalize ns.getD j 0 = Y0 at *
            clear hw0 hc0
            go_wp2_with fail
            refine (HW0.out _).mono ?_
            rintro e w2 ⟨rfl, rfl⟩
            have hfin := hb.trans (T9.out.bel.mono hb.size)
            by_cases hcm : (c0 : Int) < m
            · go_wp2_with fail
              go_ret
              exact ⟨rfl, hfin⟩
            · go_wp2_with fail
              go_roundw
              case rel => exact ⟨j + 1, by go_num, by omega, trivial⟩
              case measure => simp [intOf]; omega
          · have ij : ¬ (j : Int) < (ls.length : Int) := by omega
            have hC1 := bText Hd _ ls W9 T9.out.fst.reads HM1.out
            have HC2 := Lib.hid (fun (W : World) (hb : Below W9.heap.size W9 W) => bText Hd _ (ls.map (inB c)) W (T9.out.snd.reads.below hb) HM2.out)
            rw [said_in] at HC2
            generalize said Hd ls = S at *
            have HC1 := Lib.hid hC1
            have HB9 := Lib.hid T9.out.bel
            clear hC1
            go_wp2_with fail
            refine HC1.out.mono ?_
            rintro e w2 ⟨rfl, hb2⟩
            go_wp2_with fail
            refine (HC2.out _ hb2).mono ?_
            rintro e w3 ⟨rfl, hb3⟩
            have hb4 := hb2.trans (hb3.mono hb2.size)
            have hfin := hb.trans ((HB9.out.trans (hb4.mono HB9.out.size)).mono hb.size)
            clear hb2 hb3 hb4
            go_wp2_with fail
            go_ret
            exact ⟨by simp, hfin⟩
end Go.Proofs.Ytogiaaiphbamnaa
