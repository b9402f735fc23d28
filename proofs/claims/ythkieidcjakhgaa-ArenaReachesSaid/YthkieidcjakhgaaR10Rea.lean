/- ArenaReaches. -/
import Derived.Test.YthkieidcjakhgaaR10Tl
import Derived.Test.YthkieidcjakhgaaR10Ch
import Derived.Test.YthkieidcjakhgaaR10Ref
namespace Go.Proofs.Ythkieidcjakhgaa
open Go.RowKit
open Go.Proofs.Ythkieidcjakhgaa.Sq
open Go.Proofs.Ythkieidcjakhgaa.Ar
set_option linter.unusedVariables false

set_option maxHeartbeats 4000000 in
set_option maxRecDepth 100000 in
theorem walkP_ArenaReaches (hN : PNew) (hA : PAdd) (hG : PGrow) (hC : PCheck) (hS : PSame) (n0 deep0 to0 : Int) (w : World) (_ : (Lit.int .i64 n0).wf = true) (_ : (Lit.int .i64 deep0).wf = true) (_ : (Lit.int .i64 to0).wf = true) :
    Calls Try.prog 6 #[.int .i64 n0, .int .i64 deep0, .int .i64 to0] w fun e w' => e = .returned (.bool true) ∧ Below w.heap.size w w' := by
  obtain ⟨kn, hn40, -, hwn⟩ := within_lit n0 40 40 rfl (by decide) (by decide)
  obtain ⟨kd, hd12, -, hwd⟩ := within_lit deep0 12 12 rfl (by decide) (by decide)
  have HWn := Lib.hid hwn
  have HWd := Lib.hid hwd
  have HK := Lib.hid (known_true hN)
  have HN := Lib.hid hN
  have HA := Lib.hid hA
  have HG := Lib.hid hG
  have HC := Lib.hid hC
  have HS := Lib.hid hS
  clear hwn hwd hN hA hG hC hS
  obtain ⟨n, hn⟩ : ∃ n : Nat, 20 + kn = n := ⟨_, rfl⟩
  have hnI : (20 : Int) + (kn : Int) = (n : Int) := by omega
  obtain ⟨d, hd⟩ : ∃ d : Nat, 1 + kd = d := ⟨_, rfl⟩
  have hdI : (1 : Int) + (kd : Int) = (d : Int) := by omega
  go_enter Try.func6, Try.ntmps6
  go_wp2_with fail
  refine (HK.out _).mono ?_
  rintro e w1 ⟨rfl, hb1⟩
  have HB1 := Lib.hid hb1
  clear hb1
  go_wp2_with fail
  refine (HWn.out _).mono ?_
  rintro e w' ⟨rfl, rfl⟩
  go_wp2_with fail
  refine (HWd.out _).mono ?_
  rintro e w' ⟨rfl, rfl⟩
  go_wp2_with fail
  refine (HN.out (n : Int) w1).mono ?_
  rintro e w2 ⟨u2, rfl, hn2, -, hb2⟩
  rw [chain_new (n : Int) (by omega) (by omega) ((0 : Nat) : Int)] at hn2
  obtain ⟨a, cap, rfl⟩ : ∃ a cap, u2 = .slice a 1 cap := hn2.shape
  have HB2 := Lib.hid (below_from HB1.out hb2)
  obtain ⟨w3, hw3⟩ : ∃ w3, w2.alloc (.cells #[.slice a 1 cap] 27) = w3 := ⟨_, rfl⟩
  obtain ⟨tb, htb⟩ : ∃ tb, w2.heap.size = tb := ⟨_, rfl⟩
  have hb3 : Below w2.heap.size w2 w3 := hw3 ▸ below_alloc w2 _
  have c3 : Hld w3 tb 0 (.slice a 1 cap) := by rw [← hw3, ← htb]; exact hld_new rfl
  have HN3 := Lib.hid (hn2.below hb3)
  have HB3 := Lib.hid hb3
  have HC3 := Lib.hid c3
  have HW3 := Lib.hid hw3
  have HTb := Lib.hid htb
  have htb2 : w2.heap.size ≤ tb := by omega
  clear hn2 hb2 hb3 c3 hw3 htb
  go_wp2_with fail
  rw [HW3.out, HTb.out]
  go_loopw [8] (fun iv wr => ∃ (i : Nat) (a : Option Addr) (cap : Nat), iv = .int .i64 i ∧ i ≤ d ∧ Hid (Hld wr tb 0 (.slice a (i + 1) cap)) ∧ Hid (Nodes wr (.slice a (i + 1) cap) (chain n i i)) ∧ Hid (Below w2.heap.size w2 wr)) (fun iv _ => d - (intOf iv).toNat)
  case atStart => exact ⟨0, a, cap, rfl, Nat.zero_le _, HC3, HN3, HB3⟩
  case round =>
    obtain ⟨i, a, cap, rfl, hi, HCr, HNr, HBr⟩ := hrel
    have c0 := HCr.out.1
    have f0 := HCr.out.2
    by_cases hlt : i < d
    · have hii : (i : Int) < (d : Int) := by omega
      have hcall := HA.out (.slice a (i + 1) cap) (chain n i i) i 3 i ((i : Int) + 1) wr HNr.out (good_chain _ _ _ (by omega)) (by rw [chain_len]; omega) (chain_kids _ _ _)
      rw [chain_add n i (by omega)] at hcall
      have HCa := Lib.hid hcall
      clear hcall
      go_wp2_with fail
      refine HCa.out.mono ?_
      rintro e w4 ⟨u4, rfl, hn4, -, hb4⟩
      obtain ⟨a4, cap4, rfl⟩ : ∃ a cap, u4 = .slice a (i + 1 + 1) cap := by
        obtain ⟨a, cap, e⟩ := hn4.shape
        exact ⟨a, cap, by rw [e, chain_len]⟩
      have hlt4 : tb < wr.heap.size := lt_of_cell c0
      obtain ⟨w5, hw5⟩ : ∃ w5, w4.alloc (.cells #[.slice a4 (i + 1 + 1) cap4] 27) = w5 := ⟨_, rfl⟩
      have hb5 : Below w4.heap.size w4 w5 := hw5 ▸ below_alloc w4 _
      have hb45 : Below wr.heap.size wr w5 := below_from (Below.refl _ _) (below_from hb4 hb5)
      have c5 := hld_below hb45 HCr.out
      have h5 := hn4.below hb5
      have h6 := h5.set c5.1 (.slice a4 (i + 1 + 1) cap4)
      rw [show ((i : Int) + 1) = ((i + 1 : Nat) : Int) by omega] at h6
      have HN6 := Lib.hid h6
      have HB6 := Lib.hid ((below_from HBr.out hb45).setCell (p := ⟨tb, 0, none⟩) htb2 (.slice a4 (i + 1 + 1) cap4))
      have c50 := c5.1
      have f50 := c5.2
      have HC6 := Lib.hid (show Hld (w5.setCell ⟨tb, 0, none⟩ (.slice a4 (i + 1 + 1) cap4)) tb 0 (.slice a4 (i + 1 + 1) cap4) from ⟨at_set (by rw [c50]; rfl), by rw [World.frozen?_setCell]; exact f50⟩)
      have HW5 := Lib.hid hw5
      have c4 := hld_below hb4 HCr.out
      have d5 := fun o => (hld_below (below_alloc w4 o) c4).1
      have e5 := fun o => (hld_below (below_alloc w4 o) c4).2
      clear hn4 hb4 hb5 hb45 c5 h5 h6 c0 f0 hw5 c4 c50 f50
      go_wp2_with fail
      rw [HW5.out]
      go_roundw
      case rel =>
        first
          | exact ⟨i + 1, a4, cap4, by go_num, by omega, HC6, HN6, HB6⟩
          | ((repeat apply Exists.intro); exact ⟨⟨i + 1, a4, cap4, by go_num, by omega, HC6, HN6, HB6⟩, rfl⟩)
      case measure => simp [intOf]; omega
    · obtain rfl : i = d := by omega
      have hii : ¬ ((i : Int) < (i : Int)) := by omega
      obtain ⟨m, hm⟩ : ∃ m : Nat, n - i + 1 = m := ⟨_, rfl⟩
      obtain ⟨kt, hkt, -, hwt⟩ := within_lit to0 m (m : Int) rfl (by omega) (by omega)
      have HWt := Lib.hid hwt
      have hmI : IntKind.i64.wrap ((n : Int) - (i : Int) + 1) = (m : Int) := by
        rw [show (n : Int) - (i : Int) + 1 = (m : Int) by omega]; exact IntWalk.i64_in _ (by omega)
      have hmJ : (n : Int) - (i : Int) + 1 = (m : Int) := by omega
      clear hlt hwt
      go_wp2_with fail
      refine (HWt.out _).mono ?_
      rintro e w' ⟨rfl, rfl⟩
      obtain ⟨T, hT⟩ : ∃ T : Nat, i + kt = T := ⟨_, rfl⟩
      have hTI : (i : Int) + (kt : Int) = (T : Int) := by omega
      have hcall := HG.out (.slice a (i + 1) cap) (chain n i i) i T wr HNr.out (good_chain _ _ _ (by omega)) (by rw [chain_len]; omega) (chain_kids _ _ _)
      rw [chain_grow n i T (by omega) (by omega)] at hcall
      have HCa := Lib.hid hcall
      clear hcall
      go_wp2_with fail
      refine HCa.out.mono ?_
      rintro e w4 ⟨u4, rfl, hn4, -, hb4⟩
      obtain ⟨a4, cap4, rfl⟩ : ∃ a cap, u4 = .slice a (i + 1) cap := by
        obtain ⟨a, cap, e⟩ := hn4.shape
        exact ⟨a, cap, by rw [e, chain_len]⟩
      obtain ⟨w5, hw5⟩ : ∃ w5, w4.alloc (.cells #[.slice a4 (i + 1) cap4] 27) = w5 := ⟨_, rfl⟩
      obtain ⟨ub, hub⟩ : ∃ ub, w4.heap.size = ub := ⟨_, rfl⟩
      have hb5 : Below w4.heap.size w4 w5 := hw5 ▸ below_alloc w4 _
      have hb45 : Below wr.heap.size wr w5 := below_from (Below.refl _ _) (below_from hb4 hb5)
      have HCt := Lib.hid (hld_below hb45 HCr.out)
      have cu : w5.cell? ⟨ub, 0, none⟩ = some (.slice a4 (i + 1) cap4) := by rw [← hw5, ← hub]; exact at_new rfl
      have HNu := Lib.hid (hn4.below hb5)
      have HNt := Lib.hid (HNr.out.below hb45)
      have HB5 := Lib.hid (below_from HB2.out (below_from HBr.out hb45))
      have HW5 := Lib.hid hw5
      have HUb := Lib.hid hub
      have hchk := HC.out (.slice a4 (i + 1) cap4) (chain n i T) n
      have hmax : max (T : Int) (i : Int) = (T : Int) := by omega
      have hna := HNu.out
      rw [show i + 1 = (chain n i T).length from (chain_len _ _ _).symm] at hna
      obtain ⟨b, off, _, _, rfl, -⟩ := hna.at_ 0 _ (chain_get n i T 0 (Nat.zero_le _))
      have HAt := Lib.hid (fun (j : Nat) (hj : j ≤ i) => show w5.cell? ⟨b, off + j * 6 + 1, none⟩ = some (.int .i64 (nd n i T j).f) ∧ w5.cell? ⟨b, off + j * 6 + 2, none⟩ = some (.int .i64 (nd n i T j).t) ∧ w5.cell? ⟨b, off + j * 6 + 3, none⟩ = some (.int .i64 (nd n i T j).u) from by
        obtain ⟨b', off', _, _, he, -, y1, y2, y3, -⟩ := hna.at_ j _ (chain_get n i T j hj)
        injection he with he
        injection he with e1 e2
        subst e1 e2
        exact ⟨y1, y2, y3⟩)
      have z2 : w5.cell? ⟨b, off + 2, none⟩ = some (.int .i64 n) := by
        have := (HAt.out 0 (Nat.zero_le _)).2.1
        rw [Nat.zero_mul, Nat.add_zero] at this
        exact this
      clear hna
      clear hn4 hb4 hb5 hb45 hw5 hub c0 f0 hchk
      go_upto_region 14 with fail
      rw [HW5.out, HUb.out]
      have hii2 : (0 : Int) < (i : Int) + 1 := by omega
      go_wp2_with fail
      go_loopw [12] (fun jv ws => ∃ (j : Nat), jv = .int .i64 j ∧ 1 ≤ j ∧ j ≤ i + 1 ∧ w5 = ws) (fun jv _ => i + 1 - (intOf jv).toNat)
      case atStart => exact ⟨1, rfl, Nat.le_refl _, by omega, rfl⟩
      case round =>
        obtain ⟨j, rfl, hj1, hj2, rfl⟩ := hrel
        by_cases hlj : j ≤ i
        · obtain ⟨y1, y2, y3⟩ := HAt.out j hlj
          have hnd : nd n i T j = ⟨3, (j : Int) - 1, T, (j : Int) - 1, (nd n i T j).ks, false⟩ := by
            unfold nd
            rw [if_neg (by omega)]
          rw [hnd] at y1 y2 y3
          dsimp only at y1 y2 y3
          have hjj : (j : Int) ≤ (i : Int) := by omega
          have hjk : (j : Int) < (i : Int) + 1 := by omega
          have hj0 : (1 : Int) ≤ (j : Int) := by omega
          clear hnd z2
          go_wp2_with fail
          go_roundw
          case rel => exact ⟨j + 1, by go_num, by omega, by omega, by first | rfl | trivial⟩
          case measure => simp [intOf]; omega
        · have hjj : ¬ ((j : Int) ≤ (i : Int)) := by omega
          clear z2
          have hln : ∀ T : Int, (chain n i T).length ≤ 200 := fun T => by rw [chain_len]; omega
          have HCk := Lib.hid (fun W (hb : Below w5.heap.size w5 W) => show Calls Try.prog 19 #[.agg #[.slice (some ⟨b, off, none⟩) (i + 1) cap4], .int .i64 n] W (fun e w' => e = .returned (.bool true) ∧ Below W.heap.size W w') from by
            have h := HC.out (.slice (some ⟨b, off, none⟩) (i + 1) cap4) (chain n i T) n W (HNu.out.below hb).weak (hln _) (chain_kids _ _ _)
            rw [chain_check n i T (by omega) (by omega)] at h
            exact h)
          have HCt' := Lib.hid (fun W (hb : Below w5.heap.size w5 W) => show Calls Try.prog 19 #[.agg #[.slice a (i + 1) cap], .int .i64 n] W (fun e w' => e = .returned (.bool true) ∧ Below W.heap.size W w') from by
            have h := HC.out (.slice a (i + 1) cap) (chain n i i) n W (HNt.out.below hb).weak (hln _) (chain_kids _ _ _)
            rw [chain_check n i i (by omega) (by omega)] at h
            exact h)
          have HGr := Lib.hid (fun W (hb : Below w5.heap.size w5 W) => show Calls Try.prog 16 #[.agg #[.slice (some ⟨b, off, none⟩) (i + 1) cap4], .int .i64 i, .int .i64 (IntKind.i64.wrap ((n : Int) + 1))] W (Treed false (chain n i T) W) from by
            rw [show IntKind.i64.wrap ((n : Int) + 1) = (n : Int) + 1 from IntWalk.i64_in _ (by omega)]
            have h := HG.out (.slice (some ⟨b, off, none⟩) (i + 1) cap4) (chain n i T) i ((n : Int) + 1) W (HNu.out.below hb) (good_chain _ _ _ (by omega)) (hln _) (chain_kids _ _ _)
            rw [grow_no (.inr (by rw [first_chain]; omega))] at h
            exact h)
          have HGs := Lib.hid (fun W (hb : Below w5.heap.size w5 W) => show Calls Try.prog 16 #[.agg #[.slice (some ⟨b, off, none⟩) (i + 1) cap4], .int .i64 (-1), .int .i64 3] W (Treed false (chain n i T) W) from by
            have h := HG.out (.slice (some ⟨b, off, none⟩) (i + 1) cap4) (chain n i T) (-1) 3 W (HNu.out.below hb) (good_chain _ _ _ (by omega)) (hln _) (chain_kids _ _ _)
            rw [grow_no (.inl (by decide))] at h
            exact h)
          have HSm := Lib.hid (fun W v (hb : Below w5.heap.size w5 W) (hv : Nodes W v (chain n i T)) => show Calls Try.prog 22 #[.agg #[v], .agg #[.slice (some ⟨b, off, none⟩) (i + 1) cap4]] W (fun e w' => e = .returned (.bool true) ∧ Below W.heap.size W w') from by
            have h := HS.out v (.slice (some ⟨b, off, none⟩) (i + 1) cap4) (chain n i T) (chain n i T) W hv (HNu.out.below hb) (hln _) (hln _) (chain_kids _ _ _) (chain_kids _ _ _)
            rw [same_refl] at h
            exact h)
          have HD0 := Lib.hid ((Below.refl w5.heap.size w5).drew)
          have q := HCt.out.1
          have p0 := at_drew cu
          have q0 := at_drew q
          have HCt := HCt'
          clear HCt' hln
          go_upto_region 21 with fail
          go_region_held3 (fun wx => wx.cell? ⟨ub, 0, none⟩ = some (.slice (some ⟨b, off, none⟩) (i + 1) cap4) ∧ wx.cell? ⟨tb, 0, none⟩ = some (.slice a (i + 1) cap)) (((refine ⟨?_, ?_⟩); all_goals (first | (with_reducible exact p11) | (with_reducible exact q11) | (with_reducible exact p10) | (with_reducible exact q10) | (with_reducible exact p9) | (with_reducible exact q9) | (with_reducible exact p8) | (with_reducible exact q8) | (with_reducible exact p7) | (with_reducible exact q7) | (with_reducible exact p6) | (with_reducible exact q6) | (with_reducible exact p0) | (with_reducible exact q0))))
            (first | ((with_reducible refine (HCk.out _ HD0.out).mono ?_); rintro e w6 ⟨rfl, hb6⟩; have p6 := at_below hb6 p0; have q6 := at_below hb6 q0; have HD6 := Lib.hid (HD0.out.trans (hb6.mono HD0.out.size)); clear hb6) | ((with_reducible refine (HCt.out _ HD6.out).mono ?_); rintro e w7 ⟨rfl, hb7⟩; have p7 := at_below hb7 p6; have q7 := at_below hb7 q6; have HD7 := Lib.hid (HD6.out.trans (hb7.mono HD6.out.size)); clear hb7) | ((with_reducible refine (HGr.out _ HD7.out).mono ?_); rintro e w8 ⟨v8, rfl, hv8, -, hb8⟩; have HV8 := Lib.hid hv8; clear hv8; have p8 := at_below hb8 p7; have q8 := at_below hb8 q7; have HD8 := Lib.hid (HD7.out.trans (hb8.mono HD7.out.size)); clear hb8) | ((with_reducible refine (HSm.out _ v8 HD8.out HV8.out).mono ?_); rintro e w9 ⟨rfl, hb9⟩; have p9 := at_below hb9 p8; have q9 := at_below hb9 q8; have HD9 := Lib.hid (HD8.out.trans (hb9.mono HD8.out.size)); clear hb9) | ((with_reducible refine (HGs.out _ HD9.out).mono ?_); rintro e w10 ⟨v10, rfl, hv10, -, hb10⟩; have HV10 := Lib.hid hv10; clear hv10; have p10 := at_below hb10 p9; have q10 := at_below hb10 q9; have HD10 := Lib.hid (HD9.out.trans (hb10.mono HD9.out.size)); clear hb10) | ((with_reducible refine (HSm.out _ v10 HD10.out HV10.out).mono ?_); rintro e w11 ⟨rfl, hb11⟩; have p11 := at_below hb11 p10; have q11 := at_below hb11 q10; have HD11 := Lib.hid (HD10.out.trans (hb11.mono HD10.out.size)); clear hb11))
          go_wp2_with fail
          go_ret
          exact ⟨rfl, below_from HB5.out HD11.out⟩
end Go.Proofs.Ythkieidcjakhgaa
