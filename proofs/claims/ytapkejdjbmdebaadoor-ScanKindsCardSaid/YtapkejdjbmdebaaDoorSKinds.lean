/- The walk of correctorlaw6.ScanKinds: within brackets commas, brackets part; without they are of the text. -/
import Derived.Test.YtapkejdjbmdebaaDoorAid6
import Derived.Test.YtapkejdjbmdebaaDoorSp7
namespace Go.Proofs.YtapkejdjbmdebaaDoor
open Go.RowKit
open Go.Proofs.YtapkejdjbmdebaaDoor.Sg
open Go.Proofs.YtapkejdjbmdebaaDoor.Sq
set_option linter.unusedVariables false

abbrev five : List Value := [.string ⟨#[44]⟩, .string ⟨#[93]⟩, .string ⟨#[91]⟩, .string ⟨#[123]⟩, .string ⟨#[125]⟩]
theorem five_at (k : Nat) (hk : k < 5) : ∃ (X : ByteArray) (c : Nat), Sc.nats X = [c] ∧ Sc.brack c ∧ five[k]? = some (.string X) := by
  rcases (by omega : k = 0 ∨ k = 1 ∨ k = 2 ∨ k = 3 ∨ k = 4) with rfl | rfl | rfl | rfl | rfl
  · exact ⟨⟨#[44]⟩, 44, rfl, .inl rfl, rfl⟩
  · exact ⟨⟨#[93]⟩, 93, rfl, .inr (.inr (.inl rfl)), rfl⟩
  · exact ⟨⟨#[91]⟩, 91, rfl, .inr (.inl rfl), rfl⟩
  · exact ⟨⟨#[123]⟩, 123, rfl, .inr (.inr (.inr (.inl rfl))), rfl⟩
  · exact ⟨⟨#[125]⟩, 125, rfl, .inr (.inr (.inr (.inr rfl))), rfl⟩
set_option maxHeartbeats 4000000 in
set_option maxRecDepth 100000 in
theorem walk_ScanKinds (s : ByteArray) (a : Int) (w : World) (hsm : s.size ≤ maxLen) (_ : (Lit.int .i64 a).wf = true) (hT : Tabs w) :
    Calls Tryd.prog 6 #[.string s, .int .i64 a] w fun e w' => e = .returned (.bool true) ∧ Below w.heap.size w w' := by
  simp only [maxLen] at hsm
  have HK := Lib.hid (known_true w hT)
  have HT := Lib.hid hT
  clear hT
  by_cases hz : s.size = 0
  · obtain rfl := str_nil s hz
    go_enter Tryd.func6, Tryd.ntmps6
    go_wp2_with fail
    refine HK.out.mono ?_
    rintro e w1 ⟨rfl, hb⟩
    go_wp2_with fail
    go_ret
    exact ⟨rfl, hb⟩
  have hE : s.toList.isEmpty = false := by rw [ByteArray.toList_eq]; exact list_ne s (by omega)
  by_cases hlong : 20 < s.size
  · have hI : (20 : Int) < (s.size : Int) := by omega
    go_enter Tryd.func6, Tryd.ntmps6
    go_wp2_with fail
    refine HK.out.mono ?_
    rintro e w1 ⟨rfl, hb⟩
    go_wp2_with fail
    go_ret
    exact ⟨rfl, hb⟩
  have hI : ¬ ((20 : Int) < (s.size : Int)) := by omega
  obtain ⟨k, hk, hwi⟩ := within_nat a 5 (by decide) (by decide)
  obtain ⟨X, c, hX, hbr, h5⟩ := five_at k hk
  have h5' : ∀ h : k < five.length, five[k]'h = .string X := fun h => by rw [List.getElem?_eq_getElem h] at h5; exact Option.some.inj h5
  have hkI : (k : Int) < 5 := by omega
  have hk0 : (0 : Int) ≤ (k : Int) := by omega
  have HW := Lib.hid hwi
  have H5 := Lib.hid h5
  clear h5 hwi
  go_enter Tryd.func6, Tryd.ntmps6
  go_wp2_with fail
  refine HK.out.mono ?_
  rintro e w1 ⟨rfl, hb⟩
  go_wp2_with fail
  go_loopg [5] s.size (fun gf iv wr => ∃ i : Nat, iv = .int .i64 i ∧ i ≤ s.size ∧ s.size ≤ i + gf ∧ wr = w1 ∧ Hid (∀ j, j < i → Sc.letter (s.get! j).toNat))
  case atStart => exact ⟨0, rfl, Nat.zero_le _, by omega, rfl, Lib.hid (fun j h => absurd h (Nat.not_lt_zero j))⟩
  case round =>
    obtain ⟨i, rfl, hi, hgf, rfl, HL⟩ := hrel
    by_cases hlt : i < s.size
    · obtain ⟨g', rfl⟩ : ∃ g', gk = g' + 1 := ⟨gk - 1, by omega⟩
      have hlI : (i : Int) < (s.size : Int) := by omega
      have hge := Sc.get_el s i hlt
      by_cases c1 : (s[i]'hlt).toNat < 97
      · have g1 : (((s[i]'hlt).toNat : Int)) < 97 := by omega
        clear hge h5'
        go_wp2_with fail
        go_ret
        exact ⟨rfl, hb⟩
      · have g1 : ¬ ((((s[i]'hlt).toNat : Int)) < 97) := by omega
        by_cases c2 : 122 < (s[i]'hlt).toNat
        · have g2 : (122 : Int) < ((s[i]'hlt).toNat : Int) := by omega
          clear hge h5'
          go_wp2_with fail
          go_ret
          exact ⟨rfl, hb⟩
        · have g2 : ¬ ((122 : Int) < ((s[i]'hlt).toNat : Int)) := by omega
          have HL2 := Lib.hid (show ∀ j, j < i + 1 → Sc.letter (s.get! j).toNat from fun j hj => by
            rcases Nat.lt_or_eq_of_le (Nat.le_of_lt_succ hj) with h | h
            · exact HL.out j h
            · subst h; rw [← hge]; right; omega)
          clear hge h5'
          go_wp2_with fail
          go_roundg g'
          case measure => omega
          case rel => exact ⟨i + 1, by go_num, by omega, by omega, rfl, HL2⟩
    · obtain rfl : i = s.size := by omega
      have hlI : ¬ ((s.size : Int) < (s.size : Int)) := by omega
      have hln := Sc.nats_len s
      have hlet : ∀ d ∈ Sc.nats s, Sc.letter d := by
        intro d hd
        obtain ⟨j, hj, rfl⟩ := List.mem_iff_getElem.1 hd
        have h1 := Sc.nats_getD s j
        rw [List.getD_eq_getElem?_getD, List.getElem?_eq_getElem hj] at h1
        simp only [Option.getD_some] at h1
        rw [h1]
        exact HL.out j (by rw [← hln]; exact hj)
      have hne0 : Sc.nats s ≠ [] := fun e => by rw [e] at hln; simp at hln; omega
      have kA := Sc.kinds_a (Sc.nats s) c hne0 hlet hbr (by omega)
      obtain ⟨kc, kB⟩ := Sc.kinds_b (Sc.nats s) c hne0 hlet hbr (by omega)
      obtain ⟨m, hm⟩ : ∃ m, (Sc.nats s).length = m := ⟨_, rfl⟩
      rw [hm] at kA kB
      have hzX : X.size = 1 := by rw [← Sc.nats_len, hX]; rfl
      obtain ⟨F, hF⟩ : ∃ F, 1 + m = F := ⟨_, rfl⟩
      obtain ⟨T, hTt⟩ : ∃ T, F + 1 = T := ⟨_, rfl⟩
      rw [hF, hTt] at kB
      have eF : (T : Int) - (F : Int) = 1 := by omega
      obtain ⟨S1, hS1⟩ : ∃ S1, s ++ X = S1 := ⟨_, rfl⟩
      obtain ⟨S2, hS2⟩ : ∃ S2, S1 ++ s = S2 := ⟨_, rfl⟩
      obtain ⟨S3, hS3⟩ : ∃ S3, (⟨#[91]⟩ : ByteArray) ++ s = S3 := ⟨_, rfl⟩
      obtain ⟨S4, hS4⟩ : ∃ S4, S3 ++ X = S4 := ⟨_, rfl⟩
      obtain ⟨S5, hS5⟩ : ∃ S5, S4 ++ s = S5 := ⟨_, rfl⟩
      have z1 : S1.size ≤ 30 := by rw [← hS1, Sg.app_size]; omega
      have z2 : S2.size ≤ 60 := by rw [← hS2, Sg.app_size]; omega
      have z3 : S3.size ≤ 30 := by rw [← hS3, Sg.app_size]; show 1 + s.size ≤ 30; omega
      have z4 : S4.size ≤ 40 := by rw [← hS4, Sg.app_size]; omega
      have z5 : S5.size ≤ 80 := by rw [← hS5, Sg.app_size]; omega
      have n1 : Sc.nats S2 = Sc.nats s ++ c :: Sc.nats s := by rw [← hS2, ← hS1, Sc.nats_app, Sc.nats_app, hX, List.append_assoc]; rfl
      have n2 : Sc.nats S5 = 91 :: (Sc.nats s ++ c :: Sc.nats s) := by rw [← hS5, ← hS4, ← hS3, Sc.nats_app, Sc.nats_app, Sc.nats_app, hX]; simp; rfl
      have y1 : ¬ (9223372036854775807 < s.size + X.size) := by omega
      have y2 : ¬ (9223372036854775807 < S1.size + s.size) := by omega
      have y3 : ¬ (9223372036854775807 < 1 + s.size) := by omega
      have y3' : ¬ (9223372036854775807 < s.size + 1) := by omega
      have y4 : ¬ (9223372036854775807 < S3.size + X.size) := by omega
      have y5 : ¬ (9223372036854775807 < S4.size + s.size) := by omega
      have N1 := Lib.hid n1
      have N2 := Lib.hid n2
      have KA := Lib.hid kA
      have KB := Lib.hid kB
      clear n1 n2 kA kB hX hzX hm hF hTt hlet hne0 hln HL hE hI hlong hz hgf hi hlt z1 z3 z4
      go_wp2_with fail
      refine (HW.out _).mono ?_
      rintro e w2 ⟨rfl, rfl⟩
      obtain ⟨tc, htc⟩ : ∃ tc, tc = wr.heap.size := ⟨_, rfl⟩
      obtain ⟨W, hW⟩ : ∃ W, W = wr.alloc (.cells #[.string ⟨#[44]⟩, .string ⟨#[93]⟩, .string ⟨#[91]⟩, .string ⟨#[123]⟩, .string ⟨#[125]⟩] 9) := ⟨_, rfl⟩
      have c0 : W.cell? ⟨tc, k, none⟩ = some (.string X) := by rw [hW, htc, World.cell?_alloc_new]; show (five.toArray)[k]? = _; rw [List.getElem?_toArray]; exact H5.out
      have HBW := Lib.hid (show Below w.heap.size w W from by rw [hW]; exact hb.alloc hb.size _)
      rw [← htc, ← hW]
      clear hW htc hb
      obtain ⟨cap, w3, hcv, hrow, hb3⟩ := conv_str S2 W (by unfold maxLen; omega)
      have hTk := pTokens _ _ _ hrow.bys ((HT.out.below HBW.out).below hb3)
      rw [N1.out] at hTk
      have HTk := Lib.hid hTk
      have HB3 := Lib.hid (HBW.out.trans (hb3.mono HBW.out.size))
      clear hTk hrow hb3
      go_wp2_with fail
      refine HTk.out.mono ?_
      intro e w4 hg
      obtain ⟨ta, tcap, rfl, hRd, hb4⟩ := hg.read
      have HB4 := Lib.hid (HB3.out.trans (hb4.mono HB3.out.size))
      rw [KA.out] at hRd ⊢
      obtain ⟨tb, off, rfl, hat⟩ := reads_all hRd (by simp)
      have a0 : w4.cell? ⟨tb, off, none⟩ = some (.int .i64 15) := (hat 0 _ rfl).1
      simp only [List.length_cons, List.length_nil]
      clear hRd hg hb4 HTk hcv hat
      obtain ⟨cap2, w5, hcv2, hrow2, hb5⟩ := conv_str S5 w4 (by unfold maxLen; omega)
      have hTk2 := pTokens _ _ _ hrow2.bys ((HT.out.below HB4.out).below hb5)
      rw [N2.out] at hTk2
      have HTk2 := Lib.hid hTk2
      have HB5 := Lib.hid (HB4.out.trans (hb5.mono HB4.out.size))
      have b0 := at_below hb5 a0
      clear hTk2 hrow2 hb5 a0
      go_wp2_with fail
      refine HTk2.out.mono ?_
      intro e w7 hg
      obtain ⟨ta2, tcap2, rfl, hRd, hb7⟩ := hg.read
      have HB7 := Lib.hid (HB5.out.trans (hb7.mono HB5.out.size))
      rw [KB.out] at hRd ⊢
      obtain ⟨tb2, off2, rfl, hat⟩ := reads_all hRd (by simp)
      have d0 := at_below hb7 b0
      have d1 : w7.cell? ⟨tb2, off2 + 3, none⟩ = some (.int .i64 15) := (hat 1 _ rfl).1
      have d2 : w7.cell? ⟨tb2, off2 + 7, none⟩ = some (.int .i64 F) := (hat 2 _ rfl).2.1
      have d3 : w7.cell? ⟨tb2, off2 + 8, none⟩ = some (.int .i64 T) := (hat 2 _ rfl).2.2
      have d4 : w7.cell? ⟨tb2, off2 + 9, none⟩ = some (.int .i64 15) := (hat 3 _ rfl).1
      simp only [List.length_cons, List.length_nil]
      clear hRd hg hb7 HTk2 hcv2 hat b0
      go_wp2_with fail
      go_big_quiet (fail)
      have HBq := Lib.hid (below_drewN HB7.out nq)
      go_wp2_with fail
      go_ret
      exact ⟨rfl, HBq.out⟩
end Go.Proofs.YtapkejdjbmdebaaDoor
