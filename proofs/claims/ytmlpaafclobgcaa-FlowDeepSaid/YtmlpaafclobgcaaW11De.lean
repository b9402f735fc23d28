/- The walk of the law FlowDeep. -/
import Derived.Test.YtmlpaafclobgcaaAidw
namespace Go.Proofs.Ytmlpaafclobgcaa
open Go.RowKit
open Go.Proofs.Ytmlpaafclobgcaa.Sg
open Go.Proofs.Ytmlpaafclobgcaa.Sq
open Go.Proofs.Ytmlpaafclobgcaa.Ar
set_option linter.unusedVariables false

theorem deep_is (n d : Nat) (h0 : 0 < n) (hn : n ≤ 20) (hd : d < 20) : ∃ s' : Fl.St, Fl.valN (Fl.deepL n) (2 * n + 1) d 0 0 ⟨newN (2 * n + 1 : Nat), []⟩ = (1, 2 * n + 1, s') ∧
    ((n ≤ d ∧ s'.d = [] ∧ s'.t.length = n + 2) ∨ (d < n ∧ s'.d = [⟨10, d, 2 * n + 1 - d⟩] ∧ s'.t.length = d + 2)) := by
  have hck := ck_new (2 * n + 1 : Nat) (by omega) (by omega)
  have hf := Fl.fits_new (2 * n + 1 : Nat) 0 (by omega) (by omega) (Int.le_refl _)
  by_cases h : n ≤ d
  · obtain ⟨s', v1, v2⟩ := Fl.deep_in n d 0 (by omega) (by omega) 0 ⟨newN (2 * n + 1 : Nat), []⟩ 0 hck hf (by omega)
    refine ⟨s', v1, .inl ⟨h, v2.says, ?_⟩⟩
    have hl := v2.len
    rw [List.length_append, List.length_replicate] at hl
    have : (newN (2 * n + 1 : Nat)).length = 1 := rfl
    simp only [List.length_cons, List.length_nil] at hl
    rw [hl]; show (newN (2 * n + 1 : Nat)).length + _ = _; omega
  · obtain ⟨s', v1, v2⟩ := Fl.deep_out n d 0 (by omega) (by omega) 0 ⟨newN (2 * n + 1 : Nat), []⟩ 0 hck hf (by omega)
    refine ⟨s', v1, .inr ⟨by omega, ?_, ?_⟩⟩
    · have hs := v2.says
      rw [hs, show 0 + d = d from by omega, show 2 * n + 1 - 0 - d = 2 * n + 1 - d from by omega]
      rfl
    · have hl := v2.len
      rw [List.length_append, List.length_replicate] at hl
      have : (newN (2 * n + 1 : Nat)).length = 1 := rfl
      simp only [List.length_cons, List.length_nil] at hl
      rw [hl]; show (newN (2 * n + 1 : Nat)).length + _ = _; omega
theorem deep_tame (n : Nat) : Tame (Fl.deepB n) := fun x hx => by
  unfold Fl.deepB at hx
  rw [List.mem_append, List.mem_cons, List.mem_replicate, List.mem_replicate] at hx
  rcases hx with h | h | h <;> omega
set_option maxHeartbeats 400000 in
set_option maxRecDepth 100000 in
theorem walk_FlowDeep (n0 d0 : Int) (w : World) (_ : (Lit.int .i64 n0).wf = true) (_ : (Lit.int .i64 d0).wf = true) :
    Calls Try.prog 4 #[.int .i64 n0, .int .i64 d0] w fun e w' => e = .returned (.bool true) ∧ Below w.heap.size w w' := by
  have HQ := Lib.hid (fun w' => show Below w.heap.size w w' → (fun e (w' : World) => e = Ending.returned (.bool true) ∧ Below w.heap.size w w') (.returned (.bool true)) w' from fun h => ⟨rfl, h⟩)
  obtain ⟨Q, hQ⟩ : ∃ Q, (fun e (w' : World) => e = Ending.returned (.bool true) ∧ Below w.heap.size w w') = Q := ⟨_, rfl⟩
  rw [hQ] at HQ ⊢
  have HK := Lib.hid (known_true w)
  obtain ⟨k, hk, hw1⟩ := within_lit n0 20 20 rfl (by decide) (by decide)
  obtain ⟨d, hd, hw2⟩ := within_lit d0 20 20 rfl (by decide) (by decide)
  have HW1 := Lib.hid hw1
  have HW2 := Lib.hid hw2
  obtain ⟨n, hn⟩ : ∃ n, k + 1 = n := ⟨_, rfl⟩
  have e1 : IntKind.i64.wrap ((1 : Int) + (k : Int)) = (n : Int) := by rw [IntWalk.i64_in _ (by omega)]; omega
  clear hw1 hw2 hQ
  go_enter Try.func4, Try.ntmps4
  go_wp2_with fail
  refine HK.out.mono ?_
  rintro e w1 ⟨rfl, hb1⟩
  have HB1 := Lib.hid hb1
  clear hb1 HK
  go_wp2_with fail
  refine (HW1.out _).mono ?_
  rintro e w2 ⟨rfl, rfl⟩
  go_wp2_with fail
  refine (HW2.out _).mono ?_
  rintro e w2 ⟨rfl, rfl⟩
  have hn20 : n ≤ 20 := by omega
  have hn0 : 0 < n := by omega
  clear e1 hn hk HW1 HW2
  go_upto_region 6 with fail
  go_loopw [5, 6] (fun sv iv wr => ∃ (i : Nat) (S : ByteArray), iv = .int .i64 (i : Int) ∧ i ≤ n ∧ sv = .string S ∧ Hid (Sc.nats S = List.replicate i 91) ∧ wr = w1) (fun _ iv _ => n - (intOf iv).toNat)
  case atStart => exact ⟨0, ⟨#[]⟩, rfl, by omega, rfl, Lib.hid rfl, rfl⟩
  case round =>
    obtain ⟨i, S, rfl, hi, rfl, HS, rfl⟩ := hrel
    have hsz := size_of_nats HS.out
    rw [List.length_replicate] at hsz
    by_cases hlt : i < n
    · have g1 : (i : Int) < (n : Int) := by omega
      have y1 : ¬ (9223372036854775807 < S.size + 1) := by omega
      have HS2 := Lib.hid (show Sc.nats (S ++ ⟨#[91]⟩) = List.replicate (i + 1) 91 by rw [nats_put S 91 _ HS.out, List.replicate_succ']; rfl)
      clear hsz
      go_wp2_with fail
      go_roundw
      case rel => exact ⟨i + 1, S ++ ⟨#[91]⟩, by go_num, by omega, rfl, HS2, trivial⟩
      case measure => simp [intOf]; omega
    · obtain rfl : i = n := by omega
      have g1 : ¬ ((i : Int) < (i : Int)) := by omega
      have y1 : ¬ (9223372036854775807 < S.size + 1) := by omega
      have HS2 := Lib.hid (show Sc.nats (S ++ ⟨#[97]⟩) = List.replicate i 91 ++ [97] by rw [nats_put S 97 _ HS.out]; rfl)
      clear hsz
      go_upto_region 11 with fail
      go_loopw [5, 7] (fun sv iv wy => ∃ (j : Nat) (S2 : ByteArray), iv = .int .i64 (j : Int) ∧ j ≤ i ∧ sv = .string S2 ∧ Hid (Sc.nats S2 = List.replicate i 91 ++ 97 :: List.replicate j 93) ∧ wy = wr) (fun _ iv _ => i - (intOf iv).toNat)
      case atStart => exact ⟨0, S ++ ⟨#[97]⟩, rfl, by omega, rfl, HS2, rfl⟩
      case round =>
        obtain ⟨j, S2, rfl, hj, rfl, HS3, rfl⟩ := hrel
        have hsz := size_of_nats HS3.out
        rw [List.length_append, List.length_replicate, List.length_cons, List.length_replicate] at hsz
        by_cases hlt : j < i
        · have g1 : (j : Int) < (i : Int) := by omega
          have y1 : ¬ (9223372036854775807 < S2.size + 1) := by omega
          have HS4 := Lib.hid (show Sc.nats (S2 ++ ⟨#[93]⟩) = List.replicate i 91 ++ 97 :: List.replicate (j + 1) 93 by rw [nats_put S2 93 _ HS3.out, List.replicate_succ']; simp)
          clear hsz
          go_wp2_with fail
          go_roundw
          case rel => exact ⟨j + 1, S2 ++ ⟨#[93]⟩, by go_num, by omega, rfl, HS4, trivial⟩
          case measure => simp [intOf]; omega
        · obtain rfl : j = i := by omega
          have g1 : ¬ ((j : Int) < (j : Int)) := by omega
          obtain ⟨cap0, w2, hcv, hrow, hb2⟩ := conv_str S2 wr (by unfold maxLen; omega)
          have hTk := rTokens _ _ _ hrow.bys
          have hOk := toks_ok _ (deep_tame j)
          rw [Fl.deep_toks j hn0 hn20] at hOk
          have hnat : Sc.nats S2 = Fl.deepB j := HS3.out
          have HRd := Lib.hid (fun e w' (h : Gives (Sc.nats S2) w2 e w') => h.read)
          rw [hnat, Fl.deep_toks j hn0 hn20, Fl.deep_len] at HRd
          rw [hnat] at hTk
          obtain ⟨R, hR⟩ : ∃ R, Fl.valN (Fl.deepL j) (2 * j + 1) d 0 0 ⟨newN (2 * j + 1 : Nat), []⟩ = R := ⟨_, rfl⟩
          obtain ⟨s', hv, hcase⟩ := deep_is j d hn0 hn20 hd
          rw [hR] at hv
          have HVal := Lib.hid (fun bv v tv W (h1 : Reads encT W v (Fl.deepL j)) (h2 : Nodes W tv (newN (2 * j + 1 : Nat))) => fNewVal bv v tv (Fl.deepL j) (2 * j + 1) 0 d W (Fl.deep_len j) h1 (by omega) hOk h2 (by omega) (by omega))
          rw [hR, hv, show ((0 : Nat) : Int) = 0 from rfl] at HVal
          have hN : ((2 * j + 1 : Nat) : Int) = 2 * (j : Int) + 1 := by omega
          obtain ⟨N, hNn⟩ : ∃ N : Nat, 2 * j + 1 = N := ⟨_, rfl⟩
          rw [hNn] at HRd HVal hN hcase
          have HTk := Lib.hid hTk
          have HB2 := Lib.hid (below_from HB1.out hb2)
          have hNb : N ≤ 41 := by omega
          have HN := Lib.hid hN
          clear hN hNn
          clear hTk hOk hR hv hrow hb2 hsz hnat HS3 HS2
          go_wp2_with fail
          refine HTk.out.mono ?_
          intro e w3 hg
          obtain ⟨a, cap, rfl, hRt, hb3⟩ := HRd.out _ _ hg
          have HR := Lib.hid hRt
          have HB3 := Lib.hid (below_from HB2.out hb3)
          clear hRt hg hb3 hcv HTk HRd
          go_wp2_with fail
          refine (aNew N w3).mono ?_
          rintro e w4 ⟨u, rfl, hn, -, hb4⟩
          have HV := Lib.hid (fun bv => HVal.out bv _ u w4 (HR.out.below hb4) hn)
          have HB4 := Lib.hid (below_from HB3.out hb4)
          clear hn hb4
          go_wp2_with fail
          refine (HV.out _).mono ?_
          rintro e w5 ⟨z, dv, rfl, hn5, hd5, hb5⟩
          obtain ⟨za, zc, rfl⟩ := hn5.shape
          obtain ⟨da, dc, rfl⟩ := hd5.shape
          have HB5 := Lib.hid (below_from HB4.out hb5)
          have HD5 := Lib.hid hd5
          clear hn5 hd5 hb5 HV HVal HR
          obtain ⟨TL, hTL⟩ : ∃ TL, s'.t.length = TL := ⟨_, rfl⟩
          rw [hTL] at hcase ⊢
          have m1 : (w5.alloc (.cells #[.slice za TL zc] 31)).cell? ⟨w5.heap.size, 0, none⟩ = some (.slice za TL zc) := at_new rfl
          have HD := Lib.hid (HQ.out _ (below_from HB5.out (below_alloc w5 (.cells #[.slice za TL zc] 31))))
          clear hTL
          rcases hcase with ⟨hle, hds, htl⟩ | ⟨hle, hds, htl⟩
          · rw [hds]
            have g2 : (j : Int) ≤ (d : Int) := by omega
            have g3 : ((TL : Int) == (j : Int) + 2) = true := by simp; omega
            clear hds htl HD5 HN
            simp only [List.length_nil]
            go_upto_region 17 with fail
            generalize w5.alloc (.cells #[.slice za TL zc] 31) = W at *
            go_wp2_with fail
            try simp only [Exit.jump]
            exact HD.out
          · have h5 := HD5.out
            rw [hds] at h5 ⊢
            obtain ⟨b, off, rfl, hat⟩ := h5.at_ 0 ⟨10, d, N - d⟩ rfl
            have q0 : w5.cell? ⟨b, off, none⟩ = some (.int .i64 10) := by have := hat 0 _ rfl; simpa using this
            have q1 : w5.cell? ⟨b, off + 1, none⟩ = some (.int .i64 (d : Int)) := by have := hat 1 _ rfl; simpa using this
            have q2 : w5.cell? ⟨b, off + 2, none⟩ = some (.int .i64 (2 * (j : Int) + 1 - (d : Int))) := by
              have h := hat 2 _ rfl
              have e : ((N - d : Nat) : Int) = 2 * (j : Int) + 1 - (d : Int) := by have := HN.out; omega
              rw [← e]; simpa using h
            have q0 := at_alloc (o := .cells #[.slice za TL zc] 31) q0
            have q1 := at_alloc (o := .cells #[.slice za TL zc] 31) q1
            have q2 := at_alloc (o := .cells #[.slice za TL zc] 31) q2
            have g2 : ¬ ((j : Int) ≤ (d : Int)) := by omega
            have g3 : ((TL : Int) == (d : Int) + 2) = true := by simp; omega
            have hE := fun W => eql_diag 10 (d : Int) (2 * (j : Int) + 1 - (d : Int)) W
            have hG := guard_diag
            clear hds htl HD5 HN h5 hat
            simp only [List.length_cons, List.length_nil]
            go_upto_region 17 with fail
            generalize w5.alloc (.cells #[.slice za TL zc] 31) = W at *
            go_wp2_with fail
            try simp only [Exit.jump]
            exact HD.out
end Go.Proofs.Ytmlpaafclobgcaa
