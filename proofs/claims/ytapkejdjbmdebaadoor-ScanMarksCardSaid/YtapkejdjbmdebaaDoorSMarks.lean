/- The walk of correctorlaw6.ScanMarks: marks stand at a row's beginning alone; they end brackets. -/
import Derived.Test.YtapkejdjbmdebaaDoorAid6
namespace Go.Proofs.YtapkejdjbmdebaaDoor
open Go.RowKit
open Go.Proofs.YtapkejdjbmdebaaDoor.Sg
open Go.Proofs.YtapkejdjbmdebaaDoor.Sq
set_option linter.unusedVariables false

/-- So many signs [. -/
def brs (n : Nat) : ByteArray := ⟨(List.replicate n (91 : UInt8)).toArray⟩
theorem brs_snoc (n : Nat) : brs n ++ ⟨#[91]⟩ = brs (n + 1) := by
  have h : (brs n ++ ⟨#[91]⟩).data.toList = (brs (n + 1)).data.toList := by
    rw [Sg.app_list]
    simp [brs, List.replicate_succ']
  cases hb : brs n ++ ⟨#[91]⟩ with
  | mk d =>
    cases hc : brs (n + 1) with
    | mk e =>
      rw [hb, hc] at h
      congr 1
      exact Array.toList_inj.1 h
theorem brs_size (n : Nat) : (brs n).size = n := by simp [brs, ByteArray.size]
theorem nats_brs (n : Nat) : Sc.nats (brs n) = List.replicate n 91 := by simp [Sc.nats, brs]
def markA (n : Nat) : List Tk := Sc.tokens (List.replicate n 91 ++ [10, 45, 45, 45, 10, 97, 44, 32, 98])
def markB (n j : Nat) : List Tk := Sc.tokens ((List.replicate n 91 ++ [10]) ++ List.replicate j 32 ++ [45, 45, 45, 10])
def okA (n : Nat) : Bool := (markA n).length == n + 4 && ((markA n)[n + 1]?.map (·.1)) == some 20 && (markA n)[n + 3]? == some (15, n + 5, n + 9)
def okB (n j : Nat) : Bool := (markB n j).length == n + 4 && ((markB n j)[n + 2]?.map (·.1)) == some 15
theorem all_okA : ∀ k : Fin 9, okA (k.val + 1) = true := by decide +kernel
theorem all_okB : ∀ k : Fin 9, ∀ j : Fin 8, okB (k.val + 1) (j.val + 1) = true := by decide +kernel
theorem marks_a (k : Nat) (hk : k < 9) : (markA (k + 1)).length = k + 5 ∧ (∃ x : Tk, (markA (k + 1))[k + 2]? = some x ∧ x.1 = 20) ∧ (markA (k + 1))[k + 4]? = some (15, k + 6, k + 10) := by
  have h := all_okA ⟨k, hk⟩
  simp only [okA, Bool.and_eq_true, beq_iff_eq] at h
  obtain ⟨⟨h1, h2⟩, h3⟩ := h
  refine ⟨h1, ?_, h3⟩
  cases hx : (markA (k + 1))[k + 2]? with
  | none => rw [show k + 1 + 1 = k + 2 from rfl, hx] at h2; cases h2
  | some x => rw [show k + 1 + 1 = k + 2 from rfl, hx] at h2; exact ⟨x, rfl, by simpa using h2⟩
theorem marks_b (k j : Nat) (hk : k < 9) (hj : j < 8) : (markB (k + 1) (j + 1)).length = k + 5 ∧ ∃ x : Tk, (markB (k + 1) (j + 1))[k + 3]? = some x ∧ x.1 = 15 := by
  have h := all_okB ⟨k, hk⟩ ⟨j, hj⟩
  simp only [okB, Bool.and_eq_true, beq_iff_eq] at h
  obtain ⟨h1, h2⟩ := h
  refine ⟨h1, ?_⟩
  cases hx : (markB (k + 1) (j + 1))[k + 3]? with
  | none => rw [show k + 1 + 2 = k + 3 from rfl, hx] at h2; cases h2
  | some x => rw [show k + 1 + 2 = k + 3 from rfl, hx] at h2; exact ⟨x, rfl, by simpa using h2⟩
theorem nats_spaces (j : Nat) (hj : j ≤ 9) : Sc.nats ((⟨#[32, 32, 32, 32, 32, 32, 32, 32, 32]⟩ : ByteArray).extract 0 j) = List.replicate j 32 := by
  have key : ∀ i : Fin 10, Sc.nats ((⟨#[32, 32, 32, 32, 32, 32, 32, 32, 32]⟩ : ByteArray).extract 0 i.val) = List.replicate i.val 32 := by
    intro i
    rw [Sc.nats_head]
    revert i
    decide
  exact key ⟨j, by omega⟩
set_option maxHeartbeats 4000000 in
set_option maxRecDepth 100000 in
theorem walk_ScanMarks (a c : Int) (w : World) (_ : (Lit.int .i64 a).wf = true) (_ : (Lit.int .i64 c).wf = true) (hT : Tabs w) :
    Calls Tryd.prog 8 #[.int .i64 a, .int .i64 c] w fun e w' => e = .returned (.bool true) ∧ Below w.heap.size w w' := by
  obtain ⟨k, hk, hwi⟩ := within_nat a 9 (by decide) (by decide)
  obtain ⟨j, hj, hwj⟩ := within_nat c 8 (by decide) (by decide)
  obtain ⟨A1, A2, A3⟩ := marks_a k hk
  obtain ⟨xa, A2, A4⟩ := A2
  obtain ⟨B1, xb, B2, B3⟩ := marks_b k j hk hj
  obtain ⟨N, hN⟩ : ∃ N, N = k + 1 := ⟨_, rfl⟩
  obtain ⟨J, hJ⟩ : ∃ J, J = j + 1 := ⟨_, rfl⟩
  rw [← hN] at A1 A2 A3 B1 B2
  rw [← hJ] at B1 B2
  obtain ⟨M, hM⟩ : ∃ M, k + 5 = M := ⟨_, rfl⟩
  obtain ⟨P, hP⟩ : ∃ P, k + 2 = P := ⟨_, rfl⟩
  obtain ⟨Q, hQ⟩ : ∃ Q, k + 4 = Q := ⟨_, rfl⟩
  obtain ⟨R, hR⟩ : ∃ R, k + 3 = R := ⟨_, rfl⟩
  obtain ⟨F, hF⟩ : ∃ F, k + 6 = F := ⟨_, rfl⟩
  obtain ⟨T, hTt⟩ : ∃ T, k + 10 = T := ⟨_, rfl⟩
  rw [hM] at A1 B1
  rw [hP] at A2
  rw [hQ, hF, hTt] at A3
  rw [hR] at B2
  have eN : (1 : Int) + (k : Int) = (N : Int) := by omega
  have eN2 : (k : Int) + 1 = (N : Int) := by omega
  have eM : (N : Int) + 4 = (M : Int) := by omega
  have eP : (N : Int) + 1 = (P : Int) := by omega
  have eQ : (N : Int) + 3 = (Q : Int) := by omega
  have eR : (N : Int) + 2 = (R : Int) := by omega
  have eJ : (1 : Int) + (j : Int) = (J : Int) := by omega
  have eJ2 : (j : Int) + 1 = (J : Int) := by omega
  have eF : (T : Int) - (F : Int) = 4 := by omega
  have hN9 : N ≤ 9 := by omega
  have hJ9 : (J : Int) ≤ 9 := by omega
  have hJ0 : (0 : Int) ≤ (J : Int) := by omega
  have p0 : (0 : Int) ≤ (P : Int) := by omega
  have p1 : (P : Int) < (M : Int) := by omega
  have q0 : (0 : Int) ≤ (Q : Int) := by omega
  have q1 : (Q : Int) < (M : Int) := by omega
  have r0 : (0 : Int) ≤ (R : Int) := by omega
  have r1 : (R : Int) < (M : Int) := by omega
  have mb : ((M : Int) != (M : Int)) = false := by simp
  have mm : ((M : Int) == (M : Int)) = true := by simp
  have m9 : (M : Int) ≤ 20 := by omega
  have wM : IntKind.i64.wrap (M : Int) = (M : Int) := IntWalk.i64_in _ (by omega)
  have wP : IntKind.i64.wrap (P : Int) = (P : Int) := IntWalk.i64_in _ (by omega)
  have wQ : IntKind.i64.wrap (Q : Int) = (Q : Int) := IntWalk.i64_in _ (by omega)
  obtain ⟨sp, hsp⟩ : ∃ sp, (⟨#[32, 32, 32, 32, 32, 32, 32, 32, 32]⟩ : ByteArray).extract 0 J = sp := ⟨_, rfl⟩
  have HSpn := Lib.hid (show Sc.nats sp = List.replicate J 32 from by rw [← hsp]; exact nats_spaces J (by omega))
  have HK := Lib.hid (known_true w hT)
  have HW := Lib.hid hwi
  have HWj := Lib.hid hwj
  have HT := Lib.hid hT
  have HA1 := Lib.hid A1
  have HA2 := Lib.hid A2
  have HA3 := Lib.hid A3
  have HB1 := Lib.hid B1
  have HB2 := Lib.hid B2
  have HNk := Lib.hid hN
  clear hwi hwj hT A1 A2 A3 B1 B2 hM hP hQ hR hF hTt hN hJ
  go_enter Tryd.func8, Tryd.ntmps8
  go_wp2_with fail
  refine HK.out.mono ?_
  rintro e w1 ⟨rfl, hb⟩
  go_wp2_with fail
  refine (HW.out _).mono ?_
  rintro e w2 ⟨rfl, rfl⟩
  go_wp2_with fail
  go_loopg [5, 6] N (fun gf sv iv wr => ∃ i : Nat, sv = .string (brs i) ∧ iv = .int .i64 i ∧ i ≤ N ∧ N ≤ i + gf ∧ wr = w1)
  case atStart => exact ⟨0, rfl, rfl, Nat.zero_le _, by omega, rfl⟩
  case round =>
    obtain ⟨i, rfl, rfl, hi, hgf, rfl⟩ := hrel
    by_cases hlt : i < N
    · obtain ⟨g', rfl⟩ : ∃ g', gk = g' + 1 := ⟨gk - 1, by omega⟩
      have hlI : (i : Int) < (N : Int) := by omega
      have hsn := brs_snoc i
      have hbz : ¬ (9223372036854775807 < (brs i).size + 1) := by rw [brs_size]; omega
      go_wp2_with fail
      go_roundg g'
      case measure => omega
      case rel => exact ⟨i + 1, by first | rfl | rw [hsn], by go_num, by omega, by omega, rfl⟩
    · obtain rfl : i = N := by omega
      have hlI : ¬ ((i : Int) < (i : Int)) := by omega
      obtain ⟨SA, hSA⟩ : ∃ SA, brs i ++ ⟨#[10, 45, 45, 45, 10, 97, 44, 32, 98]⟩ = SA := ⟨_, rfl⟩
      have hnA : Sc.nats SA = List.replicate i 91 ++ [10, 45, 45, 45, 10, 97, 44, 32, 98] := by rw [← hSA, Sc.nats_app, nats_brs]; rfl
      have n9 : ¬ (9223372036854775807 < (brs i).size + 9) := by rw [brs_size]; omega
      have n1 : ¬ (9223372036854775807 < (brs i).size + 1) := by rw [brs_size]; omega
      have hzA : SA.size ≤ 100 := by rw [← Sc.nats_len, hnA]; simp; omega
      obtain ⟨cap, w3, hcv, hrow, hb3⟩ := conv_str SA wr (by unfold maxLen; omega)
      have hTk := pTokens _ _ _ hrow.bys ((HT.out.below hb).below hb3)
      rw [hnA] at hTk
      have HTk := Lib.hid hTk
      have hbb := hb.trans (hb3.mono hb.size)
      have HBB := Lib.hid hbb
      clear hTk hrow hb3 hbb hb hnA
      go_wp2_with fail
      refine HTk.out.mono ?_
      intro e w4 hg
      obtain ⟨ta, tcap, rfl, hRd, hb4⟩ := hg.read
      have HB4 := Lib.hid (HBB.out.trans (hb4.mono HBB.out.size))
      rw [show Sc.tokens (List.replicate i 91 ++ [10, 45, 45, 45, 10, 97, 44, 32, 98]) = markA i from rfl] at hRd ⊢
      rw [HA1.out] at hRd ⊢
      have hne : markA i ≠ [] := fun e => by have := HA1.out; rw [e] at this; simp at this; omega
      obtain ⟨tb, off, rfl, hat⟩ := reads_all (l := markA i) (by rw [HA1.out]; exact hRd) hne
      have a1 : w4.cell? ⟨tb, off + P * 3, none⟩ = some (.int .i64 20) := by have := (hat P _ HA2.out).1; rw [A4] at this; exact this
      have a2 : w4.cell? ⟨tb, off + Q * 3, none⟩ = some (.int .i64 15) := (hat Q _ HA3.out).1
      have a3 : w4.cell? ⟨tb, off + Q * 3 + 1, none⟩ = some (.int .i64 F) := (hat Q _ HA3.out).2.1
      have a4 : w4.cell? ⟨tb, off + Q * 3 + 2, none⟩ = some (.int .i64 T) := (hat Q _ HA3.out).2.2
      clear hRd hg hb4 HTk hcv hat hne hSA n9
      go_wp2_with fail
      refine (HWj.out _).mono ?_
      rintro e w5 ⟨rfl, rfl⟩
      obtain ⟨X1, hX1⟩ : ∃ X1, brs i ++ ⟨#[10]⟩ = X1 := ⟨_, rfl⟩
      obtain ⟨X2, hX2⟩ : ∃ X2, X1 ++ sp = X2 := ⟨_, rfl⟩
      obtain ⟨SB, hSB⟩ : ∃ SB, X2 ++ ⟨#[45, 45, 45, 10]⟩ = SB := ⟨_, rfl⟩
      have hnB : Sc.nats SB = (List.replicate i 91 ++ [10]) ++ List.replicate J 32 ++ [45, 45, 45, 10] := by rw [← hSB, ← hX2, ← hX1, Sc.nats_app, Sc.nats_app, Sc.nats_app, nats_brs, HSpn.out]; rfl
      have hzB : SB.size ≤ 100 := by rw [← Sc.nats_len, hnB]; simp; omega
      have zsp : sp.size ≤ 9 := by rw [← Sc.nats_len, HSpn.out, List.length_replicate]; omega
      have zX1 : X1.size ≤ 20 := by rw [← hX1, Sg.app_size, brs_size]; show i + 1 ≤ 20; omega
      have zX2 : X2.size ≤ 40 := by rw [← hX2, Sg.app_size]; omega
      have m1 : ¬ (9223372036854775807 < X1.size + sp.size) := by omega
      have m2 : ¬ (9223372036854775807 < X2.size + 4) := by omega
      obtain ⟨cap2, w6, hcv2, hrow2, hb6⟩ := conv_str SB w4 (by unfold maxLen; omega)
      have hTk2 := pTokens _ _ _ hrow2.bys ((HT.out.below HB4.out).below hb6)
      rw [hnB] at hTk2
      have HTk2 := Lib.hid hTk2
      have HB6 := Lib.hid (HB4.out.trans (hb6.mono HB4.out.size))
      have b1 := at_below hb6 a1
      have b2 := at_below hb6 a2
      have b3 := at_below hb6 a3
      have b4 := at_below hb6 a4
      clear hTk2 hrow2 hb6 hnB a1 a2 a3 a4
      go_wp2_with fail
      refine HTk2.out.mono ?_
      intro e w7 hg
      obtain ⟨ta2, tcap2, rfl, hRd, hb7⟩ := hg.read
      have HB7 := Lib.hid (HB6.out.trans (hb7.mono HB6.out.size))
      rw [show Sc.tokens ((List.replicate i 91 ++ [10]) ++ List.replicate J 32 ++ [45, 45, 45, 10]) = markB i J from rfl] at hRd ⊢
      rw [HB1.out] at hRd ⊢
      have hne : markB i J ≠ [] := fun e => by have := HB1.out; rw [e] at this; simp at this; omega
      obtain ⟨tb2, off2, rfl, hat⟩ := reads_all (l := markB i J) (by rw [HB1.out]; exact hRd) hne
      have d5 : w7.cell? ⟨tb2, off2 + R * 3, none⟩ = some (.int .i64 15) := by have := (hat R _ HB2.out).1; rw [B3] at this; exact this
      have d1 := at_below hb7 b1
      have d2 := at_below hb7 b2
      have d3 := at_below hb7 b3
      have d4 := at_below hb7 b4
      clear hRd hg hb7 HTk2 hcv2 hat hne b1 b2 b3 b4 hSB hsp
      go_wp2_with fail
      go_big_quiet (fail)
      have HBq := Lib.hid (below_drewN HB7.out nq)
      go_wp2_with fail
      go_ret
      exact ⟨rfl, HBq.out⟩
end Go.Proofs.YtapkejdjbmdebaaDoor
