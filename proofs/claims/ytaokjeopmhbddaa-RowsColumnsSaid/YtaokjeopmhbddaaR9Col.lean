/- The walk of the law RowsColumns: a row's column is how many bytes stand ahead of what counts. -/
import Derived.Test.YtaokjeopmhbddaaTfa
import Derived.Test.YtaokjeopmhbddaaRwc
namespace Go.Proofs.Ytaokjeopmhbddaa
open Go.RowKit
open Go.Proofs.Ytaokjeopmhbddaa.Sg
open Go.Proofs.Ytaokjeopmhbddaa.Sq
set_option linter.unusedVariables false

/-- So many bytes of a kind. -/
def rp (c : UInt8) (n : Nat) : ByteArray := ⟨(List.replicate n c).toArray⟩
theorem rp_size (c : UInt8) (n : Nat) : (rp c n).size = n := by simp [rp, ByteArray.size]
theorem rp_nats (c : UInt8) (n : Nat) : Sc.nats (rp c n) = List.replicate n c.toNat := by simp [Sc.nats, rp]
/-- The first k of m. -/
theorem cut_rp (c : UInt8) (m k : Nat) (h : k ≤ m) : ∀ W : World, (Instr.slice 9 (.string (rp c m)) none (some (.int .i64 (k : Int))) none).run Try.prog W = .ok (.string (rp c k)) W := by
  intro W
  rw [run_slice_string_h W 9 (rp c m) Try.underlying9 .i64 k (by omega) (by rw [rp_size]; omega)]
  have e : (rp c m).extract 0 k = rp c k := by
    have h1 := Lib.extract_data (rp c m) 0 k
    have h2 : ((rp c m).extract 0 k).data.toList = (rp c k).data.toList := by
      rw [h1, List.drop_zero, Nat.sub_zero]
      show (List.replicate m c).take k = List.replicate k c
      rw [List.take_replicate, Nat.min_eq_left h]
    exact ByteArray.ext (Array.ext' h2)
  simp [e]
theorem str_nil (s : ByteArray) (h : s.size = 0) : s = ⟨#[]⟩ := by
  cases s with
  | mk d => simp [ByteArray.size] at h; rw [h]
theorem list_ne (s : ByteArray) (h : 0 < s.size) : s.data.toList.isEmpty = false := by
  cases hl : s.data.toList with
  | nil => rw [Lib.size_eq, hl] at h; exact absurd h (by decide)
  | cons => rfl
set_option maxHeartbeats 8000000 in
set_option maxRecDepth 100000 in
theorem walk_RowsColumns (a b : Int) (s : ByteArray) (w : World) (_ : (Lit.int .i64 a).wf = true) (_ : (Lit.int .i64 b).wf = true) (hsm : s.size ≤ maxLen) :
    Calls Try.prog 8 #[.int .i64 a, .int .i64 b, .string s] w fun e w' => e = .returned (.bool true) ∧ Below w.heap.size w w' := by
  simp only [maxLen] at hsm
  have HK := Lib.hid (known_true w)
  obtain ⟨n1, hn1, -, hw1⟩ := within_lit a 9 9 rfl (by decide) (by decide)
  obtain ⟨n2, hn2, -, hw2⟩ := within_lit b 4 4 rfl (by decide) (by decide)
  have HW1 := Lib.hid hw1
  have HW2 := Lib.hid hw2
  have s1 : ∀ W : World, (Instr.slice 9 (.string ⟨#[32, 32, 32, 32, 32, 32, 32, 32, 32]⟩) none (some (.int .i64 (n1 : Int))) none).run Try.prog W = .ok (.string (rp 32 n1)) W := cut_rp 32 9 n1 (by omega)
  have s2 : ∀ W : World, (Instr.slice 9 (.string ⟨#[9, 9, 9, 9]⟩) none (some (.int .i64 (n2 : Int))) none).run Try.prog W = .ok (.string (rp 9 n2)) W := cut_rp 9 4 n2 (by omega)
  have z1 := rp_size 32 n1
  have z2 := rp_size 9 n2
  obtain ⟨A, hA⟩ : ∃ A, rp 32 n1 = A := ⟨_, rfl⟩
  obtain ⟨B, hB⟩ : ∃ B, rp 9 n2 = B := ⟨_, rfl⟩
  rw [hA] at s1 z1
  rw [hB] at s2 z2
  have gc : ¬ (9223372036854775807 < A.size + B.size) := by omega
  obtain ⟨C, hC⟩ : ∃ C, A ++ B = C := ⟨_, rfl⟩
  have hCs : C.size ≤ 13 := by rw [← hC, Sg.app_size]; omega
  have HA := Lib.hid hA
  have HB := Lib.hid hB
  have HC := Lib.hid hC
  clear hw1 hw2 hA hB hC z1 z2
  go_enter Try.func8, Try.ntmps8
  go_wp2_with fail
  refine HK.out.mono ?_
  rintro e w1 ⟨rfl, hb1⟩
  go_wp2_with fail
  refine (HW1.out _).mono ?_
  rintro e w2 ⟨rfl, rfl⟩
  go_wp2_with fail
  refine (HW2.out _).mono ?_
  rintro e w2 ⟨rfl, rfl⟩
  go_wp2_with fail
  go_quiet (fail)
  have hq := below_drewN hb1 nq
  generalize w1.drewN nq = wa at *
  rw [HC.out]
  clear s1 s2 gc HW1 HW2 HK hb1
  by_cases hz : s.size = 0
  · obtain rfl := str_nil s hz
    clear HA HB HC
    go_wp2_with fail
    go_ret
    exact ⟨rfl, hq⟩
  have hE : s.toList.isEmpty = false := by rw [ByteArray.toList_eq]; exact list_ne s (by omega)
  by_cases hlong : 20 < s.size
  · have hI : (20 : Int) < (s.size : Int) := by omega
    clear HA HB HC
    go_wp2_with fail
    go_ret
    exact ⟨rfl, hq⟩
  have hI : ¬ ((20 : Int) < (s.size : Int)) := by omega
  have HQ := Lib.hid hq
  clear hq
  go_wp2_with fail
  go_loopw [8] (fun kv wr => ∃ k : Nat, kv = .int .i64 k ∧ k ≤ s.size ∧ Hid (∀ j, j < k → Sc.letter (s.get! j).toNat) ∧ wr = wa) (fun kv _ => s.size - (intOf kv).toNat)
  case atStart => exact ⟨0, rfl, Nat.zero_le _, Lib.hid (fun j h => absurd h (Nat.not_lt_zero j)), rfl⟩
  case round =>
    obtain ⟨k, rfl, hk, HL, rfl⟩ := hrel
    by_cases hlt : k < s.size
    · have hi : (k : Int) < (s.size : Int) := by omega
      have hge := Sc.get_el s k hlt
      by_cases c1 : (s[k]'hlt).toNat < 97
      · have g1 : (((s[k]'hlt).toNat : Int)) < 97 := by omega
        clear hge HA HB HC
        go_wp2_with fail
        go_ret
        exact ⟨rfl, HQ.out⟩
      · have g1 : ¬ ((((s[k]'hlt).toNat : Int)) < 97) := by omega
        by_cases c2 : 122 < (s[k]'hlt).toNat
        · have g2 : (122 : Int) < ((s[k]'hlt).toNat : Int) := by omega
          clear hge HA HB HC
          go_wp2_with fail
          go_ret
          exact ⟨rfl, HQ.out⟩
        · have g2 : ¬ ((122 : Int) < ((s[k]'hlt).toNat : Int)) := by omega
          have HL2 := Lib.hid (show ∀ j, j < k + 1 → Sc.letter (s.get! j).toNat from fun j hj => by
            rcases Nat.lt_or_eq_of_le (Nat.le_of_lt_succ hj) with h | h
            · exact HL.out j h
            · subst h; rw [← hge]; right; omega)
          clear hge
          go_wp2_with fail
          go_roundw
          case rel => exact ⟨k + 1, by go_num, by omega, HL2, trivial⟩
          case measure => simp [intOf]; omega
    · obtain rfl : k = s.size := by omega
      have hlI : ¬ ((s.size : Int) < (s.size : Int)) := by omega
      have hln := Sc.nats_len s
      have hlet : ∀ d ∈ Sc.nats s, Sc.letter d := by
        intro d hd
        obtain ⟨j, hj, rfl⟩ := List.mem_iff_getElem.1 hd
        have h1 := Sc.nats_getD s j
        rw [List.getD_eq_getElem?_getD, List.getElem?_eq_getElem hj] at h1
        simp only [Option.getD_some] at h1
        rw [h1]
        exact HL.out j (by rw [← hln]; exact hj)
      have hne0 : Sc.nats s ≠ [] := fun e => by rw [e] at hln; simp at hln; omega
      obtain ⟨nx, hrc⟩ := Rw.rows_cols n1 n2 (Sc.nats s) hn1 hn2 hne0 hlet (by omega)
      obtain ⟨S1, hS1⟩ : ∃ S1, (⟨#[120, 58, 32, 49, 10]⟩ : ByteArray) ++ C = S1 := ⟨_, rfl⟩
      obtain ⟨S2, hS2⟩ : ∃ S2, S1 ++ s = S2 := ⟨_, rfl⟩
      have z1 : S1.size ≤ 20 := by rw [← hS1, Sg.app_size]; show 5 + C.size ≤ 20; omega
      have z2 : S2.size ≤ 40 := by rw [← hS2, Sg.app_size]; omega
      have n1' : Sc.nats S2 = [120, 58, 32, 49, 10] ++ (List.replicate n1 32 ++ (List.replicate n2 9 ++ Sc.nats s)) := by
        rw [← hS2, ← hS1, ← HC.out, ← HA.out, ← HB.out, Sc.nats_app, Sc.nats_app, Sc.nats_app, rp_nats, rp_nats]
        simp [Sc.nats]
      rw [← n1'] at hrc
      obtain ⟨T, hT⟩ : ∃ T, Sc.tokens (Sc.nats S2) = T := ⟨_, rfl⟩
      obtain ⟨t1, t2, -, t3⟩ := toks_short S2 (by omega) T hT
      rw [hT] at hrc
      obtain ⟨cap, w3, hcv, hrow, hb3⟩ := conv_str S2 wr (by unfold maxLen; omega)
      have htk := rTokens _ _ _ hrow.bys
      have HTk := Lib.hid htk
      have HT := Lib.hid hT
      have HRc := Lib.hid hrc
      have HTf := Lib.hid (show T.length ≤ 100000 ∧ (∀ x ∈ T, x.2.1 ≤ 1000000) from ⟨by omega, t2⟩)
      have HB3 := Lib.hid (below_from HQ.out hb3)
      have y1 : ¬ (9223372036854775807 < 5 + C.size) := by omega
      have y2 : ¬ (9223372036854775807 < S1.size + s.size) := by omega
      clear htk hrow hb3 hT t1 t2 t3 hrc n1' hlet hne0 hln HL hE hI hlong hz hlt hk HA HB HC
      go_wp2_with fail
      refine HTk.out.mono ?_
      intro e w4 hg4
      obtain ⟨p1, c1, rfl, R1, hb4⟩ := hg4.read
      rw [HT.out] at R1 ⊢
      have hrw := fun bv => pRows bv _ T w4 R1 HTf.out.1 HTf.out.2
      have HRw := Lib.hid hrw
      have HB4 := Lib.hid (below_from HB3.out hb4)
      clear hg4 R1 hb4 hrw hcv HTk
      go_wp2_with fail
      refine (HRw.out _).mono ?_
      intro e w5 hg5
      obtain ⟨p2, c2, rfl, R2, hb5⟩ := hg5.read
      rw [HRc.out] at R2 ⊢
      obtain ⟨rb, ro, rfl, hat⟩ := rows_all R2 (by simp)
      have r0 : w5.cell? ⟨rb, ro + 4, none⟩ = some (.int .i64 5) := (hat 1 _ rfl).1
      have r3 : w5.cell? ⟨rb, ro + 7, none⟩ = some (.int .i64 ((n1 : Int) + (n2 : Int))) := by
        have := (hat 1 _ rfl).2.2.2
        rw [show (((n1 + n2 : Nat) : Nat) : Int) = (n1 : Int) + (n2 : Int) from by omega] at this
        exact this
      have HB5 := Lib.hid (below_from HB4.out hb5)
      simp only [List.length_cons, List.length_nil]
      clear hg5 R2 hb5 hat HRw
      go_wp2_with fail
      go_ret
      exact ⟨by simp, HB5.out⟩
end Go.Proofs.Ytaokjeopmhbddaa
