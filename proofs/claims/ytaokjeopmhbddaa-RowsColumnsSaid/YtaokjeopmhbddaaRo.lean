/- Package rows: which tokens count, marks; the first one that counts, the row at the front. -/
import Derived.Test.YtaokjeopmhbddaaRwd
namespace Go.Proofs.Ytaokjeopmhbddaa
open Go.RowKit
open Go.Proofs.Ytaokjeopmhbddaa.Sg
open Go.Proofs.Ytaokjeopmhbddaa.Sq
set_option linter.unusedVariables false

set_option maxHeartbeats 1000000 in
theorem pCounts (k : Nat) (w : World) :
    Calls Try.prog 52 #[.int .i64 k] w fun e w' => e = .returned (.bool (Sc.counts k)) ∧ w = w' := by
  go_enter Try.func52, Try.ntmps52
  go_wp2
  all_goals
    go_ret
    refine ⟨?_, rfl⟩
    refine congrArg (fun b => Ending.returned (.bool b)) ?_
    rw [Bool.eq_iff_iff]
    simp [Sc.counts] at *
    try omega
set_option maxHeartbeats 1000000 in
theorem pIsMark (k : Nat) (w : World) :
    Calls Try.prog 51 #[.int .i64 k] w fun e w' => e = .returned (.bool (Rw.isMark k)) ∧ w = w' := by
  go_enter Try.func51, Try.ntmps51
  go_wp2
  all_goals
    go_ret
    refine ⟨?_, rfl⟩
    refine congrArg (fun b => Ending.returned (.bool b)) ?_
    rw [Bool.eq_iff_iff]
    simp [Rw.isMark] at *
    try omega
set_option maxHeartbeats 2000000 in
set_option maxRecDepth 100000 in
theorem pFirst (v : Value) (ts : List Tk) (w : World) (h : Reads encT w v ts) (hs : ts.length ≤ 1000000) :
    Calls Try.prog 29 #[v] w fun e w' => e = .returned (.int .i64 (Rw.leadN ts)) ∧ Below w.heap.size w w' := by
  obtain ⟨a, cap, rfl⟩ := h.shape
  have H := Lib.hid h
  have HL := Lib.hid (Rw.lead_is ts)
  obtain ⟨R, hR⟩ : ∃ R, Rw.leadN ts = R := ⟨_, rfl⟩
  rw [hR] at HL ⊢
  obtain ⟨N, hN⟩ : ∃ N, ts.length = N := ⟨_, rfl⟩
  have HN := Lib.hid hN
  rw [hN] at hs
  rw [hN]
  clear h hN hR
  go_enter Try.func29, Try.ntmps29
  go_wp2_with fail
  go_loopw [7] (fun iv wr => ∃ k : Nat, iv = .int .i64 k ∧ k ≤ N ∧ Hid (∀ j x, j < k → ts[j]? = some x → Sc.counts x.1 = false) ∧ Below w.heap.size w wr) (fun iv _ => N - (intOf iv).toNat)
  case atStart => exact ⟨0, rfl, Nat.zero_le _, Lib.hid (fun j x h => absurd h (Nat.not_lt_zero j)), Below.refl _ w⟩
  case round =>
    obtain ⟨k, rfl, hk, HA, hb⟩ := hrel
    by_cases hlt : k < N
    · obtain ⟨x, hx⟩ : ∃ x, ts[k]? = some x := ⟨_, List.getElem?_eq_getElem (by rw [HN.out]; exact hlt)⟩
      obtain ⟨b, off, rfl, c0, c1, c2⟩ := toks_at (H.out.below hb) k x hx
      have hi : (k : Int) < (N : Int) := by omega
      have HB := Lib.hid hb
      have hc := fun W => pCounts x.1 W
      cases hq : Sc.counts x.1 with
      | true =>
        rw [hq] at hc
        have hres := HL.out k HA.out (.inr ⟨x, hx, hq⟩)
        subst hres
        have HC := Lib.hid hc
        clear hc hq HA hx HL hb H HN
        go_wp2_with fail
        refine (HC.out _).mono ?_
        rintro e w2 ⟨rfl, rfl⟩
        go_wp2_with fail
        go_ret
        exact ⟨rfl, below_from HB.out (below_alloc _ _)⟩
      | false =>
        rw [hq] at hc
        have HA2 := Lib.hid (fun j y (hj : j < k + 1) (hy : ts[j]? = some y) => show Sc.counts y.1 = false by
          rcases Nat.lt_succ_iff_lt_or_eq.1 hj with h | h
          · exact HA.out j y h hy
          · subst h; rw [hx] at hy; injection hy with hy; subst hy; exact hq)
        have HC := Lib.hid hc
        clear hc hq HA hx HL hb H HN
        go_wp2_with fail
        refine (HC.out _).mono ?_
        rintro e w2 ⟨rfl, rfl⟩
        go_wp2_with fail
        go_roundw
        case rel => exact ⟨k + 1, by go_num, by omega, HA2, below_from HB.out (below_alloc _ _)⟩
        case measure => simp [intOf]; omega
    · obtain rfl : k = N := by omega
      have hne : ¬ ((k : Int) < (k : Int)) := by omega
      have hres := HL.out k HA.out (.inl HN.out.symm)
      subst hres
      have HB := Lib.hid hb
      clear HA HL hb H HN hlt
      go_wp2_with fail
      go_ret
      exact ⟨rfl, HB.out⟩
end Go.Proofs.Ytaokjeopmhbddaa
