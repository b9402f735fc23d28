/- Several texts in one: Fk1 Fk2 Fkp Fk3 Fk4 Fk5. -/
import Derived.Test.YtmlpaafclobgcaaMgD
import Derived.Test.YtmlpaafclobgcaaMgC
import Derived.Lib.Hide
import Derived.Deep.DeepCutAuto
import Derived.Deep.CutBlock
import Derived.WalkMore
import Derived.ScopeJumps
import Derived.Test.YtmlpaafclobgcaaMgG
/- Package flow: a token's kind, classes of kinds, past (at each of its four classes), behindCounted. (Written by tools/gen_fk.py.) -/
namespace Go.Proofs.Ytmlpaafclobgcaa
open Go.RowKit
open Go.Proofs.Ytmlpaafclobgcaa.Sq
set_option linter.unusedVariables false

namespace Fl
/-- A token's kind, as the program reads it: behind the last one it is as if a TEnd stood. -/
def kx (l : List Tk) (i : Nat) : Nat := if i < l.length then raw l i else 21
theorem raw_at {l : List Tk} {i : Nat} {x : Tk} (h : l[i]? = some x) : raw l i = x.1 := by unfold raw; rw [h]
theorem kx_at {l : List Tk} {i : Nat} {x : Tk} (h : l[i]? = some x) : kx l i = x.1 := by unfold kx; rw [if_pos (List.getElem?_eq_some_iff.1 h).1, raw_at h]
theorem goW_step (p : Nat → Bool) (n i : Nat) (h : i < n) : goW p (n - i) i = if p i = true then goW p (n - (i + 1)) (i + 1) else i := by
  rw [show n - i = (n - (i + 1)) + 1 by omega, goW]
theorem goW_end (p : Nat → Bool) (n : Nat) : goW p (n - n) n = n := by rw [Nat.sub_self, goW]
/-- The kind that the program reads is that of the chapter, but a mark's. -/
theorem kd_kx {l : List Tk} {i : Nat} (h : i ≤ l.length) : kd l l.length i = if kx l i = 20 ∨ kx l i = 21 then 0 else kx l i := by
  unfold kd kx
  by_cases hi : i < l.length
  · rw [if_pos hi]
    by_cases h2 : raw l i = 20 ∨ raw l i = 21
    · rw [if_pos (.inr h2), if_pos h2]
    · rw [if_neg (fun h3 => h3.elim (by omega) h2), if_neg h2]
  · rw [if_neg hi, if_pos (.inl (by omega)), if_pos (.inr rfl)]
def mk (k : Nat) : Bool := k == 20 || k == 21
end Fl
open Go.Proofs.Ytmlpaafclobgcaa.Fl (raw kx goW goW_step goW_end cnt ends opens isScal isProp' begins kd back)
/-- The reader's tokens lie in its first cell. -/
abbrev RP (rb : Nat) : Value := .pointer (some ⟨rb, 0, none⟩)
set_option maxHeartbeats 1000000 in
theorem fKind (rb : Nat) (v : Value) (l : List Tk) (i : Nat) (w : World) (hc : w.cell? ⟨rb, 0, none⟩ = some v) (h : Reads encT w v l) (hi : i ≤ l.length) (hs : l.length ≤ 100000) :
    Calls Try.prog 43 #[RP rb, .int .i64 i] w fun e w' => e = .returned (.int .i64 (kx l i : Nat)) ∧ w = w' := by
  obtain ⟨a, cap, rfl⟩ := h.shape
  by_cases he : i < l.length
  · obtain ⟨x, hx⟩ : ∃ x, l[i]? = some x := ⟨_, List.getElem?_eq_getElem he⟩
    rw [Fl.kx_at hx]
    obtain ⟨b, off, rfl, c0, -, -⟩ := toks_at h i x hx
    obtain ⟨N, hN⟩ : ∃ N, l.length = N := ⟨_, rfl⟩
    rw [hN] at hc he hs
    have g : ((i : Int) == (N : Int)) = false := by simp; omega
    have gi : (i : Int) < (N : Int) := by omega
    clear h hi hx hN he
    go_enter Try.func43, Try.ntmps43
    go_wp2_with fail
    go_ret
    exact ⟨rfl, rfl⟩
  · obtain rfl : i = l.length := by omega
    have hk : kx l l.length = 21 := by unfold kx; rw [if_neg (Nat.lt_irrefl _)]
    rw [hk]
    obtain ⟨N, hN⟩ : ∃ N, l.length = N := ⟨_, rfl⟩
    rw [hN] at hc ⊢
    clear h hi hN he hk hs
    go_enter Try.func43, Try.ntmps43
    go_wp2_with fail
    go_ret
    exact ⟨rfl, rfl⟩
set_option maxHeartbeats 1000000 in
theorem fBlank (k : Nat) (w : World) : Calls Try.prog 42 #[.int .i64 k] w fun e w' => e = .returned (.bool (k == 3)) ∧ w = w' := by
  go_enter Try.func42, Try.ntmps42
  go_wp2
  all_goals (go_ret; refine ⟨congrArg (fun b => Ending.returned (.bool b)) ?_, rfl⟩)
  all_goals (rw [Bool.eq_iff_iff]; simp at *; try omega)
set_option maxHeartbeats 1000000 in
theorem fText (k : Nat) (w : World) : Calls Try.prog 58 #[.int .i64 k] w fun e w' => e = .returned (.bool (k == 19)) ∧ w = w' := by
  go_enter Try.func58, Try.ntmps58
  go_wp2
  all_goals (go_ret; refine ⟨congrArg (fun b => Ending.returned (.bool b)) ?_, rfl⟩)
  all_goals (rw [Bool.eq_iff_iff]; simp at *; try omega)
set_option maxHeartbeats 1000000 in
theorem fRest (k : Nat) (w : World) : Calls Try.prog 57 #[.int .i64 k] w fun e w' => e = .returned (.bool (k == 3 || k == 4)) ∧ w = w' := by
  go_enter Try.func57, Try.ntmps57
  go_wp2
  all_goals (go_ret; refine ⟨congrArg (fun b => Ending.returned (.bool b)) ?_, rfl⟩)
  all_goals (rw [Bool.eq_iff_iff]; simp at *; try omega)
set_option maxHeartbeats 1000000 in
theorem fIdle (k : Nat) (w : World) : Calls Try.prog 63 #[.int .i64 k] w fun e w' => e = .returned (.bool (!cnt k)) ∧ w = w' := by
  go_enter Try.func63, Try.ntmps63
  go_wp2
  all_goals (go_ret; refine ⟨congrArg (fun b => Ending.returned (.bool b)) ?_, rfl⟩)
  all_goals (rw [Bool.eq_iff_iff]; simp [cnt] at *; try omega)
set_option maxHeartbeats 1000000 in
theorem fEnd (k : Nat) (w : World) : Calls Try.prog 64 #[.int .i64 k] w fun e w' => e = .returned (.bool (ends k)) ∧ w = w' := by
  go_enter Try.func64, Try.ntmps64
  go_wp2
  all_goals (go_ret; refine ⟨congrArg (fun b => Ending.returned (.bool b)) ?_, rfl⟩)
  all_goals (rw [Bool.eq_iff_iff]; simp [ends] at *; try omega)
set_option maxHeartbeats 1000000 in
theorem fMark (k : Nat) (w : World) : Calls Try.prog 60 #[.int .i64 k] w fun e w' => e = .returned (.bool (Fl.mk k)) ∧ w = w' := by
  go_enter Try.func60, Try.ntmps60
  go_wp2
  all_goals (go_ret; refine ⟨congrArg (fun b => Ending.returned (.bool b)) ?_, rfl⟩)
  all_goals (rw [Bool.eq_iff_iff]; simp [Fl.mk] at *; try omega)
set_option maxHeartbeats 1000000 in
theorem fBegins (k : Nat) (w : World) : Calls Try.prog 72 #[.int .i64 k] w fun e w' => e = .returned (.bool (begins k)) ∧ w = w' := by
  go_enter Try.func72, Try.ntmps72
  go_wp2
  all_goals (go_ret; refine ⟨congrArg (fun b => Ending.returned (.bool b)) ?_, rfl⟩)
  all_goals (rw [Bool.eq_iff_iff]; simp [opens, isScal, isProp', begins] at *; try omega)
set_option maxHeartbeats 2000000 in
set_option maxRecDepth 100000 in
theorem fPastBlank (rb : Nat) (v : Value) (l : List Tk) (p : Nat) (w : World) (hc : w.cell? ⟨rb, 0, none⟩ = some v) (h : Reads encT w v l) (hp : p ≤ l.length) (hs : l.length ≤ 100000) :
    Calls Try.prog 41 #[RP rb, .int .i64 p, .func (.func 42) #[] #[]] w fun e w' => e = .returned (.int .i64 (goW (fun j => (fun k => k == 3) (raw l j)) (l.length - p) p : Nat)) ∧ w = w' := by
  have HK := Lib.hid (fun i (hi : i ≤ l.length) => fKind rb v l i w hc h hi hs)
  obtain ⟨P, hP⟩ : ∃ P : Nat → Bool, (fun j => (fun k => k == 3) (raw l j)) = P := ⟨_, rfl⟩
  have HX := Lib.hid (fun i (hi : i < l.length) => show (fun k => k == 3) (kx l i) = P i by unfold kx; rw [if_pos hi, ← hP])
  have HE := Lib.hid (show (fun k => k == 3) (kx l l.length) = false by unfold kx; rw [if_neg (Nat.lt_irrefl _)]; rfl)
  have HC := Lib.hid (fun k => fBlank k w)
  rw [hP]
  obtain ⟨T, hT⟩ : ∃ T, goW P (l.length - p) p = T := ⟨_, rfl⟩
  rw [hT]
  obtain ⟨N, hN⟩ : ∃ N, l.length = N := ⟨_, rfl⟩
  rw [hN] at hp hs hT HK HX HE
  have HT := Lib.hid hT
  clear h hN hT hc hP
  go_enter Try.func41, Try.ntmps41
  go_wp2_with fail
  go_loopw [1] (fun iv wr => ∃ k : Nat, iv = .int .i64 k ∧ k ≤ N ∧ Hid (goW P (N - k) k = T) ∧ w = wr) (fun iv _ => N - (intOf iv).toNat)
  case atStart => exact ⟨p, rfl, hp, HT, rfl⟩
  case round =>
    obtain ⟨k, rfl, hk, HK2, rfl⟩ := hrel
    have hcall := HK.out k hk
    by_cases hlt : k < N
    · have hx := HX.out k hlt
      have hst := goW_step P N k hlt
      obtain ⟨K, hK⟩ : ∃ K, kx l k = K := ⟨_, rfl⟩
      rw [hK] at hcall hx
      have hcl := HC.out K
      cases q : P k with
      | true =>
        rw [q] at hst hx
        rw [if_pos rfl] at hst
        have HK3 := Lib.hid (show goW P (N - (k + 1)) (k + 1) = T by rw [← HK2.out]; exact hst.symm)
        have e : (K == 3) = true := hx
        rw [e] at hcl
        have HCa := Lib.hid hcall
        have HCl := Lib.hid hcl
        clear hcall hcl hst hx hK q e HX HE HC HK HK2 HT
        go_wp2_with fail
        refine HCa.out.mono ?_
        rintro e w1 ⟨rfl, rfl⟩
        go_wp2_with fail
        refine HCl.out.mono ?_
        rintro e w1 ⟨rfl, rfl⟩
        go_wp2_with fail
        go_roundw
        case rel => exact ⟨k + 1, by go_num, by omega, HK3, trivial⟩
        case measure => simp [intOf]; omega
      | false =>
        rw [q] at hst hx
        rw [if_neg (by decide)] at hst
        obtain rfl : T = k := by rw [← HK2.out]; exact hst
        have e : (K == 3) = false := hx
        rw [e] at hcl
        have HCa := Lib.hid hcall
        have HCl := Lib.hid hcl
        clear hcall hcl hst hx hK q e HX HE HC HK HK2 HT
        go_wp2_with fail
        refine HCa.out.mono ?_
        rintro e w1 ⟨rfl, rfl⟩
        go_wp2_with fail
        refine HCl.out.mono ?_
        rintro e w1 ⟨rfl, rfl⟩
        go_wp2_with fail
        go_ret
        exact ⟨rfl, rfl⟩
    · obtain rfl : k = N := by omega
      obtain rfl : T = k := by rw [← HK2.out]; exact goW_end P k
      have hx := HE.out
      obtain ⟨K, hK⟩ : ∃ K, kx l T = K := ⟨_, rfl⟩
      rw [hK] at hcall hx
      have hcl := HC.out K
      have e : (K == 3) = false := hx
      rw [e] at hcl
      have HCa := Lib.hid hcall
      have HCl := Lib.hid hcl
      clear hcall hcl hx hK e HX HE HC HK HK2 HT hlt
      go_wp2_with fail
      refine HCa.out.mono ?_
      rintro e w1 ⟨rfl, rfl⟩
      go_wp2_with fail
      refine HCl.out.mono ?_
      rintro e w1 ⟨rfl, rfl⟩
      go_wp2_with fail
      go_ret
      exact ⟨rfl, rfl⟩
set_option maxHeartbeats 2000000 in
set_option maxRecDepth 100000 in
theorem fPastText (rb : Nat) (v : Value) (l : List Tk) (p : Nat) (w : World) (hc : w.cell? ⟨rb, 0, none⟩ = some v) (h : Reads encT w v l) (hp : p ≤ l.length) (hs : l.length ≤ 100000) :
    Calls Try.prog 41 #[RP rb, .int .i64 p, .func (.func 58) #[] #[]] w fun e w' => e = .returned (.int .i64 (goW (fun j => (fun k => k == 19) (raw l j)) (l.length - p) p : Nat)) ∧ w = w' := by
  have HK := Lib.hid (fun i (hi : i ≤ l.length) => fKind rb v l i w hc h hi hs)
  obtain ⟨P, hP⟩ : ∃ P : Nat → Bool, (fun j => (fun k => k == 19) (raw l j)) = P := ⟨_, rfl⟩
  have HX := Lib.hid (fun i (hi : i < l.length) => show (fun k => k == 19) (kx l i) = P i by unfold kx; rw [if_pos hi, ← hP])
  have HE := Lib.hid (show (fun k => k == 19) (kx l l.length) = false by unfold kx; rw [if_neg (Nat.lt_irrefl _)]; rfl)
  have HC := Lib.hid (fun k => fText k w)
  rw [hP]
  obtain ⟨T, hT⟩ : ∃ T, goW P (l.length - p) p = T := ⟨_, rfl⟩
  rw [hT]
  obtain ⟨N, hN⟩ : ∃ N, l.length = N := ⟨_, rfl⟩
  rw [hN] at hp hs hT HK HX HE
  have HT := Lib.hid hT
  clear h hN hT hc hP
  go_enter Try.func41, Try.ntmps41
  go_wp2_with fail
  go_loopw [1] (fun iv wr => ∃ k : Nat, iv = .int .i64 k ∧ k ≤ N ∧ Hid (goW P (N - k) k = T) ∧ w = wr) (fun iv _ => N - (intOf iv).toNat)
  case atStart => exact ⟨p, rfl, hp, HT, rfl⟩
  case round =>
    obtain ⟨k, rfl, hk, HK2, rfl⟩ := hrel
    have hcall := HK.out k hk
    by_cases hlt : k < N
    · have hx := HX.out k hlt
      have hst := goW_step P N k hlt
      obtain ⟨K, hK⟩ : ∃ K, kx l k = K := ⟨_, rfl⟩
      rw [hK] at hcall hx
      have hcl := HC.out K
      cases q : P k with
      | true =>
        rw [q] at hst hx
        rw [if_pos rfl] at hst
        have HK3 := Lib.hid (show goW P (N - (k + 1)) (k + 1) = T by rw [← HK2.out]; exact hst.symm)
        have e : (K == 19) = true := hx
        rw [e] at hcl
        have HCa := Lib.hid hcall
        have HCl := Lib.hid hcl
        clear hcall hcl hst hx hK q e HX HE HC HK HK2 HT
        go_wp2_with fail
        refine HCa.out.mono ?_
        rintro e w1 ⟨rfl, rfl⟩
        go_wp2_with fail
        refine HCl.out.mono ?_
        rintro e w1 ⟨rfl, rfl⟩
        go_wp2_with fail
        go_roundw
        case rel => exact ⟨k + 1, by go_num, by omega, HK3, trivial⟩
        case measure => simp [intOf]; omega
      | false =>
        rw [q] at hst hx
        rw [if_neg (by decide)] at hst
        obtain rfl : T = k := by rw [← HK2.out]; exact hst
        have e : (K == 19) = false := hx
        rw [e] at hcl
        have HCa := Lib.hid hcall
        have HCl := Lib.hid hcl
        clear hcall hcl hst hx hK q e HX HE HC HK HK2 HT
        go_wp2_with fail
        refine HCa.out.mono ?_
        rintro e w1 ⟨rfl, rfl⟩
        go_wp2_with fail
        refine HCl.out.mono ?_
        rintro e w1 ⟨rfl, rfl⟩
        go_wp2_with fail
        go_ret
        exact ⟨rfl, rfl⟩
    · obtain rfl : k = N := by omega
      obtain rfl : T = k := by rw [← HK2.out]; exact goW_end P k
      have hx := HE.out
      obtain ⟨K, hK⟩ : ∃ K, kx l T = K := ⟨_, rfl⟩
      rw [hK] at hcall hx
      have hcl := HC.out K
      have e : (K == 19) = false := hx
      rw [e] at hcl
      have HCa := Lib.hid hcall
      have HCl := Lib.hid hcl
      clear hcall hcl hx hK e HX HE HC HK HK2 HT hlt
      go_wp2_with fail
      refine HCa.out.mono ?_
      rintro e w1 ⟨rfl, rfl⟩
      go_wp2_with fail
      refine HCl.out.mono ?_
      rintro e w1 ⟨rfl, rfl⟩
      go_wp2_with fail
      go_ret
      exact ⟨rfl, rfl⟩
set_option maxHeartbeats 2000000 in
set_option maxRecDepth 100000 in
theorem fPastRest (rb : Nat) (v : Value) (l : List Tk) (p : Nat) (w : World) (hc : w.cell? ⟨rb, 0, none⟩ = some v) (h : Reads encT w v l) (hp : p ≤ l.length) (hs : l.length ≤ 100000) :
    Calls Try.prog 41 #[RP rb, .int .i64 p, .func (.func 57) #[] #[]] w fun e w' => e = .returned (.int .i64 (goW (fun j => (fun k => k == 3 || k == 4) (raw l j)) (l.length - p) p : Nat)) ∧ w = w' := by
  have HK := Lib.hid (fun i (hi : i ≤ l.length) => fKind rb v l i w hc h hi hs)
  obtain ⟨P, hP⟩ : ∃ P : Nat → Bool, (fun j => (fun k => k == 3 || k == 4) (raw l j)) = P := ⟨_, rfl⟩
  have HX := Lib.hid (fun i (hi : i < l.length) => show (fun k => k == 3 || k == 4) (kx l i) = P i by unfold kx; rw [if_pos hi, ← hP])
  have HE := Lib.hid (show (fun k => k == 3 || k == 4) (kx l l.length) = false by unfold kx; rw [if_neg (Nat.lt_irrefl _)]; rfl)
  have HC := Lib.hid (fun k => fRest k w)
  rw [hP]
  obtain ⟨T, hT⟩ : ∃ T, goW P (l.length - p) p = T := ⟨_, rfl⟩
  rw [hT]
  obtain ⟨N, hN⟩ : ∃ N, l.length = N := ⟨_, rfl⟩
  rw [hN] at hp hs hT HK HX HE
  have HT := Lib.hid hT
  clear h hN hT hc hP
  go_enter Try.func41, Try.ntmps41
  go_wp2_with fail
  go_loopw [1] (fun iv wr => ∃ k : Nat, iv = .int .i64 k ∧ k ≤ N ∧ Hid (goW P (N - k) k = T) ∧ w = wr) (fun iv _ => N - (intOf iv).toNat)
  case atStart => exact ⟨p, rfl, hp, HT, rfl⟩
  case round =>
    obtain ⟨k, rfl, hk, HK2, rfl⟩ := hrel
    have hcall := HK.out k hk
    by_cases hlt : k < N
    · have hx := HX.out k hlt
      have hst := goW_step P N k hlt
      obtain ⟨K, hK⟩ : ∃ K, kx l k = K := ⟨_, rfl⟩
      rw [hK] at hcall hx
      have hcl := HC.out K
      cases q : P k with
      | true =>
        rw [q] at hst hx
        rw [if_pos rfl] at hst
        have HK3 := Lib.hid (show goW P (N - (k + 1)) (k + 1) = T by rw [← HK2.out]; exact hst.symm)
        have e : (K == 3 || K == 4) = true := hx
        rw [e] at hcl
        have HCa := Lib.hid hcall
        have HCl := Lib.hid hcl
        clear hcall hcl hst hx hK q e HX HE HC HK HK2 HT
        go_wp2_with fail
        refine HCa.out.mono ?_
        rintro e w1 ⟨rfl, rfl⟩
        go_wp2_with fail
        refine HCl.out.mono ?_
        rintro e w1 ⟨rfl, rfl⟩
        go_wp2_with fail
        go_roundw
        case rel => exact ⟨k + 1, by go_num, by omega, HK3, trivial⟩
        case measure => simp [intOf]; omega
      | false =>
        rw [q] at hst hx
        rw [if_neg (by decide)] at hst
        obtain rfl : T = k := by rw [← HK2.out]; exact hst
        have e : (K == 3 || K == 4) = false := hx
        rw [e] at hcl
        have HCa := Lib.hid hcall
        have HCl := Lib.hid hcl
        clear hcall hcl hst hx hK q e HX HE HC HK HK2 HT
        go_wp2_with fail
        refine HCa.out.mono ?_
        rintro e w1 ⟨rfl, rfl⟩
        go_wp2_with fail
        refine HCl.out.mono ?_
        rintro e w1 ⟨rfl, rfl⟩
        go_wp2_with fail
        go_ret
        exact ⟨rfl, rfl⟩
    · obtain rfl : k = N := by omega
      obtain rfl : T = k := by rw [← HK2.out]; exact goW_end P k
      have hx := HE.out
      obtain ⟨K, hK⟩ : ∃ K, kx l T = K := ⟨_, rfl⟩
      rw [hK] at hcall hx
      have hcl := HC.out K
      have e : (K == 3 || K == 4) = false := hx
      rw [e] at hcl
      have HCa := Lib.hid hcall
      have HCl := Lib.hid hcl
      clear hcall hcl hx hK e HX HE HC HK HK2 HT hlt
      go_wp2_with fail
      refine HCa.out.mono ?_
      rintro e w1 ⟨rfl, rfl⟩
      go_wp2_with fail
      refine HCl.out.mono ?_
      rintro e w1 ⟨rfl, rfl⟩
      go_wp2_with fail
      go_ret
      exact ⟨rfl, rfl⟩
set_option maxHeartbeats 2000000 in
set_option maxRecDepth 100000 in
theorem fPastIdle (rb : Nat) (v : Value) (l : List Tk) (p : Nat) (w : World) (hc : w.cell? ⟨rb, 0, none⟩ = some v) (h : Reads encT w v l) (hp : p ≤ l.length) (hs : l.length ≤ 100000) :
    Calls Try.prog 41 #[RP rb, .int .i64 p, .func (.func 63) #[] #[]] w fun e w' => e = .returned (.int .i64 (goW (fun j => (fun k => !cnt k) (raw l j)) (l.length - p) p : Nat)) ∧ w = w' := by
  have HK := Lib.hid (fun i (hi : i ≤ l.length) => fKind rb v l i w hc h hi hs)
  obtain ⟨P, hP⟩ : ∃ P : Nat → Bool, (fun j => (fun k => !cnt k) (raw l j)) = P := ⟨_, rfl⟩
  have HX := Lib.hid (fun i (hi : i < l.length) => show (fun k => !cnt k) (kx l i) = P i by unfold kx; rw [if_pos hi, ← hP])
  have HE := Lib.hid (show (fun k => !cnt k) (kx l l.length) = false by unfold kx; rw [if_neg (Nat.lt_irrefl _)]; rfl)
  have HC := Lib.hid (fun k => fIdle k w)
  rw [hP]
  obtain ⟨T, hT⟩ : ∃ T, goW P (l.length - p) p = T := ⟨_, rfl⟩
  rw [hT]
  obtain ⟨N, hN⟩ : ∃ N, l.length = N := ⟨_, rfl⟩
  rw [hN] at hp hs hT HK HX HE
  have HT := Lib.hid hT
  clear h hN hT hc hP
  go_enter Try.func41, Try.ntmps41
  go_wp2_with fail
  go_loopw [1] (fun iv wr => ∃ k : Nat, iv = .int .i64 k ∧ k ≤ N ∧ Hid (goW P (N - k) k = T) ∧ w = wr) (fun iv _ => N - (intOf iv).toNat)
  case atStart => exact ⟨p, rfl, hp, HT, rfl⟩
  case round =>
    obtain ⟨k, rfl, hk, HK2, rfl⟩ := hrel
    have hcall := HK.out k hk
    by_cases hlt : k < N
    · have hx := HX.out k hlt
      have hst := goW_step P N k hlt
      obtain ⟨K, hK⟩ : ∃ K, kx l k = K := ⟨_, rfl⟩
      rw [hK] at hcall hx
      have hcl := HC.out K
      cases q : P k with
      | true =>
        rw [q] at hst hx
        rw [if_pos rfl] at hst
        have HK3 := Lib.hid (show goW P (N - (k + 1)) (k + 1) = T by rw [← HK2.out]; exact hst.symm)
        have e : (!cnt K) = true := hx
        rw [e] at hcl
        have HCa := Lib.hid hcall
        have HCl := Lib.hid hcl
        clear hcall hcl hst hx hK q e HX HE HC HK HK2 HT
        go_wp2_with fail
        refine HCa.out.mono ?_
        rintro e w1 ⟨rfl, rfl⟩
        go_wp2_with fail
        refine HCl.out.mono ?_
        rintro e w1 ⟨rfl, rfl⟩
        go_wp2_with fail
        go_roundw
        case rel => exact ⟨k + 1, by go_num, by omega, HK3, trivial⟩
        case measure => simp [intOf]; omega
      | false =>
        rw [q] at hst hx
        rw [if_neg (by decide)] at hst
        obtain rfl : T = k := by rw [← HK2.out]; exact hst
        have e : (!cnt K) = false := hx
        rw [e] at hcl
        have HCa := Lib.hid hcall
        have HCl := Lib.hid hcl
        clear hcall hcl hst hx hK q e HX HE HC HK HK2 HT
        go_wp2_with fail
        refine HCa.out.mono ?_
        rintro e w1 ⟨rfl, rfl⟩
        go_wp2_with fail
        refine HCl.out.mono ?_
        rintro e w1 ⟨rfl, rfl⟩
        go_wp2_with fail
        go_ret
        exact ⟨rfl, rfl⟩
    · obtain rfl : k = N := by omega
      obtain rfl : T = k := by rw [← HK2.out]; exact goW_end P k
      have hx := HE.out
      obtain ⟨K, hK⟩ : ∃ K, kx l T = K := ⟨_, rfl⟩
      rw [hK] at hcall hx
      have hcl := HC.out K
      have e : (!cnt K) = false := hx
      rw [e] at hcl
      have HCa := Lib.hid hcall
      have HCl := Lib.hid hcl
      clear hcall hcl hx hK e HX HE HC HK HK2 HT hlt
      go_wp2_with fail
      refine HCa.out.mono ?_
      rintro e w1 ⟨rfl, rfl⟩
      go_wp2_with fail
      refine HCl.out.mono ?_
      rintro e w1 ⟨rfl, rfl⟩
      go_wp2_with fail
      go_ret
      exact ⟨rfl, rfl⟩
end Go.Proofs.Ytmlpaafclobgcaa

/- Package flow: behindCounted. (Written by tools/gen_fk.py.) -/
namespace Go.Proofs.Ytmlpaafclobgcaa
open Go.RowKit
open Go.Proofs.Ytmlpaafclobgcaa.Sq
open Go.Proofs.Ytmlpaafclobgcaa.Fl (raw kx cnt back)
set_option linter.unusedVariables false

set_option maxHeartbeats 2000000 in
set_option maxRecDepth 100000 in
/-- Behind the last token that counts ahead of a place; m: ahead of it one stands that counts, from m - 1 on. -/
theorem fCounted (rb : Nat) (v : Value) (l : List Tk) (p m : Nat) (w : World) (hc : w.cell? ⟨rb, 0, none⟩ = some v) (h : Reads encT w v l) (hp : p ≤ l.length) (hs : l.length ≤ 100000) (hm0 : 0 < m) (hmp : m ≤ p) (hm : ∃ z, m ≤ z ∧ z ≤ p ∧ cnt (raw l (z - 1)) = true) :
    Calls Try.prog 61 #[RP rb, .int .i64 p] w fun e w' => e = .returned (.int .i64 (back l p m : Nat)) ∧ w = w' := by
  obtain ⟨a, cap, rfl⟩ := h.shape
  obtain ⟨z, hz1, hz2, hz3⟩ := hm
  have H := Lib.hid (fun j x (hj : l[j]? = some x) => toks_at h j x hj)
  have HC := Lib.hid (fun k => fIdle k w)
  have HB := Lib.hid (fun i (h1 : z ≤ i) (h2 : 0 < i) => show back l i m = if cnt (raw l (i - 1)) = true then i else back l (i - 1) m by
    obtain ⟨i, rfl⟩ : ∃ k, i = k + 1 := ⟨i - 1, by omega⟩
    rw [back, Nat.add_sub_cancel]
    by_cases e : cnt (raw l i) = true
    · rw [if_neg (fun h => by rw [e] at h; exact absurd h.2 (by decide)), if_pos e]
    · rw [if_neg e]
      have hne : z ≠ i + 1 := fun h => by rw [h, Nat.add_sub_cancel] at hz3; exact e hz3
      rw [if_pos ⟨by omega, by simpa using e⟩])
  obtain ⟨T, hT⟩ : ∃ T, back l p m = T := ⟨_, rfl⟩
  rw [hT]
  have HT := Lib.hid hT
  have HZ := Lib.hid hz3
  obtain ⟨N, hN⟩ : ∃ N, l.length = N := ⟨_, rfl⟩
  have HN := Lib.hid hN
  rw [hN] at hp hs hc
  have hz0 : 0 < z := by omega
  clear h hN hT hz3 hmp
  go_enter Try.func61, Try.ntmps61
  go_wp2_with fail
  go_loopw [1] (fun iv wr => ∃ k : Nat, iv = .int .i64 k ∧ k ≤ N ∧ z ≤ k ∧ Hid (back l k m = T) ∧ w = wr) (fun iv _ => (intOf iv).toNat)
  case atStart => exact ⟨p, rfl, hp, hz2, HT, rfl⟩
  case round =>
    obtain ⟨k, rfl, hk, hzk, HK2, rfl⟩ := hrel
    have hst := HB.out k hzk (by omega)
    obtain ⟨i, rfl⟩ : ∃ i, k = i + 1 := ⟨k - 1, by omega⟩
    rw [Nat.add_sub_cancel] at hst
    obtain ⟨x, hx⟩ : ∃ x, l[i]? = some x := ⟨_, List.getElem?_eq_getElem (by rw [HN.out]; omega)⟩
    obtain ⟨b, off, rfl, c0, -, -⟩ := H.out i x hx
    have hr := Fl.raw_at hx
    obtain ⟨K, hK⟩ : ∃ K, x.1 = K := ⟨_, rfl⟩
    rw [hK] at c0 hr
    rw [hr] at hst
    have hcl := HC.out K
    have HZ2 := Lib.hid (fun (e : cnt K = false) => show z ≤ i by
      have h1 := HZ.out
      by_cases h2 : z = i + 1
      · rw [h2, Nat.add_sub_cancel, hr, e] at h1; cases h1
      · omega)
    have gw : IntKind.i64.wrap (((i + 1 : Nat) : Int) - 1) = (i : Int) := by
      rw [show ((i + 1 : Nat) : Int) - 1 = (i : Int) by omega]; exact IntWalk.i64_in _ (by omega)
    have gi : (i : Int) < (N : Int) := by omega
    cases q : cnt K with
    | true =>
      rw [q] at hst hcl
      rw [if_pos rfl] at hst
      obtain rfl : T = i + 1 := by rw [← HK2.out]; exact hst
      have HCl := Lib.hid hcl
      clear hcl hst hx hK hr HZ2 H HC HB HK2 HT HN HZ q hm0 hzk hz1 hz2 hz0 gw
      go_wp2_with fail
      refine HCl.out.mono ?_
      rintro e w1 ⟨rfl, rfl⟩
      go_wp2_with fail
      go_ret
      exact ⟨rfl, rfl⟩
    | false =>
      rw [q] at hst hcl
      rw [if_neg (by decide)] at hst
      have HK3 := Lib.hid (show back l i m = T by rw [← HK2.out]; exact hst.symm)
      have hzi := HZ2.out q
      have HCl := Lib.hid hcl
      clear hcl hst hx hK hr HZ2 H HC HB HK2 HT HN HZ q hm0 hzk hz1 hz2 gw
      go_wp2_with fail
      refine HCl.out.mono ?_
      rintro e w1 ⟨rfl, rfl⟩
      go_wp2_with fail
      go_roundw
      case rel => exact ⟨i, by go_num, by omega, hzi, HK3, trivial⟩
      case measure => simp [intOf]
end Go.Proofs.Ytmlpaafclobgcaa

/- Brackets, plainly: the program's token words beside the chapter's; no program text. -/
namespace Go.Proofs.Ytmlpaafclobgcaa.Fl
open Go.Proofs.Ytmlpaafclobgcaa.Ar
set_option linter.unusedVariables false

/-- Behind a THead nothing but blanks and a comment stands on the row. -/
def HeadOk (l : List Tk) : Prop := ∀ i j, raw l i = 18 → i < j → (∀ m, i < m → m < j → raw l m = 3 ∨ raw l m = 4) → raw l j ≠ 2 ∧ raw l j ≠ 19
theorem goW_same (p q : Nat → Bool) : ∀ (f i : Nat), (∀ k, i ≤ k → k ≤ goW q f i → k < i + f → p k = q k) → goW p f i = goW q f i
  | 0, _ => fun _ => rfl
  | f + 1, i => fun h => by
    have hge := goW_ge q f (i + 1)
    have h0 : p i = q i := h i (Nat.le_refl _) (by rw [goW]; split <;> omega) (by omega)
    rw [goW, goW, h0]
    by_cases hq : q i = true
    · rw [if_pos hq, if_pos hq]
      exact goW_same p q f (i + 1) (fun k h1 h2 h3 => h k (by omega) (by rw [goW, if_pos hq]; exact h2) (by omega))
    · rw [if_neg hq, if_neg hq]
theorem goW_all (p : Nat → Bool) : ∀ (f i k : Nat), i ≤ k → k < goW p f i → p k = true
  | 0, i, k => fun h1 h2 => by rw [goW] at h2; omega
  | f + 1, i, k => fun h1 h2 => by
    rw [goW] at h2
    split at h2
    · rename_i hp
      by_cases e : k = i
      · rw [e]; exact hp
      · exact goW_all p f (i + 1) k (by omega) h2
    · omega
/-- The last line of a block text, as the program looks for it. -/
def ptext (l : List Tk) (i : Nat) : Nat :=
  let f := goW (fun j => raw l j == 3 || raw l j == 4) (l.length - (i + 1)) (i + 1)
  let f2 := if kx l f = 1 then f + 1 else f
  let t := goW (fun j => raw l j == 19) (l.length - f2) f2
  if f2 < t then t else i + 1
theorem ptext_is {l : List Tk} {i : Nat} (hi : i < l.length) (hk : raw l i = 18) (hok : HeadOk l) : ptext l i = text l l.length i := by
  unfold ptext text
  dsimp only
  obtain ⟨N, hN⟩ : ∃ N, l.length = N := ⟨_, rfl⟩
  obtain ⟨f, hf⟩ : ∃ f, goW (fun j => raw l j == 3 || raw l j == 4) (N - (i + 1)) (i + 1) = f := ⟨_, rfl⟩
  have f1 := goW_ge (fun j => raw l j == 3 || raw l j == 4) (N - (i + 1)) (i + 1)
  have f2 := goW_le (fun j => raw l j == 3 || raw l j == 4) (N - (i + 1)) (i + 1)
  have f3 := goW_all (fun j => raw l j == 3 || raw l j == 4) (N - (i + 1)) (i + 1)
  have f4 := goW_stop (fun j => raw l j == 3 || raw l j == 4) (N - (i + 1)) (i + 1)
  rw [hf] at f1 f2 f3 f4
  rw [hN] at hi ⊢
  have hmid : ∀ m, i < m → m < f → raw l m = 3 ∨ raw l m = 4 := fun m h1 h2 => by simpa using f3 m (by omega) h2
  obtain ⟨n2, n19⟩ := hok i f hk (by omega) hmid
  have hj : goW (fun j => !cnt (raw l j) && raw l j != 1) (N - (i + 1)) (i + 1) = f := by
    rw [← hf]
    refine goW_same _ _ _ _ (fun k h1 h2 h3 => ?_)
    rw [hf] at h2
    by_cases e : k = f
    · subst e
      have h34 : (raw l k == 3 || raw l k == 4) = false := by
        rcases f4 with h | h
        · omega
        · exact h
      rw [h34]
      simp at h34
      simp [cnt]
      omega
    · rcases hmid k (by omega) (by omega) with h | h <;> rw [h] <;> rfl
  rw [hf, hj]
  have hkx : kx l f = if f < N then raw l f else 21 := by unfold kx; rw [hN]
  have stay : ∀ a, raw l a ≠ 19 → goW (fun j => raw l j == 19) (N - a) a = a := by
    intro a ha
    cases hn : N - a with
    | zero => rfl
    | succ n => rw [goW, if_neg (by simpa using ha)]
  obtain ⟨g, hg⟩ : ∃ g, (if kx l f = 1 then f + 1 else f) = g := ⟨_, rfl⟩
  rw [hg]
  by_cases c1 : N ≤ f
  · have e1 : kx l f ≠ 1 := by rw [hkx, if_neg (by omega)]; decide
    rw [if_neg e1] at hg
    subst hg
    rw [stay f n19, if_neg (Nat.lt_irrefl _), if_pos (.inl c1)]
  by_cases c2 : raw l f = 1
  · rw [if_pos (by rw [hkx, if_pos (by omega)]; exact c2)] at hg
    subst hg
    by_cases c3 : N ≤ f + 1
    · rw [show N - (f + 1) = 0 by omega, goW, if_neg (Nat.lt_irrefl _), if_pos (.inr (.inr (.inl c3)))]
    by_cases c4 : raw l (f + 1) = 19
    · have h9 : ¬ (N ≤ f ∨ raw l f ≠ 1 ∨ N ≤ f + 1 ∨ raw l (f + 1) ≠ 19) := fun h => h.elim c1 (fun h => h.elim (fun h => h c2) (fun h => h.elim c3 (fun h => h c4)))
      rw [if_neg h9]
      have : f + 1 < goW (fun j => raw l j == 19) (N - (f + 1)) (f + 1) := by
        rw [show N - (f + 1) = (N - (f + 1) - 1) + 1 by omega, goW, if_pos (by simpa using c4)]
        have := goW_ge (fun j => raw l j == 19) (N - (f + 1) - 1) (f + 1 + 1)
        omega
      rw [if_pos this]
    · rw [stay (f + 1) c4, if_neg (Nat.lt_irrefl _), if_pos (.inr (.inr (.inr c4)))]
  · have e1 : kx l f ≠ 1 := by rw [hkx, if_pos (by omega)]; exact c2
    rw [if_neg e1] at hg
    subst hg
    rw [stay f n19, if_neg (Nat.lt_irrefl _), if_pos (.inr (.inl c2))]

/-- Where brackets end, from within. -/
def brkAt (l : List Tk) (i j n : Nat) : Nat := match balF l l.length (l.length - j) j n with
  | some r => r
  | none => back l (goW (fun j => kd l l.length j != 0) (l.length - j) j) (i + 1)
theorem brk_start (l : List Tk) (i : Nat) : brkAt l i i 0 = balanced l l.length i := rfl
theorem brk_stop {l : List Tk} {i j n : Nat} (hk : kd l l.length j = 0) : brkAt l i j n = back l j (i + 1) := by
  unfold brkAt
  cases hf : l.length - j with
  | zero => rw [balF, goW]
  | succ f =>
    rw [balF, if_pos hk]
    dsimp only
    rw [goW, if_neg (by simp [hk])]
theorem brk_step {l : List Tk} {i j n : Nat} (hk : kd l l.length j ≠ 0) : brkAt l i j n = if step (kd l l.length j) n = 0 then j + 1 else brkAt l i (j + 1) (step (kd l l.length j) n) := by
  have hj := (kd_lt hk).1
  unfold brkAt
  have hg : goW (fun j => kd l l.length j != 0) (l.length - j) j = goW (fun j => kd l l.length j != 0) (l.length - (j + 1)) (j + 1) := by
    rw [goW_step _ _ _ hj, if_pos (by simpa using hk)]
  rw [hg, show l.length - j = (l.length - (j + 1)) + 1 by omega, balF, if_neg hk]
  by_cases hs : step (kd l l.length j) n = 0
  · rw [if_pos hs, if_pos hs]
  · rw [if_neg hs, if_neg hs]
theorem bal_stray (l : List Tk) (e : Nat) : ∀ (f j n r : Nat), (0 < n ∨ opens (kd l e j) = true) → balF l e f j n = some r → strayF l e f j n = strayF l e (f - (r - j)) r 0
  | 0, j, n, r => fun _ h => by simp [balF] at h
  | f + 1, j, n, r => fun ho h => by
    rw [balF] at h
    split at h
    · simp at h
    · rename_i h0
      have hc : ¬ (n = 0 ∧ (kd l e j = 7 ∨ ends (kd l e j) = true)) := by
        rintro ⟨h1, h2⟩
        rcases ho with h3 | h3
        · omega
        · rcases h2 with h2 | h2
          · rw [h2] at h3; exact absurd h3 (by decide)
          · unfold opens at h3; unfold ends at h2; simp at h2 h3; omega
      rw [strayF, if_neg h0, if_neg hc]
      split at h
      · rename_i h1
        injection h with h
        subst h
        rw [h1, show f + 1 - (j + 1 - j) = f by omega]
      · rename_i h1
        have hr := (balF_in l e f (j + 1) _ r h).1
        rw [bal_stray l e f (j + 1) _ r (.inl (by omega)) h, show f - (r - (j + 1)) = f + 1 - (r - j) by omega]
theorem bal_none (l : List Tk) (e : Nat) : ∀ (f j n : Nat), (0 < n ∨ opens (kd l e j) = true) → balF l e f j n = none → strayF l e f j n = goW (fun j => kd l e j != 0) f j
  | 0, j, n => fun _ _ => rfl
  | f + 1, j, n => fun ho h => by
    rw [balF] at h
    rw [strayF, goW]
    by_cases h0 : kd l e j = 0
    · rw [if_pos h0, if_neg (by simp [h0])]
    · rw [if_neg h0] at h
      have hc : ¬ (n = 0 ∧ (kd l e j = 7 ∨ ends (kd l e j) = true)) := by
        rintro ⟨h1, h2⟩
        rcases ho with h3 | h3
        · omega
        · rcases h2 with h2 | h2
          · rw [h2] at h3; exact absurd h3 (by decide)
          · unfold opens at h3; unfold ends at h2; simp at h2 h3; omega
      rw [if_neg h0, if_neg hc, if_pos (by simpa using h0)]
      split at h
      · cases h
      · rename_i h1
        exact bal_none l e f (j + 1) _ (.inl (by omega)) h
theorem back_idle (l : List Tk) : ∀ (i m k : Nat), back l i m ≤ k → k < i → cnt (raw l k) = false
  | 0, m, k => fun _ h => by omega
  | i + 1, m, k => fun h1 h2 => by
    rw [back] at h1
    split at h1
    · rename_i h3
      by_cases e : k = i
      · rw [e]; exact h3.2
      · exact back_idle l i m k h1 (by omega)
    · omega
/-- Over brackets nothing is lost. -/
theorem stray_bal {l : List Tk} {k : Nat} (ho : opens (kd l l.length k) = true) : strayF l l.length (l.length - balanced l l.length k) (balanced l l.length k) 0 = strayF l l.length (l.length - k) k 0 := by
  obtain ⟨e, he⟩ : ∃ e, l.length = e := ⟨_, rfl⟩
  rw [he] at ho ⊢
  have hb := balanced_in (l := l) (e := e) ho
  have hkd : kd l e k ≠ 0 := fun h => by rw [h] at ho; exact absurd ho (by decide)
  have hk := (kd_lt hkd).1
  unfold balanced at hb ⊢
  cases hr : balF l e (e - k) k 0 with
  | some r =>
    dsimp only
    rw [bal_stray l e (e - k) k 0 r (.inr ho) hr]
    have := balF_in l e _ _ _ _ hr
    rw [show e - k - (r - k) = e - r by omega]
  | none =>
    rw [hr] at hb
    dsimp only at hb ⊢
    rw [bal_none l e (e - k) k 0 (.inr ho) hr]
    obtain ⟨g, hg⟩ : ∃ g, goW (fun j => kd l e j != 0) (e - k) k = g := ⟨_, rfl⟩
    have g1 := goW_le (fun j => kd l e j != 0) (e - k) k
    have g2 := goW_all (fun j => kd l e j != 0) (e - k) k
    have g3 := goW_stop (fun j => kd l e j != 0) (e - k) k
    rw [hg] at g1 g2 g3 hb ⊢
    have h0 : kd l e g = 0 := by
      rcases g3 with h | h
      · unfold kd; rw [if_pos (.inl (by omega))]
      · simpa using h
    have hid := back_idle l g (k + 1)
    obtain ⟨b, hbd⟩ : ∃ b, back l g (k + 1) = b := ⟨_, rfl⟩
    have hbg := back_le l g (k + 1)
    rw [hbd] at hid hb hbg ⊢
    have key : ∀ (f a : Nat), b ≤ a → a ≤ g → g ≤ a + f → strayF l e f a 0 = g := by
      intro f
      induction f with
      | zero => intro a h1 h2 h3; rw [strayF]; omega
      | succ f ih =>
        intro a h1 h2 h3
        by_cases e2 : a = g
        · subst e2; rw [strayF, if_pos h0]
        · have ha : kd l e a ≠ 0 := by simpa using g2 a (by omega) (by omega)
          have hc := hid a h1 (by omega)
          have hr2 := (kd_lt ha).2
          rw [hr2] at hc
          have hc2 : kd l e a = 1 ∨ kd l e a = 2 ∨ kd l e a = 3 ∨ kd l e a = 4 := by unfold cnt at hc; simp at hc; omega
          rw [strayF, if_neg ha, if_neg (by rintro ⟨_, h⟩; rcases hc2 with h4 | h4 | h4 | h4 <;> rw [h4] at h <;> rcases h with h | h <;> exact absurd h (by decide))]
          rw [show step (kd l e a) 0 = 0 by rcases hc2 with h4 | h4 | h4 | h4 <;> rw [h4] <;> rfl]
          exact ih (a + 1) (by omega) (by omega) (by omega)
    exact key (e - b) b (Nat.le_refl _) hbg (by omega)
theorem stray_stop {l : List Tk} {k : Nat} (h : kd l l.length k = 0 ∨ kd l l.length k = 7 ∨ ends (kd l l.length k) = true) : strayF l l.length (l.length - k) k 0 = k := by
  cases hf : l.length - k with
  | zero => rfl
  | succ f =>
    rw [strayF]
    rcases h with h | h
    · rw [if_pos h]
    · by_cases h0 : kd l l.length k = 0
      · rw [if_pos h0]
      · rw [if_neg h0, if_pos ⟨rfl, h⟩]
theorem stray_on {l : List Tk} {k : Nat} (h0 : kd l l.length k ≠ 0) (h7 : kd l l.length k ≠ 7) (he : ends (kd l l.length k) = false) (ho : opens (kd l l.length k) = false) :
    strayF l l.length (l.length - (k + 1)) (k + 1) 0 = strayF l l.length (l.length - k) k 0 := by
  have hk := (kd_lt h0).1
  conv => rhs; rw [show l.length - k = (l.length - (k + 1)) + 1 by omega, strayF, if_neg h0, if_neg (by rw [he]; simp [h7])]
  rw [show step (kd l l.length k) 0 = 0 by unfold step; rw [ho, he]; rfl]
theorem props_fuel (l : List Tk) (e : Nat) : ∀ (f g i : Nat), e ≤ i + f → e ≤ i + g → props l e f i = props l e g i
  | 0, 0, i => fun _ _ => rfl
  | 0, g + 1, i => fun h _ => by
    rw [props, props, if_neg]
    have : kd l e i = 0 := by unfold kd; rw [if_pos (.inl (by omega))]
    rw [this]; decide
  | f + 1, 0, i => fun _ h => by
    rw [props, props, if_neg]
    have : kd l e i = 0 := by unfold kd; rw [if_pos (.inl (by omega))]
    rw [this]; decide
  | f + 1, g + 1, i => fun h1 h2 => by
    rw [props, props]
    by_cases hp : isProp' (kd l e i) = true
    · rw [if_pos hp, if_pos hp]
      have h0 : kd l e i ≠ 0 := fun h => by rw [h] at hp; exact absurd hp (by decide)
      have := trivia_in (l := l) (e := e) (i := i + 1) (kd_lt h0).1
      exact props_fuel l e f g _ (by omega) (by omega)
    · rw [if_neg hp, if_neg hp]
/-- The place of a key's colon, or -1. -/
def colonV (l : List Tk) (i : Nat) : Int := (key l l.length i : Int) - 1
theorem colon_prop {l : List Tk} {i : Nat} (hp : isProp' (kd l l.length i) = true) : colonV l i = colonV l (trivia l l.length (i + 1)) := by
  have h0 : kd l l.length i ≠ 0 := fun h => by rw [h] at hp; exact absurd hp (by decide)
  have hi := (kd_lt h0).1
  have ht := trivia_in (l := l) (e := l.length) (i := i + 1) hi
  unfold colonV key
  rw [show l.length - i = (l.length - (i + 1)) + 1 by omega, props, if_pos hp, props_fuel l l.length (l.length - (i + 1)) (l.length - trivia l l.length (i + 1)) _ (by omega) (by omega)]
theorem colon_scal {l : List Tk} {i : Nat} (hp : isProp' (kd l l.length i) = false) (hs : isScal (kd l l.length i) = true) : colonV l i = if kd l l.length (trivia l l.length (i + 1)) = 6 then (trivia l l.length (i + 1) : Int) else -1 := by
  have hq : props l l.length (l.length - i) i = i := by
    cases hf : l.length - i with
    | zero => rfl
    | succ f => rw [props, if_neg (by simp [hp])]
  unfold colonV key
  dsimp only
  have hb : (if isScal (kd l l.length i) = true then trivia l l.length (i + 1) else i) = trivia l l.length (i + 1) := if_pos hs
  rw [hq, hb]
  by_cases h6 : kd l l.length (trivia l l.length (i + 1)) = 6
  · rw [if_pos h6, if_pos h6]; omega
  · rw [if_neg h6, if_neg h6]; rfl
theorem colon_other {l : List Tk} {i : Nat} (hp : isProp' (kd l l.length i) = false) (hs : isScal (kd l l.length i) = false) : colonV l i = if kd l l.length i = 6 then (i : Int) else -1 := by
  have hq : props l l.length (l.length - i) i = i := by
    cases hf : l.length - i with
    | zero => rfl
    | succ f => rw [props, if_neg (by simp [hp])]
  have hb : (if isScal (kd l l.length i) = true then trivia l l.length (i + 1) else i) = i := if_neg (by simp [hs])
  unfold colonV key
  dsimp only
  rw [hq, hb]
  by_cases h6 : kd l l.length i = 6
  · rw [if_pos h6, if_pos h6]; omega
  · rw [if_neg h6, if_neg h6]; rfl
end Go.Proofs.Ytmlpaafclobgcaa.Fl

/- Package flow: behindTexts, behindBrackets, keyKind. (Written by tools/gen_fk3.py.) -/
namespace Go.Proofs.Ytmlpaafclobgcaa
open Go.RowKit
open Go.Proofs.Ytmlpaafclobgcaa.Sq
open Go.Proofs.Ytmlpaafclobgcaa.Fl (raw kx goW cnt ends opens isScal isProp' begins kd back trivia balanced stray text HeadOk ptext colonV brkAt strayF)
set_option linter.unusedVariables false

/-- What the reader's tokens lie in. -/
structure RT (w : World) (rb : Nat) (v : Value) (l : List Tk) : Prop where
  cell : w.cell? ⟨rb, 0, none⟩ = some v
  reads : Reads encT w v l
  size : l.length ≤ 100000
/-- Tokens as scan hands them: none is without a kind; behind a THead its row's end alone. -/
structure TokOk (l : List Tk) : Prop where
  pos : ∀ i, i < l.length → raw l i ≠ 0
  head : HeadOk l
theorem kx_pos {l : List Tk} (h : TokOk l) (i : Nat) : kx l i ≠ 0 := by
  unfold kx
  split
  · rename_i hi; exact h.pos i hi
  · decide
theorem mk_kd {l : List Tk} (h : TokOk l) {i : Nat} (hi : i ≤ l.length) : Fl.mk (kx l i) = decide (kd l l.length i = 0) := by
  rw [Fl.kd_kx hi]
  unfold Fl.mk
  have h0 := kx_pos h i
  by_cases hm : kx l i = 20 ∨ kx l i = 21
  · rw [if_pos hm]; rcases hm with h | h <;> rw [h] <;> rfl
  · rw [if_neg hm, decide_eq_false h0]; simp; omega
theorem kx_kd {l : List Tk} {i : Nat} (hi : i ≤ l.length) (h : kd l l.length i ≠ 0) : kx l i = kd l l.length i := by
  have := Fl.kd_kx hi
  rw [this] at h ⊢
  split at h
  · exact absurd rfl h
  · rename_i h2; rw [if_neg h2]
section
variable {rb : Nat} {v : Value} {l : List Tk} {w : World}
theorem RT.kind (h : RT w rb v l) (i : Nat) (hi : i ≤ l.length) : Calls Try.prog 43 #[RP rb, .int .i64 i] w fun e w' => e = .returned (.int .i64 (kx l i : Nat)) ∧ w = w' := fKind rb v l i w h.cell h.reads hi h.size
theorem RT.idle (h : RT w rb v l) (i : Nat) (hi : i ≤ l.length) : Calls Try.prog 41 #[RP rb, .int .i64 i, .func (.func 63) #[] #[]] w fun e w' => e = .returned (.int .i64 (trivia l l.length i : Nat)) ∧ w = w' := fPastIdle rb v l i w h.cell h.reads hi h.size
theorem RT.blank (h : RT w rb v l) (i : Nat) (hi : i ≤ l.length) : Calls Try.prog 41 #[RP rb, .int .i64 i, .func (.func 42) #[] #[]] w fun e w' => e = .returned (.int .i64 (Fl.blanks l l.length i : Nat)) ∧ w = w' := fPastBlank rb v l i w h.cell h.reads hi h.size
theorem RT.counted (h : RT w rb v l) (p m : Nat) (hp : p ≤ l.length) (hm0 : 0 < m) (hmp : m ≤ p) (hm : ∃ z, m ≤ z ∧ z ≤ p ∧ cnt (raw l (z - 1)) = true) :
    Calls Try.prog 61 #[RP rb, .int .i64 p] w fun e w' => e = .returned (.int .i64 (back l p m : Nat)) ∧ w = w' := fCounted rb v l p m w h.cell h.reads hp h.size hm0 hmp hm
end
set_option maxHeartbeats 2000000 in
set_option maxRecDepth 100000 in
theorem fTexts (rb : Nat) (v : Value) (l : List Tk) (i : Nat) (w : World) (hR : RT w rb v l) (hT : TokOk l) (hi : i < l.length) (hk : raw l i = 18) :
    Calls Try.prog 45 #[RP rb, .int .i64 i] w fun e w' => e = .returned (.int .i64 (text l l.length i : Nat)) ∧ w = w' := by
  have hpt := Fl.ptext_is hi hk hT.head
  rw [← hpt]
  unfold ptext
  dsimp only
  have hP1 := fPastRest rb v l (i + 1) w hR.cell hR.reads (by omega) hR.size
  have hge := Fl.goW_ge (fun j => raw l j == 3 || raw l j == 4) (l.length - (i + 1)) (i + 1)
  have hle := Fl.goW_le (fun j => raw l j == 3 || raw l j == 4) (l.length - (i + 1)) (i + 1)
  obtain ⟨f, hf⟩ : ∃ f, goW (fun j => raw l j == 3 || raw l j == 4) (l.length - (i + 1)) (i + 1) = f := ⟨_, rfl⟩
  rw [hf] at hP1 hge hle ⊢
  have hK := hR.kind f (by omega)
  have hP2 := fun p hp => fPastText rb v l p w hR.cell hR.reads hp hR.size
  have hs := hR.size
  have hkl : kx l f = 1 → f < l.length := fun h => by
    unfold kx at h
    split at h
    · assumption
    · cases h
  obtain ⟨K, hKd⟩ : ∃ K, kx l f = K := ⟨_, rfl⟩
  rw [hKd] at hK hkl ⊢
  have hfl : f ≤ l.length := by omega
  rw [show ((i + 1 : Nat) : Int) = (i : Int) + 1 from by omega] at hP1
  have HP1 := Lib.hid hP1
  have HK := Lib.hid hK
  by_cases q : K = 1
  · subst q
    have hlt := hkl rfl
    rw [if_pos rfl]
    have hp2 := hP2 (f + 1) (by omega)
    obtain ⟨t, ht⟩ : ∃ t, goW (fun j => raw l j == 19) (l.length - (f + 1)) (f + 1) = t := ⟨_, rfl⟩
    rw [ht] at hp2 ⊢
    rw [show ((f + 1 : Nat) : Int) = (f : Int) + 1 from by omega] at hp2
    have HP2 := Lib.hid hp2
    obtain ⟨N, hN⟩ : ∃ N, l.length = N := ⟨_, rfl⟩
    rw [hN] at hi hlt hs
    by_cases c : f + 1 < t
    · rw [if_pos c]
      have g : (f : Int) + 1 < (t : Int) := by omega
      clear hT hpt hP1 hge hle hf hP2 hK hKd hkl hfl hp2 ht hk hR c hN
      go_enter Try.func45, Try.ntmps45
      go_wp2_with fail
      refine HP1.out.mono ?_
      rintro e w1 ⟨rfl, rfl⟩
      go_wp2_with fail
      refine HK.out.mono ?_
      rintro e w1 ⟨rfl, rfl⟩
      go_wp2_with fail
      refine HP2.out.mono ?_
      rintro e w1 ⟨rfl, rfl⟩
      go_wp2_with fail
      go_ret
      exact ⟨rfl, rfl⟩
    · rw [if_neg c]
      have g : ¬ (f : Int) + 1 < (t : Int) := by omega
      clear hT hpt hP1 hge hle hf hP2 hK hKd hkl hfl hp2 ht hk hR c hN
      go_enter Try.func45, Try.ntmps45
      go_wp2_with fail
      refine HP1.out.mono ?_
      rintro e w1 ⟨rfl, rfl⟩
      go_wp2_with fail
      refine HK.out.mono ?_
      rintro e w1 ⟨rfl, rfl⟩
      go_wp2_with fail
      refine HP2.out.mono ?_
      rintro e w1 ⟨rfl, rfl⟩
      go_wp2_with fail
      go_ret
      exact ⟨by go_num, rfl⟩
  · rw [if_neg q]
    have hp2 := hP2 f hfl
    obtain ⟨t, ht⟩ : ∃ t, goW (fun j => raw l j == 19) (l.length - f) f = t := ⟨_, rfl⟩
    rw [ht] at hp2 ⊢
    have HP2 := Lib.hid hp2
    have gk : ((K : Int) == 1) = false := by simp; omega
    obtain ⟨N, hN⟩ : ∃ N, l.length = N := ⟨_, rfl⟩
    rw [hN] at hi hs
    by_cases c : f < t
    · rw [if_pos c]
      have g : (f : Int) < (t : Int) := by omega
      clear hT hpt hP1 hge hle hf hP2 hK hKd hkl hfl hp2 ht hk hR c q hN
      go_enter Try.func45, Try.ntmps45
      go_wp2_with fail
      refine HP1.out.mono ?_
      rintro e w1 ⟨rfl, rfl⟩
      go_wp2_with fail
      refine HK.out.mono ?_
      rintro e w1 ⟨rfl, rfl⟩
      go_wp2_with fail
      refine HP2.out.mono ?_
      rintro e w1 ⟨rfl, rfl⟩
      go_wp2_with fail
      go_ret
      exact ⟨rfl, rfl⟩
    · rw [if_neg c]
      have g : ¬ (f : Int) < (t : Int) := by omega
      clear hT hpt hP1 hge hle hf hP2 hK hKd hkl hfl hp2 ht hk hR c q hN
      go_enter Try.func45, Try.ntmps45
      go_wp2_with fail
      refine HP1.out.mono ?_
      rintro e w1 ⟨rfl, rfl⟩
      go_wp2_with fail
      refine HK.out.mono ?_
      rintro e w1 ⟨rfl, rfl⟩
      go_wp2_with fail
      refine HP2.out.mono ?_
      rintro e w1 ⟨rfl, rfl⟩
      go_wp2_with fail
      go_ret
      exact ⟨by go_num, rfl⟩
set_option maxHeartbeats 4000000 in
set_option maxRecDepth 100000 in
theorem fBrackets (rb : Nat) (v : Value) (l : List Tk) (i : Nat) (w : World) (hR : RT w rb v l) (hT : TokOk l) (ho : opens (kd l l.length i) = true) :
    Calls Try.prog 47 #[RP rb, .int .i64 i] w fun e w' => e = .returned (.int .i64 (balanced l l.length i : Nat)) ∧ w = w' := by
  have hkd : kd l l.length i ≠ 0 := fun h => by rw [h] at ho; exact absurd ho (by decide)
  have hi := Fl.kd_lt hkd
  have hcnt : cnt (raw l i) = true := by rw [hi.2]; exact Fl.cnt_open ho
  have HK := Lib.hid (fun j (hj : j ≤ l.length) => hR.kind j hj)
  have HM := Lib.hid (fun k => fMark k w)
  have HMk := Lib.hid (fun j (hj : j ≤ l.length) => mk_kd hT hj)
  have HKx := Lib.hid (fun j (hj : j ≤ l.length) (h : kd l l.length j ≠ 0) => kx_kd hj h)
  have HCt := Lib.hid (fun j (hj : j ≤ l.length) (hij : i < j) => hR.counted j (i + 1) hj (by omega) (by omega) ⟨i + 1, by omega, by omega, by rw [Nat.add_sub_cancel]; exact hcnt⟩)
  have HSp := Lib.hid (fun j n (h : kd l l.length j = 0) => Fl.brk_stop (i := i) (n := n) h)
  have HSt := Lib.hid (fun j n (h : kd l l.length j ≠ 0) => Fl.brk_step (i := i) (n := n) h)
  have HLt := Lib.hid (fun j (h : kd l l.length j ≠ 0) => (Fl.kd_lt h).1)
  have HI := Lib.hid hkd
  have HO := Lib.hid ho
  rw [← Fl.brk_start]
  obtain ⟨T, hTd⟩ : ∃ T, brkAt l i i 0 = T := ⟨_, rfl⟩
  rw [hTd]
  have HT0 := Lib.hid hTd
  have hs := hR.size
  have hil := hi.1
  obtain ⟨N, hN⟩ : ∃ N, l.length = N := ⟨_, rfl⟩
  rw [hN] at HK HMk HKx HCt HSp HSt HLt HI HO hs hil
  clear hR hT ho hkd hi hcnt hTd hN
  go_enter Try.func47, Try.ntmps47
  go_wp2_with fail
  go_loopw [1, 5] (fun iv nv wr => ∃ j n : Nat, iv = .int .i64 j ∧ nv = .int .i64 n ∧ i ≤ j ∧ j ≤ N ∧ n ≤ j ∧ (i < j → 0 < n) ∧ Hid (brkAt l i j n = T) ∧ w = wr) (fun iv _ _ => N - (intOf iv).toNat)
  case atStart => exact ⟨i, 0, rfl, rfl, Nat.le_refl _, by omega, by omega, fun h => absurd h (Nat.lt_irrefl _), HT0, rfl⟩
  case round =>
    obtain ⟨j, n, rfl, rfl, hij, hjN, hnj, hn0, HB, rfl⟩ := hrel
    have hcall := HK.out j hjN
    have hmc := HM.out (kx l j)
    rw [HMk.out j hjN] at hmc
    by_cases hz : kd l N j = 0
    · have hlt : i < j := by
        by_cases e : j = i
        · subst e; exact absurd hz HI.out
        · omega
      rw [decide_eq_true hz] at hmc
      have hct := HCt.out j hjN hlt
      have hB := HB.out
      rw [HSp.out j n hz] at hB
      rw [hB] at hct
      obtain ⟨K, hK⟩ : ∃ K, kx l j = K := ⟨_, rfl⟩
      rw [hK] at hcall hmc
      have H1 := Lib.hid hcall
      have H2 := Lib.hid hmc
      have H3 := Lib.hid hct
      clear hcall hmc hct hB HK HM HMk HKx HCt HSp HSt HLt HI HO HB HT0 hK hz hn0
      go_wp2_with fail
      refine H1.out.mono ?_
      rintro e w1 ⟨rfl, rfl⟩
      go_wp2_with fail
      refine H2.out.mono ?_
      rintro e w1 ⟨rfl, rfl⟩
      go_wp2_with fail
      refine H3.out.mono ?_
      rintro e w1 ⟨rfl, rfl⟩
      go_wp2_with fail
      go_ret
      exact ⟨rfl, rfl⟩
    · rw [decide_eq_false hz] at hmc
      have hkx := HKx.out j hjN hz
      have hst := HSt.out j n hz
      have hjl := HLt.out j hz
      rw [hkx] at hcall hmc
      have hone : j = i → opens (kd l N j) = true := fun e => by rw [e]; exact HO.out
      obtain ⟨K, hK⟩ : ∃ K, kd l N j = K := ⟨_, rfl⟩
      rw [hK] at hcall hmc hst hone
      rw [HB.out] at hst
      have H1 := Lib.hid hcall
      have H2 := Lib.hid hmc
      clear hcall hmc HK HM HMk HKx HCt HSp HSt HLt HI HO HB HT0 hK hz hkx
      by_cases q8 : K = 8
      · subst q8
        rw [show Fl.step 8 n = n + 1 from rfl, if_neg (by omega)] at hst
        have HB2 := Lib.hid hst.symm
        have g0 : ((n : Int) + 1 == 0) = false := by simp; omega
        clear hst hone hn0
        go_wp2_with fail
        refine H1.out.mono ?_
        rintro e w1 ⟨rfl, rfl⟩
        go_wp2_with fail
        refine H2.out.mono ?_
        rintro e w1 ⟨rfl, rfl⟩
        go_wp2_with fail
        refine H1.out.mono ?_
        rintro e w1 ⟨rfl, rfl⟩
        go_wp2_with fail
        go_roundw
        case rel => exact ⟨j + 1, n + 1, by go_num, by go_num, by omega, by omega, by omega, fun _ => by omega, HB2, trivial⟩
        case measure => simp [intOf]; omega
      have g8 : ((K : Int) == 8) = false := by simp; omega
      by_cases q9 : K = 9
      · subst q9
        rw [show Fl.step 9 n = n + 1 from rfl, if_neg (by omega)] at hst
        have HB2 := Lib.hid hst.symm
        have g0 : ((n : Int) + 1 == 0) = false := by simp; omega
        clear hst hone hn0
        go_wp2_with fail
        refine H1.out.mono ?_
        rintro e w1 ⟨rfl, rfl⟩
        go_wp2_with fail
        refine H2.out.mono ?_
        rintro e w1 ⟨rfl, rfl⟩
        go_wp2_with fail
        refine H1.out.mono ?_
        rintro e w1 ⟨rfl, rfl⟩
        go_wp2_with fail
        go_roundw
        case rel => exact ⟨j + 1, n + 1, by go_num, by go_num, by omega, by omega, by omega, fun _ => by omega, HB2, trivial⟩
        case measure => simp [intOf]; omega
      have g9 : ((K : Int) == 9) = false := by simp; omega
      have hni : 0 < n := by
        refine hn0 ?_
        by_cases e : j = i
        · have := hone e; unfold opens at this; simp at this; omega
        · omega
      by_cases q10 : K = 10 ∨ K = 11
      · have hsn : Fl.step K n = n - 1 := by rcases q10 with rfl | rfl <;> rfl
        rw [hsn] at hst
        by_cases hn1 : n - 1 = 0
        · obtain rfl : n = 1 := by omega
          rw [if_pos hn1] at hst
          subst hst
          clear hone hn0 hsn hn1
          rcases q10 with rfl | rfl
          all_goals
            go_wp2_with fail
            refine H1.out.mono ?_
            rintro e w1 ⟨rfl, rfl⟩
            go_wp2_with fail
            refine H2.out.mono ?_
            rintro e w1 ⟨rfl, rfl⟩
            go_wp2_with fail
            refine H1.out.mono ?_
            rintro e w1 ⟨rfl, rfl⟩
            go_wp2_with fail
            go_ret
            exact ⟨by go_num, rfl⟩
        · rw [if_neg hn1] at hst
          have HB2 := Lib.hid hst.symm
          obtain ⟨m, rfl⟩ : ∃ m, n = m + 1 := ⟨n - 1, by omega⟩
          have hm0 : 0 < m := by omega
          have g0 : ((m : Int) == 0) = false := by simp; omega
          have g1 : (((m + 1 : Nat) : Int) - 1 == 0) = false := by simp; omega
          have gw : wrap64 (((m + 1 : Nat) : Int) - 1) = (m : Int) := by
            rw [show ((m + 1 : Nat) : Int) - 1 = (m : Int) by omega]; exact IntWalk.wrap64_in _ (by omega)
          rw [Nat.add_sub_cancel] at HB2
          clear hst hone hn0 hsn hn1
          rcases q10 with rfl | rfl
          all_goals
            go_wp2_with fail
            refine H1.out.mono ?_
            rintro e w1 ⟨rfl, rfl⟩
            go_wp2_with fail
            refine H2.out.mono ?_
            rintro e w1 ⟨rfl, rfl⟩
            go_wp2_with fail
            refine H1.out.mono ?_
            rintro e w1 ⟨rfl, rfl⟩
            go_wp2_with fail
            go_roundw
            case rel => exact ⟨j + 1, m, by go_num, by first | go_num | rw [gw], by omega, by omega, by omega, fun _ => by omega, HB2, trivial⟩
            case measure => simp [intOf]; omega
      · have hsn : Fl.step K n = n := by
          unfold Fl.step opens ends
          rw [if_neg (by simp; omega), if_neg (by simp; omega)]
        rw [hsn, if_neg (by omega)] at hst
        have HB2 := Lib.hid hst.symm
        have g10 : ((K : Int) == 10) = false := by simp; omega
        have g11 : ((K : Int) == 11) = false := by simp; omega
        have g0 : ((n : Int) == 0) = false := by simp; omega
        clear hst hone hn0 hsn q8 q9 q10
        go_wp2_with fail
        refine H1.out.mono ?_
        rintro e w1 ⟨rfl, rfl⟩
        go_wp2_with fail
        refine H2.out.mono ?_
        rintro e w1 ⟨rfl, rfl⟩
        go_wp2_with fail
        refine H1.out.mono ?_
        rintro e w1 ⟨rfl, rfl⟩
        go_wp2_with fail
        go_roundw
        case rel => exact ⟨j + 1, n, by go_num, rfl, by omega, by omega, by omega, fun _ => by omega, HB2, trivial⟩
        case measure => simp [intOf]; omega
end Go.Proofs.Ytmlpaafclobgcaa

/- Package flow: behindOthers, colon (labels). (Written by tools/gen_fk3.py.) -/
namespace Go.Proofs.Ytmlpaafclobgcaa
open Go.RowKit
open Go.Proofs.Ytmlpaafclobgcaa.Sq
open Go.Proofs.Ytmlpaafclobgcaa.Fl (raw kx goW cnt ends opens isScal isProp' begins kd back trivia balanced stray text HeadOk ptext colonV brkAt strayF)
set_option linter.unusedVariables false

set_option maxHeartbeats 4000000 in
set_option maxRecDepth 100000 in
theorem fOthers (rb : Nat) (v : Value) (l : List Tk) (i : Nat) (w : World) (hR : RT w rb v l) (hT : TokOk l) (h0 : kd l l.length i ≠ 0) (hc : cnt (raw l i) = true) (h7 : kd l l.length i ≠ 7) (he : ends (kd l l.length i) = false) :
    Calls Try.prog 65 #[RP rb, .int .i64 i] w fun e w' => e = .returned (.int .i64 (stray l l.length i : Nat)) ∧ w = w' := by
  have hi := (Fl.kd_lt h0).1
  have hfirst : ∀ k, k = i → ¬ (kd l l.length k = 0 ∨ kd l l.length k = 7 ∨ ends (kd l l.length k) = true) := fun k e h => by
    subst e
    rcases h with h | h | h
    · exact h0 h
    · exact h7 h
    · rw [he] at h; cases h
  have HK := Lib.hid (fun j (hj : j ≤ l.length) => hR.kind j hj)
  have HM := Lib.hid (fun k => fMark k w)
  have HE := Lib.hid (fun k => fEnd k w)
  have HMk := Lib.hid (fun j (hj : j ≤ l.length) => mk_kd hT hj)
  have HKx := Lib.hid (fun j (hj : j ≤ l.length) (h : kd l l.length j ≠ 0) => kx_kd hj h)
  have HKz := Lib.hid (fun j (hj : j ≤ l.length) (h : kd l l.length j = 0) => show kx l j = 20 ∨ kx l j = 21 by
    have h1 := mk_kd hT hj
    rw [decide_eq_true h] at h1
    unfold Fl.mk at h1
    simpa using h1)
  have HBr := Lib.hid (fun j (h : opens (kd l l.length j) = true) => fBrackets rb v l j w hR hT h)
  have HBi := Lib.hid (fun j (h : opens (kd l l.length j) = true) => Fl.balanced_in h)
  have HCt := Lib.hid (fun j (hj : j ≤ l.length) (hij : i < j) => hR.counted j (i + 1) hj (by omega) (by omega) ⟨i + 1, by omega, by omega, by rw [Nat.add_sub_cancel]; exact hc⟩)
  have HSp := Lib.hid (fun j (h : kd l l.length j = 0 ∨ kd l l.length j = 7 ∨ ends (kd l l.length j) = true) => Fl.stray_stop h)
  have HSb := Lib.hid (fun j (h : opens (kd l l.length j) = true) => Fl.stray_bal h)
  have HSo := Lib.hid (fun j h0 h7 he ho => Fl.stray_on (l := l) (k := j) h0 h7 he ho)
  have HLt := Lib.hid (fun j (h : kd l l.length j ≠ 0) => (Fl.kd_lt h).1)
  have HF := Lib.hid hfirst
  unfold stray
  obtain ⟨G, hG⟩ : ∃ G, strayF l l.length (l.length - i) i 0 = G := ⟨_, rfl⟩
  rw [hG]
  have HG := Lib.hid hG
  have hs := hR.size
  obtain ⟨N, hN⟩ : ∃ N, l.length = N := ⟨_, rfl⟩
  rw [hN] at HK HMk HKx HKz HBr HBi HCt HSp HSb HSo HLt HF HG hs hi
  clear hR hT hc h0 h7 he hG hN hfirst
  go_enter Try.func65, Try.ntmps65
  go_wp2_with fail
  go_step3
  go_wp2_with fail
  go_step3
  go_wp2_with fail
  go_loopw [1] (fun iv wr => ∃ j : Nat, iv = .int .i64 j ∧ i ≤ j ∧ j ≤ N ∧ Hid (strayF l N (N - j) j 0 = G) ∧ w = wr) (fun iv _ => N - (intOf iv).toNat)
  case atStart => exact ⟨i, rfl, Nat.le_refl _, by omega, HG, rfl⟩
  case round =>
    obtain ⟨j, rfl, hij, hjN, HB, rfl⟩ := hrel
    have hcall := HK.out j hjN
    have hme := HE.out (kx l j)
    have hmm := HM.out (kx l j)
    rw [HMk.out j hjN] at hmm
    by_cases hst : kd l N j = 0 ∨ kd l N j = 7 ∨ ends (kd l N j) = true
    · have hlt : i < j := by
        by_cases e : j = i
        · exact absurd hst (HF.out j e)
        · omega
      have hgj : G = j := by rw [← HB.out]; exact HSp.out j hst
      subst hgj
      have H3 := Lib.hid (HCt.out G hjN hlt)
      have hall : (kx l G = 7) ∨ (kx l G ≠ 7 ∧ ends (kx l G) = true) ∨ (kx l G ≠ 7 ∧ ends (kx l G) = false ∧ kd l N G = 0) := by
        by_cases hz : kd l N G = 0
        · rcases HKz.out G hjN hz with h | h <;> rw [h] <;> exact .inr (.inr ⟨by decide, rfl, hz⟩)
        · rw [HKx.out G hjN hz]
          rcases hst with h | h | h
          · exact absurd h hz
          · exact .inl h
          · exact .inr (.inl ⟨fun h2 => by rw [h2] at h; exact absurd h (by decide), h⟩)
      obtain ⟨K, hK⟩ : ∃ K, kx l G = K := ⟨_, rfl⟩
      rw [hK] at hcall hme hmm hall
      have H1 := Lib.hid hcall
      clear hcall HK HM HE HMk HKx HKz HBr HBi HCt HSp HSb HSo HLt HF HG HB hK hst
      rcases hall with rfl | ⟨q7, qe⟩ | ⟨q7, qe, qz⟩
      · clear hme hmm
        go_wp2_with fail
        refine H1.out.mono ?_
        rintro e w1 ⟨rfl, rfl⟩
        go_wp2_with fail
        refine H3.out.mono ?_
        rintro e w1 ⟨rfl, rfl⟩
        go_wp2_with fail
        rw [Exit.noGoto_ret]
        go_ret
        exact ⟨rfl, rfl⟩
      · have g7 : ((K : Int) == 7) = false := by simp; omega
        rw [qe] at hme
        have H2 := Lib.hid hme
        clear hme hmm q7 qe
        go_wp2_with fail
        refine H1.out.mono ?_
        rintro e w1 ⟨rfl, rfl⟩
        go_wp2_with fail
        refine H2.out.mono ?_
        rintro e w1 ⟨rfl, rfl⟩
        go_wp2_with fail
        refine H3.out.mono ?_
        rintro e w1 ⟨rfl, rfl⟩
        go_wp2_with fail
        rw [Exit.noGoto_ret]
        go_ret
        exact ⟨rfl, rfl⟩
      · have g7 : ((K : Int) == 7) = false := by simp; omega
        rw [qe] at hme
        rw [decide_eq_true qz] at hmm
        have H2 := Lib.hid hme
        have H4 := Lib.hid hmm
        clear hme hmm q7 qe qz
        go_wp2_with fail
        refine H1.out.mono ?_
        rintro e w1 ⟨rfl, rfl⟩
        go_wp2_with fail
        refine H2.out.mono ?_
        rintro e w1 ⟨rfl, rfl⟩
        go_wp2_with fail
        refine H4.out.mono ?_
        rintro e w1 ⟨rfl, rfl⟩
        go_wp2_with fail
        refine H3.out.mono ?_
        rintro e w1 ⟨rfl, rfl⟩
        go_wp2_with fail
        rw [Exit.noGoto_ret]
        go_ret
        exact ⟨rfl, rfl⟩
    · have hz : kd l N j ≠ 0 := fun h => hst (.inl h)
      have k7 : kd l N j ≠ 7 := fun h => hst (.inr (.inl h))
      have ke : ends (kd l N j) = false := by
        cases h : ends (kd l N j) with
        | true => exact absurd (.inr (.inr h)) hst
        | false => rfl
      rw [decide_eq_false hz] at hmm
      have hkx := HKx.out j hjN hz
      have hjl := HLt.out j hz
      rw [hkx] at hcall hme
      rw [ke] at hme
      have hbr := HBr.out j
      have hbi := HBi.out j
      have hsb := HSb.out j
      have hso := HSo.out j hz k7 ke
      rw [HB.out] at hsb hso
      obtain ⟨K, hK⟩ : ∃ K, kd l N j = K := ⟨_, rfl⟩
      rw [hkx] at hmm
      rw [hK] at hcall hme hmm k7 hbr hbi hsb hso
      have g7 : ((K : Int) == 7) = false := by simp; omega
      have H1 := Lib.hid hcall
      have H2 := Lib.hid hme
      have H4 := Lib.hid hmm
      clear hcall hme hmm HK HM HE HMk HKx HKz HBr HBi HCt HSp HSb HSo HLt HF HG HB hst hz ke hkx
      by_cases q8 : K = 8 ∨ K = 9
      · have ho : opens K = true := by rcases q8 with rfl | rfl <;> rfl
        have H5 := Lib.hid (hbr ho)
        have hbi2 := hbi ho
        have HB2 := Lib.hid (hsb ho)
        obtain ⟨b, hb⟩ : ∃ b, balanced l N j = b := ⟨_, rfl⟩
        rw [hb] at H5 hbi2 HB2
        have hb1 := hbi2.1
        have hb2 := hbi2.2.1
        clear hbr hbi hsb hso hbi2 hb ho hK k7
        rcases q8 with rfl | rfl
        all_goals
          go_wp2_with fail
          refine H1.out.mono ?_
          rintro e w1 ⟨rfl, rfl⟩
          go_wp2_with fail
          refine H2.out.mono ?_
          rintro e w1 ⟨rfl, rfl⟩
          go_wp2_with fail
          refine H4.out.mono ?_
          rintro e w1 ⟨rfl, rfl⟩
          go_wp2_with fail
          refine H5.out.mono ?_
          rintro e w1 ⟨rfl, rfl⟩
          go_wp2_with fail
          go_roundw
          case rel => exact ⟨b, rfl, by omega, hb2, HB2, trivial⟩
          case measure => simp [intOf]; omega
      · have ho : opens K = false := by unfold opens; simp; omega
        have HB2 := Lib.hid (hso ho)
        have g8 : ((K : Int) == 8) = false := by simp; omega
        have g9 : ((K : Int) == 9) = false := by simp; omega
        clear hbr hbi hsb hso ho hK k7 q8
        go_wp2_with fail
        refine H1.out.mono ?_
        rintro e w1 ⟨rfl, rfl⟩
        go_wp2_with fail
        refine H2.out.mono ?_
        rintro e w1 ⟨rfl, rfl⟩
        go_wp2_with fail
        refine H4.out.mono ?_
        rintro e w1 ⟨rfl, rfl⟩
        go_wp2_with fail
        go_roundw
        case rel => exact ⟨j + 1, by go_num, by omega, by omega, HB2, trivial⟩
        case measure => simp [intOf]; omega
set_option maxHeartbeats 16000000 in
set_option maxRecDepth 100000 in
theorem fColon (rb : Nat) (v : Value) (l : List Tk) (p0 : Nat) (w : World) (hR : RT w rb v l) (hT : TokOk l) (hp0 : p0 ≤ l.length) :
    Calls Try.prog 70 #[RP rb, .int .i64 p0] w fun e w' => e = .returned (.int .i64 (colonV l p0)) ∧ w = w' := by
  have HK := Lib.hid (fun j (hj : j ≤ l.length) => hR.kind j hj)
  have HI := Lib.hid (fun j (hj : j ≤ l.length) => hR.idle j hj)
  have HTi := Lib.hid (fun j (hj : j ≤ l.length) => Fl.trivia_in (l := l) (e := l.length) hj)
  have HKK := Lib.hid (fun j (hj : j ≤ l.length) => show (kx l j ≠ 21 → j < l.length) ∧ (kx l j ≠ 20 → kx l j ≠ 21 → kd l l.length j = kx l j) ∧ (kx l j = 20 ∨ kx l j = 21 → kd l l.length j = 0) by
    refine ⟨fun h => ?_, fun h1 h2 => ?_, fun h => ?_⟩
    · unfold kx at h
      split at h
      · assumption
      · exact absurd rfl h
    · rw [Fl.kd_kx hj, if_neg (fun h => h.elim h1 h2)]
    · rw [Fl.kd_kx hj, if_pos h])
  have HCp := Lib.hid (fun i h => Fl.colon_prop (l := l) (i := i) h)
  have HCs := Lib.hid (fun i h h2 => Fl.colon_scal (l := l) (i := i) h h2)
  have HCo := Lib.hid (fun i h h2 => Fl.colon_other (l := l) (i := i) h h2)
  obtain ⟨V, hV⟩ : ∃ V, colonV l p0 = V := ⟨_, rfl⟩
  rw [hV]
  have HV0 := Lib.hid hV
  have hs := hR.size
  obtain ⟨N, hN⟩ : ∃ N, l.length = N := ⟨_, rfl⟩
  rw [hN] at hs hp0 HK HI HTi HKK HCp HCs HCo
  clear hN hV hR hT
  go_enter Try.func70, Try.ntmps70
  go_wp2
  refine wp_scope_jumps 0 (fun a' w' => w' = w ∧ ∃ (p : Nat) (u5 u6 u7 u8 u9 u10 u11 u12 u13 u14 u15 u16 u17 u18 u19 u20 u21 u22 u23 u24 u25 u26 u27 u28 : Value), a' = { tmps := #[RP rb, .int .i64 p, undef, undef, .int .i64 0, u5, u6, u7, u8, u9, u10, u11, u12, u13, u14, u15, u16, u17, u18, u19, u20, u21, u22, u23, u24, u25, u26, u27, u28], defers := [] } ∧ p ≤ N ∧ Hid (colonV l p = V)) (fun a' _ => N - (intOf (a'.tmps.getD 1 undef)).toNat) rfl ?_ ?_
  · obtain ⟨p, hpe⟩ : ∃ p, p0 = p := ⟨_, rfl⟩
    rw [hpe] at hp0 HV0 ⊢
    have hp := hp0
    have HV := HV0
    clear hp0 HV0 hpe
    have hcall := HK.out p hp
    have hkk := HKK.out p hp
    obtain ⟨K, hK⟩ : ∃ K, kx l p = K := ⟨_, rfl⟩
    rw [hK] at hcall hkk
    have H1 := Lib.hid hcall
    have hV := HV.out
    have hpl : K = 12 ∨ K = 14 ∨ K = 15 ∨ K = 16 ∨ K = 17 ∨ K = 13 → p < N := fun h => hkk.1 (by omega)
    clear hcall HV
    by_cases q12 : K = 12
    · subst q12
      have hkd : kd l N p = 12 := hkk.2.1 (by decide) (by decide)
      have hpN := hpl (by omega)
      have H2 := Lib.hid (HI.out (p + 1) (by omega))
      have hin := HTi.out (p + 1) (by omega)
      have hcp := HCp.out p (by rw [hkd]; rfl)
      obtain ⟨t, ht⟩ : ∃ t, trivia l N (p + 1) = t := ⟨_, rfl⟩
      rw [ht] at H2 hin hcp
      have HJ := Lib.hid (hcp.symm.trans hV)
      rw [show ((p + 1 : Nat) : Int) = (p : Int) + 1 from by omega] at H2
      clear HK HKK HI HTi HCp HCs HCo hkk hV hkd hcp ht hK hpl
      go_wp2_with fail
      go_step3
      go_wp2_with fail
      refine H1.out.mono ?_
      rintro e w1 ⟨rfl, rfl⟩
      go_wp2_with fail
      refine H2.out.mono ?_
      rintro e w1 ⟨rfl, rfl⟩
      go_wp2_with fail
      go_step3
      refine ⟨rfl, rfl, t, _, _, _, _, _, _, _, _, _, _, _, _, _, _, _, _, _, _, _, _, _, _, _, _, rfl, by omega, HJ⟩
    have g12 : ((K : Int) == 12) = false := by simp; omega
    by_cases q14 : K = 14
    · subst q14
      have hkd : kd l N p = 14 := hkk.2.1 (by decide) (by decide)
      have hpN := hpl (by omega)
      have H2 := Lib.hid (HI.out (p + 1) (by omega))
      have hin := HTi.out (p + 1) (by omega)
      have hcp := HCp.out p (by rw [hkd]; rfl)
      obtain ⟨t, ht⟩ : ∃ t, trivia l N (p + 1) = t := ⟨_, rfl⟩
      rw [ht] at H2 hin hcp
      have HJ := Lib.hid (hcp.symm.trans hV)
      rw [show ((p + 1 : Nat) : Int) = (p : Int) + 1 from by omega] at H2
      clear HK HKK HI HTi HCp HCs HCo hkk hV hkd hcp ht hK hpl
      go_wp2_with fail
      go_step3
      go_wp2_with fail
      refine H1.out.mono ?_
      rintro e w1 ⟨rfl, rfl⟩
      go_wp2_with fail
      refine H2.out.mono ?_
      rintro e w1 ⟨rfl, rfl⟩
      go_wp2_with fail
      go_step3
      refine ⟨rfl, rfl, t, _, _, _, _, _, _, _, _, _, _, _, _, _, _, _, _, _, _, _, _, _, _, _, _, rfl, by omega, HJ⟩
    have g14 : ((K : Int) == 14) = false := by simp; omega
    have hnp : isProp' (kd l N p) = false := by
      by_cases hm : K = 20 ∨ K = 21
      · rw [hkk.2.2 hm]; rfl
      · rw [hkk.2.1 (by omega) (by omega)]; unfold isProp'; simp; omega
    by_cases q15 : K = 15
    · subst q15
      have hkd : kd l N p = 15 := hkk.2.1 (by decide) (by decide)
      have hpN := hpl (by omega)
      have H2 := Lib.hid (HI.out (p + 1) (by omega))
      have hin := HTi.out (p + 1) (by omega)
      have hcp := HCs.out p hnp (by rw [hkd]; rfl)
      rw [hV] at hcp
      obtain ⟨t, ht⟩ : ∃ t, trivia l N (p + 1) = t := ⟨_, rfl⟩
      rw [ht] at H2 hin hcp
      have hk2 := HKK.out t hin.2
      have hc2 := HK.out t hin.2
      rw [show ((p + 1 : Nat) : Int) = (p : Int) + 1 from by omega] at H2
      obtain ⟨J, hJ⟩ : ∃ J, kx l t = J := ⟨_, rfl⟩
      rw [hJ] at hk2 hc2
      have H3 := Lib.hid hc2
      by_cases q6 : J = 6
      · subst q6
        have h6 : kd l N t = 6 := hk2.2.1 (by decide) (by decide)
        rw [if_pos h6] at hcp
        subst hcp
        clear HK HKK HI HTi HCp HCs HCo hkk hV hkd ht hK hpl hk2 hc2 hJ h6 hnp
        go_wp2_with fail
        go_step3
        go_wp2_with fail
        refine H1.out.mono ?_
        rintro e w1 ⟨rfl, rfl⟩
        go_wp2_with fail
        refine H2.out.mono ?_
        rintro e w1 ⟨rfl, rfl⟩
        go_wp2_with fail
        refine H3.out.mono ?_
        rintro e w1 ⟨rfl, rfl⟩
        go_wp2_with fail
        simp only [Exit.jump]
        go_ret
        exact ⟨rfl, rfl⟩
      · have h6 : kd l N t ≠ 6 := fun h => by
          by_cases hm : J = 20 ∨ J = 21
          · rw [hk2.2.2 hm] at h; cases h
          · rw [hk2.2.1 (by omega) (by omega)] at h; omega
        rw [if_neg h6] at hcp
        subst hcp
        have g6 : ((J : Int) == 6) = false := by simp; omega
        clear HK HKK HI HTi HCp HCs HCo hkk hV hkd ht hK hpl hk2 hc2 hJ h6 hnp q6
        go_wp2_with fail
        go_step3
        go_wp2_with fail
        refine H1.out.mono ?_
        rintro e w1 ⟨rfl, rfl⟩
        go_wp2_with fail
        refine H2.out.mono ?_
        rintro e w1 ⟨rfl, rfl⟩
        go_wp2_with fail
        refine H3.out.mono ?_
        rintro e w1 ⟨rfl, rfl⟩
        go_wp2_with fail
        simp only [Exit.jump]
        go_ret
        exact ⟨rfl, rfl⟩
    have g15 : ((K : Int) == 15) = false := by simp; omega
    by_cases q16 : K = 16
    · subst q16
      have hkd : kd l N p = 16 := hkk.2.1 (by decide) (by decide)
      have hpN := hpl (by omega)
      have H2 := Lib.hid (HI.out (p + 1) (by omega))
      have hin := HTi.out (p + 1) (by omega)
      have hcp := HCs.out p hnp (by rw [hkd]; rfl)
      rw [hV] at hcp
      obtain ⟨t, ht⟩ : ∃ t, trivia l N (p + 1) = t := ⟨_, rfl⟩
      rw [ht] at H2 hin hcp
      have hk2 := HKK.out t hin.2
      have hc2 := HK.out t hin.2
      rw [show ((p + 1 : Nat) : Int) = (p : Int) + 1 from by omega] at H2
      obtain ⟨J, hJ⟩ : ∃ J, kx l t = J := ⟨_, rfl⟩
      rw [hJ] at hk2 hc2
      have H3 := Lib.hid hc2
      by_cases q6 : J = 6
      · subst q6
        have h6 : kd l N t = 6 := hk2.2.1 (by decide) (by decide)
        rw [if_pos h6] at hcp
        subst hcp
        clear HK HKK HI HTi HCp HCs HCo hkk hV hkd ht hK hpl hk2 hc2 hJ h6 hnp
        go_wp2_with fail
        go_step3
        go_wp2_with fail
        refine H1.out.mono ?_
        rintro e w1 ⟨rfl, rfl⟩
        go_wp2_with fail
        refine H2.out.mono ?_
        rintro e w1 ⟨rfl, rfl⟩
        go_wp2_with fail
        refine H3.out.mono ?_
        rintro e w1 ⟨rfl, rfl⟩
        go_wp2_with fail
        simp only [Exit.jump]
        go_ret
        exact ⟨rfl, rfl⟩
      · have h6 : kd l N t ≠ 6 := fun h => by
          by_cases hm : J = 20 ∨ J = 21
          · rw [hk2.2.2 hm] at h; cases h
          · rw [hk2.2.1 (by omega) (by omega)] at h; omega
        rw [if_neg h6] at hcp
        subst hcp
        have g6 : ((J : Int) == 6) = false := by simp; omega
        clear HK HKK HI HTi HCp HCs HCo hkk hV hkd ht hK hpl hk2 hc2 hJ h6 hnp q6
        go_wp2_with fail
        go_step3
        go_wp2_with fail
        refine H1.out.mono ?_
        rintro e w1 ⟨rfl, rfl⟩
        go_wp2_with fail
        refine H2.out.mono ?_
        rintro e w1 ⟨rfl, rfl⟩
        go_wp2_with fail
        refine H3.out.mono ?_
        rintro e w1 ⟨rfl, rfl⟩
        go_wp2_with fail
        simp only [Exit.jump]
        go_ret
        exact ⟨rfl, rfl⟩
    have g16 : ((K : Int) == 16) = false := by simp; omega
    by_cases q17 : K = 17
    · subst q17
      have hkd : kd l N p = 17 := hkk.2.1 (by decide) (by decide)
      have hpN := hpl (by omega)
      have H2 := Lib.hid (HI.out (p + 1) (by omega))
      have hin := HTi.out (p + 1) (by omega)
      have hcp := HCs.out p hnp (by rw [hkd]; rfl)
      rw [hV] at hcp
      obtain ⟨t, ht⟩ : ∃ t, trivia l N (p + 1) = t := ⟨_, rfl⟩
      rw [ht] at H2 hin hcp
      have hk2 := HKK.out t hin.2
      have hc2 := HK.out t hin.2
      rw [show ((p + 1 : Nat) : Int) = (p : Int) + 1 from by omega] at H2
      obtain ⟨J, hJ⟩ : ∃ J, kx l t = J := ⟨_, rfl⟩
      rw [hJ] at hk2 hc2
      have H3 := Lib.hid hc2
      by_cases q6 : J = 6
      · subst q6
        have h6 : kd l N t = 6 := hk2.2.1 (by decide) (by decide)
        rw [if_pos h6] at hcp
        subst hcp
        clear HK HKK HI HTi HCp HCs HCo hkk hV hkd ht hK hpl hk2 hc2 hJ h6 hnp
        go_wp2_with fail
        go_step3
        go_wp2_with fail
        refine H1.out.mono ?_
        rintro e w1 ⟨rfl, rfl⟩
        go_wp2_with fail
        refine H2.out.mono ?_
        rintro e w1 ⟨rfl, rfl⟩
        go_wp2_with fail
        refine H3.out.mono ?_
        rintro e w1 ⟨rfl, rfl⟩
        go_wp2_with fail
        simp only [Exit.jump]
        go_ret
        exact ⟨rfl, rfl⟩
      · have h6 : kd l N t ≠ 6 := fun h => by
          by_cases hm : J = 20 ∨ J = 21
          · rw [hk2.2.2 hm] at h; cases h
          · rw [hk2.2.1 (by omega) (by omega)] at h; omega
        rw [if_neg h6] at hcp
        subst hcp
        have g6 : ((J : Int) == 6) = false := by simp; omega
        clear HK HKK HI HTi HCp HCs HCo hkk hV hkd ht hK hpl hk2 hc2 hJ h6 hnp q6
        go_wp2_with fail
        go_step3
        go_wp2_with fail
        refine H1.out.mono ?_
        rintro e w1 ⟨rfl, rfl⟩
        go_wp2_with fail
        refine H2.out.mono ?_
        rintro e w1 ⟨rfl, rfl⟩
        go_wp2_with fail
        refine H3.out.mono ?_
        rintro e w1 ⟨rfl, rfl⟩
        go_wp2_with fail
        simp only [Exit.jump]
        go_ret
        exact ⟨rfl, rfl⟩
    have g17 : ((K : Int) == 17) = false := by simp; omega
    by_cases q13 : K = 13
    · subst q13
      have hkd : kd l N p = 13 := hkk.2.1 (by decide) (by decide)
      have hpN := hpl (by omega)
      have H2 := Lib.hid (HI.out (p + 1) (by omega))
      have hin := HTi.out (p + 1) (by omega)
      have hcp := HCs.out p hnp (by rw [hkd]; rfl)
      rw [hV] at hcp
      obtain ⟨t, ht⟩ : ∃ t, trivia l N (p + 1) = t := ⟨_, rfl⟩
      rw [ht] at H2 hin hcp
      have hk2 := HKK.out t hin.2
      have hc2 := HK.out t hin.2
      rw [show ((p + 1 : Nat) : Int) = (p : Int) + 1 from by omega] at H2
      obtain ⟨J, hJ⟩ : ∃ J, kx l t = J := ⟨_, rfl⟩
      rw [hJ] at hk2 hc2
      have H3 := Lib.hid hc2
      by_cases q6 : J = 6
      · subst q6
        have h6 : kd l N t = 6 := hk2.2.1 (by decide) (by decide)
        rw [if_pos h6] at hcp
        subst hcp
        clear HK HKK HI HTi HCp HCs HCo hkk hV hkd ht hK hpl hk2 hc2 hJ h6 hnp
        go_wp2_with fail
        go_step3
        go_wp2_with fail
        refine H1.out.mono ?_
        rintro e w1 ⟨rfl, rfl⟩
        go_wp2_with fail
        refine H2.out.mono ?_
        rintro e w1 ⟨rfl, rfl⟩
        go_wp2_with fail
        refine H3.out.mono ?_
        rintro e w1 ⟨rfl, rfl⟩
        go_wp2_with fail
        simp only [Exit.jump]
        go_ret
        exact ⟨rfl, rfl⟩
      · have h6 : kd l N t ≠ 6 := fun h => by
          by_cases hm : J = 20 ∨ J = 21
          · rw [hk2.2.2 hm] at h; cases h
          · rw [hk2.2.1 (by omega) (by omega)] at h; omega
        rw [if_neg h6] at hcp
        subst hcp
        have g6 : ((J : Int) == 6) = false := by simp; omega
        clear HK HKK HI HTi HCp HCs HCo hkk hV hkd ht hK hpl hk2 hc2 hJ h6 hnp q6
        go_wp2_with fail
        go_step3
        go_wp2_with fail
        refine H1.out.mono ?_
        rintro e w1 ⟨rfl, rfl⟩
        go_wp2_with fail
        refine H2.out.mono ?_
        rintro e w1 ⟨rfl, rfl⟩
        go_wp2_with fail
        refine H3.out.mono ?_
        rintro e w1 ⟨rfl, rfl⟩
        go_wp2_with fail
        simp only [Exit.jump]
        go_ret
        exact ⟨rfl, rfl⟩
    have g13 : ((K : Int) == 13) = false := by simp; omega
    have hns : isScal (kd l N p) = false := by
      by_cases hm : K = 20 ∨ K = 21
      · rw [hkk.2.2 hm]; rfl
      · rw [hkk.2.1 (by omega) (by omega)]; unfold isScal; simp; omega
    have hcp := HCo.out p hnp hns
    rw [hV] at hcp
    by_cases q6 : K = 6
    · subst q6
      have h6 : kd l N p = 6 := hkk.2.1 (by decide) (by decide)
      rw [if_pos h6] at hcp
      subst hcp
      clear HK HKK HI HTi HCp HCs HCo hkk hV hK hpl h6 hnp hns
      go_wp2_with fail
      go_step3
      go_wp2_with fail
      refine H1.out.mono ?_
      rintro e w1 ⟨rfl, rfl⟩
      go_wp2_with fail
      refine H1.out.mono ?_
      rintro e w1 ⟨rfl, rfl⟩
      go_wp2_with fail
      simp only [Exit.jump]
      go_ret
      exact ⟨rfl, rfl⟩
    · have h6 : kd l N p ≠ 6 := fun h => by
        by_cases hm : K = 20 ∨ K = 21
        · rw [hkk.2.2 hm] at h; cases h
        · rw [hkk.2.1 (by omega) (by omega)] at h; omega
      rw [if_neg h6] at hcp
      subst hcp
      have g6 : ((K : Int) == 6) = false := by simp; omega
      clear HK HKK HI HTi HCp HCs HCo hkk hV hK hpl h6 hnp hns q6 q12 q14 q15 q16 q17 q13
      go_wp2_with fail
      go_step3
      go_wp2_with fail
      refine H1.out.mono ?_
      rintro e w1 ⟨rfl, rfl⟩
      go_wp2_with fail
      refine H1.out.mono ?_
      rintro e w1 ⟨rfl, rfl⟩
      go_wp2_with fail
      simp only [Exit.jump]
      go_ret
      exact ⟨rfl, rfl⟩
  · rintro a' w' ⟨rfl, p, u5, u6, u7, u8, u9, u10, u11, u12, u13, u14, u15, u16, u17, u18, u19, u20, u21, u22, u23, u24, u25, u26, u27, u28, rfl, hp, HV⟩
    have hcall := HK.out p hp
    have hkk := HKK.out p hp
    obtain ⟨K, hK⟩ : ∃ K, kx l p = K := ⟨_, rfl⟩
    rw [hK] at hcall hkk
    have H1 := Lib.hid hcall
    have hV := HV.out
    have hpl : K = 12 ∨ K = 14 ∨ K = 15 ∨ K = 16 ∨ K = 17 ∨ K = 13 → p < N := fun h => hkk.1 (by omega)
    clear hcall HV
    by_cases q12 : K = 12
    · subst q12
      have hkd : kd l N p = 12 := hkk.2.1 (by decide) (by decide)
      have hpN := hpl (by omega)
      have H2 := Lib.hid (HI.out (p + 1) (by omega))
      have hin := HTi.out (p + 1) (by omega)
      have hcp := HCp.out p (by rw [hkd]; rfl)
      obtain ⟨t, ht⟩ : ∃ t, trivia l N (p + 1) = t := ⟨_, rfl⟩
      rw [ht] at H2 hin hcp
      have HJ := Lib.hid (hcp.symm.trans hV)
      rw [show ((p + 1 : Nat) : Int) = (p : Int) + 1 from by omega] at H2
      clear HK HKK HI HTi HCp HCs HCo hkk hV hkd hcp ht hK hpl
      go_wp2_with fail
      refine H1.out.mono ?_
      rintro e w1 ⟨rfl, rfl⟩
      go_wp2_with fail
      refine H2.out.mono ?_
      rintro e w1 ⟨rfl, rfl⟩
      go_wp2_with fail
      go_step3
      refine ⟨rfl, ⟨rfl, t, _, _, _, _, _, _, _, _, _, _, _, _, _, _, _, _, _, _, _, _, _, _, _, _, rfl, by omega, HJ⟩, ?_⟩
      simp [intOf]; omega
    have g12 : ((K : Int) == 12) = false := by simp; omega
    by_cases q14 : K = 14
    · subst q14
      have hkd : kd l N p = 14 := hkk.2.1 (by decide) (by decide)
      have hpN := hpl (by omega)
      have H2 := Lib.hid (HI.out (p + 1) (by omega))
      have hin := HTi.out (p + 1) (by omega)
      have hcp := HCp.out p (by rw [hkd]; rfl)
      obtain ⟨t, ht⟩ : ∃ t, trivia l N (p + 1) = t := ⟨_, rfl⟩
      rw [ht] at H2 hin hcp
      have HJ := Lib.hid (hcp.symm.trans hV)
      rw [show ((p + 1 : Nat) : Int) = (p : Int) + 1 from by omega] at H2
      clear HK HKK HI HTi HCp HCs HCo hkk hV hkd hcp ht hK hpl
      go_wp2_with fail
      refine H1.out.mono ?_
      rintro e w1 ⟨rfl, rfl⟩
      go_wp2_with fail
      refine H2.out.mono ?_
      rintro e w1 ⟨rfl, rfl⟩
      go_wp2_with fail
      go_step3
      refine ⟨rfl, ⟨rfl, t, _, _, _, _, _, _, _, _, _, _, _, _, _, _, _, _, _, _, _, _, _, _, _, _, rfl, by omega, HJ⟩, ?_⟩
      simp [intOf]; omega
    have g14 : ((K : Int) == 14) = false := by simp; omega
    have hnp : isProp' (kd l N p) = false := by
      by_cases hm : K = 20 ∨ K = 21
      · rw [hkk.2.2 hm]; rfl
      · rw [hkk.2.1 (by omega) (by omega)]; unfold isProp'; simp; omega
    by_cases q15 : K = 15
    · subst q15
      have hkd : kd l N p = 15 := hkk.2.1 (by decide) (by decide)
      have hpN := hpl (by omega)
      have H2 := Lib.hid (HI.out (p + 1) (by omega))
      have hin := HTi.out (p + 1) (by omega)
      have hcp := HCs.out p hnp (by rw [hkd]; rfl)
      rw [hV] at hcp
      obtain ⟨t, ht⟩ : ∃ t, trivia l N (p + 1) = t := ⟨_, rfl⟩
      rw [ht] at H2 hin hcp
      have hk2 := HKK.out t hin.2
      have hc2 := HK.out t hin.2
      rw [show ((p + 1 : Nat) : Int) = (p : Int) + 1 from by omega] at H2
      obtain ⟨J, hJ⟩ : ∃ J, kx l t = J := ⟨_, rfl⟩
      rw [hJ] at hk2 hc2
      have H3 := Lib.hid hc2
      by_cases q6 : J = 6
      · subst q6
        have h6 : kd l N t = 6 := hk2.2.1 (by decide) (by decide)
        rw [if_pos h6] at hcp
        subst hcp
        clear HK HKK HI HTi HCp HCs HCo hkk hV hkd ht hK hpl hk2 hc2 hJ h6 hnp
        go_wp2_with fail
        refine H1.out.mono ?_
        rintro e w1 ⟨rfl, rfl⟩
        go_wp2_with fail
        refine H2.out.mono ?_
        rintro e w1 ⟨rfl, rfl⟩
        go_wp2_with fail
        refine H3.out.mono ?_
        rintro e w1 ⟨rfl, rfl⟩
        go_wp2_with fail
        simp only [Exit.jump]
        go_ret
        exact ⟨rfl, rfl⟩
      · have h6 : kd l N t ≠ 6 := fun h => by
          by_cases hm : J = 20 ∨ J = 21
          · rw [hk2.2.2 hm] at h; cases h
          · rw [hk2.2.1 (by omega) (by omega)] at h; omega
        rw [if_neg h6] at hcp
        subst hcp
        have g6 : ((J : Int) == 6) = false := by simp; omega
        clear HK HKK HI HTi HCp HCs HCo hkk hV hkd ht hK hpl hk2 hc2 hJ h6 hnp q6
        go_wp2_with fail
        refine H1.out.mono ?_
        rintro e w1 ⟨rfl, rfl⟩
        go_wp2_with fail
        refine H2.out.mono ?_
        rintro e w1 ⟨rfl, rfl⟩
        go_wp2_with fail
        refine H3.out.mono ?_
        rintro e w1 ⟨rfl, rfl⟩
        go_wp2_with fail
        simp only [Exit.jump]
        go_ret
        exact ⟨rfl, rfl⟩
    have g15 : ((K : Int) == 15) = false := by simp; omega
    by_cases q16 : K = 16
    · subst q16
      have hkd : kd l N p = 16 := hkk.2.1 (by decide) (by decide)
      have hpN := hpl (by omega)
      have H2 := Lib.hid (HI.out (p + 1) (by omega))
      have hin := HTi.out (p + 1) (by omega)
      have hcp := HCs.out p hnp (by rw [hkd]; rfl)
      rw [hV] at hcp
      obtain ⟨t, ht⟩ : ∃ t, trivia l N (p + 1) = t := ⟨_, rfl⟩
      rw [ht] at H2 hin hcp
      have hk2 := HKK.out t hin.2
      have hc2 := HK.out t hin.2
      rw [show ((p + 1 : Nat) : Int) = (p : Int) + 1 from by omega] at H2
      obtain ⟨J, hJ⟩ : ∃ J, kx l t = J := ⟨_, rfl⟩
      rw [hJ] at hk2 hc2
      have H3 := Lib.hid hc2
      by_cases q6 : J = 6
      · subst q6
        have h6 : kd l N t = 6 := hk2.2.1 (by decide) (by decide)
        rw [if_pos h6] at hcp
        subst hcp
        clear HK HKK HI HTi HCp HCs HCo hkk hV hkd ht hK hpl hk2 hc2 hJ h6 hnp
        go_wp2_with fail
        refine H1.out.mono ?_
        rintro e w1 ⟨rfl, rfl⟩
        go_wp2_with fail
        refine H2.out.mono ?_
        rintro e w1 ⟨rfl, rfl⟩
        go_wp2_with fail
        refine H3.out.mono ?_
        rintro e w1 ⟨rfl, rfl⟩
        go_wp2_with fail
        simp only [Exit.jump]
        go_ret
        exact ⟨rfl, rfl⟩
      · have h6 : kd l N t ≠ 6 := fun h => by
          by_cases hm : J = 20 ∨ J = 21
          · rw [hk2.2.2 hm] at h; cases h
          · rw [hk2.2.1 (by omega) (by omega)] at h; omega
        rw [if_neg h6] at hcp
        subst hcp
        have g6 : ((J : Int) == 6) = false := by simp; omega
        clear HK HKK HI HTi HCp HCs HCo hkk hV hkd ht hK hpl hk2 hc2 hJ h6 hnp q6
        go_wp2_with fail
        refine H1.out.mono ?_
        rintro e w1 ⟨rfl, rfl⟩
        go_wp2_with fail
        refine H2.out.mono ?_
        rintro e w1 ⟨rfl, rfl⟩
        go_wp2_with fail
        refine H3.out.mono ?_
        rintro e w1 ⟨rfl, rfl⟩
        go_wp2_with fail
        simp only [Exit.jump]
        go_ret
        exact ⟨rfl, rfl⟩
    have g16 : ((K : Int) == 16) = false := by simp; omega
    by_cases q17 : K = 17
    · subst q17
      have hkd : kd l N p = 17 := hkk.2.1 (by decide) (by decide)
      have hpN := hpl (by omega)
      have H2 := Lib.hid (HI.out (p + 1) (by omega))
      have hin := HTi.out (p + 1) (by omega)
      have hcp := HCs.out p hnp (by rw [hkd]; rfl)
      rw [hV] at hcp
      obtain ⟨t, ht⟩ : ∃ t, trivia l N (p + 1) = t := ⟨_, rfl⟩
      rw [ht] at H2 hin hcp
      have hk2 := HKK.out t hin.2
      have hc2 := HK.out t hin.2
      rw [show ((p + 1 : Nat) : Int) = (p : Int) + 1 from by omega] at H2
      obtain ⟨J, hJ⟩ : ∃ J, kx l t = J := ⟨_, rfl⟩
      rw [hJ] at hk2 hc2
      have H3 := Lib.hid hc2
      by_cases q6 : J = 6
      · subst q6
        have h6 : kd l N t = 6 := hk2.2.1 (by decide) (by decide)
        rw [if_pos h6] at hcp
        subst hcp
        clear HK HKK HI HTi HCp HCs HCo hkk hV hkd ht hK hpl hk2 hc2 hJ h6 hnp
        go_wp2_with fail
        refine H1.out.mono ?_
        rintro e w1 ⟨rfl, rfl⟩
        go_wp2_with fail
        refine H2.out.mono ?_
        rintro e w1 ⟨rfl, rfl⟩
        go_wp2_with fail
        refine H3.out.mono ?_
        rintro e w1 ⟨rfl, rfl⟩
        go_wp2_with fail
        simp only [Exit.jump]
        go_ret
        exact ⟨rfl, rfl⟩
      · have h6 : kd l N t ≠ 6 := fun h => by
          by_cases hm : J = 20 ∨ J = 21
          · rw [hk2.2.2 hm] at h; cases h
          · rw [hk2.2.1 (by omega) (by omega)] at h; omega
        rw [if_neg h6] at hcp
        subst hcp
        have g6 : ((J : Int) == 6) = false := by simp; omega
        clear HK HKK HI HTi HCp HCs HCo hkk hV hkd ht hK hpl hk2 hc2 hJ h6 hnp q6
        go_wp2_with fail
        refine H1.out.mono ?_
        rintro e w1 ⟨rfl, rfl⟩
        go_wp2_with fail
        refine H2.out.mono ?_
        rintro e w1 ⟨rfl, rfl⟩
        go_wp2_with fail
        refine H3.out.mono ?_
        rintro e w1 ⟨rfl, rfl⟩
        go_wp2_with fail
        simp only [Exit.jump]
        go_ret
        exact ⟨rfl, rfl⟩
    have g17 : ((K : Int) == 17) = false := by simp; omega
    by_cases q13 : K = 13
    · subst q13
      have hkd : kd l N p = 13 := hkk.2.1 (by decide) (by decide)
      have hpN := hpl (by omega)
      have H2 := Lib.hid (HI.out (p + 1) (by omega))
      have hin := HTi.out (p + 1) (by omega)
      have hcp := HCs.out p hnp (by rw [hkd]; rfl)
      rw [hV] at hcp
      obtain ⟨t, ht⟩ : ∃ t, trivia l N (p + 1) = t := ⟨_, rfl⟩
      rw [ht] at H2 hin hcp
      have hk2 := HKK.out t hin.2
      have hc2 := HK.out t hin.2
      rw [show ((p + 1 : Nat) : Int) = (p : Int) + 1 from by omega] at H2
      obtain ⟨J, hJ⟩ : ∃ J, kx l t = J := ⟨_, rfl⟩
      rw [hJ] at hk2 hc2
      have H3 := Lib.hid hc2
      by_cases q6 : J = 6
      · subst q6
        have h6 : kd l N t = 6 := hk2.2.1 (by decide) (by decide)
        rw [if_pos h6] at hcp
        subst hcp
        clear HK HKK HI HTi HCp HCs HCo hkk hV hkd ht hK hpl hk2 hc2 hJ h6 hnp
        go_wp2_with fail
        refine H1.out.mono ?_
        rintro e w1 ⟨rfl, rfl⟩
        go_wp2_with fail
        refine H2.out.mono ?_
        rintro e w1 ⟨rfl, rfl⟩
        go_wp2_with fail
        refine H3.out.mono ?_
        rintro e w1 ⟨rfl, rfl⟩
        go_wp2_with fail
        simp only [Exit.jump]
        go_ret
        exact ⟨rfl, rfl⟩
      · have h6 : kd l N t ≠ 6 := fun h => by
          by_cases hm : J = 20 ∨ J = 21
          · rw [hk2.2.2 hm] at h; cases h
          · rw [hk2.2.1 (by omega) (by omega)] at h; omega
        rw [if_neg h6] at hcp
        subst hcp
        have g6 : ((J : Int) == 6) = false := by simp; omega
        clear HK HKK HI HTi HCp HCs HCo hkk hV hkd ht hK hpl hk2 hc2 hJ h6 hnp q6
        go_wp2_with fail
        refine H1.out.mono ?_
        rintro e w1 ⟨rfl, rfl⟩
        go_wp2_with fail
        refine H2.out.mono ?_
        rintro e w1 ⟨rfl, rfl⟩
        go_wp2_with fail
        refine H3.out.mono ?_
        rintro e w1 ⟨rfl, rfl⟩
        go_wp2_with fail
        simp only [Exit.jump]
        go_ret
        exact ⟨rfl, rfl⟩
    have g13 : ((K : Int) == 13) = false := by simp; omega
    have hns : isScal (kd l N p) = false := by
      by_cases hm : K = 20 ∨ K = 21
      · rw [hkk.2.2 hm]; rfl
      · rw [hkk.2.1 (by omega) (by omega)]; unfold isScal; simp; omega
    have hcp := HCo.out p hnp hns
    rw [hV] at hcp
    by_cases q6 : K = 6
    · subst q6
      have h6 : kd l N p = 6 := hkk.2.1 (by decide) (by decide)
      rw [if_pos h6] at hcp
      subst hcp
      clear HK HKK HI HTi HCp HCs HCo hkk hV hK hpl h6 hnp hns
      go_wp2_with fail
      refine H1.out.mono ?_
      rintro e w1 ⟨rfl, rfl⟩
      go_wp2_with fail
      refine H1.out.mono ?_
      rintro e w1 ⟨rfl, rfl⟩
      go_wp2_with fail
      simp only [Exit.jump]
      go_ret
      exact ⟨rfl, rfl⟩
    · have h6 : kd l N p ≠ 6 := fun h => by
        by_cases hm : K = 20 ∨ K = 21
        · rw [hkk.2.2 hm] at h; cases h
        · rw [hkk.2.1 (by omega) (by omega)] at h; omega
      rw [if_neg h6] at hcp
      subst hcp
      have g6 : ((K : Int) == 6) = false := by simp; omega
      clear HK HKK HI HTi HCp HCs HCo hkk hV hK hpl h6 hnp hns q6 q12 q14 q15 q16 q17 q13
      go_wp2_with fail
      refine H1.out.mono ?_
      rintro e w1 ⟨rfl, rfl⟩
      go_wp2_with fail
      refine H1.out.mono ?_
      rintro e w1 ⟨rfl, rfl⟩
      go_wp2_with fail
      simp only [Exit.jump]
      go_ret
      exact ⟨rfl, rfl⟩
end Go.Proofs.Ytmlpaafclobgcaa

/- Package flow: keyKind. -/
namespace Go.Proofs.Ytmlpaafclobgcaa
open Go.RowKit
open Go.Proofs.Ytmlpaafclobgcaa.Sq
open Go.Proofs.Ytmlpaafclobgcaa.Fl (raw)
set_option linter.unusedVariables false

/-- An NAlias, if one of so many tokens from a place on is a TAlias. -/
def keyK (l : List Tk) (a n : Nat) : Nat := if (List.range n).any (fun x => raw l (a + x) == 13) = true then 8 else 7
theorem keyK_yes {l : List Tk} {a n k : Nat} (hk : k < n) (h : raw l (a + k) = 13) : keyK l a n = 8 := by
  unfold keyK
  rw [if_pos]
  rw [List.any_eq_true]
  exact ⟨k, List.mem_range.2 hk, by simp [h]⟩
theorem keyK_no {l : List Tk} {a n : Nat} (h : ∀ k, k < n → raw l (a + k) ≠ 13) : keyK l a n = 7 := by
  unfold keyK
  rw [if_neg]
  intro h2
  rw [List.any_eq_true] at h2
  obtain ⟨k, h3, h4⟩ := h2
  exact h k (List.mem_range.1 h3) (by simpa using h4)
set_option maxHeartbeats 2000000 in
set_option maxRecDepth 100000 in
theorem fKeyKind (rb : Nat) (v : Value) (l : List Tk) (a b : Nat) (w : World) (hR : RT w rb v l) (hab : a ≤ b) (hb : b ≤ l.length) :
    Calls Try.prog 77 #[RP rb, .int .i64 a, .int .i64 b] w fun e w' => e = .returned (.int .i64 (keyK l a (b - a) : Nat)) ∧ Below w.heap.size w w' := by
  obtain ⟨hc, h, hs⟩ := hR
  obtain ⟨ad, cap, rfl⟩ := h.shape
  obtain ⟨u, hu, hru⟩ := cut_lh (P := Try.prog) tyT h hab hb
  have hlen : ((l.drop a).take (b - a)).length = b - a := by rw [List.length_take, List.length_drop]; omega
  have hget : ∀ k x, ((l.drop a).take (b - a))[k]? = some x → k < b - a ∧ raw l (a + k) = x.1 := by
    intro k x hx
    have hk := (List.getElem?_eq_some_iff.1 hx).1
    rw [hlen] at hk
    rw [List.getElem?_take_of_lt hk, List.getElem?_drop] at hx
    exact ⟨hk, Fl.raw_at hx⟩
  obtain ⟨ts, hts⟩ : ∃ ts, (l.drop a).take (b - a) = ts := ⟨_, rfl⟩
  rw [hts] at hru hlen hget
  obtain ⟨ua, uc, rfl⟩ := hru.shape
  have HT := Lib.hid (fun W (hW : Below w.heap.size w W) j x (hj : ts[j]? = some x) => toks_at (hru.below hW) j x hj)
  have HG := Lib.hid hget
  obtain ⟨M, hM⟩ : ∃ M, b - a = M := ⟨_, rfl⟩
  rw [hM] at hlen HG ⊢
  have HY := Lib.hid (fun k (hk : k < M) h => keyK_yes (l := l) (a := a) hk h)
  have HN := Lib.hid (fun h => keyK_no (l := l) (a := a) (n := M) h)
  obtain ⟨T, hT⟩ : ∃ T, keyK l a M = T := ⟨_, rfl⟩
  rw [hT] at HY HN ⊢
  rw [hlen] at hu
  have HL := Lib.hid hlen
  have hMs : M ≤ 100000 := by omega
  obtain ⟨N, hN⟩ : ∃ N, l.length = N := ⟨_, rfl⟩
  rw [hN] at hc hb hs hu
  clear h hru hget hlen hT hts hN hM
  go_enter Try.func77, Try.ntmps77
  go_wp2_with fail
  go_loopw [17] (fun iv wr => ∃ k : Nat, iv = .int .i64 k ∧ k ≤ M ∧ Hid (∀ j, j < k → raw l (a + j) ≠ 13) ∧ Below w.heap.size w wr) (fun iv _ => M - (intOf iv).toNat)
  case atStart => exact ⟨0, rfl, Nat.zero_le _, Lib.hid (fun j h => absurd h (Nat.not_lt_zero j)), Below.refl _ _⟩
  case round =>
    obtain ⟨k, rfl, hk, HA, hB⟩ := hrel
    have HB := Lib.hid hB
    by_cases hlt : k < M
    · obtain ⟨x, hx⟩ : ∃ x, ts[k]? = some x := ⟨_, List.getElem?_eq_getElem (by rw [HL.out]; exact hlt)⟩
      obtain ⟨xb, off, rfl, c0, c1, c2⟩ := HT.out wr hB k x hx
      have hr := (HG.out k x hx).2
      have hi : (k : Int) < (M : Int) := by omega
      obtain ⟨K, hK⟩ : ∃ K, x.1 = K := ⟨_, rfl⟩
      rw [hK] at c0 hr
      by_cases q : K = 13
      · have hT := HY.out k hlt (by rw [hr]; exact q)
        have g : ((K : Int) == 13) = true := by simp; omega
        clear hr hx hK HT HG HY HN HL HA hB q
        subst hT
        go_wp2_with fail
        go_ret
        exact ⟨rfl, below_from HB.out (below_alloc _ _)⟩
      · have HA2 := Lib.hid (show ∀ j, j < k + 1 → raw l (a + j) ≠ 13 from fun j hj => by
          by_cases e : j = k
          · rw [e, hr]; exact q
          · exact HA.out j (by omega))
        have g : ((K : Int) == 13) = false := by simp; omega
        clear hr hx hK HT HG HY HN HL HA hB q
        go_wp2_with fail
        go_roundw
        case rel => exact ⟨k + 1, by go_num, by omega, HA2, below_from HB.out (below_alloc _ _)⟩
        case measure => simp [intOf]; omega
    · obtain rfl : k = M := by omega
      have hT := HN.out HA.out
      have hne : ¬ ((k : Int) < (k : Int)) := by omega
      clear HT HG HY HN HL HA hB hlt
      subst hT
      go_wp2_with fail
      go_ret
      exact ⟨rfl, HB.out⟩
end Go.Proofs.Ytmlpaafclobgcaa
