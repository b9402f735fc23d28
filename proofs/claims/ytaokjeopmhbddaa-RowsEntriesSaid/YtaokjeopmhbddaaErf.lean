/- The chapter's own entries (correctorref9): skip, Scalar; a row's tokens among all. -/
import Derived.Test.YtaokjeopmhbddaaEn4
import Derived.Test.YtaokjeopmhbddaaMd
namespace Go.Proofs.Ytaokjeopmhbddaa
open Go.RowKit
open Go.Proofs.Ytaokjeopmhbddaa.Sg
open Go.Proofs.Ytaokjeopmhbddaa.Sq
set_option linter.unusedVariables false

set_option maxHeartbeats 2000000 in
theorem rScalar (k : Nat) (w : World) :
    Calls Try.prog 35 #[.int .i64 k] w fun e w' => e = .returned (.bool (Rw.isScal k)) ∧ w = w' := by
  go_enter Try.func35, Try.ntmps35
  go_wp2
  all_goals
    go_ret
    refine ⟨?_, rfl⟩
    refine congrArg (fun b => Ending.returned (.bool b)) ?_
    rw [Bool.eq_iff_iff]
    simp [Rw.isScal] at *
    try omega
theorem row_get (l : List Tk) (F M p : Nat) (x : Tk) (h : ((l.drop F).take M)[p]? = some x) : l[F + p]? = some x := by
  have hp : p < M := by
    have := (List.getElem?_eq_some_iff.1 h).1
    rw [List.length_take] at this
    omega
  rw [List.getElem?_take, if_pos hp, List.getElem?_drop] at h
  exact h
set_option maxHeartbeats 2000000 in
set_option maxRecDepth 100000 in
theorem rSkip (v : Value) (l : List Tk) (F M p : Nat) (w : World) (h : Reads encT w v l) (hs : l.length ≤ 1000000) (hM : F + M ≤ l.length) (hp : p ≤ M) :
    Calls Try.prog 34 #[v, .int .i64 (F + p : Nat), .int .i64 (F + M : Nat), .int .i64 3] w fun e w' => e = .returned (.int .i64 (F + (p + Rw.blanks (((l.drop F).take M).drop p)) : Nat)) ∧ w = w' := by
  obtain ⟨a, cap, rfl⟩ := h.shape
  have hlen : ((l.drop F).take M).length = M := by rw [List.length_take, List.length_drop]; omega
  have hg := row_get l F M
  obtain ⟨ts, hts⟩ : ∃ ts, (l.drop F).take M = ts := ⟨_, rfl⟩
  rw [hts] at hlen hg ⊢
  have H := Lib.hid (fun j x (hj : ts[j]? = some x) => toks_at h (F + j) x (hg j x hj))
  have HBa := Lib.hid (Rw.blanks_at ts)
  have HBe := Lib.hid (Rw.blanks_end ts)
  obtain ⟨T, hT⟩ : ∃ T, p + Rw.blanks (ts.drop p) = T := ⟨_, rfl⟩
  rw [hT]
  have HT := Lib.hid hT
  obtain ⟨N, hN⟩ : ∃ N, l.length = N := ⟨_, rfl⟩
  have HN := Lib.hid hlen
  rw [hN] at hs hM
  rw [hN]
  clear h hN hT hg hts hlen
  go_enter Try.func34, Try.ntmps34
  go_wp2_with fail
  go_loopw [1] (fun iv wr => ∃ k : Nat, iv = .int .i64 (F + k : Nat) ∧ k ≤ M ∧ Hid (k + Rw.blanks (ts.drop k) = T) ∧ w = wr) (fun iv _ => F + M - (intOf iv).toNat)
  case atStart => exact ⟨p, rfl, hp, HT, rfl⟩
  case round =>
    obtain ⟨k, rfl, hk, HK, rfl⟩ := hrel
    by_cases hlt : k < M
    · obtain ⟨x, hx⟩ : ∃ x, ts[k]? = some x := ⟨_, List.getElem?_eq_getElem (by rw [HN.out]; exact hlt)⟩
      obtain ⟨b, off, rfl, c0, c1, c2⟩ := H.out k x hx
      have hi : ((F + k : Nat) : Int) < ((F + M : Nat) : Int) := by omega
      have hi2 : ((F + k : Nat) : Int) < (N : Int) := by omega
      have hb := HBa.out k x hx
      obtain ⟨K, hK⟩ : ∃ K, x.1 = K := ⟨_, rfl⟩
      rw [hK] at c0 hb
      by_cases q : K = 3
      · rw [if_pos q] at hb
        have HK2 := Lib.hid (show k + 1 + Rw.blanks (ts.drop (k + 1)) = T by have := HK.out; rw [hb] at this; omega)
        have g : ((K : Int) == 3) = true := by simp; omega
        clear hb hx hK H HBa HBe HK HT HN q
        go_wp2_with fail
        go_roundw
        case rel => exact ⟨k + 1, by go_num, by omega, HK2, trivial⟩
        case measure => simp [intOf]; omega
      · rw [if_neg q] at hb
        obtain rfl : T = k := by have := HK.out; rw [hb] at this; omega
        have g : ((K : Int) == 3) = false := by simp; omega
        clear hb hx hK H HBa HBe HK HT HN q
        go_wp2_with fail
        go_ret
        exact ⟨by go_num, rfl⟩
    · obtain rfl : k = M := by omega
      have hne : ¬ (((F + k : Nat) : Int) < ((F + k : Nat) : Int)) := by omega
      obtain rfl : T = k := by have := HK.out; rw [HBe.out k (by rw [HN.out]; exact Nat.le_refl _)] at this; omega
      clear HBa HBe HK HT HN H hlt
      go_wp2_with fail
      go_ret
      exact ⟨by go_num, rfl⟩
end Go.Proofs.Ytaokjeopmhbddaa
