/- Package rows: over blanks; what a key is, place by place (plain). -/
import Derived.Test.YtaokjeopmhbddaaRx
namespace Go.Proofs.Ytaokjeopmhbddaa.Rw
theorem drop_one (ts : List Tk) (k : Nat) (x : Tk) (h : ts[k]? = some x) : ts.drop k = x :: ts.drop (k + 1) := by
  have hi := (List.getElem?_eq_some_iff.1 h).1
  have e := (List.getElem?_eq_some_iff.1 h).2
  rw [List.drop_eq_getElem_cons hi, e]
theorem blanks_at (ts : List Tk) (k : Nat) (x : Tk) (h : ts[k]? = some x) : blanks (ts.drop k) = if x.1 = 3 then blanks (ts.drop (k + 1)) + 1 else 0 := by
  rw [drop_one ts k x h, blanks]
theorem blanks_end (ts : List Tk) (k : Nat) (h : ts.length ≤ k) : blanks (ts.drop k) = 0 := by
  rw [List.drop_eq_nil_of_le h]; rfl
theorem blanks_in (ts : List Tk) (k : Nat) (h : k ≤ ts.length) : k + blanks (ts.drop k) ≤ ts.length := by
  have := blanks_le (ts.drop k)
  rw [List.length_drop] at this
  omega
theorem key_prop (l : List Tk) (h : isProp (headK l) = true) : keyN l = (keyN (l.drop (blanks (l.drop 1) + 1))).map (· + (blanks (l.drop 1) + 1)) := by
  have hp := prop_step l h
  obtain ⟨n, hn⟩ : ∃ n, blanks (l.drop 1) + 1 = n := ⟨_, rfl⟩
  rw [hn] at hp ⊢
  unfold keyN aheadN
  rw [hp]
  obtain ⟨m, hm⟩ : ∃ m, propN (l.drop n).length (l.drop n) = m := ⟨_, rfl⟩
  rw [hm]
  have e1 : l.drop (m + n) = (l.drop n).drop m := by rw [List.drop_drop, Nat.add_comm]
  rw [e1]
  obtain ⟨s, hs⟩ : ∃ s, scalN ((l.drop n).drop m) = s := ⟨_, rfl⟩
  rw [hs]
  have e2 : l.drop (m + n + s) = (l.drop n).drop (m + s) := by rw [List.drop_drop]; congr 1; omega
  rw [e2]
  by_cases hk : headK ((l.drop n).drop (m + s)) = 6
  · rw [if_pos hk, if_pos hk, Option.map_some]; congr 1; omega
  · rw [if_neg hk, if_neg hk, Option.map_none]
theorem key_not (l : List Tk) (h : isProp (headK l) = false) : keyN l = if headK (l.drop (scalN l)) = 6 then some (scalN l + 1) else none := by
  unfold keyN aheadN
  rw [prop_stop l h, List.drop_zero, Nat.zero_add]
/-- The place behind the key that begins at a place, or -1. -/
def keyV (ts : List Tk) (p : Nat) : Int := match keyN (ts.drop p) with
  | some n => ((p + n : Nat) : Int)
  | none => -1
/-- The place behind the colon at a place, or -1. -/
def colV (ts : List Tk) (q : Nat) : Int := if headK (ts.drop q) = 6 then ((q + 1 : Nat) : Int) else -1
theorem keyV_prop (ts : List Tk) (p : Nat) (x : Tk) (hx : ts[p]? = some x) (h : isProp x.1 = true) : keyV ts p = keyV ts (p + 1 + blanks (ts.drop (p + 1))) := by
  unfold keyV
  rw [key_prop (ts.drop p) (by rw [headK_drop ts p x hx]; exact h), List.drop_drop, List.drop_drop]
  rw [show p + (blanks (ts.drop (p + 1)) + 1) = p + 1 + blanks (ts.drop (p + 1)) from by omega]
  cases keyN (ts.drop (p + 1 + blanks (ts.drop (p + 1)))) with
  | none => rfl
  | some n => show ((p + (n + (blanks (ts.drop (p + 1)) + 1)) : Nat) : Int) = _; congr 1; omega
theorem keyV_scal (ts : List Tk) (p : Nat) (x : Tk) (hx : ts[p]? = some x) (h : isProp x.1 = false) (hs : isScal x.1 = true) : keyV ts p = colV ts (p + 1 + blanks (ts.drop (p + 1))) := by
  have hk := headK_drop ts p x hx
  unfold keyV colV
  rw [key_not (ts.drop p) (by rw [hk]; exact h)]
  have e : scalN (ts.drop p) = blanks (ts.drop (p + 1)) + 1 := by unfold scalN; rw [hk, if_pos hs, List.drop_drop]
  rw [e, List.drop_drop, show p + (blanks (ts.drop (p + 1)) + 1) = p + 1 + blanks (ts.drop (p + 1)) from by omega]
  by_cases hc : headK (ts.drop (p + 1 + blanks (ts.drop (p + 1)))) = 6
  · rw [if_pos hc, if_pos hc]; show ((p + (blanks (ts.drop (p + 1)) + 1 + 1) : Nat) : Int) = _; congr 1; omega
  · rw [if_neg hc, if_neg hc]
theorem keyV_other (ts : List Tk) (p : Nat) (x : Tk) (hx : ts[p]? = some x) (h : isProp x.1 = false) (hs : isScal x.1 = false) : keyV ts p = colV ts p := by
  have hk := headK_drop ts p x hx
  unfold keyV colV
  rw [key_not (ts.drop p) (by rw [hk]; exact h)]
  have e : scalN (ts.drop p) = 0 := by unfold scalN; rw [hk, if_neg (by rw [hs]; decide)]
  rw [e, List.drop_drop, Nat.add_zero]
  by_cases hc : headK (ts.drop p) = 6
  · rw [if_pos hc, if_pos hc]
  · rw [if_neg hc, if_neg hc]
theorem keyV_end (ts : List Tk) (p : Nat) (h : ts.length ≤ p) : keyV ts p = -1 := by
  unfold keyV; rw [List.drop_eq_nil_of_le h]; rfl
theorem colV_end (ts : List Tk) (p : Nat) (h : ts.length ≤ p) : colV ts p = -1 := by
  unfold colV; rw [List.drop_eq_nil_of_le h]; rfl
theorem colV_at (ts : List Tk) (p : Nat) (x : Tk) (hx : ts[p]? = some x) : colV ts p = if x.1 = 6 then ((p + 1 : Nat) : Int) else -1 := by
  unfold colV; rw [headK_drop ts p x hx]
end Go.Proofs.Ytaokjeopmhbddaa.Rw
namespace Go.Proofs.Ytaokjeopmhbddaa
open Go.RowKit
open Go.Proofs.Ytaokjeopmhbddaa.Sg
open Go.Proofs.Ytaokjeopmhbddaa.Sq
set_option linter.unusedVariables false

set_option maxHeartbeats 2000000 in
set_option maxRecDepth 100000 in
theorem pPast (v : Value) (ts : List Tk) (p : Nat) (w : World) (h : Reads encT w v ts) (hs : ts.length ≤ 1000000) (hp : p ≤ ts.length) :
    Calls Try.prog 32 #[v, .int .i64 p] w fun e w' => e = .returned (.int .i64 (p + Rw.blanks (ts.drop p) : Nat)) ∧ w = w' := by
  obtain ⟨a, cap, rfl⟩ := h.shape
  have H := Lib.hid (fun j x (hj : ts[j]? = some x) => toks_at h j x hj)
  have HBa := Lib.hid (Rw.blanks_at ts)
  have HBe := Lib.hid (Rw.blanks_end ts)
  obtain ⟨T, hT⟩ : ∃ T, p + Rw.blanks (ts.drop p) = T := ⟨_, rfl⟩
  rw [hT]
  have HT := Lib.hid hT
  obtain ⟨N, hN⟩ : ∃ N, ts.length = N := ⟨_, rfl⟩
  have HN := Lib.hid hN
  rw [hN] at hs hp
  rw [hN]
  clear h hN hT
  go_enter Try.func32, Try.ntmps32
  go_wp2_with fail
  go_loopw [1] (fun iv wr => ∃ k : Nat, iv = .int .i64 k ∧ k ≤ N ∧ Hid (k + Rw.blanks (ts.drop k) = T) ∧ w = wr) (fun iv _ => N - (intOf iv).toNat)
  case atStart => exact ⟨p, rfl, hp, HT, rfl⟩
  case round =>
    obtain ⟨k, rfl, hk, HK, rfl⟩ := hrel
    by_cases hlt : k < N
    · obtain ⟨x, hx⟩ : ∃ x, ts[k]? = some x := ⟨_, List.getElem?_eq_getElem (by rw [HN.out]; exact hlt)⟩
      obtain ⟨b, off, rfl, c0, c1, c2⟩ := H.out k x hx
      have hi : (k : Int) < (N : Int) := by omega
      have hb := HBa.out k x hx
      obtain ⟨K, hK⟩ : ∃ K, x.1 = K := ⟨_, rfl⟩
      rw [hK] at c0 hb
      by_cases q : K = 3
      · rw [if_pos q] at hb
        have HK2 := Lib.hid (show k + 1 + Rw.blanks (ts.drop (k + 1)) = T by have := HK.out; rw [hb] at this; omega)
        have g : ((K : Int) == 3) = true := by simp; omega
        clear hb hx hK H HBa HBe HK HT HN q
        go_wp2_with fail
        go_roundw
        case rel => exact ⟨k + 1, by go_num, by omega, HK2, trivial⟩
        case measure => simp [intOf]; omega
      · rw [if_neg q] at hb
        obtain rfl : T = k := by have := HK.out; rw [hb] at this; omega
        have g : ((K : Int) == 3) = false := by simp; omega
        clear hb hx hK H HBa HBe HK HT HN q
        go_wp2_with fail
        go_ret
        exact ⟨rfl, rfl⟩
    · obtain rfl : k = N := by omega
      have hne : ¬ ((k : Int) < (k : Int)) := by omega
      obtain rfl : T = k := by have := HK.out; rw [HBe.out k (by rw [HN.out]; exact Nat.le_refl _)] at this; omega
      clear HBa HBe HK HT HN H hlt
      go_wp2_with fail
      go_ret
      exact ⟨rfl, rfl⟩
end Go.Proofs.Ytaokjeopmhbddaa
