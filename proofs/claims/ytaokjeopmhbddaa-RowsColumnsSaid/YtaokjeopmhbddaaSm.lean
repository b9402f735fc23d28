/- Plain facts on how far a plain text goes, and on what is trimmed. -/
import Derived.Test.YtaokjeopmhbddaaSl
import Derived.Lib.SlTrimSet
namespace Go.Proofs.Ytaokjeopmhbddaa.Sc
open Go.Proofs.Ytaokjeopmhbddaa.Sg

theorem nxL_pos (c : Nat) (r : List Nat) : 1 ≤ (nxL (c :: r)).2 := by
  unfold nxL nxN
  rw [if_neg (by simp)]
  have h : 1 ≤ (Lib.decodeN (c :: r).length ((c :: r).getD 0 0) ((c :: r).getD 1 0) ((c :: r).getD 2 0) ((c :: r).getD 3 0)).2 := by
    unfold Lib.decodeN
    (repeat' split) <;> (dsimp only; omega)
  split <;> exact h
theorem nxL_le (c : Nat) (r : List Nat) : (nxL (c :: r)).2 ≤ (c :: r).length := by
  unfold nxL nxN
  rw [if_neg (by simp)]
  have h := dec_le (c :: r).length ((c :: r).getD 0 0) ((c :: r).getD 1 0) ((c :: r).getD 2 0) ((c :: r).getD 3 0) (by simp)
  split <;> exact h
theorem goes_fuel (op : Bool) : ∀ (f g p : Nat) (l : List Nat), l.length ≤ f → l.length ≤ g → goes op f p l = goes op g p l
  | 0, g, p, l, h, _ => by
    obtain rfl : l = [] := List.eq_nil_of_length_eq_zero (by omega)
    cases g <;> rfl
  | f + 1, 0, p, l, _, h => by
    obtain rfl : l = [] := List.eq_nil_of_length_eq_zero (by omega)
    rfl
  | f + 1, g + 1, p, l, hf, hg => by
    rw [goes, goes]
    by_cases hs : stop op (blk p) l = true
    · rw [if_pos hs, if_pos hs]
    · rw [if_neg hs, if_neg hs]
      cases l with
      | nil => exact absurd rfl hs
      | cons c r =>
        have h1 := nxL_pos c r
        rw [goes_fuel op f g _ _ (by rw [List.length_drop]; omega) (by rw [List.length_drop]; omega)]
def goesN (op : Bool) (p : Nat) (l : List Nat) : Nat := goes op l.length p l
theorem goesN_stop (op : Bool) (p : Nat) (l : List Nat) (h : stop op (blk p) l = true) : goesN op p l = 0 := by
  unfold goesN
  cases hl : l.length with
  | zero => rfl
  | succ n => rw [goes, if_pos h]
theorem goesN_on (op : Bool) (p : Nat) (l : List Nat) (h : stop op (blk p) l = false) : goesN op p l = (nxL l).2 + goesN op (l.getD ((nxL l).2 - 1) 0) (l.drop (nxL l).2) := by
  cases l with
  | nil => cases h
  | cons c r =>
    have h1 := nxL_pos c r
    unfold goesN
    rw [List.length_cons, goes, if_neg (by rw [h]; simp)]
    rw [goes_fuel op r.length _ _ _ (by rw [List.length_drop, List.length_cons]; omega) (Nat.le_refl _)]
theorem plainN_eq (op : Bool) (r : List Nat) : plainN op r = trim (r.take ((nxL r).2 + goesN op (r.getD ((nxL r).2 - 1) 0) (r.drop (nxL r).2))) := by
  unfold plainN goesN
  rw [goes_fuel op r.length _ _ _ (by rw [List.length_drop]; omega) (Nat.le_refl _)]
theorem trim_le (l : List Nat) : trim l ≤ l.length := by
  induction l with
  | nil => exact Nat.le_refl _
  | cons c r ih => rw [trim, List.length_cons]; (repeat' split) <;> omega
theorem trim_rev (l : List Nat) : (l.reverse.dropWhile blk).length = trim l := by
  induction l with
  | nil => rfl
  | cons c r ih =>
    rw [List.reverse_cons, List.dropWhile_append, trim]
    by_cases h : trim r = 0
    · have h2 : (r.reverse.dropWhile blk) = [] := List.eq_nil_of_length_eq_zero (by rw [ih, h])
      rw [h2, if_pos h]
      cases hc : blk c with
      | true => simp [hc]
      | false => simp [hc]
    · rw [if_neg (by rw [List.isEmpty_iff]; intro e; rw [e] at ih; exact h (by rw [← ih]; rfl)), if_neg h, List.length_append, ih]
      rfl
theorem trim_lib (l : List UInt8) : (Lib.trimRightS l [32, 9]).length = trim (l.map UInt8.toNat) := by
  rw [← trim_rev, Lib.trimRightS, List.length_reverse, ← List.map_reverse]
  generalize l.reverse = m
  induction m with
  | nil => rfl
  | cons b r ih =>
    have key : ∀ n : Fin 256, ([32, 9] : List UInt8).contains n.val.toUInt8 = blk n.val := by decide +kernel
    have hb : ([32, 9] : List UInt8).contains b = blk b.toNat := by
      have := key ⟨b.toNat, UInt8.toNat_lt b⟩
      simpa using this
    rw [List.map_cons, List.dropWhile_cons, List.dropWhile_cons, hb]
    cases blk b.toNat with
    | true => simpa using ih
    | false => simp
theorem stop_at (op pb : Bool) (s : ByteArray) (p : Nat) (h : p < s.size) : stop op pb ((nats s).drop p) = (bad ((nats s).drop p) || ((s.get! p).toNat == 58 && key op ((nats s).drop (p + 1))) || ((s.get! p).toNat == 35 && pb) || (op && flo (s.get! p).toNat)) := by
  rw [drop_cons s p h]; rfl
theorem bad_at (s : ByteArray) (p : Nat) : bad ((nats s).drop p) = decide ((nx s p).1 < 0) := by rw [bad, ← nx_list]
end Go.Proofs.Ytaokjeopmhbddaa.Sc
