/- Plain facts on signs in UTF-8 (no program text): what the first sign of some bytes is, which places of some bytes begin no sign, in how many steps they are gone through. -/
import Derived.Lib.DecodeN
import Derived.Lib.RuneCount
import Derived.Lib.RuneCountTail
namespace Go.Proofs.YtdngcihjfbmbpaaDoor.Sg
open Go.Lib

/-- The first sign of n bytes that begin with b0 b1 b2 b3 (those that are there), and its length: the chapter's words over the model's own decoder. -/
def nxN (n b0 b1 b2 b3 : Nat) : Int × Nat :=
  if n = 0 then (-1, 0) else if (decodeN n b0 b1 b2 b3).1 = 65533 ∧ (decodeN n b0 b1 b2 b3).2 < 2 then (-1, (decodeN n b0 b1 b2 b3).2) else (((decodeN n b0 b1 b2 b3).1 : Int), (decodeN n b0 b1 b2 b3).2)

/-- A sign of so many bytes out of a head's bits v0. -/
def sg2 (n v0 b1 : Nat) : Int × Nat :=
  if n < 2 then (-1, 1) else if b1 < 128 ∨ b1 > 191 then (-1, 1)
  else if v0 * 64 + b1 % 64 < 128 ∨ v0 * 64 + b1 % 64 > 1114111 ∨ (v0 * 64 + b1 % 64 ≥ 55296 ∧ v0 * 64 + b1 % 64 ≤ 57343) then (-1, 1) else (((v0 * 64 + b1 % 64 : Nat) : Int), 2)
def sg3 (n v0 b1 b2 : Nat) : Int × Nat :=
  if n < 3 then (-1, 1) else if b1 < 128 ∨ b1 > 191 then (-1, 1) else if b2 < 128 ∨ b2 > 191 then (-1, 1)
  else if (v0 * 64 + b1 % 64) * 64 + b2 % 64 < 2048 ∨ (v0 * 64 + b1 % 64) * 64 + b2 % 64 > 1114111 ∨ ((v0 * 64 + b1 % 64) * 64 + b2 % 64 ≥ 55296 ∧ (v0 * 64 + b1 % 64) * 64 + b2 % 64 ≤ 57343) then (-1, 1)
  else ((((v0 * 64 + b1 % 64) * 64 + b2 % 64 : Nat) : Int), 3)
def sg4 (n v0 b1 b2 b3 : Nat) : Int × Nat :=
  if n < 4 then (-1, 1) else if b1 < 128 ∨ b1 > 191 then (-1, 1) else if b2 < 128 ∨ b2 > 191 then (-1, 1) else if b3 < 128 ∨ b3 > 191 then (-1, 1)
  else if ((v0 * 64 + b1 % 64) * 64 + b2 % 64) * 64 + b3 % 64 < 65536 ∨ ((v0 * 64 + b1 % 64) * 64 + b2 % 64) * 64 + b3 % 64 > 1114111 ∨ (((v0 * 64 + b1 % 64) * 64 + b2 % 64) * 64 + b3 % 64 ≥ 55296 ∧ ((v0 * 64 + b1 % 64) * 64 + b2 % 64) * 64 + b3 % 64 ≤ 57343) then (-1, 1)
  else (((((v0 * 64 + b1 % 64) * 64 + b2 % 64) * 64 + b3 % 64 : Nat) : Int), 4)

theorem fin_bad (n b0 b1 b2 b3 : Nat) (hn : n ≠ 0) (e : decodeN n b0 b1 b2 b3 = (65533, 1)) : nxN n b0 b1 b2 b3 = (-1, 1) := by
  rw [nxN, if_neg hn, e, if_pos (by simp)]
theorem fin_good (n b0 b1 b2 b3 v k : Nat) (hn : n ≠ 0) (hk : 2 ≤ k) (e : decodeN n b0 b1 b2 b3 = (v, k)) : nxN n b0 b1 b2 b3 = ((v : Int), k) := by
  rw [nxN, if_neg hn, e, if_neg (by simp; omega)]
theorem nx_ascii (n b0 b1 b2 b3 : Nat) (hn : 0 < n) (h : b0 < 128) : nxN n b0 b1 b2 b3 = ((b0 : Int), 1) := by
  have e : decodeN n b0 b1 b2 b3 = (b0, 1) := by simp [decodeN, h]
  rw [nxN, if_neg (by omega), e, if_neg (by simp; omega)]
theorem nx_none (b0 b1 b2 b3 : Nat) : nxN 0 b0 b1 b2 b3 = (-1, 0) := by simp [nxN]
theorem nx_bad (n b0 b1 b2 b3 : Nat) (hn : 0 < n) (h : 128 ≤ b0) (h' : b0 < 192 ∨ 248 ≤ b0) : nxN n b0 b1 b2 b3 = (-1, 1) := by
  refine fin_bad _ _ _ _ _ (by omega) ?_
  simp only [decodeN]
  rw [if_neg (by omega), if_neg (by omega), if_neg (by omega), if_neg (by omega)]
theorem nx_two (n b0 b1 b2 b3 : Nat) (hn : 0 < n) (h : 192 ≤ b0) (h' : b0 < 224) (l1 : b1 < 256) : nxN n b0 b1 b2 b3 = sg2 n (b0 % 32) b1 := by
  unfold sg2
  generalize hv : b0 % 32 * 64 + b1 % 64 = v
  by_cases hc : 1 < n ∧ b1 / 64 = 2
  · rw [if_neg (by omega), if_neg (by omega)]
    by_cases hg : v ≥ 128
    · rw [if_neg (by omega)]
      refine fin_good _ _ _ _ _ _ _ (by omega) (by omega) ?_
      simp only [decodeN]
      rw [if_neg (by omega), if_pos (by omega), hv, if_pos hg]
    · rw [if_pos (by omega)]
      refine fin_bad _ _ _ _ _ (by omega) ?_
      simp only [decodeN]
      rw [if_neg (by omega), if_pos (by omega), hv, if_neg hg]
  · have e : nxN n b0 b1 b2 b3 = (-1, 1) := by
      refine fin_bad _ _ _ _ _ (by omega) ?_
      simp only [decodeN]
      rw [if_neg (by omega), if_neg (by omega), if_neg (by omega), if_neg (by omega)]
    rw [e]
    split
    · rfl
    · rw [if_pos (by omega)]
theorem nx_three (n b0 b1 b2 b3 : Nat) (hn : 0 < n) (h : 224 ≤ b0) (h' : b0 < 240) (l1 : b1 < 256) (l2 : b2 < 256) : nxN n b0 b1 b2 b3 = sg3 n (b0 % 16) b1 b2 := by
  have ea : b0 % 16 * 4096 + b1 % 64 * 64 + b2 % 64 = (b0 % 16 * 64 + b1 % 64) * 64 + b2 % 64 := by omega
  unfold sg3
  generalize hv : (b0 % 16 * 64 + b1 % 64) * 64 + b2 % 64 = v at ea ⊢
  by_cases hc : (1 < n ∧ b1 / 64 = 2) ∧ (2 < n ∧ b2 / 64 = 2)
  · rw [if_neg (by omega), if_neg (by omega), if_neg (by omega)]
    by_cases hg : v ≥ 2048 ∧ (v < 55296 ∨ (57344 ≤ v ∧ v ≤ 1114111))
    · rw [if_neg (by omega)]
      refine fin_good _ _ _ _ _ _ _ (by omega) (by omega) ?_
      simp only [decodeN]
      rw [if_neg (by omega), if_neg (by omega), if_pos (by omega), ea, if_pos hg]
    · rw [if_pos (by omega)]
      refine fin_bad _ _ _ _ _ (by omega) ?_
      simp only [decodeN]
      rw [if_neg (by omega), if_neg (by omega), if_pos (by omega), ea, if_neg hg]
  · have e : nxN n b0 b1 b2 b3 = (-1, 1) := by
      refine fin_bad _ _ _ _ _ (by omega) ?_
      simp only [decodeN]
      rw [if_neg (by omega), if_neg (by omega), if_neg (by omega), if_neg (by omega)]
    rw [e]
    split
    · rfl
    · split
      · rfl
      · rw [if_pos (by omega)]
theorem nx_four (n b0 b1 b2 b3 : Nat) (hn : 0 < n) (h : 240 ≤ b0) (h' : b0 < 248) (l1 : b1 < 256) (l2 : b2 < 256) (l3 : b3 < 256) : nxN n b0 b1 b2 b3 = sg4 n (b0 % 8) b1 b2 b3 := by
  have ea : b0 % 8 * 262144 + b1 % 64 * 4096 + b2 % 64 * 64 + b3 % 64 = ((b0 % 8 * 64 + b1 % 64) * 64 + b2 % 64) * 64 + b3 % 64 := by omega
  unfold sg4
  generalize hv : ((b0 % 8 * 64 + b1 % 64) * 64 + b2 % 64) * 64 + b3 % 64 = v at ea ⊢
  by_cases hc : (1 < n ∧ b1 / 64 = 2) ∧ (2 < n ∧ b2 / 64 = 2) ∧ (3 < n ∧ b3 / 64 = 2)
  · rw [if_neg (by omega), if_neg (by omega), if_neg (by omega), if_neg (by omega)]
    by_cases hg : v ≥ 65536 ∧ (v < 55296 ∨ (57344 ≤ v ∧ v ≤ 1114111))
    · rw [if_neg (by omega)]
      refine fin_good _ _ _ _ _ _ _ (by omega) (by omega) ?_
      simp only [decodeN]
      rw [if_neg (by omega), if_neg (by omega), if_neg (by omega), if_pos (by omega), ea, if_pos hg]
    · rw [if_pos (by omega)]
      refine fin_bad _ _ _ _ _ (by omega) ?_
      simp only [decodeN]
      rw [if_neg (by omega), if_neg (by omega), if_neg (by omega), if_pos (by omega), ea, if_neg hg]
  · have e : nxN n b0 b1 b2 b3 = (-1, 1) := by
      refine fin_bad _ _ _ _ _ (by omega) ?_
      simp only [decodeN]
      rw [if_neg (by omega), if_neg (by omega), if_neg (by omega), if_neg (by omega)]
    rw [e]
    split
    · rfl
    · split
      · rfl
      · split
        · rfl
        · rw [if_pos (by omega)]

/-- The first sign of the bytes s from place i on. -/
def nx (s : ByteArray) (i : Nat) : Int × Nat := nxN (s.size - i) (s.get! i).toNat (s.get! (i + 1)).toNat (s.get! (i + 2)).toNat (s.get! (i + 3)).toNat

end Go.Proofs.YtdngcihjfbmbpaaDoor.Sg
