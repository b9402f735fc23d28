/- Plain facts on going through bytes sign by sign: which places are bad, how many steps there are (no program text). -/
import Derived.Test.YtdngcihjfbmbpaaDoorSigns
namespace Go.Proofs.YtdngcihjfbmbpaaDoor.Sg
open Go.Lib

def badF (s : ByteArray) : Nat → Nat → List Nat
  | 0, _ => []
  | f + 1, p => if p < s.size then (if (nx s p).1 < 0 then p :: badF s f (p + (nx s p).2) else badF s f (p + (nx s p).2)) else []
def cntF (s : ByteArray) : Nat → Nat → Nat
  | 0, _ => 0
  | f + 1, p => if p < s.size then 1 + cntF s f (p + (nx s p).2) else 0
/-- The places of the bytes s at which no sign begins. -/
def bad (s : ByteArray) : List Nat := badF s s.size 0
/-- In how many steps the bytes s are gone through. -/
def cnt (s : ByteArray) : Nat := cntF s s.size 0

theorem badF_end (s : ByteArray) (f p : Nat) (h : ¬ p < s.size) : badF s f p = [] := by
  cases f <;> simp [badF, h]
theorem cntF_end (s : ByteArray) (f p : Nat) (h : ¬ p < s.size) : cntF s f p = 0 := by
  cases f <;> simp [cntF, h]

theorem nx_dec (s : ByteArray) (p : Nat) (h : p < s.size) : nx s p = if (Utf8.decode s p).1 = 65533 ∧ (Utf8.decode s p).2 < 2 then (-1, (Utf8.decode s p).2) else (((Utf8.decode s p).1 : Int), (Utf8.decode s p).2) := by
  unfold nx nxN
  rw [if_neg (by omega), ← decode_at]
theorem nx_width (s : ByteArray) (p : Nat) (h : p < s.size) : (nx s p).2 = (Utf8.decode s p).2 := by
  rw [nx_dec s p h]; split <;> rfl
theorem nx_neg (s : ByteArray) (p : Nat) (h : p < s.size) (hr : (Utf8.decode s p).1 ≠ 65533) : (nx s p).1 = (Utf8.decode s p).1 := by
  rw [nx_dec s p h, if_neg (fun x => hr x.1)]
theorem nx_lo (s : ByteArray) (p : Nat) : -1 ≤ (nx s p).1 := by
  unfold nx nxN
  (repeat' split) <;> (dsimp only; omega)
theorem nx_hi (s : ByteArray) (p : Nat) : (nx s p).1 ≤ 1114111 := by
  unfold nx nxN decodeN
  generalize (s.get! p).toNat = b0, (s.get! (p + 1)).toNat = b1, (s.get! (p + 2)).toNat = b2, (s.get! (p + 3)).toNat = b3
  (repeat' split) <;> (dsimp only at *; omega)
theorem nx_w4 (s : ByteArray) (p : Nat) : (nx s p).2 ≤ 4 := by
  unfold nx nxN decodeN
  generalize (s.get! p).toNat = b0, (s.get! (p + 1)).toNat = b1, (s.get! (p + 2)).toNat = b2, (s.get! (p + 3)).toNat = b3
  (repeat' split) <;> (dsimp only at *; omega)
theorem nx_pos (s : ByteArray) (p : Nat) (h : p < s.size) : 1 ≤ (nx s p).2 := by
  rw [nx_width s p h]; exact decode_width_pos s p h
theorem dec_le (n b0 b1 b2 b3 : Nat) (hn : 1 ≤ n) : (decodeN n b0 b1 b2 b3).2 ≤ n := by
  unfold decodeN
  (repeat' split) <;> (dsimp only; omega)
theorem nx_le (s : ByteArray) (p : Nat) (h : p < s.size) : p + (nx s p).2 ≤ s.size := by
  rw [nx_width s p h]
  have := dec_le (s.size - p) (s.get! p).toNat (s.get! (p + 1)).toNat (s.get! (p + 2)).toNat (s.get! (p + 3)).toNat (by omega)
  rw [← decode_at] at this
  omega
theorem nx_one (s : ByteArray) (p : Nat) (h : p < s.size) (hn : (nx s p).1 < 0) : (nx s p).2 = 1 := by
  have h1 := nx_pos s p h
  rw [nx_dec s p h] at hn h1 ⊢
  split at hn
  · rename_i hc
    rw [if_pos hc] at h1 ⊢
    dsimp only at h1 ⊢
    omega
  · dsimp only at hn; omega

theorem badF_step (s : ByteArray) (f p : Nat) (h : p < s.size) : badF s (f + 1) p = (if (nx s p).1 < 0 then [p] else []) ++ badF s f (p + (nx s p).2) := by
  rw [badF, if_pos h]; split <;> rfl
theorem cntF_step (s : ByteArray) (f p : Nat) (h : p < s.size) : cntF s (f + 1) p = 1 + cntF s f (p + (nx s p).2) := by
  rw [cntF, if_pos h]
theorem badF_len (s : ByteArray) : ∀ f p, (badF s f p).length ≤ f
  | 0, _ => Nat.le_refl _
  | f + 1, p => by
    have := badF_len s f (p + (nx s p).2)
    unfold badF; (repeat' split) <;> simp <;> omega
theorem cntF_le (s : ByteArray) : ∀ f p, cntF s f p ≤ f
  | 0, _ => Nat.le_refl _
  | f + 1, p => by
    have := cntF_le s f (p + (nx s p).2)
    unfold cntF; split <;> omega
theorem bad_len (s : ByteArray) : (bad s).length ≤ s.size := badF_len s _ _
theorem cnt_le (s : ByteArray) : cnt s ≤ s.size := cntF_le s _ _
/-- More fuel than bytes left changes nothing. -/
theorem badF_fuel (s : ByteArray) : ∀ f g p, s.size ≤ p + f → s.size ≤ p + g → badF s f p = badF s g p
  | 0, g, p, h, _ => by rw [badF_end s g p (by omega)]; rfl
  | f + 1, g, p, h, hg => by
    by_cases hp : p < s.size
    · obtain ⟨g', rfl⟩ : ∃ g', g = g' + 1 := ⟨g - 1, by omega⟩
      have := nx_pos s p hp
      rw [badF_step s f p hp, badF_step s g' p hp, badF_fuel s f g' _ (by omega) (by omega)]
    · rw [badF_end s _ p hp, badF_end s _ p hp]
theorem cntF_fuel (s : ByteArray) : ∀ f g p, s.size ≤ p + f → s.size ≤ p + g → cntF s f p = cntF s g p
  | 0, g, p, h, _ => by rw [cntF_end s g p (by omega)]; rfl
  | f + 1, g, p, h, hg => by
    by_cases hp : p < s.size
    · obtain ⟨g', rfl⟩ : ∃ g', g = g' + 1 := ⟨g - 1, by omega⟩
      have := nx_pos s p hp
      rw [cntF_step s f p hp, cntF_step s g' p hp, cntF_fuel s f g' _ (by omega) (by omega)]
    · rw [cntF_end s _ p hp, cntF_end s _ p hp]
end Go.Proofs.YtdngcihjfbmbpaaDoor.Sg
