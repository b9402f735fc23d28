/- Plain facts on escapes (no program text): digits of sixteen, what stands for itself behind a backslash, what an escape is. -/
import Derived.Test.YtogiaaiphbamnaaText
import Derived.Test.YtogiaaiphbamnaaWorld
import Derived.Laws.RangeAny
import Derived.Laws.BitsLemmas
import Derived.Lib.Strings
namespace Go.Proofs.Ytogiaaiphbamnaa.Es
open Go.Lib Go.RowKit

/-- A digit of sixteen. -/
def hexI (c : Int) : Option Int := if 48 ≤ c ∧ c ≤ 57 then some (c - 48) else if 97 ≤ c ∧ c ≤ 102 then some (c - 97 + 10) else if 65 ≤ c ∧ c ≤ 70 then some (c - 65 + 10) else none
theorem hexI_bd {c d : Int} (h : hexI c = some d) : 48 ≤ c ∧ c ≤ 102 ∧ 0 ≤ d ∧ d ≤ 15 := by
  unfold hexI at h
  (repeat' split at h) <;> simp at h <;> omega
theorem hexI_high {c : Int} (h : 128 ≤ c) : hexI c = none := by
  unfold hexI
  rw [if_neg (by omega), if_neg (by omega), if_neg (by omega)]
/-- The sign of an escape of two bytes. -/
def shortI (c : Int) : Option Int :=
  if c = 48 then some 0 else if c = 116 then some 9 else if c = 110 then some 10 else if c = 114 then some 13 else if c = 101 then some 27
  else if c = 34 ∨ c = 47 ∨ c = 92 ∨ c = 32 then some c else none
theorem shortI_bd {c v : Int} (h : shortI c = some v) : 0 ≤ v ∧ v < 128 := by
  unfold shortI at h
  (repeat' split at h) <;> simp at h <;> omega
/-- How many digits stand behind a letter. -/
def digsI (c : Int) : Nat := if c = 85 then 8 else if c = 117 then 4 else if c = 120 then 2 else 0
theorem digsI_or (c : Int) : digsI c = 0 ∨ digsI c = 2 ∨ digsI c = 4 ∨ digsI c = 8 := by
  unfold digsI
  (repeat' split) <;> simp
/-- The number of some digits behind a number v; none: one is no digit. -/
def num : List UInt8 → Int → Option Int
  | [], v => some v
  | c :: l, v => match hexI c.toNat with
    | none => none
    | some d => num l (16 * v + d)
theorem num_app (a b : List UInt8) : ∀ v, num (a ++ b) v = (num a v).bind (num b) := by
  induction a with
  | nil => intro v; rfl
  | cons c a ih =>
    intro v
    simp only [List.cons_append, num]
    cases hexI c.toNat with
    | none => rfl
    | some d => exact ih _
theorem num_nonneg : ∀ (l : List UInt8) (v u : Int), 0 ≤ v → num l v = some u → v ≤ u
  | [], v, u, _, h => by injection h with h; omega
  | c :: l, v, u, hv, h => by
    unfold num at h
    cases hc : hexI c.toNat with
    | none => rw [hc] at h; cases h
    | some d =>
      rw [hc] at h
      have := hexI_bd hc
      have := num_nonneg l (16 * v + d) u (by omega) h
      omega
/-- The sign of some digits; none: it is none. -/
def sign (l : List UInt8) : Option Int := match num l 0 with
  | none => none
  | some v => if Utf8.valid v then some v else none
theorem sign_valid {l : List UInt8} {v : Int} (h : sign l = some v) : Utf8.valid v = true := by
  unfold sign at h
  split at h
  · cases h
  · split at h
    · injection h with h; subst h; assumption
    · cases h
/-- An escape at the front of a text: its sign, how many bytes it has. -/
def esc : List UInt8 → Option (Int × Nat)
  | a :: c :: rest =>
    if a.toNat = 92 then
      match shortI c.toNat with
      | some v => some (v, 2)
      | none => if digsI c.toNat = 0 ∨ rest.length < digsI c.toNat then none else match sign (rest.take (digsI c.toNat)) with
        | none => none
        | some v => some (v, 2 + digsI c.toNat)
    else none
  | _ => none
def txtOf : Option (Int × Nat) → ByteArray
  | none => ⟨#[]⟩
  | some (v, _) => Utf8.encode v
def lenOf : Option (Int × Nat) → Int
  | none => 0
  | some (_, n) => n

theorem esc_short {s : List UInt8} (h : s.length < 2) : esc s = none := by
  match s, h with
  | [], _ => rfl
  | [_], _ => rfl
theorem esc_other {a c : UInt8} {r : List UInt8} (h : a.toNat ≠ 92) : esc (a :: c :: r) = none := by rw [esc, if_neg h]
theorem esc_simple {a c : UInt8} {r : List UInt8} {v : Int} (h : a.toNat = 92) (hs : shortI c.toNat = some v) : esc (a :: c :: r) = some (v, 2) := by rw [esc, if_pos h, hs]
theorem esc_lacks {a c : UInt8} {r : List UInt8} (h : a.toNat = 92) (hs : shortI c.toNat = none) (hd : digsI c.toNat = 0 ∨ r.length < digsI c.toNat) : esc (a :: c :: r) = none := by rw [esc, if_pos h, hs]; simp only; rw [if_pos hd]
theorem esc_bad {a c : UInt8} {r : List UInt8} (h : a.toNat = 92) (hs : shortI c.toNat = none) (hd : digsI c.toNat ≠ 0) (hl : digsI c.toNat ≤ r.length) (hn : sign (r.take (digsI c.toNat)) = none) : esc (a :: c :: r) = none := by
  rw [esc, if_pos h, hs]; simp only; rw [if_neg (by omega), hn]
theorem esc_good {a c : UInt8} {r : List UInt8} {v : Int} (h : a.toNat = 92) (hs : shortI c.toNat = none) (hd : digsI c.toNat ≠ 0) (hl : digsI c.toNat ≤ r.length) (hn : sign (r.take (digsI c.toNat)) = some v) : esc (a :: c :: r) = some (v, 2 + digsI c.toNat) := by
  rw [esc, if_pos h, hs]; simp only; rw [if_neg (by omega), hn]

/-- r<<4|d on 32 bits, where v has at most seven digits: plainly, or below 0 where it is beyond 31 bits. -/
theorem or_low (x d : Int) (h0 : 0 ≤ x) (h1 : x < 134217728) (hd0 : 0 ≤ d) (hd : d ≤ 15) : bits .or .i32 (x * 16) d = x * 16 + d :=
  bits_join .i32 31 (by decide) wraps_i32 4 (x * 16) d (by omega) (by omega) (by omega) hd0 (by omega) (by omega)
theorem wrap_low (x : Int) (h0 : 0 ≤ x) (h1 : x < 134217728) : IntKind.i32.wrap (x * 16) = x * 16 := wraps_i32 _ (by omega) (by omega)
theorem or_high (x d : Int) (h0 : 134217728 ≤ x) (h1 : x < 268435456) (hd0 : 0 ≤ d) (hd : d ≤ 15) : bits .or .i32 (IntKind.i32.wrap (x * 16)) d < 0 := by
  have hw : IntKind.i32.wrap (x * 16) = x * 16 - 4294967296 := by rw [IntKind.wrap_i32]; omega
  rw [hw]
  unfold bits
  simp only
  have e1 : BitVec.ofInt 32 (x * 16 - 4294967296) = BitVec.ofNat 32 (x * 16).toNat := by
    apply BitVec.eq_of_toNat_eq
    rw [BitVec.toNat_ofInt, BitVec.toNat_ofNat]
    omega
  have e2 : BitVec.ofInt 32 d = BitVec.ofNat 32 d.toNat := by
    apply BitVec.eq_of_toNat_eq
    rw [BitVec.toNat_ofInt, BitVec.toNat_ofNat]
    omega
  show IntKind.i32.wrap (((BitVec.ofInt 32 (x * 16 - 4294967296) ||| BitVec.ofInt 32 d).toNat : Nat) : Int) < 0
  rw [e1, e2]
  have hge : 2147483648 ≤ (BitVec.ofNat 32 (x * 16).toNat ||| BitVec.ofNat 32 d.toNat).toNat := by
    rw [BitVec.toNat_or, BitVec.toNat_ofNat, BitVec.toNat_ofNat]
    have : (x * 16).toNat % 2 ^ 32 = (x * 16).toNat := by omega
    rw [this]
    exact Nat.le_trans (by omega) Nat.left_le_or
  have hlt : (BitVec.ofNat 32 (x * 16).toNat ||| BitVec.ofNat 32 d.toNat).toNat < 4294967296 := (BitVec.ofNat 32 (x * 16).toNat ||| BitVec.ofNat 32 d.toNat).isLt
  show IntKind.i32.wrap (((BitVec.ofNat 32 (x * 16).toNat ||| BitVec.ofNat 32 d.toNat).toNat : Nat) : Int) < 0
  generalize (BitVec.ofNat 32 (x * 16).toNat ||| BitVec.ofNat 32 d.toNat).toNat = z at *
  rw [IntKind.wrap_i32]; omega
theorem get_at (s : ByteArray) (k : Nat) (h : k < s.size) : s[k] = s.get! k := by
  simp [ByteArray.get!, getElem!_pos, h]
  rfl
theorem list_two (s : ByteArray) (h : 2 ≤ s.size) : s.data.toList = s[0]'(by omega) :: s[1]'(by omega) :: s.data.toList.drop 2 := by
  have hl : s.data.toList.length = s.size := (size_eq s).symm
  generalize hL : s.data.toList = L at *
  match L, hl with
  | a :: b :: r, _ =>
    have e0 : s[0]'(by omega) = a := by
      rw [get_at, ← getD_get!', hL]; rfl
    have e1 : s[1]'(by omega) = b := by
      rw [get_at, ← getD_get!', hL]; rfl
    rw [e0, e1]; rfl
  | [], hl => simp at hl; omega
  | [_], hl => simp at hl; omega
theorem ext_list (s : ByteArray) (a b : Nat) : (s.extract a b).data.toList = (s.data.toList.drop a).take (b - a) := by
  rw [extract_data]
end Go.Proofs.Ytogiaaiphbamnaa.Es
