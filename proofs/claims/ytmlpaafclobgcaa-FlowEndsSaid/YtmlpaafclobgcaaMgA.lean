/- Several texts in one: Signs Steps Sk Text Brk Sl. -/
import Derived.Lib.DecodeN
import Derived.Lib.RuneCount
import Derived.Lib.RuneCountTail
/- Plain facts on signs in UTF-8 (no program text): what the first sign of some bytes is, which places of some bytes begin no sign, in how many steps they are gone through. -/
namespace Go.Proofs.Ytmlpaafclobgcaa.Sg
open Go.Lib

/-- The first sign of n bytes that begin with b0 b1 b2 b3 (those that are there), and its length: the chapter's words over the model's own decoder. -/
def nxN (n b0 b1 b2 b3 : Nat) : Int × Nat :=
  if n = 0 then (-1, 0) else if (decodeN n b0 b1 b2 b3).1 = 65533 ∧ (decodeN n b0 b1 b2 b3).2 < 2 then (-1, (decodeN n b0 b1 b2 b3).2) else (((decodeN n b0 b1 b2 b3).1 : Int), (decodeN n b0 b1 b2 b3).2)

/-- A sign of so many bytes out of a head's bits v0. -/
def sg2 (n v0 b1 : Nat) : Int × Nat :=
  if n < 2 then (-1, 1) else if b1 < 128 ∨ b1 > 191 then (-1, 1)
  else if v0 * 64 + b1 % 64 < 128 ∨ v0 * 64 + b1 % 64 > 1114111 ∨ (v0 * 64 + b1 % 64 ≥ 55296 ∧ v0 * 64 + b1 % 64 ≤ 57343) then (-1, 1) else (((v0 * 64 + b1 % 64 : Nat) : Int), 2)
def sg3 (n v0 b1 b2 : Nat) : Int × Nat :=
  if n < 3 then (-1, 1) else if b1 < 128 ∨ b1 > 191 then (-1, 1) else if b2 < 128 ∨ b2 > 191 then (-1, 1)
  else if (v0 * 64 + b1 % 64) * 64 + b2 % 64 < 2048 ∨ (v0 * 64 + b1 % 64) * 64 + b2 % 64 > 1114111 ∨ ((v0 * 64 + b1 % 64) * 64 + b2 % 64 ≥ 55296 ∧ (v0 * 64 + b1 % 64) * 64 + b2 % 64 ≤ 57343) then (-1, 1)
  else ((((v0 * 64 + b1 % 64) * 64 + b2 % 64 : Nat) : Int), 3)
def sg4 (n v0 b1 b2 b3 : Nat) : Int × Nat :=
  if n < 4 then (-1, 1) else if b1 < 128 ∨ b1 > 191 then (-1, 1) else if b2 < 128 ∨ b2 > 191 then (-1, 1) else if b3 < 128 ∨ b3 > 191 then (-1, 1)
  else if ((v0 * 64 + b1 % 64) * 64 + b2 % 64) * 64 + b3 % 64 < 65536 ∨ ((v0 * 64 + b1 % 64) * 64 + b2 % 64) * 64 + b3 % 64 > 1114111 ∨ (((v0 * 64 + b1 % 64) * 64 + b2 % 64) * 64 + b3 % 64 ≥ 55296 ∧ ((v0 * 64 + b1 % 64) * 64 + b2 % 64) * 64 + b3 % 64 ≤ 57343) then (-1, 1)
  else (((((v0 * 64 + b1 % 64) * 64 + b2 % 64) * 64 + b3 % 64 : Nat) : Int), 4)

theorem fin_bad (n b0 b1 b2 b3 : Nat) (hn : n ≠ 0) (e : decodeN n b0 b1 b2 b3 = (65533, 1)) : nxN n b0 b1 b2 b3 = (-1, 1) := by
  rw [nxN, if_neg hn, e, if_pos (by simp)]
theorem fin_good (n b0 b1 b2 b3 v k : Nat) (hn : n ≠ 0) (hk : 2 ≤ k) (e : decodeN n b0 b1 b2 b3 = (v, k)) : nxN n b0 b1 b2 b3 = ((v : Int), k) := by
  rw [nxN, if_neg hn, e, if_neg (by simp; omega)]
theorem nx_ascii (n b0 b1 b2 b3 : Nat) (hn : 0 < n) (h : b0 < 128) : nxN n b0 b1 b2 b3 = ((b0 : Int), 1) := by
  have e : decodeN n b0 b1 b2 b3 = (b0, 1) := by simp [decodeN, h]
  rw [nxN, if_neg (by omega), e, if_neg (by simp; omega)]
theorem nx_none (b0 b1 b2 b3 : Nat) : nxN 0 b0 b1 b2 b3 = (-1, 0) := by simp [nxN]
theorem nx_bad (n b0 b1 b2 b3 : Nat) (hn : 0 < n) (h : 128 ≤ b0) (h' : b0 < 192 ∨ 248 ≤ b0) : nxN n b0 b1 b2 b3 = (-1, 1) := by
  refine fin_bad _ _ _ _ _ (by omega) ?_
  simp only [decodeN]
  rw [if_neg (by omega), if_neg (by omega), if_neg (by omega), if_neg (by omega)]
theorem nx_two (n b0 b1 b2 b3 : Nat) (hn : 0 < n) (h : 192 ≤ b0) (h' : b0 < 224) (l1 : b1 < 256) : nxN n b0 b1 b2 b3 = sg2 n (b0 % 32) b1 := by
  unfold sg2
  generalize hv : b0 % 32 * 64 + b1 % 64 = v
  by_cases hc : 1 < n ∧ b1 / 64 = 2
  · rw [if_neg (by omega), if_neg (by omega)]
    by_cases hg : v ≥ 128
    · rw [if_neg (by omega)]
      refine fin_good _ _ _ _ _ _ _ (by omega) (by omega) ?_
      simp only [decodeN]
      rw [if_neg (by omega), if_pos (by omega), hv, if_pos hg]
    · rw [if_pos (by omega)]
      refine fin_bad _ _ _ _ _ (by omega) ?_
      simp only [decodeN]
      rw [if_neg (by omega), if_pos (by omega), hv, if_neg hg]
  · have e : nxN n b0 b1 b2 b3 = (-1, 1) := by
      refine fin_bad _ _ _ _ _ (by omega) ?_
      simp only [decodeN]
      rw [if_neg (by omega), if_neg (by omega), if_neg (by omega), if_neg (by omega)]
    rw [e]
    split
    · rfl
    · rw [if_pos (by omega)]
theorem nx_three (n b0 b1 b2 b3 : Nat) (hn : 0 < n) (h : 224 ≤ b0) (h' : b0 < 240) (l1 : b1 < 256) (l2 : b2 < 256) : nxN n b0 b1 b2 b3 = sg3 n (b0 % 16) b1 b2 := by
  have ea : b0 % 16 * 4096 + b1 % 64 * 64 + b2 % 64 = (b0 % 16 * 64 + b1 % 64) * 64 + b2 % 64 := by omega
  unfold sg3
  generalize hv : (b0 % 16 * 64 + b1 % 64) * 64 + b2 % 64 = v at ea ⊢
  by_cases hc : (1 < n ∧ b1 / 64 = 2) ∧ (2 < n ∧ b2 / 64 = 2)
  · rw [if_neg (by omega), if_neg (by omega), if_neg (by omega)]
    by_cases hg : v ≥ 2048 ∧ (v < 55296 ∨ (57344 ≤ v ∧ v ≤ 1114111))
    · rw [if_neg (by omega)]
      refine fin_good _ _ _ _ _ _ _ (by omega) (by omega) ?_
      simp only [decodeN]
      rw [if_neg (by omega), if_neg (by omega), if_pos (by omega), ea, if_pos hg]
    · rw [if_pos (by omega)]
      refine fin_bad _ _ _ _ _ (by omega) ?_
      simp only [decodeN]
      rw [if_neg (by omega), if_neg (by omega), if_pos (by omega), ea, if_neg hg]
  · have e : nxN n b0 b1 b2 b3 = (-1, 1) := by
      refine fin_bad _ _ _ _ _ (by omega) ?_
      simp only [decodeN]
      rw [if_neg (by omega), if_neg (by omega), if_neg (by omega), if_neg (by omega)]
    rw [e]
    split
    · rfl
    · split
      · rfl
      · rw [if_pos (by omega)]
theorem nx_four (n b0 b1 b2 b3 : Nat) (hn : 0 < n) (h : 240 ≤ b0) (h' : b0 < 248) (l1 : b1 < 256) (l2 : b2 < 256) (l3 : b3 < 256) : nxN n b0 b1 b2 b3 = sg4 n (b0 % 8) b1 b2 b3 := by
  have ea : b0 % 8 * 262144 + b1 % 64 * 4096 + b2 % 64 * 64 + b3 % 64 = ((b0 % 8 * 64 + b1 % 64) * 64 + b2 % 64) * 64 + b3 % 64 := by omega
  unfold sg4
  generalize hv : ((b0 % 8 * 64 + b1 % 64) * 64 + b2 % 64) * 64 + b3 % 64 = v at ea ⊢
  by_cases hc : (1 < n ∧ b1 / 64 = 2) ∧ (2 < n ∧ b2 / 64 = 2) ∧ (3 < n ∧ b3 / 64 = 2)
  · rw [if_neg (by omega), if_neg (by omega), if_neg (by omega), if_neg (by omega)]
    by_cases hg : v ≥ 65536 ∧ (v < 55296 ∨ (57344 ≤ v ∧ v ≤ 1114111))
    · rw [if_neg (by omega)]
      refine fin_good _ _ _ _ _ _ _ (by omega) (by omega) ?_
      simp only [decodeN]
      rw [if_neg (by omega), if_neg (by omega), if_neg (by omega), if_pos (by omega), ea, if_pos hg]
    · rw [if_pos (by omega)]
      refine fin_bad _ _ _ _ _ (by omega) ?_
      simp only [decodeN]
      rw [if_neg (by omega), if_neg (by omega), if_neg (by omega), if_pos (by omega), ea, if_neg hg]
  · have e : nxN n b0 b1 b2 b3 = (-1, 1) := by
      refine fin_bad _ _ _ _ _ (by omega) ?_
      simp only [decodeN]
      rw [if_neg (by omega), if_neg (by omega), if_neg (by omega), if_neg (by omega)]
    rw [e]
    split
    · rfl
    · split
      · rfl
      · split
        · rfl
        · rw [if_pos (by omega)]

/-- The first sign of the bytes s from place i on. -/
def nx (s : ByteArray) (i : Nat) : Int × Nat := nxN (s.size - i) (s.get! i).toNat (s.get! (i + 1)).toNat (s.get! (i + 2)).toNat (s.get! (i + 3)).toNat

end Go.Proofs.Ytmlpaafclobgcaa.Sg

/- Plain facts on going through bytes sign by sign: which places are bad, how many steps there are (no program text). -/
namespace Go.Proofs.Ytmlpaafclobgcaa.Sg
open Go.Lib

def badF (s : ByteArray) : Nat → Nat → List Nat
  | 0, _ => []
  | f + 1, p => if p < s.size then (if (nx s p).1 < 0 then p :: badF s f (p + (nx s p).2) else badF s f (p + (nx s p).2)) else []
def cntF (s : ByteArray) : Nat → Nat → Nat
  | 0, _ => 0
  | f + 1, p => if p < s.size then 1 + cntF s f (p + (nx s p).2) else 0
/-- The places of the bytes s at which no sign begins. -/
def bad (s : ByteArray) : List Nat := badF s s.size 0
/-- In how many steps the bytes s are gone through. -/
def cnt (s : ByteArray) : Nat := cntF s s.size 0

theorem badF_end (s : ByteArray) (f p : Nat) (h : ¬ p < s.size) : badF s f p = [] := by
  cases f <;> simp [badF, h]
theorem cntF_end (s : ByteArray) (f p : Nat) (h : ¬ p < s.size) : cntF s f p = 0 := by
  cases f <;> simp [cntF, h]

theorem nx_dec (s : ByteArray) (p : Nat) (h : p < s.size) : nx s p = if (Utf8.decode s p).1 = 65533 ∧ (Utf8.decode s p).2 < 2 then (-1, (Utf8.decode s p).2) else (((Utf8.decode s p).1 : Int), (Utf8.decode s p).2) := by
  unfold nx nxN
  rw [if_neg (by omega), ← decode_at]
theorem nx_width (s : ByteArray) (p : Nat) (h : p < s.size) : (nx s p).2 = (Utf8.decode s p).2 := by
  rw [nx_dec s p h]; split <;> rfl
theorem nx_neg (s : ByteArray) (p : Nat) (h : p < s.size) (hr : (Utf8.decode s p).1 ≠ 65533) : (nx s p).1 = (Utf8.decode s p).1 := by
  rw [nx_dec s p h, if_neg (fun x => hr x.1)]
theorem nx_lo (s : ByteArray) (p : Nat) : -1 ≤ (nx s p).1 := by
  unfold nx nxN
  (repeat' split) <;> (dsimp only; omega)
theorem nx_hi (s : ByteArray) (p : Nat) : (nx s p).1 ≤ 1114111 := by
  unfold nx nxN decodeN
  generalize (s.get! p).toNat = b0, (s.get! (p + 1)).toNat = b1, (s.get! (p + 2)).toNat = b2, (s.get! (p + 3)).toNat = b3
  (repeat' split) <;> (dsimp only at *; omega)
theorem nx_w4 (s : ByteArray) (p : Nat) : (nx s p).2 ≤ 4 := by
  unfold nx nxN decodeN
  generalize (s.get! p).toNat = b0, (s.get! (p + 1)).toNat = b1, (s.get! (p + 2)).toNat = b2, (s.get! (p + 3)).toNat = b3
  (repeat' split) <;> (dsimp only at *; omega)
theorem nx_pos (s : ByteArray) (p : Nat) (h : p < s.size) : 1 ≤ (nx s p).2 := by
  rw [nx_width s p h]; exact decode_width_pos s p h
theorem dec_le (n b0 b1 b2 b3 : Nat) (hn : 1 ≤ n) : (decodeN n b0 b1 b2 b3).2 ≤ n := by
  unfold decodeN
  (repeat' split) <;> (dsimp only; omega)
theorem nx_le (s : ByteArray) (p : Nat) (h : p < s.size) : p + (nx s p).2 ≤ s.size := by
  rw [nx_width s p h]
  have := dec_le (s.size - p) (s.get! p).toNat (s.get! (p + 1)).toNat (s.get! (p + 2)).toNat (s.get! (p + 3)).toNat (by omega)
  rw [← decode_at] at this
  omega
theorem nx_one (s : ByteArray) (p : Nat) (h : p < s.size) (hn : (nx s p).1 < 0) : (nx s p).2 = 1 := by
  have h1 := nx_pos s p h
  rw [nx_dec s p h] at hn h1 ⊢
  split at hn
  · rename_i hc
    rw [if_pos hc] at h1 ⊢
    dsimp only at h1 ⊢
    omega
  · dsimp only at hn; omega

theorem badF_step (s : ByteArray) (f p : Nat) (h : p < s.size) : badF s (f + 1) p = (if (nx s p).1 < 0 then [p] else []) ++ badF s f (p + (nx s p).2) := by
  rw [badF, if_pos h]; split <;> rfl
theorem cntF_step (s : ByteArray) (f p : Nat) (h : p < s.size) : cntF s (f + 1) p = 1 + cntF s f (p + (nx s p).2) := by
  rw [cntF, if_pos h]
theorem badF_len (s : ByteArray) : ∀ f p, (badF s f p).length ≤ f
  | 0, _ => Nat.le_refl _
  | f + 1, p => by
    have := badF_len s f (p + (nx s p).2)
    unfold badF; (repeat' split) <;> simp <;> omega
theorem cntF_le (s : ByteArray) : ∀ f p, cntF s f p ≤ f
  | 0, _ => Nat.le_refl _
  | f + 1, p => by
    have := cntF_le s f (p + (nx s p).2)
    unfold cntF; split <;> omega
theorem bad_len (s : ByteArray) : (bad s).length ≤ s.size := badF_len s _ _
theorem cnt_le (s : ByteArray) : cnt s ≤ s.size := cntF_le s _ _
/-- More fuel than bytes left changes nothing. -/
theorem badF_fuel (s : ByteArray) : ∀ f g p, s.size ≤ p + f → s.size ≤ p + g → badF s f p = badF s g p
  | 0, g, p, h, _ => by rw [badF_end s g p (by omega)]; rfl
  | f + 1, g, p, h, hg => by
    by_cases hp : p < s.size
    · obtain ⟨g', rfl⟩ : ∃ g', g = g' + 1 := ⟨g - 1, by omega⟩
      have := nx_pos s p hp
      rw [badF_step s f p hp, badF_step s g' p hp, badF_fuel s f g' _ (by omega) (by omega)]
    · rw [badF_end s _ p hp, badF_end s _ p hp]
theorem cntF_fuel (s : ByteArray) : ∀ f g p, s.size ≤ p + f → s.size ≤ p + g → cntF s f p = cntF s g p
  | 0, g, p, h, _ => by rw [cntF_end s g p (by omega)]; rfl
  | f + 1, g, p, h, hg => by
    by_cases hp : p < s.size
    · obtain ⟨g', rfl⟩ : ∃ g', g = g' + 1 := ⟨g - 1, by omega⟩
      have := nx_pos s p hp
      rw [cntF_step s f p hp, cntF_step s g' p hp, cntF_fuel s f g' _ (by omega) (by omega)]
    · rw [cntF_end s _ p hp, cntF_end s _ p hp]
end Go.Proofs.Ytmlpaafclobgcaa.Sg

/- Tokens, plainly: which token stands at a place of a row, what is known behind it, the tokens of a text. Bytes are numbers here. No program stands behind this text. -/
namespace Go.Proofs.Ytmlpaafclobgcaa.Sc
open Go.Proofs.Ytmlpaafclobgcaa.Sg

def blk (c : Nat) : Bool := c == 32 || c == 9
def brk (c : Nat) : Bool := c == 10 || c == 13
def nam (c : Nat) : Bool := (Nat.ble 97 c && Nat.ble c 122) || (Nat.ble 65 c && Nat.ble c 90) || (Nat.ble 48 c && Nat.ble c 57) || c == 95 || c == 45
def flo (c : Nat) : Bool := c == 44 || c == 91 || c == 93 || c == 123 || c == 125
def spc (c : Nat) : Bool := c == 32
def tgc (c : Nat) : Bool := c == 33 || nam c
/-- How many bytes at the front are of a class. -/
def run (p : Nat → Bool) : List Nat → Nat
  | [] => 0
  | c :: r => if p c = true then run p r + 1 else 0
/-- A row: the bytes ahead of the first break. -/
def rowN (l : List Nat) : Nat := run (fun c => !brk c) l
def rowL (l : List Nat) : List Nat := l.take (rowN l)
/-- How many bytes the break has that stands at the front. -/
def brkS : List Nat → Nat
  | [] => 0
  | [c] => if c = 13 then 1 else if c = 10 then 1 else 0
  | c :: d :: _ => if c = 13 then (if d = 10 then 2 else 1) else if c = 10 then 1 else 0
/-- A blank follows, or nothing. -/
def part : List Nat → Bool
  | [] => true
  | c :: _ => blk c
def mark (r : List Nat) : Nat :=
  if r.take 3 = [45, 45, 45] then (if part (r.drop 3) = true then 20 else 0) else if r.take 3 = [46, 46, 46] then (if part (r.drop 3) = true then 21 else 0) else 0
def named : List Nat → Nat × Nat
  | [] => (0, 0)
  | c :: r =>
    if c = 38 then (if run nam r = 0 then (0, 0) else (12, run nam r + 1))
    else if c = 42 then (if run nam r = 0 then (0, 0) else (13, run nam r + 1))
    else if c = 33 then (14, run tgc r + 1) else (0, 0)
/-- Of a quoted text behind its first sign: how many bytes there are of it. -/
def sing : List Nat → Nat
  | [] => 0
  | [_] => 1
  | c :: d :: r => if c = 39 then (if d = 39 then sing r + 2 else 1) else sing (d :: r) + 1
def doub : List Nat → Nat
  | [] => 0
  | [_] => 1
  | c :: d :: r => if c = 34 then 1 else if c = 92 then doub r + 2 else doub (d :: r) + 1
def headS : List Nat → Nat
  | [] => 1
  | c :: _ => if c = 43 then 2 else if c = 45 then 2 else 1
def hsh : List Nat → Bool
  | [] => true
  | c :: _ => c == 35
/-- Behind a head: nothing, blanks, blanks and a comment. -/
def tailOk (rest : List Nat) : Bool := (rest.drop (run blk rest) == []) || (part rest && hsh (rest.drop (run blk rest)))
def headN : List Nat → Nat
  | [] => 0
  | c :: r => if c = 124 ∨ c = 62 then (if tailOk ((c :: r).drop (headS r)) = true then headS r else 0) else 0
/-- The first sign, and its length. -/
def nxL (l : List Nat) : Int × Nat := nxN l.length (l.getD 0 0) (l.getD 1 0) (l.getD 2 0) (l.getD 3 0)
def bad (l : List Nat) : Bool := decide ((nxL l).1 < 0)
/-- A colon's rest: a blank, nothing, or (of brackets) one of their signs. -/
def key (op : Bool) : List Nat → Bool
  | [] => true
  | c :: _ => blk c || (op && flo c)
/-- Does a plain text end here? pb: a blank stands ahead. -/
def stop (op pb : Bool) : List Nat → Bool
  | [] => true
  | c :: r => bad (c :: r) || (c == 58 && key op r) || (c == 35 && pb) || (op && flo c)
/-- How many bytes go on; p: the byte ahead. -/
def goes (op : Bool) : Nat → Nat → List Nat → Nat
  | 0, _, _ => 0
  | f + 1, p, l => if stop op (blk p) l = true then 0 else (nxL l).2 + goes op f (l.getD ((nxL l).2 - 1) 0) (l.drop (nxL l).2)
/-- Without the blanks at its end. -/
def trim : List Nat → Nat
  | [] => 0
  | c :: r => if trim r = 0 then (if blk c = true then 0 else 1) else trim r + 1
def plainN (op : Bool) (r : List Nat) : Nat := trim (r.take ((nxL r).2 + goes op r.length (r.getD ((nxL r).2 - 1) 0) (r.drop (nxL r).2)))
/-- A token of one sign. -/
def sign (op : Nat) (dash : Bool) : List Nat → Nat
  | [] => 0
  | c :: r =>
    if c = 91 then 8 else if c = 123 then 9 else if c = 93 then 10 else if c = 125 then 11
    else if c = 44 then (if 0 < op then 7 else 0)
    else if c = 45 then (if op = 0 then (if dash = true then (if part r = true then 5 else 0) else 0) else 0)
    else if c = 58 then (if key (decide (0 < op)) r = true then 6 else 0) else 0
def quoted : List Nat → Nat × Nat
  | [] => (0, 0)
  | c :: r => if c = 39 then (16, sing r + 1) else if c = 34 then (17, doub r + 1) else (0, 0)
/-- Behind the tokens that do not count. -/
def word (op : Nat) (dash : Bool) (r : List Nat) : Nat × Nat :=
  if 0 < sign op dash r then (sign op dash r, 1)
  else if 0 < (named r).1 then named r
  else if 0 < (quoted r).1 then quoted r
  else if op = 0 ∧ 0 < headN r then (18, headN r)
  else if bad r = true then (22, 1)
  else (15, plainN (decide (0 < op)) r)
/-- The token at the front of the rest of a row that is not empty. -/
def next (op : Nat) (dash blank first : Bool) (r : List Nat) : Nat × Nat :=
  if first = true ∧ 0 < mark r then (mark r, 3)
  else if first = true ∧ 0 < run spc r then (2, run spc r)
  else if 0 < run blk r then (3, run blk r)
  else if hsh r = true ∧ (first = true ∨ blank = true) then (4, r.length)
  else word op dash r

/-- What is known at a place: brackets that are open; the base (-1: none); how many spaces a block text's rows need (-1: none); may a dash stand; the column; is the token ahead of blanks. -/
structure St where
  op : Nat
  base : Int
  least : Int
  dash : Bool
  col : Nat
  blank : Bool
def fresh (op : Nat) (least : Int) : St := ⟨op, -1, least, true, 0, false⟩
def counts (k : Nat) : Bool := !(k == 1 || k == 2 || k == 3 || k == 4)
def leaves (k : Nat) : Bool := k == 20 || k == 2 || k == 3 || k == 5
def opens (op k : Nat) : Nat := if k = 8 ∨ k = 9 then op + 1 else if k = 10 ∨ k = 11 then op - 1 else if k = 20 ∨ k = 21 then 0 else op
def take (s : St) (k n : Nat) : St where
  op := opens s.op k
  least := if k = 18 then (if s.base = -1 then (s.col : Int) else s.base + 1) else s.least
  base := if s.base = -1 ∧ counts k = true then (s.col : Int) else s.base
  dash := s.dash && leaves k
  col := s.col + n
  blank := k == 2 || k == 3
def isText (least : Int) (r : List Nat) : Bool := decide (least ≠ -1 ∧ mark r = 0 ∧ (run blk r = r.length ∨ least ≤ run spc r))
/-- A token's kind, its size, and what is known behind it. -/
def mid (s : St) (l : List Nat) : Nat × Nat × St :=
  if rowN l = 0 then (1, brkS l, fresh s.op s.least)
  else ((next s.op s.dash s.blank (s.col == 0) (rowL l)).1, (next s.op s.dash s.blank (s.col == 0) (rowL l)).2, take s (next s.op s.dash s.blank (s.col == 0) (rowL l)).1 (next s.op s.dash s.blank (s.col == 0) (rowL l)).2)
def step (s : St) (l : List Nat) : Nat × Nat × St :=
  if s.col = 0 then (if isText s.least (rowL l) = true then (19, rowN l + brkS (l.drop (rowN l)), fresh s.op s.least) else mid { s with least := -1 } l) else mid s l
def toks : Nat → St → Nat → List Nat → List (Nat × Nat × Nat)
  | 0, _, _, _ => []
  | f + 1, s, at', l => if l = [] then [] else ((step s l).1, at', at' + (step s l).2.1) :: toks f (step s l).2.2 (at' + (step s l).2.1) (l.drop (step s l).2.1)
/-- The tokens of a text. -/
def tokens (l : List Nat) : List (Nat × Nat × Nat) := if 16384 < l.length then [] else toks l.length (fresh 0 (-1)) 0 l
def nats (s : ByteArray) : List Nat := s.data.toList.map UInt8.toNat
end Go.Proofs.Ytmlpaafclobgcaa.Sc

/- Plain facts on texts of whole signs: what is written of a sign is read as it; bytes behind such a text have their bad places and their steps as they have alone (no program text). -/
namespace Go.Proofs.Ytmlpaafclobgcaa.Sg
open Go.Lib

theorem app_size (a b : ByteArray) : (a ++ b).size = a.size + b.size := ByteArray.size_append
theorem app_list (a b : ByteArray) : (a ++ b).data.toList = a.data.toList ++ b.data.toList := by simp
theorem get_l (a b : ByteArray) (i : Nat) (h : i < a.size) : (a ++ b).get! i = a.get! i := by
  rw [← getD_get!', ← getD_get!', app_list, List.getD_eq_getElem?_getD, List.getElem?_append_left (by rw [← size_eq]; exact h), ← List.getD_eq_getElem?_getD]
theorem get_r (a b : ByteArray) (i : Nat) : (a ++ b).get! (a.size + i) = b.get! i := by
  rw [← getD_get!', ← getD_get!', app_list, List.getD_eq_getElem?_getD, List.getElem?_append_right (by rw [← size_eq]; omega), ← size_eq, Nat.add_sub_cancel_left, ← List.getD_eq_getElem?_getD]
theorem nx_app (a b : ByteArray) (i : Nat) : nx (a ++ b) (a.size + i) = nx b i := by
  unfold nx
  rw [app_size, Nat.add_assoc, Nat.add_assoc, Nat.add_assoc, get_r, get_r, get_r, get_r, show a.size + b.size - (a.size + i) = b.size - i from by omega]

theorem get_at (l : List UInt8) (i : Nat) : (⟨l.toArray⟩ : ByteArray).get! i = l.getD i 0 := by rw [← getD_get!']
theorem size_at (l : List UInt8) : (⟨l.toArray⟩ : ByteArray).size = l.length := by simp [ByteArray.size]

/-- The sign that is written: itself, or FFFD where it is none. -/
def sgn (r : Int) : Nat := if Utf8.valid r then r.toNat else 65533
theorem sgn_bd (r : Int) : sgn r < 55296 ∨ (57344 ≤ sgn r ∧ sgn r ≤ 1114111) := by
  unfold sgn
  split
  · rename_i h
    simp [Utf8.valid] at h
    omega
  · omega
theorem sgn_valid {r : Int} (h : Utf8.valid r = true) : (sgn r : Int) = r := by
  unfold sgn
  rw [if_pos h]
  simp [Utf8.valid] at h
  omega
def enc1 (c : Nat) : List UInt8 := [UInt8.ofNat c]
def enc2 (c : Nat) : List UInt8 := [UInt8.ofNat (192 + c / 64), UInt8.ofNat (128 + c % 64)]
def enc3 (c : Nat) : List UInt8 := [UInt8.ofNat (224 + c / 4096), UInt8.ofNat (128 + c / 64 % 64), UInt8.ofNat (128 + c % 64)]
def enc4 (c : Nat) : List UInt8 := [UInt8.ofNat (240 + c / 262144), UInt8.ofNat (128 + c / 4096 % 64), UInt8.ofNat (128 + c / 64 % 64), UInt8.ofNat (128 + c % 64)]
/-- A sign's bytes. -/
def encL (c : Nat) : List UInt8 := if c < 128 then enc1 c else if c < 2048 then enc2 c else if c < 65536 then enc3 c else enc4 c
theorem encode_eq (r : Int) : Utf8.encode r = ⟨(encL (sgn r)).toArray⟩ := by
  have h : Utf8.encode r = (if sgn r < 128 then ⟨(enc1 (sgn r)).toArray⟩ else if sgn r < 2048 then ⟨(enc2 (sgn r)).toArray⟩ else if sgn r < 65536 then ⟨(enc3 (sgn r)).toArray⟩ else ⟨(enc4 (sgn r)).toArray⟩) := rfl
  rw [h]
  unfold encL
  by_cases c1 : sgn r < 128
  · rw [if_pos c1, if_pos c1]
  by_cases c2 : sgn r < 2048
  · rw [if_neg c1, if_pos c2, if_neg c1, if_pos c2]
  by_cases c3 : sgn r < 65536
  · rw [if_neg c1, if_neg c2, if_pos c3, if_neg c1, if_neg c2, if_pos c3]
  · rw [if_neg c1, if_neg c2, if_neg c3, if_neg c1, if_neg c2, if_neg c3]
theorem byte_of (n : Nat) (h : n < 256) : (UInt8.ofNat n).toNat = n := by simp; omega

theorem nx_enc (r : Int) (b : ByteArray) : nx (Utf8.encode r ++ b) 0 = ((sgn r : Int), (encL (sgn r)).length) := by
  have hb := sgn_bd r
  rw [encode_eq]
  generalize sgn r = c at hb
  have hlt : ∀ k, (((⟨(encL c).toArray⟩ : ByteArray) ++ b).get! k).toNat < 256 := fun k => UInt8.toNat_lt _
  have hg : ∀ k, k < (encL c).length → ((⟨(encL c).toArray⟩ : ByteArray) ++ b).get! k = (encL c).getD k 0 := fun k hk => by
    rw [get_l _ _ _ (by rw [size_at]; exact hk), get_at]
  unfold nx
  rw [app_size, size_at, Nat.sub_zero, Nat.zero_add, Nat.zero_add, Nat.zero_add]
  have l1 := hlt 1
  have l2 := hlt 2
  have l3 := hlt 3
  clear hlt
  by_cases c1 : c < 128
  · have e : encL c = enc1 c := by unfold encL; rw [if_pos c1]
    rw [e] at hg l1 l2 l3 ⊢
    rw [hg 0 (by simp [enc1])]
    show nxN _ (UInt8.ofNat c).toNat _ _ _ = _
    rw [byte_of _ (by omega), nx_ascii _ _ _ _ _ (by simp [enc1]; omega) c1]
    rfl
  by_cases c2 : c < 2048
  · have e : encL c = enc2 c := by unfold encL; rw [if_neg c1, if_pos c2]
    rw [e] at hg l1 l2 l3 ⊢
    rw [hg 0 (by simp [enc2]), hg 1 (by simp [enc2])]
    show nxN _ (UInt8.ofNat (192 + c / 64)).toNat (UInt8.ofNat (128 + c % 64)).toNat _ _ = _
    rw [byte_of _ (by omega), byte_of _ (by omega), nx_two _ _ _ _ _ (by simp [enc2]; omega) (by omega) (by omega) (by omega)]
    unfold sg2
    rw [if_neg (by simp [enc2]), if_neg (by omega), show (192 + c / 64) % 32 * 64 + (128 + c % 64) % 64 = c from by omega, if_neg (by omega)]
    rfl
  by_cases c3 : c < 65536
  · have e : encL c = enc3 c := by unfold encL; rw [if_neg c1, if_neg c2, if_pos c3]
    rw [e] at hg l1 l2 l3 ⊢
    rw [hg 0 (by simp [enc3]), hg 1 (by simp [enc3]), hg 2 (by simp [enc3])]
    show nxN _ (UInt8.ofNat (224 + c / 4096)).toNat (UInt8.ofNat (128 + c / 64 % 64)).toNat (UInt8.ofNat (128 + c % 64)).toNat _ = _
    rw [byte_of _ (by omega), byte_of _ (by omega), byte_of _ (by omega), nx_three _ _ _ _ _ (by simp [enc3]; omega) (by omega) (by omega) (by omega) (by omega)]
    unfold sg3
    rw [if_neg (by simp [enc3]), if_neg (by omega), if_neg (by omega), show ((224 + c / 4096) % 16 * 64 + (128 + c / 64 % 64) % 64) * 64 + (128 + c % 64) % 64 = c from by omega, if_neg (by omega)]
    rfl
  · have e : encL c = enc4 c := by unfold encL; rw [if_neg c1, if_neg c2, if_neg c3]
    rw [e] at hg l1 l2 l3 ⊢
    rw [hg 0 (by simp [enc4]), hg 1 (by simp [enc4]), hg 2 (by simp [enc4]), hg 3 (by simp [enc4])]
    show nxN _ (UInt8.ofNat (240 + c / 262144)).toNat (UInt8.ofNat (128 + c / 4096 % 64)).toNat (UInt8.ofNat (128 + c / 64 % 64)).toNat (UInt8.ofNat (128 + c % 64)).toNat = _
    rw [byte_of _ (by omega), byte_of _ (by omega), byte_of _ (by omega), byte_of _ (by omega), nx_four _ _ _ _ _ (by simp [enc4]; omega) (by omega) (by omega) (by omega) (by omega) (by omega)]
    unfold sg4
    rw [if_neg (by simp [enc4]), if_neg (by omega), if_neg (by omega), if_neg (by omega), show (((240 + c / 262144) % 8 * 64 + (128 + c / 4096 % 64) % 64) * 64 + (128 + c / 64 % 64) % 64) * 64 + (128 + c % 64) % 64 = c from by omega, if_neg (by omega)]
    rfl
theorem encL_len (c : Nat) : 1 ≤ (encL c).length ∧ (encL c).length ≤ 4 := by
  unfold encL
  (repeat' split) <;> simp [enc1, enc2, enc3, enc4]
theorem encode_size (r : Int) : (Utf8.encode r).size = (encL (sgn r)).length := by rw [encode_eq, size_at]

/-- The text of these signs. -/
def text : List Int → ByteArray
  | [] => ⟨#[]⟩
  | r :: l => Utf8.encode r ++ text l
theorem ba_nil (a : ByteArray) : (⟨#[]⟩ : ByteArray) ++ a = a := by
  cases a; simp [ByteArray.ext_iff]
theorem ba_nil_r (a : ByteArray) : a ++ (⟨#[]⟩ : ByteArray) = a := by
  cases a; simp [ByteArray.ext_iff]
theorem text_size (l : List Int) : l.length ≤ (text l).size ∧ (text l).size ≤ 4 * l.length := by
  induction l with
  | nil => exact ⟨Nat.le_refl _, Nat.le_refl _⟩
  | cons r l ih =>
    have := encL_len (sgn r)
    rw [text, app_size, encode_size, List.length_cons]
    omega
theorem text_snoc (l : List Int) (r : Int) : text (l ++ [r]) = text l ++ Utf8.encode r := by
  induction l with
  | nil =>
    show Utf8.encode r ++ (⟨#[]⟩ : ByteArray) = (⟨#[]⟩ : ByteArray) ++ Utf8.encode r
    rw [ba_nil, ba_nil_r]
  | cons x l ih => rw [List.cons_append, text, ih, text, ByteArray.append_assoc]

/-- Through a text of whole signs that stands behind pre and ahead of b: no place is bad; each sign is a step. -/
theorem through (l : List Int) : ∀ (pre b : ByteArray) (f : Nat), (pre ++ (text l ++ b)).size ≤ pre.size + f →
    badF (pre ++ (text l ++ b)) f pre.size = badF (pre ++ (text l ++ b)) f (pre.size + (text l).size) ∧
    cntF (pre ++ (text l ++ b)) f pre.size = l.length + cntF (pre ++ (text l ++ b)) f (pre.size + (text l).size) := by
  induction l with
  | nil =>
    intro pre b f _
    rw [show text [] = ⟨#[]⟩ from rfl, show (⟨#[]⟩ : ByteArray).size = 0 from rfl, Nat.add_zero, List.length_nil, Nat.zero_add]
    exact ⟨rfl, rfl⟩
  | cons r l ih =>
    intro pre b f hf
    have hn : nx (pre ++ (text (r :: l) ++ b)) pre.size = ((sgn r : Int), (encL (sgn r)).length) := by
      have := nx_app pre (text (r :: l) ++ b) 0
      rw [Nat.add_zero] at this
      rw [this, text, ByteArray.append_assoc, nx_enc]
    have hl := encL_len (sgn r)
    have hz : (pre ++ (text (r :: l) ++ b)).size = pre.size + ((encL (sgn r)).length + (text l).size + b.size) := by
      rw [app_size, app_size, text, app_size, encode_size]
    obtain ⟨g, rfl⟩ : ∃ g, f = g + 1 := ⟨f - 1, by omega⟩
    have hlt : pre.size < (pre ++ (text (r :: l) ++ b)).size := by omega
    have ih2 := ih (pre ++ Utf8.encode r) b g
    have hs : pre ++ Utf8.encode r ++ (text l ++ b) = pre ++ (text (r :: l) ++ b) := by
      rw [text]; simp only [ByteArray.append_assoc]
    rw [hs, app_size pre (Utf8.encode r), encode_size] at ih2
    have ih3 := ih2 (by omega)
    rw [badF_step _ _ _ hlt, cntF_step _ _ _ hlt, hn, if_neg (by simp), List.nil_append, ih3.1, ih3.2]
    have hp : pre.size + (text (r :: l)).size = pre.size + (encL (sgn r)).length + (text l).size := by rw [text, app_size, encode_size]; omega
    rw [hp]
    constructor
    · exact badF_fuel _ _ _ _ (by omega) (by omega)
    · rw [cntF_fuel _ (g + 1) g _ (by omega) (by omega), List.length_cons]
      omega
theorem badF_app (a b : ByteArray) : ∀ f p, badF (a ++ b) f (a.size + p) = (badF b f p).map (a.size + ·)
  | 0, _ => rfl
  | f + 1, p => by
    by_cases h : p < b.size
    · rw [badF_step _ _ _ h, badF_step _ _ _ (by rw [app_size]; omega), nx_app, Nat.add_assoc, badF_app a b f]
      split <;> simp
    · rw [badF_end _ _ _ h, badF_end _ _ _ (by rw [app_size]; omega)]; rfl
theorem cntF_app (a b : ByteArray) : ∀ f p, cntF (a ++ b) f (a.size + p) = cntF b f p
  | 0, _ => rfl
  | f + 1, p => by
    by_cases h : p < b.size
    · rw [cntF_step _ _ _ h, cntF_step _ _ _ (by rw [app_size]; omega), nx_app, Nat.add_assoc, cntF_app a b f]
    · rw [cntF_end _ _ _ h, cntF_end _ _ _ (by rw [app_size]; omega)]
/-- Bytes behind a text of whole signs have their bad places, and as many steps more as the text has signs. -/
theorem behind (l : List Int) (b : ByteArray) : bad (text l ++ b) = (bad b).map ((text l).size + ·) ∧ cnt (text l ++ b) = l.length + cnt b := by
  have h := through l ⟨#[]⟩ b (text l ++ b).size (by rw [ba_nil]; omega)
  rw [ba_nil] at h
  simp only [show (⟨#[]⟩ : ByteArray).size = 0 from rfl, Nat.zero_add] at h
  have e1 := badF_app (text l) b (text l ++ b).size 0
  have e2 := cntF_app (text l) b (text l ++ b).size 0
  rw [Nat.add_zero] at e1 e2
  unfold bad cnt
  rw [h.1, h.2, e1, e2, badF_fuel b (text l ++ b).size b.size 0 (by rw [app_size]; omega) (by omega), cntF_fuel b (text l ++ b).size b.size 0 (by rw [app_size]; omega) (by omega)]
  exact ⟨rfl, rfl⟩
theorem text_alone (l : List Int) : bad (text l) = [] ∧ cnt (text l) = l.length := by
  have h := behind l ⟨#[]⟩
  rw [ba_nil_r] at h
  exact ⟨h.1, h.2⟩
end Go.Proofs.Ytmlpaafclobgcaa.Sg

/- Plain facts on lines (no program text): which bytes end a line, where lines begin, and what lies between; in how many steps a piece between two signs is gone through. -/
namespace Go.Proofs.Ytmlpaafclobgcaa.Sg
open Go.Lib

/-- A line ends behind place p of the bytes s. -/
def ends (s : ByteArray) (p : Nat) : Prop := p < s.size ∧ ((s.get! p).toNat = 10 ∨ ((s.get! p).toNat = 13 ∧ ¬ (p + 1 < s.size ∧ (s.get! (p + 1)).toNat = 10)))
instance (s : ByteArray) (p : Nat) : Decidable (ends s p) := by unfold ends; infer_instance
/-- The places up to k at which lines begin. -/
def stN (s : ByteArray) : Nat → List Nat
  | 0 => [0]
  | k + 1 => stN s k ++ if ends s k then [k + 1] else []
/-- The last one of them. -/
def ls (s : ByteArray) : Nat → Nat
  | 0 => 0
  | k + 1 => if ends s k then k + 1 else ls s k
/-- The places at which lines begin. -/
def st (s : ByteArray) : List Nat := stN s s.size

theorem stN_pos (s : ByteArray) : ∀ k, 1 ≤ (stN s k).length
  | 0 => by simp [stN]
  | k + 1 => by have := stN_pos s k; rw [stN, List.length_append]; omega
theorem stN_len (s : ByteArray) : ∀ k, (stN s k).length ≤ k + 1
  | 0 => by simp [stN]
  | k + 1 => by
    have := stN_len s k
    rw [stN, List.length_append]
    split <;> simp <;> omega
theorem ls_le (s : ByteArray) : ∀ k, ls s k ≤ k
  | 0 => Nat.le_refl _
  | k + 1 => by
    have := ls_le s k
    rw [ls]; split <;> omega
theorem stN_last (s : ByteArray) : ∀ k, ∃ l, stN s k = l ++ [ls s k]
  | 0 => ⟨[], rfl⟩
  | k + 1 => by
    obtain ⟨l, hl⟩ := stN_last s k
    rw [stN, ls]
    split
    · exact ⟨stN s k, rfl⟩
    · rw [List.append_nil]; exact ⟨l, hl⟩
theorem stN_front (s : ByteArray) (k : Nat) : ∀ d, ∃ r, stN s (k + d) = stN s k ++ r ∧ ∀ x ∈ r, k < x ∧ x ≤ k + d
  | 0 => ⟨[], by simp, by simp⟩
  | d + 1 => by
    obtain ⟨r, h1, h2⟩ := stN_front s k d
    refine ⟨r ++ if ends s (k + d) then [k + d + 1] else [], ?_, ?_⟩
    · rw [← Nat.add_assoc, stN, h1, List.append_assoc]
    · intro x hx
      rcases List.mem_append.1 hx with h | h
      · have := h2 x h; omega
      · split at h
        · simp at h; omega
        · cases h
theorem stN_mem (s : ByteArray) : ∀ k, ∀ x ∈ stN s k, x ≤ k
  | 0 => by simp [stN]
  | k + 1 => by
    intro x hx
    rw [stN] at hx
    rcases List.mem_append.1 hx with h | h
    · have := stN_mem s k x h; omega
    · split at h
      · simp at h; omega
      · cases h
/-- Of the starts up to m those up to k are the first ones. -/
theorem st_at (s : ByteArray) (k m j : Nat) (hk : k ≤ m) (hj : j < (stN s m).length) : (stN s m).getD j 0 ≤ k ↔ j < (stN s k).length := by
  obtain ⟨d, rfl⟩ : ∃ d, m = k + d := ⟨m - k, by omega⟩
  obtain ⟨r, h1, h2⟩ := stN_front s k d
  rw [h1] at hj ⊢
  rw [List.getD_eq_getElem?_getD]
  by_cases h : j < (stN s k).length
  · rw [List.getElem?_append_left h, List.getElem?_eq_getElem h]
    have := stN_mem s k _ (List.getElem_mem h)
    simp [h]; exact this
  · rw [List.getElem?_append_right (by omega)]
    rw [List.length_append] at hj
    have hlt : j - (stN s k).length < r.length := by omega
    rw [List.getElem?_eq_getElem hlt]
    have := h2 _ (List.getElem_mem hlt)
    simp only [Option.getD_some]
    constructor
    · intro hh; omega
    · intro hh; omega
theorem st_lastAt (s : ByteArray) (k m : Nat) (hk : k ≤ m) : (stN s m).getD ((stN s k).length - 1) 0 = ls s k := by
  obtain ⟨d, rfl⟩ : ∃ d, m = k + d := ⟨m - k, by omega⟩
  obtain ⟨r, h1, _⟩ := stN_front s k d
  obtain ⟨l, hl⟩ := stN_last s k
  rw [h1, hl, List.length_append, List.length_singleton, Nat.add_sub_cancel, List.append_assoc, List.getD_eq_getElem?_getD, List.getElem?_append_right (Nat.le_refl _)]
  simp
theorem st_zero (s : ByteArray) : ∀ k, (stN s k).getD 0 0 = 0
  | 0 => rfl
  | k + 1 => by
    have h := st_zero s k
    have hp := stN_pos s k
    rw [stN, List.getD_eq_getElem?_getD, List.getElem?_append_left (by omega), ← List.getD_eq_getElem?_getD]
    exact h
theorem skip (s : ByteArray) (p : Nat) : ∀ d, (∀ i, p ≤ i → i < p + d → ¬ ends s i) → stN s (p + d) = stN s p ∧ ls s (p + d) = ls s p
  | 0, _ => ⟨rfl, rfl⟩
  | d + 1, h => by
    have ih := skip s p d (fun i h1 h2 => h i h1 (by omega))
    have hn := h (p + d) (by omega) (by omega)
    rw [← Nat.add_assoc, stN, ls, if_neg hn, if_neg hn, List.append_nil]
    exact ih
theorem not_ends_of (s : ByteArray) (i : Nat) (h : 128 ≤ (s.get! i).toNat) : ¬ ends s i := by
  unfold ends; omega
/-- From a place over K bytes, of which the later ones belong to a sign of several. -/
theorem over (s : ByteArray) (p K : Nat) (hK : 1 ≤ K) (h : ∀ i, p < i → i < p + K → 128 ≤ (s.get! i).toNat) :
    stN s (p + K) = stN s p ++ (if ends s p then [p + 1] else []) ∧ ls s (p + K) = if ends s p then p + 1 else ls s p := by
  obtain ⟨d, rfl⟩ : ∃ d, K = 1 + d := ⟨K - 1, by omega⟩
  have := skip s (p + 1) d (fun i h1 h2 => not_ends_of s i (h i (by omega) (by omega)))
  rw [← Nat.add_assoc, this.1, this.2]
  exact ⟨rfl, rfl⟩

theorem nx_first (s : ByteArray) (p : Nat) (h : p < s.size) :
    ((s.get! p).toNat < 128 → nx s p = (((s.get! p).toNat : Int), 1)) ∧ (128 ≤ (s.get! p).toNat → ((nx s p).1 = -1 ∨ 128 ≤ (nx s p).1) ∧ ∀ i, p < i → i < p + (nx s p).2 → 128 ≤ (s.get! i).toNat) := by
  have l0 := (s.get! p).toNat_lt
  have l1 := (s.get! (p + 1)).toNat_lt
  have l2 := (s.get! (p + 2)).toNat_lt
  have l3 := (s.get! (p + 3)).toNat_lt
  have hpos : 0 < s.size - p := by omega
  refine ⟨fun hb => by unfold nx; exact nx_ascii _ _ _ _ _ hpos hb, fun hb => ?_⟩
  have key : ∀ K : Nat, (2 ≤ K → 128 ≤ (s.get! (p + 1)).toNat) → (3 ≤ K → 128 ≤ (s.get! (p + 2)).toNat) → (4 ≤ K → 128 ≤ (s.get! (p + 3)).toNat) → K ≤ 4 → ∀ i, p < i → i < p + K → 128 ≤ (s.get! i).toNat := by
    intro K k1 k2 k3 k4 i h1 h2
    rcases (by omega : i = p + 1 ∨ i = p + 2 ∨ i = p + 3) with rfl | rfl | rfl
    · exact k1 (by omega)
    · exact k2 (by omega)
    · exact k3 (by omega)
  by_cases c2 : (s.get! p).toNat < 192
  · have e : nx s p = (-1, 1) := by unfold nx; exact nx_bad _ _ _ _ _ hpos hb (.inl c2)
    rw [e]
    exact ⟨.inl rfl, fun i h1 h2 => by dsimp only at h2; omega⟩
  by_cases c3 : (s.get! p).toNat < 224
  · have e : nx s p = sg2 (s.size - p) ((s.get! p).toNat % 32) (s.get! (p + 1)).toNat := by unfold nx; exact nx_two _ _ _ _ _ hpos (by omega) c3 l1
    rw [e]
    refine ⟨?_, key _ ?_ ?_ ?_ ?_⟩ <;> unfold sg2 <;> (repeat' split) <;> dsimp only at * <;> omega
  by_cases c4 : (s.get! p).toNat < 240
  · have e : nx s p = sg3 (s.size - p) ((s.get! p).toNat % 16) (s.get! (p + 1)).toNat (s.get! (p + 2)).toNat := by unfold nx; exact nx_three _ _ _ _ _ hpos (by omega) c4 l1 l2
    rw [e]
    refine ⟨?_, key _ ?_ ?_ ?_ ?_⟩ <;> unfold sg3 <;> (repeat' split) <;> dsimp only at * <;> omega
  by_cases c5 : (s.get! p).toNat < 248
  · have e : nx s p = sg4 (s.size - p) ((s.get! p).toNat % 8) (s.get! (p + 1)).toNat (s.get! (p + 2)).toNat (s.get! (p + 3)).toNat := by unfold nx; exact nx_four _ _ _ _ _ hpos (by omega) c5 l1 l2 l3
    rw [e]
    refine ⟨?_, key _ ?_ ?_ ?_ ?_⟩ <;> unfold sg4 <;> (repeat' split) <;> dsimp only at * <;> omega
  · have e : nx s p = (-1, 1) := by unfold nx; exact nx_bad _ _ _ _ _ hpos hb (.inr (by omega))
    rw [e]
    exact ⟨.inl rfl, fun i h1 h2 => by dsimp only at h2; omega⟩
theorem nx_over (s : ByteArray) (p : Nat) (h : p < s.size) : ∀ i, p < i → i < p + (nx s p).2 → 128 ≤ (s.get! i).toNat := by
  have hf := nx_first s p h
  by_cases hb : (s.get! p).toNat < 128
  · rw [hf.1 hb]; intro i h1 h2; dsimp only at h2; omega
  · exact (hf.2 (by omega)).2
theorem nx_is (s : ByteArray) (p c : Nat) (h : p < s.size) (hc : c < 128) : (nx s p).1 = (c : Int) ↔ (s.get! p).toNat = c := by
  have hf := nx_first s p h
  by_cases hb : (s.get! p).toNat < 128
  · rw [hf.1 hb]; dsimp only; omega
  · have := (hf.2 (by omega)).1
    constructor <;> intro hh <;> omega
theorem dec_is (s : ByteArray) (p c : Nat) (h : p < s.size) (hc : c < 128) : (Utf8.decode s p).1 = c ↔ (s.get! p).toNat = c := by
  have hi := nx_is s p c h hc
  by_cases hr : (Utf8.decode s p).1 = 65533
  · have h1 : (nx s p).1 = -1 ∨ (nx s p).1 = 65533 := by
      rw [nx_dec s p h]; split
      · exact .inl rfl
      · exact .inr (by dsimp only; omega)
    constructor
    · intro hh; omega
    · intro hh; have := hi.2 hh; omega
  · rw [nx_neg s p h hr] at hi
    constructor
    · intro hh; exact hi.1 (by omega)
    · intro hh; have := hi.2 hh; omega
theorem ext_size (s : ByteArray) (a i : Nat) (h : i ≤ s.size) : (s.extract a i).size = i - a := by
  rw [ByteArray.size_extract]; omega
theorem ext_get (s : ByteArray) (a i j : Nat) (h : a + j < i) : (s.extract a i).get! j = s.get! (a + j) := by
  rw [← getD_get!', ← getD_get!', extract_data, List.getD_eq_getElem?_getD, List.getD_eq_getElem?_getD, List.getElem?_take, if_pos (by omega), List.getElem?_drop]
theorem ext_out (s : ByteArray) (a i j : Nat) (hi : i ≤ s.size) (h : i ≤ a + j) : (s.extract a i).get! j = 0 := by
  rw [← getD_get!', List.getD_eq_getElem?_getD, List.getElem?_eq_none (by rw [← size_eq, ext_size s a i hi]; omega)]
  rfl
theorem sg2_or (n v b1 : Nat) : sg2 n v b1 = (-1, 1) ∨ (sg2 n v b1).2 = 2 := by
  unfold sg2; (repeat' split) <;> first | exact .inl rfl | exact .inr rfl
theorem sg3_or (n v b1 b2 : Nat) : sg3 n v b1 b2 = (-1, 1) ∨ (sg3 n v b1 b2).2 = 3 := by
  unfold sg3; (repeat' split) <;> first | exact .inl rfl | exact .inr rfl
theorem sg4_or (n v b1 b2 b3 : Nat) : sg4 n v b1 b2 b3 = (-1, 1) ∨ (sg4 n v b1 b2 b3).2 = 4 := by
  unfold sg4; (repeat' split) <;> first | exact .inl rfl | exact .inr rfl
/-- A sign that ends ahead of a cut is the same with the cut. -/
theorem nx_cut (n m b0 b1 b2 b3 c1 c2 c3 : Nat) (hm : 0 < m) (hn : m ≤ n) (h : (nxN n b0 b1 b2 b3).2 ≤ m) (h0 : b0 < 256) (l1 : b1 < 256) (l2 : b2 < 256) (l3 : b3 < 256)
    (e1 : 1 < m → c1 = b1) (e2 : 2 < m → c2 = b2) (e3 : 3 < m → c3 = b3) (k1 : m ≤ 1 → c1 = 0) (k2 : m ≤ 2 → c2 = 0) (k3 : m ≤ 3 → c3 = 0) : nxN m b0 c1 c2 c3 = nxN n b0 b1 b2 b3 := by
  have j1 : c1 < 256 := by omega
  have j2 : c2 < 256 := by omega
  have j3 : c3 < 256 := by omega
  by_cases c1' : b0 < 128
  · rw [nx_ascii _ _ _ _ _ hm c1', nx_ascii _ _ _ _ _ (by omega) c1']
  by_cases c2' : b0 < 192
  · rw [nx_bad _ _ _ _ _ hm (by omega) (.inl c2'), nx_bad _ _ _ _ _ (by omega) (by omega) (.inl c2')]
  by_cases c3' : b0 < 224
  · rw [nx_two _ _ _ _ _ (by omega) (by omega) c3' l1] at h
    rw [nx_two _ _ _ _ _ hm (by omega) c3' j1, nx_two _ _ _ _ _ (by omega) (by omega) c3' l1]
    by_cases q : 1 < m
    · rw [e1 q]; unfold sg2; rw [if_neg (show ¬ m < 2 by omega), if_neg (show ¬ n < 2 by omega)]
    · rcases sg2_or n (b0 % 32) b1 with e | e
      · rw [e]; unfold sg2; rw [if_pos (show m < 2 by omega)]
      · omega
  by_cases c4' : b0 < 240
  · rw [nx_three _ _ _ _ _ (by omega) (by omega) c4' l1 l2] at h
    rw [nx_three _ _ _ _ _ hm (by omega) c4' j1 j2, nx_three _ _ _ _ _ (by omega) (by omega) c4' l1 l2]
    by_cases q : 2 < m
    · rw [e1 (by omega), e2 q]; unfold sg3; rw [if_neg (show ¬ m < 3 by omega), if_neg (show ¬ n < 3 by omega)]
    · rcases sg3_or n (b0 % 16) b1 b2 with e | e
      · rw [e]; unfold sg3; rw [if_pos (show m < 3 by omega)]
      · omega
  by_cases c5' : b0 < 248
  · rw [nx_four _ _ _ _ _ (by omega) (by omega) c5' l1 l2 l3] at h
    rw [nx_four _ _ _ _ _ hm (by omega) c5' j1 j2 j3, nx_four _ _ _ _ _ (by omega) (by omega) c5' l1 l2 l3]
    by_cases q : 3 < m
    · rw [e1 (by omega), e2 (by omega), e3 q]; unfold sg4; rw [if_neg (show ¬ m < 4 by omega), if_neg (show ¬ n < 4 by omega)]
    · rcases sg4_or n (b0 % 8) b1 b2 b3 with e | e
      · rw [e]; unfold sg4; rw [if_pos (show m < 4 by omega)]
      · omega
  · rw [nx_bad _ _ _ _ _ hm (by omega) (.inr (by omega)), nx_bad _ _ _ _ _ (by omega) (by omega) (.inr (by omega))]
theorem nx_ext (s : ByteArray) (a i p : Nat) (hi : i ≤ s.size) (hp : a + p + (nx s (a + p)).2 ≤ i) (hlt : a + p < i) : nx (s.extract a i) p = nx s (a + p) := by
  have hg : ∀ k, a + (p + k) < i → ((s.extract a i).get! (p + k)).toNat = (s.get! (a + p + k)).toNat := fun k hk => by rw [ext_get s a i _ hk, ← Nat.add_assoc]
  have ho : ∀ k, i ≤ a + (p + k) → ((s.extract a i).get! (p + k)).toNat = 0 := fun k hk => by rw [ext_out s a i _ hi hk]; rfl
  have h0 : ((s.extract a i).get! p).toNat = (s.get! (a + p)).toNat := hg 0 hlt
  unfold nx at hp ⊢
  rw [ext_size s a i hi, h0]
  exact nx_cut _ _ _ _ _ _ _ _ _ (by omega) (by omega) (by omega) (s.get! (a + p)).toNat_lt (s.get! (a + p + 1)).toNat_lt (s.get! (a + p + 2)).toNat_lt (s.get! (a + p + 3)).toNat_lt
    (fun q => hg 1 (by omega)) (fun q => hg 2 (by omega)) (fun q => hg 3 (by omega)) (fun q => ho 1 (by omega)) (fun q => ho 2 (by omega)) (fun q => ho 3 (by omega))

/-- From a over n whole signs one comes to p. -/
inductive Reach (s : ByteArray) (a : Nat) : Nat → Nat → Prop
  | here : Reach s a a 0
  | step {p n : Nat} : Reach s a p n → p < s.size → Reach s a (p + (nx s p).2) (n + 1)
theorem Reach.le {s : ByteArray} {a p n : Nat} (h : Reach s a p n) : a ≤ p ∧ (a ≤ s.size → p ≤ s.size) ∧ n ≤ p - a := by
  induction h with
  | here => exact ⟨Nat.le_refl _, id, Nat.zero_le _⟩
  | step h hlt ih =>
    have h1 := nx_le s _ hlt
    have h2 := nx_pos s _ hlt
    refine ⟨by omega, fun _ => h1, by omega⟩
theorem Reach.steps {s : ByteArray} {a p n : Nat} (h : Reach s a p n) : ∀ i f, p ≤ i → i ≤ s.size → i - a ≤ f → ∃ g, i - p ≤ g ∧ cntF (s.extract a i) f 0 = n + cntF (s.extract a i) g (p - a) := by
  induction h with
  | here => intro i f _ _ hf; exact ⟨f, hf, by rw [Nat.sub_self, Nat.zero_add]⟩
  | @step p n h hlt ih =>
    intro i f hpi hi hf
    have hw := nx_pos s p hlt
    have hle := h.le.1
    obtain ⟨g, hg, he⟩ := ih i f (by omega) hi hf
    obtain ⟨g', rfl⟩ : ∃ g', g = g' + 1 := ⟨g - 1, by omega⟩
    have hnx : nx (s.extract a i) (p - a) = nx s p := by
      have := nx_ext s a i (p - a) hi (by rw [show a + (p - a) = p from by omega]; exact hpi) (by omega)
      rw [this, show a + (p - a) = p from by omega]
    refine ⟨g', by omega, ?_⟩
    rw [he, cntF_step _ _ _ (by rw [ext_size s a i hi]; omega), hnx, show p + (nx s p).2 - a = p - a + (nx s p).2 from by omega]
    omega
/-- In so many steps the bytes between are gone through. -/
theorem Reach.cnt {s : ByteArray} {a p n : Nat} (h : Reach s a p n) (hp : p ≤ s.size) : cnt (s.extract a p) = n := by
  obtain ⟨g, _, he⟩ := h.steps p (p - a) (Nat.le_refl _) hp (Nat.le_refl _)
  unfold Sg.cnt
  rw [ext_size s a p hp, he, cntF_end _ _ _ (by rw [ext_size s a p hp]; omega)]
  rfl
/-- Behind bytes that do not begin with a line feed nothing is other. -/
theorem ends_front (a b : ByteArray) (hb : (b.get! 0).toNat ≠ 10) (p : Nat) (h : p < a.size) : ends (a ++ b) p ↔ ends a p := by
  unfold ends
  rw [app_size, get_l a b p h]
  by_cases h1 : p + 1 < a.size
  · rw [get_l a b (p + 1) h1]
    omega
  · have : p + 1 = a.size + 0 := by omega
    rw [this, get_r]
    omega
theorem stN_app (a b : ByteArray) (hb : (b.get! 0).toNat ≠ 10) : ∀ k, k ≤ a.size → stN (a ++ b) k = stN a k
  | 0, _ => rfl
  | k + 1, h => by
    have h1 := ends_front a b hb k (by omega)
    rw [stN, stN, stN_app a b hb k (by omega)]
    by_cases hc : ends a k
    · rw [if_pos hc, if_pos (h1.2 hc)]
    · rw [if_neg hc, if_neg (fun x => hc (h1.1 x))]
theorem ends_back (a b : ByteArray) (p : Nat) : ends (a ++ b) (a.size + p) ↔ ends b p := by
  unfold ends
  rw [app_size, Nat.add_assoc, get_r, get_r]
  omega
/-- What a piece behind adds. -/
def adds (b : ByteArray) : Nat → Nat
  | 0 => 0
  | k + 1 => adds b k + if ends b k then 1 else 0
theorem stN_adds (a b : ByteArray) (hb : (b.get! 0).toNat ≠ 10) : ∀ k, (stN (a ++ b) (a.size + k)).length = (stN a a.size).length + adds b k
  | 0 => by rw [Nat.add_zero, stN_app a b hb _ (Nat.le_refl _)]; rfl
  | k + 1 => by
    have h1 := ends_back a b k
    rw [← Nat.add_assoc, stN, List.length_append, stN_adds a b hb k, adds]
    by_cases hc : ends b k
    · rw [if_pos hc, if_pos (h1.2 hc)]; rfl
    · rw [if_neg hc, if_neg (fun x => hc (h1.1 x))]; rfl
theorem st_adds (a b : ByteArray) (hb : (b.get! 0).toNat ≠ 10) : (st (a ++ b)).length = (st a).length + adds b b.size := by
  unfold st; rw [app_size, stN_adds a b hb]
end Go.Proofs.Ytmlpaafclobgcaa.Sg

/- Plain facts between bytes in an array and their list of numbers; classes; runs; the first sign of a piece. -/
namespace Go.Proofs.Ytmlpaafclobgcaa.Sc
open Go.Proofs.Ytmlpaafclobgcaa.Sg

theorem nats_len (s : ByteArray) : (nats s).length = s.size := by
  unfold nats; rw [List.length_map, Lib.size_eq]
theorem nats_getD (s : ByteArray) (i : Nat) : (nats s).getD i 0 = (s.get! i).toNat := by
  unfold nats
  rw [List.getD_eq_getElem?_getD, List.getElem?_map, ← Lib.getD_get!', List.getD_eq_getElem?_getD]
  cases s.data.toList[i]? <;> rfl
theorem drop_len (s : ByteArray) (i : Nat) : ((nats s).drop i).length = s.size - i := by rw [List.length_drop, nats_len]
theorem drop_getD (s : ByteArray) (i j : Nat) : ((nats s).drop i).getD j 0 = (s.get! (i + j)).toNat := by
  rw [List.getD_eq_getElem?_getD, List.getElem?_drop, ← List.getD_eq_getElem?_getD, nats_getD]
theorem drop_cons (s : ByteArray) (i : Nat) (h : i < s.size) : (nats s).drop i = (s.get! i).toNat :: (nats s).drop (i + 1) := by
  rw [List.drop_eq_getElem_cons (by rw [nats_len]; exact h)]
  congr 1
  have h2 := nats_getD s i
  rw [List.getD_eq_getElem?_getD, List.getElem?_eq_getElem (by rw [nats_len]; exact h)] at h2
  exact h2
theorem drop_nil (s : ByteArray) (i : Nat) (h : s.size ≤ i) : (nats s).drop i = [] := List.drop_eq_nil_of_le (by rw [nats_len]; exact h)
theorem get_el (s : ByteArray) (i : Nat) (h : i < s.size) : (s[i]'h) = s.get! i := by
  have e := Lib.getD_get!' s i
  rw [← e, List.getD_eq_getElem?_getD, List.getElem?_eq_getElem (by rw [← Lib.size_eq]; exact h)]
  rfl
theorem nats_ext (s : ByteArray) (a b : Nat) : nats (s.extract a b) = ((nats s).drop a).take (b - a) := by
  unfold nats
  rw [Lib.extract_data, List.map_take, List.map_drop]
theorem nats_tail (s : ByteArray) (a : Nat) : nats (s.extract a s.size) = (nats s).drop a := by
  rw [nats_ext, List.take_of_length_le (by rw [drop_len]; exact Nat.le_refl _)]
theorem nats_head (s : ByteArray) (b : Nat) : nats (s.extract 0 b) = (nats s).take b := by rw [nats_ext, List.drop_zero, Nat.sub_zero]
theorem nats_app (a b : ByteArray) : nats (a ++ b) = nats a ++ nats b := by
  unfold nats; rw [app_list, List.map_append]
theorem nats_lt (s : ByteArray) : ∀ c ∈ nats s, c < 256 := by
  intro c hc
  unfold nats at hc
  rw [List.mem_map] at hc
  obtain ⟨x, _, rfl⟩ := hc
  exact UInt8.toNat_lt x
theorem nx_list (s : ByteArray) (i : Nat) : nx s i = nxL ((nats s).drop i) := by
  unfold nx nxL
  rw [drop_len, drop_getD, drop_getD, drop_getD, drop_getD]
  rfl
theorem run_le (p : Nat → Bool) (l : List Nat) : run p l ≤ l.length := by
  induction l with
  | nil => exact Nat.le_refl _
  | cons c r ih => rw [run]; split <;> simp <;> omega
theorem run_end (p : Nat → Bool) (l : List Nat) (k : Nat) (h : ∀ j, j < k → p (l.getD j 0) = true) (hk : k = l.length ∨ (k < l.length ∧ p (l.getD k 0) = false)) : run p l = k := by
  induction l generalizing k with
  | nil =>
    rcases hk with h | ⟨h, _⟩
    · exact h.symm
    · exact absurd h (by simp)
  | cons c r ih =>
    cases k with
    | zero =>
      rcases hk with h | ⟨_, h⟩
      · simp at h
      · rw [run, if_neg (by simpa using h)]
    | succ k =>
      have h0 := h 0 (by omega)
      rw [run, if_pos (by simpa using h0), ih k (fun j hj => by simpa using h (j + 1) (by omega)) (by simpa using hk)]
theorem run_all (p : Nat → Bool) (l : List Nat) : ∀ j, j < run p l → p (l.getD j 0) = true := by
  induction l with
  | nil => intro j h; simp [run] at h
  | cons c r ih =>
    intro j h
    rw [run] at h
    split at h
    · rename_i hc
      cases j with
      | zero => simpa using hc
      | succ j => simpa using ih j (by omega)
    · omega
theorem run_stop (p : Nat → Bool) (l : List Nat) (h : run p l < l.length) : p (l.getD (run p l) 0) = false := by
  induction l with
  | nil => simp [run] at h
  | cons c r ih =>
    rw [run] at h ⊢
    split
    · rename_i hc
      rw [if_pos hc] at h
      simpa using ih (by simpa using h)
    · rename_i hc
      simpa using hc
end Go.Proofs.Ytmlpaafclobgcaa.Sc
