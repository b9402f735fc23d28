/- Tokens, plainly: which token stands at a place of a row, what is known behind it, the tokens of a text. Bytes are numbers here. No program stands behind this text. -/
import Derived.Test.YtaokjeopmhbddaaSteps
namespace Go.Proofs.Ytaokjeopmhbddaa.Sc
open Go.Proofs.Ytaokjeopmhbddaa.Sg

def blk (c : Nat) : Bool := c == 32 || c == 9
def brk (c : Nat) : Bool := c == 10 || c == 13
def nam (c : Nat) : Bool := (Nat.ble 97 c && Nat.ble c 122) || (Nat.ble 65 c && Nat.ble c 90) || (Nat.ble 48 c && Nat.ble c 57) || c == 95 || c == 45
def flo (c : Nat) : Bool := c == 44 || c == 91 || c == 93 || c == 123 || c == 125
def spc (c : Nat) : Bool := c == 32
def tgc (c : Nat) : Bool := c == 33 || nam c
/-- How many bytes at the front are of a class. -/
def run (p : Nat → Bool) : List Nat → Nat
  | [] => 0
  | c :: r => if p c = true then run p r + 1 else 0
/-- A row: the bytes ahead of the first break. -/
def rowN (l : List Nat) : Nat := run (fun c => !brk c) l
def rowL (l : List Nat) : List Nat := l.take (rowN l)
/-- How many bytes the break has that stands at the front. -/
def brkS : List Nat → Nat
  | [] => 0
  | [c] => if c = 13 then 1 else if c = 10 then 1 else 0
  | c :: d :: _ => if c = 13 then (if d = 10 then 2 else 1) else if c = 10 then 1 else 0
/-- A blank follows, or nothing. -/
def part : List Nat → Bool
  | [] => true
  | c :: _ => blk c
def mark (r : List Nat) : Nat :=
  if r.take 3 = [45, 45, 45] then (if part (r.drop 3) = true then 20 else 0) else if r.take 3 = [46, 46, 46] then (if part (r.drop 3) = true then 21 else 0) else 0
def named : List Nat → Nat × Nat
  | [] => (0, 0)
  | c :: r =>
    if c = 38 then (if run nam r = 0 then (0, 0) else (12, run nam r + 1))
    else if c = 42 then (if run nam r = 0 then (0, 0) else (13, run nam r + 1))
    else if c = 33 then (14, run tgc r + 1) else (0, 0)
/-- Of a quoted text behind its first sign: how many bytes there are of it. -/
def sing : List Nat → Nat
  | [] => 0
  | [_] => 1
  | c :: d :: r => if c = 39 then (if d = 39 then sing r + 2 else 1) else sing (d :: r) + 1
def doub : List Nat → Nat
  | [] => 0
  | [_] => 1
  | c :: d :: r => if c = 34 then 1 else if c = 92 then doub r + 2 else doub (d :: r) + 1
def headS : List Nat → Nat
  | [] => 1
  | c :: _ => if c = 43 then 2 else if c = 45 then 2 else 1
def hsh : List Nat → Bool
  | [] => true
  | c :: _ => c == 35
/-- Behind a head: nothing, blanks, blanks and a comment. -/
def tailOk (rest : List Nat) : Bool := (rest.drop (run blk rest) == []) || (part rest && hsh (rest.drop (run blk rest)))
def headN : List Nat → Nat
  | [] => 0
  | c :: r => if c = 124 ∨ c = 62 then (if tailOk ((c :: r).drop (headS r)) = true then headS r else 0) else 0
/-- The first sign, and its length. -/
def nxL (l : List Nat) : Int × Nat := nxN l.length (l.getD 0 0) (l.getD 1 0) (l.getD 2 0) (l.getD 3 0)
def bad (l : List Nat) : Bool := decide ((nxL l).1 < 0)
/-- A colon's rest: a blank, nothing, or (of brackets) one of their signs. -/
def key (op : Bool) : List Nat → Bool
  | [] => true
  | c :: _ => blk c || (op && flo c)
/-- Does a plain text end here? pb: a blank stands ahead. -/
def stop (op pb : Bool) : List Nat → Bool
  | [] => true
  | c :: r => bad (c :: r) || (c == 58 && key op r) || (c == 35 && pb) || (op && flo c)
/-- How many bytes go on; p: the byte ahead. -/
def goes (op : Bool) : Nat → Nat → List Nat → Nat
  | 0, _, _ => 0
  | f + 1, p, l => if stop op (blk p) l = true then 0 else (nxL l).2 + goes op f (l.getD ((nxL l).2 - 1) 0) (l.drop (nxL l).2)
/-- Without the blanks at its end. -/
def trim : List Nat → Nat
  | [] => 0
  | c :: r => if trim r = 0 then (if blk c = true then 0 else 1) else trim r + 1
def plainN (op : Bool) (r : List Nat) : Nat := trim (r.take ((nxL r).2 + goes op r.length (r.getD ((nxL r).2 - 1) 0) (r.drop (nxL r).2)))
/-- A token of one sign. -/
def sign (op : Nat) (dash : Bool) : List Nat → Nat
  | [] => 0
  | c :: r =>
    if c = 91 then 8 else if c = 123 then 9 else if c = 93 then 10 else if c = 125 then 11
    else if c = 44 then (if 0 < op then 7 else 0)
    else if c = 45 then (if op = 0 then (if dash = true then (if part r = true then 5 else 0) else 0) else 0)
    else if c = 58 then (if key (decide (0 < op)) r = true then 6 else 0) else 0
def quoted : List Nat → Nat × Nat
  | [] => (0, 0)
  | c :: r => if c = 39 then (16, sing r + 1) else if c = 34 then (17, doub r + 1) else (0, 0)
/-- Behind the tokens that do not count. -/
def word (op : Nat) (dash : Bool) (r : List Nat) : Nat × Nat :=
  if 0 < sign op dash r then (sign op dash r, 1)
  else if 0 < (named r).1 then named r
  else if 0 < (quoted r).1 then quoted r
  else if op = 0 ∧ 0 < headN r then (18, headN r)
  else if bad r = true then (22, 1)
  else (15, plainN (decide (0 < op)) r)
/-- The token at the front of the rest of a row that is not empty. -/
def next (op : Nat) (dash blank first : Bool) (r : List Nat) : Nat × Nat :=
  if first = true ∧ 0 < mark r then (mark r, 3)
  else if first = true ∧ 0 < run spc r then (2, run spc r)
  else if 0 < run blk r then (3, run blk r)
  else if hsh r = true ∧ (first = true ∨ blank = true) then (4, r.length)
  else word op dash r

/-- What is known at a place: brackets that are open; the base (-1: none); how many spaces a block text's rows need (-1: none); may a dash stand; the column; is the token ahead of blanks. -/
structure St where
  op : Nat
  base : Int
  least : Int
  dash : Bool
  col : Nat
  blank : Bool
def fresh (op : Nat) (least : Int) : St := ⟨op, -1, least, true, 0, false⟩
def counts (k : Nat) : Bool := !(k == 1 || k == 2 || k == 3 || k == 4)
def leaves (k : Nat) : Bool := k == 20 || k == 2 || k == 3 || k == 5
def opens (op k : Nat) : Nat := if k = 8 ∨ k = 9 then op + 1 else if k = 10 ∨ k = 11 then op - 1 else if k = 20 ∨ k = 21 then 0 else op
def take (s : St) (k n : Nat) : St where
  op := opens s.op k
  least := if k = 18 then (if s.base = -1 then (s.col : Int) else s.base + 1) else s.least
  base := if s.base = -1 ∧ counts k = true then (s.col : Int) else s.base
  dash := s.dash && leaves k
  col := s.col + n
  blank := k == 2 || k == 3
def isText (least : Int) (r : List Nat) : Bool := decide (least ≠ -1 ∧ mark r = 0 ∧ (run blk r = r.length ∨ least ≤ run spc r))
/-- A token's kind, its size, and what is known behind it. -/
def mid (s : St) (l : List Nat) : Nat × Nat × St :=
  if rowN l = 0 then (1, brkS l, fresh s.op s.least)
  else ((next s.op s.dash s.blank (s.col == 0) (rowL l)).1, (next s.op s.dash s.blank (s.col == 0) (rowL l)).2, take s (next s.op s.dash s.blank (s.col == 0) (rowL l)).1 (next s.op s.dash s.blank (s.col == 0) (rowL l)).2)
def step (s : St) (l : List Nat) : Nat × Nat × St :=
  if s.col = 0 then (if isText s.least (rowL l) = true then (19, rowN l + brkS (l.drop (rowN l)), fresh s.op s.least) else mid { s with least := -1 } l) else mid s l
def toks : Nat → St → Nat → List Nat → List (Nat × Nat × Nat)
  | 0, _, _, _ => []
  | f + 1, s, at', l => if l = [] then [] else ((step s l).1, at', at' + (step s l).2.1) :: toks f (step s l).2.2 (at' + (step s l).2.1) (l.drop (step s l).2.1)
/-- The tokens of a text. -/
def tokens (l : List Nat) : List (Nat × Nat × Nat) := if 16384 < l.length then [] else toks l.length (fresh 0 (-1)) 0 l
def nats (s : ByteArray) : List Nat := s.data.toList.map UInt8.toNat
end Go.Proofs.Ytaokjeopmhbddaa.Sc
