/- What the chapter's own scanner (correctorref6) reads, position by position: plain facts, and its functions that only read. -/
import Derived.Test.YtmlpaafclobgcaaMgB
import Derived.Test.YtmlpaafclobgcaaMgA
import Derived.Test.YtmlpaafclobgcaaMgC
import Derived.BigQuiet
import Derived.IntWalk
import Derived.Deep.DeepCutAuto
import Derived.Deep.CutBlock
/- Plain facts: what stands at the front of the rest of a text bears on the token there as its row alone does. -/
namespace Go.Proofs.Ytmlpaafclobgcaa.Sc
open Go.Proofs.Ytmlpaafclobgcaa.Sg

theorem row_nil : rowL [] = [] := rfl
theorem row_brk (c : Nat) (t : List Nat) (h : brk c = true) : rowL (c :: t) = [] ∧ rowN (c :: t) = 0 := by
  have : rowN (c :: t) = 0 := by unfold rowN; rw [run, if_neg (by rw [h]; decide)]
  exact ⟨by unfold rowL; rw [this]; rfl, this⟩
theorem row_on (c : Nat) (t : List Nat) (h : brk c = false) : rowL (c :: t) = c :: rowL t ∧ rowN (c :: t) = rowN t + 1 := by
  have : rowN (c :: t) = rowN t + 1 := by unfold rowN; rw [run, if_pos (by rw [h]; rfl)]
  exact ⟨by unfold rowL; rw [this]; rfl, this⟩
theorem row_drop (l : List Nat) (j : Nat) (h : j ≤ rowN l) : (rowL l).drop j = rowL (l.drop j) := by
  unfold rowL
  rw [rowN_drop l j h, List.drop_take]
/-- A blank, a break, or the end. -/
def endT : List Nat → Bool
  | [] => true
  | c :: _ => blk c || brk c
theorem part_row (t : List Nat) : part (rowL t) = endT t := by
  cases t with
  | nil => rfl
  | cons c r =>
    cases h : brk c with
    | true => rw [(row_brk c r h).1]; simp [part, endT, h]
    | false => rw [(row_on c r h).1]; simp [part, endT, h]
def keyT (op : Bool) : List Nat → Bool
  | [] => true
  | c :: _ => blk c || brk c || (op && flo c)
theorem key_row (op : Bool) (t : List Nat) : key op (rowL t) = keyT op t := by
  cases t with
  | nil => rfl
  | cons c r =>
    cases h : brk c with
    | true => rw [(row_brk c r h).1]; simp [key, keyT, h]
    | false => rw [(row_on c r h).1]; simp [key, keyT, h]
/-- A colon that is a token. -/
def colT (op : Bool) : List Nat → Bool
  | [] => false
  | c :: r => c == 58 && keyT op r
def markT : List Nat → Nat
  | c :: d :: e :: t => if d = c ∧ e = c ∧ endT t = true then (if c = 45 then 20 else if c = 46 then 21 else 0) else 0
  | _ => 0
theorem mark_three (c d e : Nat) (t : List Nat) : mark (c :: d :: e :: t) = if c = 45 ∧ d = 45 ∧ e = 45 then (if part t = true then 20 else 0) else if c = 46 ∧ d = 46 ∧ e = 46 then (if part t = true then 21 else 0) else 0 := by
  simp [mark]
theorem mark_short (r : List Nat) (h : r.length < 3) : mark r = 0 := by
  cases hm : mark r with
  | zero => rfl
  | succ n => have := mark_len r (by omega); omega
theorem mark_row (l : List Nat) : mark (rowL l) = markT l := by
  have hl := rowL_len l
  match l with
  | [] => rfl
  | [c] => exact mark_short _ (by rw [hl]; have := rowN_le [c]; simp at this; omega)
  | [c, d] => exact mark_short _ (by rw [hl]; have := rowN_le [c, d]; simp at this; omega)
  | c :: d :: e :: t =>
    rw [markT]
    have hs : brk c = true ∨ brk d = true ∨ brk e = true → mark (rowL (c :: d :: e :: t)) = 0 := by
      intro h
      refine mark_short _ ?_
      rw [hl]
      cases hc : brk c with
      | true => rw [(row_brk c _ hc).2]; omega
      | false =>
        rw [(row_on c _ hc).2]
        cases hd : brk d with
        | true => rw [(row_brk d _ hd).2]; omega
        | false =>
          rw [(row_on d _ hd).2]
          cases he : brk e with
          | true => rw [(row_brk e _ he).2]; omega
          | false => simp [hc, hd, he] at h
    by_cases hb : brk c = true ∨ brk d = true ∨ brk e = true
    · rw [hs hb]
      split
      · rename_i h
        obtain ⟨rfl, rfl, -⟩ := h
        have hb : brk e = true := by simpa using hb
        rw [if_neg (by intro h; subst h; simp [brk] at hb), if_neg (by intro h; subst h; simp [brk] at hb)]
      · rfl
    · obtain ⟨h1, h2, h3⟩ : brk c = false ∧ brk d = false ∧ brk e = false := by simpa [not_or] using hb
      rw [(row_on c _ h1).1, (row_on d _ h2).1, (row_on e _ h3).1, mark_three, part_row]
      by_cases g1 : c = 45
      · subst g1
        by_cases g2 : d = 45
        · subst g2
          by_cases g3 : e = 45
          · subst g3; cases endT t <;> simp
          · simp [g3]
        · simp [g2]
      · by_cases g1' : c = 46
        · subst g1'
          by_cases g2 : d = 46
          · subst g2
            by_cases g3 : e = 46
            · subst g3; cases endT t <;> simp
            · simp [g3]
          · simp [g2]
        · simp [g1, g1']
theorem run_row (p : Nat → Bool) (hp : ∀ c, p c = true → brk c = false) (l : List Nat) : run p (rowL l) = run p l := by
  induction l with
  | nil => rfl
  | cons c t ih =>
    cases h : brk c with
    | true =>
      rw [(row_brk c t h).1, run, run, if_neg (fun g => by rw [hp c g] at h; cases h)]
    | false => rw [(row_on c t h).1, run, run, ih]
theorem run_rowN (p : Nat → Bool) (hp : ∀ c, p c = true → brk c = false) (l : List Nat) : run p l ≤ rowN l := by
  rw [← run_row p hp, ← rowL_len]; exact run_le _ _
theorem blk_brk (c : Nat) (h : blk c = true) : brk c = false := by simp [blk, brk] at *; omega
theorem spc_brk (c : Nat) (h : spc c = true) : brk c = false := by simp [spc, brk] at *; omega
theorem nam_brk (c : Nat) (h : nam c = true) : brk c = false := by simp [nam, brk] at *; omega
theorem tgc_brk (c : Nat) (h : tgc c = true) : brk c = false := by
  rw [tgc, Bool.or_eq_true] at h
  rcases h with h | h
  · simp [brk] at *; omega
  · exact nam_brk c h
theorem run_has (p : Nat → Bool) (l : List Nat) (k : Nat) (h : k < run p l) : ∃ c t, l.drop k = c :: t ∧ p c = true := by
  induction l generalizing k with
  | nil => exact absurd h (by simp [run])
  | cons c t ih =>
    rw [run] at h
    split at h
    · rename_i hc
      cases k with
      | zero => exact ⟨c, t, rfl, hc⟩
      | succ k => exact ih k (by omega)
    · omega
theorem run_out (p : Nat → Bool) (l : List Nat) : l.drop (run p l) = [] ∨ ∃ c t, l.drop (run p l) = c :: t ∧ p c = false := by
  induction l with
  | nil => exact .inl rfl
  | cons c t ih =>
    rw [run]
    cases hc : p c with
    | true => rw [if_pos rfl]; exact ih
    | false => rw [if_neg (by decide)]; exact .inr ⟨c, t, rfl, hc⟩
theorem drop_lt {l : List Nat} {k c : Nat} {t : List Nat} (h : l.drop k = c :: t) : k < l.length ∧ l.drop (k + 1) = t ∧ l.length = k + 1 + t.length := by
  have h1 := congrArg List.length h
  rw [List.length_drop, List.length_cons] at h1
  refine ⟨by omega, ?_, by omega⟩
  rw [← List.drop_drop, h]; rfl
theorem drop_ge {l : List Nat} {k : Nat} (h : l.drop k = []) : l.length ≤ k := by
  have h1 := congrArg List.length h
  rw [List.length_drop] at h1
  simp at h1
  omega
/-- Runs go on. -/
theorem run_step (p : Nat → Bool) (c : Nat) (t : List Nat) : run p (c :: t) = if p c = true then run p t + 1 else 0 := rfl
theorem getD_cons0 (c : Nat) (t : List Nat) : (c :: t).getD 0 0 = c := rfl
/-- What ends a sign's bytes: it does not count what a byte below 128 is. -/
theorem nxL_app (r : List Nat) (hr : r ≠ []) (d : Nat) (t : List Nat) (hd : d < 128) : nxL (r ++ d :: t) = nxL r := by
  have h2 : ¬ d / 64 = 2 := by omega
  match r, hr with
  | [a], _ => simp [nxL, nxN, Lib.decodeN, h2]
  | [a, b], _ => simp [nxL, nxN, Lib.decodeN, h2]
  | [a, b, c], _ => simp [nxL, nxN, Lib.decodeN, h2]
  | a :: b :: c :: e :: r', _ => simp [nxL, nxN, Lib.decodeN]
theorem row_split (l : List Nat) : rowL l = l ∨ ∃ d t, l = rowL l ++ d :: t ∧ brk d = true := by
  have h := run_out (fun c => !brk c) l
  have e : rowL l ++ l.drop (rowN l) = l := by unfold rowL; exact List.take_append_drop _ _
  rcases h with h | ⟨d, t, h, hd⟩
  · left
    have : l.drop (rowN l) = [] := h
    rw [this, List.append_nil] at e
    exact e
  · right
    have : l.drop (rowN l) = d :: t := h
    rw [this] at e
    exact ⟨d, t, e.symm, by simpa using hd⟩
theorem brk_lt (d : Nat) (h : brk d = true) : d < 128 := by simp [brk] at h; omega
theorem nxL_row (l : List Nat) (h : rowN l ≠ 0) : nxL (rowL l) = nxL l := by
  have hne : rowL l ≠ [] := fun e => by have := rowL_len l; rw [e] at this; exact h this.symm
  rcases row_split l with e | ⟨d, t, e, hd⟩
  · rw [e]
  · have := nxL_app (rowL l) hne d t (brk_lt d hd)
    rw [← e] at this
    exact this.symm
def stopT (op pb : Bool) : List Nat → Bool
  | [] => true
  | c :: r => decide ((nxL (c :: r)).1 < 0) || brk c || (c == 58 && keyT op r) || (c == 35 && pb) || (op && flo c)
theorem stop_row (op pb : Bool) (l : List Nat) : stop op pb (rowL l) = stopT op pb l := by
  cases l with
  | nil => rfl
  | cons c t =>
    cases h : brk c with
    | true => rw [(row_brk c t h).1]; simp [stop, stopT, h]
    | false =>
      have h1 := (row_on c t h).1
      have h2 := nxL_row (c :: t) (by rw [(row_on c t h).2]; omega)
      rw [h1] at h2
      rw [h1, stop, bad, h2, key_row, stopT, h, Bool.or_false]
/-- The plain text's bytes, blanks at its end among them: so far, at a place of the row. -/
theorem goes_row_stop (op : Bool) (p : Nat) (l : List Nat) (h : stopT op (blk p) l = true) : goesN op p (rowL l) = 0 := goesN_stop op p _ (by rw [stop_row]; exact h)
theorem getD_row (l : List Nat) (j : Nat) (h : j < rowN l) : (rowL l).getD j 0 = l.getD j 0 := by
  unfold rowL
  rw [List.getD_eq_getElem?_getD, List.getD_eq_getElem?_getD, List.getElem?_take, if_pos h]
theorem nx_in_row (l : List Nat) (h : rowN l ≠ 0) : 1 ≤ (nxL l).2 ∧ (nxL l).2 ≤ rowN l := by
  have hne : rowL l ≠ [] := fun e => by have := rowL_len l; rw [e] at this; exact h this.symm
  obtain ⟨c, t, e⟩ := List.exists_cons_of_ne_nil hne
  have h1 := nxL_pos c t
  have h2 := nxL_le c t
  rw [← e, nxL_row l h] at h1 h2
  rw [rowL_len] at h2
  exact ⟨h1, h2⟩
theorem goes_row_on (op : Bool) (p : Nat) (l : List Nat) (h : stopT op (blk p) l = false) : goesN op p (rowL l) = (nxL l).2 + goesN op (l.getD ((nxL l).2 - 1) 0) (rowL (l.drop (nxL l).2)) ∧ 1 ≤ (nxL l).2 ∧ (nxL l).2 ≤ rowN l := by
  have h0 : rowN l ≠ 0 := by
    intro e
    cases l with
    | nil => cases h
    | cons c t =>
      cases hb : brk c with
      | true => simp [stopT, hb] at h
      | false => rw [(row_on c t hb).2] at e; omega
  have h1 := nx_in_row l h0
  rw [goesN_on op p _ (by rw [stop_row]; exact h), nxL_row l h0, row_drop l _ h1.2, getD_row l _ (by omega)]
  exact ⟨rfl, h1⟩
theorem goes_le (op : Bool) : ∀ (f p : Nat) (l : List Nat), goes op f p l ≤ l.length
  | 0, _, _ => Nat.zero_le _
  | f + 1, p, l => by
    rw [goes]
    split
    · exact Nat.zero_le _
    · rename_i h
      cases l with
      | nil => exact absurd rfl h
      | cons c r =>
        have h1 := nxL_le c r
        have h2 := goes_le op f ((c :: r).getD ((nxL (c :: r)).2 - 1) 0) ((c :: r).drop (nxL (c :: r)).2)
        rw [List.length_drop] at h2
        omega
/-- Where a plain text's signs end, blanks among them. -/
theorem plain_row (op : Bool) (l : List Nat) (h : rowN l ≠ 0) (N : Nat) (hN : (nxL l).2 + goesN op (l.getD ((nxL l).2 - 1) 0) (rowL (l.drop (nxL l).2)) = N) : plainN op (rowL l) = trim ((rowL l).take N) ∧ N ≤ rowN l ∧ 1 ≤ N := by
  have h1 := nx_in_row l h
  have h2 : goesN op (l.getD ((nxL l).2 - 1) 0) (rowL (l.drop (nxL l).2)) ≤ (rowL (l.drop (nxL l).2)).length := by
    exact goes_le op _ _ _
  rw [rowL_len, rowN_drop l _ h1.2] at h2
  rw [plainN_eq, nxL_row l h, row_drop l _ h1.2, getD_row l _ (by omega), hN]
  exact ⟨rfl, by omega, by omega⟩
/-- Blanks at an end are taken off from behind. -/
theorem trim_last (l : List Nat) (c : Nat) : trim (l ++ [c]) = if blk c = true then trim l else l.length + 1 := by
  induction l with
  | nil => cases h : blk c <;> simp [trim, h]
  | cons a r ih =>
    rw [List.cons_append, trim, ih]
    cases h : blk c with
    | true => rw [if_pos rfl, if_pos rfl, trim]
    | false => simp
theorem trim_take (l : List Nat) (k : Nat) (h : k < l.length) : trim (l.take (k + 1)) = if blk (l.getD k 0) = true then trim (l.take k) else k + 1 := by
  rw [List.take_add_one, List.getElem?_eq_getElem h, Option.toList_some, trim_last, List.getD_eq_getElem?_getD, List.getElem?_eq_getElem h, Option.getD_some, List.length_take, Nat.min_eq_left (Nat.le_of_lt h)]
theorem trim_one (l : List Nat) (h : 0 < l.length) (hb : blk (l.getD 0 0) = false) : trim (l.take 1) = 1 := by
  rw [trim_take l 0 h, hb]; rfl
/-- A head. -/
def okT (rest : List Nat) : Bool :=
  match rest.drop (run blk rest) with
  | [] => true
  | c :: _ => brk c || (c == 35 && decide (0 < run blk rest))
theorem part_run (t : List Nat) : part t = (t.isEmpty || decide (0 < run blk t)) := by
  cases t with
  | nil => rfl
  | cons c r => cases h : blk c <;> simp [part, run, h]
theorem tail_row (l : List Nat) : tailOk (rowL l) = okT l := by
  have hr := run_row blk blk_brk l
  have hle := run_rowN blk blk_brk l
  unfold tailOk okT
  rw [hr, row_drop l _ hle, part_run, hr]
  rcases run_out blk l with h | ⟨c, t, h, hc⟩
  · rw [h, row_nil]; rfl
  · rw [h]
    cases hb : brk c with
    | true => rw [(row_brk c t hb).1]; simp [hb]
    | false =>
      have he : (rowL l).isEmpty = false ∨ run blk l = 0 := by
        by_cases h0 : run blk l = 0
        · exact .inr h0
        · left
          have := rowL_len l
          cases e : rowL l with
          | nil => rw [e] at this; simp at this; omega
          | cons x y => rfl
      rw [(row_on c t hb).1]
      simp only [hsh, hb, Bool.false_or]
      have hne : (c :: rowL t == []) = false := by rfl
      rw [hne, Bool.false_or, Bool.and_comm]
      rcases he with he | he
      · rw [he, Bool.false_or]
      · rw [he] at h
        have h' : l = c :: t := h
        subst h'
        rw [(row_on c t hb).1]
        rfl
def headT : List Nat → Nat
  | [] => 0
  | c :: r => if c = 124 ∨ c = 62 then (if okT ((c :: r).drop (headS r)) = true then headS r else 0) else 0
theorem headS_row (r : List Nat) : headS (rowL r) = headS r := by
  cases r with
  | nil => rfl
  | cons c t =>
    cases hb : brk c with
    | true =>
      rw [(row_brk c t hb).1]
      have h1 : c ≠ 43 := by rintro rfl; simp [brk] at hb
      have h2 : c ≠ 45 := by rintro rfl; simp [brk] at hb
      simp [headS, h1, h2]
    | false => rw [(row_on c t hb).1]; rfl
theorem headS_rowN (r : List Nat) : headS r ≤ rowN r + 1 := by
  have := headS_le (rowL r)
  rw [headS_row, rowL_len] at this
  exact this
theorem head_row (l : List Nat) (h : rowN l ≠ 0) : headN (rowL l) = headT l := by
  cases l with
  | nil => exact absurd rfl h
  | cons c t =>
    cases hb : brk c with
    | true => exact absurd (row_brk c t hb).2 h
    | false =>
      have h1 := (row_on c t hb).1
      have h2 := (row_on c t hb).2
      have h3 := headS_rowN t
      rw [h1, headN, headT, headS_row, ← h1, row_drop (c :: t) _ (by omega), tail_row]
end Go.Proofs.Ytmlpaafclobgcaa.Sc

/- What the chapters' own texts compute of one byte: correctorref2.Break, correctorref5's classes, correctorref6.Counts. -/
namespace Go.Proofs.Ytmlpaafclobgcaa
open Go.RowKit
open Go.Proofs.Ytmlpaafclobgcaa.Sg

/-- How many bytes a break at a place has. -/
def brkN (n p x y : Nat) : Nat := if x = 13 then (if p + 1 < n ∧ y = 10 then 2 else 1) else if x = 10 then 1 else 0
set_option maxHeartbeats 1000000 in
set_option maxRecDepth 100000 in
theorem refBreak (b off cap n p x y : Nat) (w : World) (hn : p < n) (hm : n ≤ 9223372036854775807) (h0 : w.cell? ⟨b, off + p, none⟩ = some (.int .u8 x)) (h1 : p + 1 < n → w.cell? ⟨b, off + (p + 1), none⟩ = some (.int .u8 y)) :
    Calls Try.prog 30 #[.slice (some ⟨b, off, none⟩) n cap, .int .i64 p] w fun e w' => e = .returned (.int .i64 (brkN n p x y)) ∧ w = w' := by
  have hlt : (p : Int) < (n : Int) := by omega
  have hge : ¬ ((n : Int) ≤ (p : Int)) := by omega
  unfold brkN
  by_cases c1 : x = 13
  · subst c1
    by_cases c2 : p + 1 < n
    · have g1 := h1 c2
      have hl2 : (p : Int) + 1 < (n : Int) := by omega
      clear h1
      by_cases c3 : y = 10
      · subst c3
        rw [if_pos rfl, if_pos ⟨c2, rfl⟩]
        go_enter Try.func30, Try.ntmps30
        go_wp2
        go_ret
        exact ⟨rfl, rfl⟩
      · have hb : ((y : Int) == 10) = false := by simp; omega
        rw [if_pos rfl, if_neg (fun h => c3 h.2)]
        clear c3
        go_enter Try.func30, Try.ntmps30
        go_wp2
        go_ret
        exact ⟨rfl, rfl⟩
    · have hl2 : ¬ ((p : Int) + 1 < (n : Int)) := by omega
      rw [if_pos rfl, if_neg (fun h => c2 h.1)]
      clear c2 h1
      go_enter Try.func30, Try.ntmps30
      go_wp2
      go_ret
      exact ⟨rfl, rfl⟩
  · have ha : ((x : Int) == 13) = false := by simp; omega
    rw [if_neg c1]
    clear c1 h1
    by_cases c2 : x = 10
    · subst c2
      rw [if_pos rfl]
      go_enter Try.func30, Try.ntmps30
      go_wp2
      go_ret
      exact ⟨rfl, rfl⟩
    · have hb : ((x : Int) == 10) = false := by simp; omega
      rw [if_neg c2]
      clear c2
      go_enter Try.func30, Try.ntmps30
      go_wp2
      go_ret
      exact ⟨rfl, rfl⟩


set_option maxHeartbeats 1000000 in
theorem refBlank (c : Nat) (w : World) :
    Calls Try.prog 32 #[.int .u8 c] w fun e w' => e = .returned (.bool (Sc.blk c)) ∧ w = w' := by
  go_enter Try.func32, Try.ntmps32
  go_wp2
  all_goals
    go_ret
    refine ⟨?_, rfl⟩
    refine congrArg (fun b => Ending.returned (.bool b)) ?_
    rw [Bool.eq_iff_iff]
    simp [Sc.blk] at *
    try omega
set_option maxHeartbeats 1000000 in
theorem refName (c : Nat) (w : World) :
    Calls Try.prog 53 #[.int .u8 c] w fun e w' => e = .returned (.bool (Sc.nam c)) ∧ w = w' := by
  go_enter Try.func53, Try.ntmps53
  go_wp2
  all_goals
    go_ret
    refine ⟨?_, rfl⟩
    refine congrArg (fun b => Ending.returned (.bool b)) ?_
    rw [Bool.eq_iff_iff]
    simp [Sc.nam] at *
    try omega
set_option maxHeartbeats 1000000 in
theorem refFlow (c : Nat) (w : World) :
    Calls Try.prog 54 #[.int .u8 c] w fun e w' => e = .returned (.bool (Sc.flo c)) ∧ w = w' := by
  go_enter Try.func54, Try.ntmps54
  go_wp2
  all_goals
    go_ret
    refine ⟨?_, rfl⟩
    refine congrArg (fun b => Ending.returned (.bool b)) ?_
    rw [Bool.eq_iff_iff]
    simp [Sc.flo] at *
    try omega
set_option maxHeartbeats 1000000 in
theorem refCounts (k : Nat) (w : World) :
    Calls Try.prog 29 #[.int .i64 k] w fun e w' => e = .returned (.bool (Sc.counts k)) ∧ w = w' := by
  go_enter Try.func29, Try.ntmps29
  go_wp2
  all_goals
    go_ret
    refine ⟨?_, rfl⟩
    refine congrArg (fun b => Ending.returned (.bool b)) ?_
    rw [Bool.eq_iff_iff]
    simp [Sc.counts] at *
    try omega
/-- A break, in the plain text's words. -/
theorem brk_plain (n p x y : Nat) (t : List Nat) (h : n = p + 1 + t.length) (hy : ∀ d r, t = d :: r → y = d) : brkN n p x y = Sc.brkS (x :: t) := by
  unfold brkN
  cases t with
  | nil =>
    have h1 : ¬ (p + 1 < n) := by simp at h; omega
    rw [Sc.brkS]
    simp [h1]
  | cons d r =>
    have := hy d r rfl
    subst this
    have h1 : p + 1 < n := by simp at h; omega
    rw [Sc.brkS]
    simp [h1]
theorem brkS_zero (c : Nat) (t : List Nat) : Sc.brkS (c :: t) = 0 ↔ Sc.brk c = false := by
  cases t with
  | nil => simp [Sc.brkS, Sc.brk]; (repeat' split) <;> omega
  | cons d r => simp [Sc.brkS, Sc.brk]; (repeat' split) <;> omega
theorem brkS_le2 (l : List Nat) : Sc.brkS l ≤ 2 := by
  match l with
  | [] => decide
  | [c] => rw [Sc.brkS]; (repeat' split) <;> omega
  | c :: d :: t => rw [Sc.brkS]; (repeat' split) <;> omega
end Go.Proofs.Ytmlpaafclobgcaa

/- The chapter's own scanner (correctorref6), its functions that only read: byteAt, ended, mark. -/
namespace Go.Proofs.Ytmlpaafclobgcaa
open Go.RowKit
open Go.Proofs.Ytmlpaafclobgcaa.Sg
set_option linter.unusedVariables false

/-- The bytes of a text stand where a slice begins. -/
def Txt (w : World) (b off : Nat) (L : List Nat) : Prop := ∀ (j c : Nat), L[j]? = some c → w.cell? ⟨b, off + j, none⟩ = some (.int .u8 c)
theorem Txt.below {w w' : World} {b off : Nat} {L : List Nat} (h : Txt w b off L) (hb : Below w.heap.size w w') : Txt w' b off L := fun j c hj => at_below hb (h j c hj)
theorem drop_get {L : List Nat} {j c : Nat} {t : List Nat} (h : L.drop j = c :: t) : L[j]? = some c := by
  have := congrArg (fun l => l[0]?) h
  simpa using this
theorem Txt.at_ {w : World} {b off : Nat} {L : List Nat} (h : Txt w b off L) {j c : Nat} {t : List Nat} (hd : L.drop j = c :: t) : w.cell? ⟨b, off + j, none⟩ = some (.int .u8 c) := h j c (drop_get hd)
theorem drop_cases (L : List Nat) (i : Nat) : (L.drop i = [] ∧ L.length ≤ i) ∨ ∃ c t, L.drop i = c :: t ∧ L.drop (i + 1) = t ∧ L.length = i + 1 + t.length := by
  cases h : L.drop i with
  | nil => exact .inl ⟨rfl, Sc.drop_ge h⟩
  | cons c t => exact .inr ⟨c, t, rfl, (Sc.drop_lt h).2.1, (Sc.drop_lt h).2.2⟩
variable {w : World} {a b off cap n : Nat} {L : List Nat}

set_option maxHeartbeats 1000000 in
theorem rByte (i : Nat) (hn : L.length = n) (hm : n ≤ 20000) (hi : i ≤ 20000) (c0 : w.cell? ⟨a, 0, none⟩ = some (.slice (some ⟨b, off, none⟩) n cap)) (hT : Txt w b off L) :
    Calls Try.prog 27 #[.pointer (some ⟨a, 0, none⟩), .int .i64 i] w fun e w' => e = .returned (.int .u8 (L.getD i 0)) ∧ w = w' := by
  rcases drop_cases L i with ⟨h1, h2⟩ | ⟨c, t, h1, h2, h3⟩
  · have e : L.getD i 0 = 0 := by rw [List.getD_eq_getElem?_getD, List.getElem?_eq_none h2]; rfl
    have i1 : (n : Int) ≤ (i : Int) := by omega
    rw [e]
    clear hT h1 h2 e
    go_enter Try.func27, Try.ntmps27
    go_wp2_with fail
    go_ret
    exact ⟨rfl, rfl⟩
  · have e : L.getD i 0 = c := by rw [List.getD_eq_getElem?_getD, drop_get h1]; rfl
    have d := hT.at_ h1
    have i1 : (i : Int) < (n : Int) := by omega
    rw [e]
    clear hT h1 h2 h3 e hn
    go_enter Try.func27, Try.ntmps27
    go_wp2_with fail
    go_ret
    exact ⟨rfl, rfl⟩
theorem brk_at_ (i c : Nat) (t : List Nat) (hn : L.length = n) (hm : n ≤ 20000) (hT : Txt w b off L) (h1 : L.drop i = c :: t) :
    Calls Try.prog 30 #[.slice (some ⟨b, off, none⟩) n cap, .int .i64 i] w fun e w' => e = .returned (.int .i64 (Sc.brkS (c :: t))) ∧ w = w' := by
  have h2 := Sc.drop_lt h1
  rw [hn] at h2
  have := refBreak b off cap n i c (t.getD 0 0) w h2.1 (by omega) (hT.at_ h1) (fun h => by
    have h3 := h2.2.1
    cases t with
    | nil => have := h2.2.2; simp at this; omega
    | cons d r => exact hT.at_ h3)
  rw [brk_plain n i c _ t h2.2.2 (fun d r e => by rw [e]; rfl)] at this
  exact this
set_option maxHeartbeats 1000000 in
theorem rEnded (i : Nat) (hn : L.length = n) (hm : n ≤ 20000) (hi : i ≤ 20000) (c0 : w.cell? ⟨a, 0, none⟩ = some (.slice (some ⟨b, off, none⟩) n cap)) (hT : Txt w b off L) :
    Calls Try.prog 28 #[.pointer (some ⟨a, 0, none⟩), .int .i64 i] w fun e w' => e = .returned (.bool (Sc.endT (L.drop i))) ∧ w = w' := by
  rcases drop_cases L i with ⟨h1, h2⟩ | ⟨c, t, h1, h2, h3⟩
  · have i1 : (n : Int) ≤ (i : Int) := by omega
    rw [h1, show Sc.endT [] = true from rfl]
    clear hT h1 h2
    go_enter Try.func28, Try.ntmps28
    go_wp2_with fail
    go_ret
    exact ⟨rfl, rfl⟩
  · have d := hT.at_ h1
    have i1 : (i : Int) < (n : Int) := by omega
    have HB := Lib.hid (refBlank c w)
    have HK := Lib.hid (brk_at_ (cap := cap) i c t hn hm hT h1)
    rw [h1, show Sc.endT (c :: t) = (Sc.blk c || Sc.brk c) from rfl]
    have hz := brkS_zero c t
    obtain ⟨K, hK⟩ : ∃ K, Sc.brkS (c :: t) = K := ⟨_, rfl⟩
    rw [hK] at HK hz
    have hg : decide (0 < K) = Sc.brk c := by
      cases hb : Sc.brk c with
      | true => exact decide_eq_true (by have := mt hz.1 (by rw [hb]; simp); omega)
      | false => exact decide_eq_false (by have := hz.2 hb; omega)
    obtain ⟨P, hP⟩ : ∃ P, Sc.brk c = P := ⟨_, rfl⟩
    rw [hP] at hg ⊢
    obtain ⟨B, hB⟩ : ∃ B, Sc.blk c = B := ⟨_, rfl⟩
    rw [hB] at HB ⊢
    have HG := Lib.hid hg
    have HN := Lib.hid (show decide (n ≤ i) = false from decide_eq_false (by omega))
    clear hT h1 h2 h3 hn hz hK hP hB hg
    go_enter Try.func28, Try.ntmps28
    go_wp2_with fail
    refine HB.out.mono ?_
    rintro e w1 ⟨rfl, rfl⟩
    cases B with
    | true =>
      go_wp2_with fail
      go_ret
      exact ⟨rfl, rfl⟩
    | false =>
      go_wp2_with fail
      refine HK.out.mono ?_
      rintro e w1 ⟨rfl, rfl⟩
      go_wp2_with fail
      go_ret
      exact ⟨by simp [HN.out, HG.out], rfl⟩
set_option maxHeartbeats 2000000 in
theorem rMark (i : Nat) (hn : L.length = n) (hm : n ≤ 16384) (hi : i < n) (c0 : w.cell? ⟨a, 0, none⟩ = some (.slice (some ⟨b, off, none⟩) n cap)) (hT : Txt w b off L) :
    Calls Try.prog 17 #[.pointer (some ⟨a, 0, none⟩), .int .i64 i] w fun e w' => e = .returned (.int .i64 (Sc.markT (L.drop i))) ∧ w = w' := by
  have HB := Lib.hid (rByte i hn (by omega) (by omega) c0 hT)
  have hE0 := rEnded (i + 3) hn (by omega) (by omega) c0 hT
  rw [show ((i + 3 : Nat) : Int) = (i : Int) + 3 from by omega] at hE0
  have HE := Lib.hid hE0
  clear hE0
  rcases drop_cases L i with ⟨h1, h2⟩ | ⟨c, t, h1, h2, h3⟩
  · omega
  have hg : L.getD i 0 = c := by rw [List.getD_eq_getElem?_getD, drop_get h1]; rfl
  rw [hg] at HB
  rw [h1]
  by_cases hs : n < i + 3
  · have i1 : (n : Int) < (i : Int) + 3 := by omega
    have hz : Sc.markT (c :: t) = 0 := by
      match t with
      | [] => rfl
      | [d] => rfl
      | d :: e :: r => simp at h3; omega
    rw [hz]
    clear hT h1 h2 h3 hn hg hz hs
    go_enter Try.func17, Try.ntmps17
    go_wp2_with fail
    refine HB.out.mono ?_
    rintro e w1 ⟨rfl, rfl⟩
    go_wp2_with fail
    go_ret
    exact ⟨rfl, rfl⟩
  · obtain ⟨d, e, r, rfl⟩ : ∃ d e r, t = d :: e :: r := by
      match t, h3 with
      | [], h3 => simp at h3; omega
      | [d], h3 => simp at h3; omega
      | d :: e :: r, _ => exact ⟨d, e, r, rfl⟩
    have d1 := hT.at_ h2
    have h4 := (Sc.drop_lt h2).2.1
    have d2 : w.cell? ⟨b, off + (i + 2), none⟩ = some (.int .u8 e) := hT.at_ h4
    have h5 := (Sc.drop_lt h4).2.1
    rw [show i + 3 = i + 1 + 1 + 1 from rfl, h5] at HE
    have i1 : ¬ ((n : Int) < (i : Int) + 3) := by omega
    have j1 : (i : Int) + 1 < (n : Int) := by omega
    have j2 : (i : Int) + 2 < (n : Int) := by omega
    obtain ⟨E, hE⟩ : ∃ E, Sc.endT r = E := ⟨_, rfl⟩
    rw [hE] at HE
    rw [show Sc.markT (c :: d :: e :: r) = if d = c ∧ e = c ∧ Sc.endT r = true then (if c = 45 then 20 else if c = 46 then 21 else 0) else 0 from rfl, hE]
    clear hT h1 h2 h3 h4 h5 hn hg hE hs
    by_cases q1 : d = c
    · subst q1
      by_cases q2 : e = d
      · subst q2
        cases E with
        | true =>
          rw [if_pos ⟨rfl, rfl, rfl⟩]
          by_cases q3 : e = 45
          · have g3 : ((e : Int) == 45) = true := by simp; omega
            rw [if_pos q3]
            clear q3
            go_enter Try.func17, Try.ntmps17
            go_wp2_with fail
            refine HB.out.mono ?_
            rintro e w1 ⟨rfl, rfl⟩
            go_wp2_with fail
            refine HE.out.mono ?_
            rintro e w1 ⟨rfl, rfl⟩
            go_wp2_with fail
            go_ret
            exact ⟨rfl, rfl⟩
          · have g3 : ((e : Int) == 45) = false := by simp; omega
            rw [if_neg q3]
            clear q3
            by_cases q4 : e = 46
            · have g4 : ((e : Int) == 46) = true := by simp; omega
              rw [if_pos q4]
              clear q4
              go_enter Try.func17, Try.ntmps17
              go_wp2_with fail
              refine HB.out.mono ?_
              rintro e w1 ⟨rfl, rfl⟩
              go_wp2_with fail
              refine HE.out.mono ?_
              rintro e w1 ⟨rfl, rfl⟩
              go_wp2_with fail
              go_ret
              exact ⟨rfl, rfl⟩
            · have g4 : ((e : Int) == 46) = false := by simp; omega
              rw [if_neg q4]
              clear q4
              go_enter Try.func17, Try.ntmps17
              go_wp2_with fail
              refine HB.out.mono ?_
              rintro e w1 ⟨rfl, rfl⟩
              go_wp2_with fail
              refine HE.out.mono ?_
              rintro e w1 ⟨rfl, rfl⟩
              go_wp2_with fail
              go_ret
              exact ⟨rfl, rfl⟩
        | false =>
          rw [if_neg (fun h => by cases h.2.2)]
          go_enter Try.func17, Try.ntmps17
          go_wp2_with fail
          refine HB.out.mono ?_
          rintro e w1 ⟨rfl, rfl⟩
          go_wp2_with fail
          refine HE.out.mono ?_
          rintro e w1 ⟨rfl, rfl⟩
          go_wp2_with fail
          go_ret
          exact ⟨rfl, rfl⟩
      · have g2 : ((e : Int) != (d : Int)) = true := by simp; omega
        rw [if_neg (fun h => q2 h.2.1)]
        clear q2 HE
        go_enter Try.func17, Try.ntmps17
        go_wp2_with fail
        refine HB.out.mono ?_
        rintro e w1 ⟨rfl, rfl⟩
        go_wp2_with fail
        go_ret
        exact ⟨rfl, rfl⟩
    · have g1 : ((d : Int) != (c : Int)) = true := by simp; omega
      rw [if_neg (fun h => q1 h.1)]
      clear q1 HE d2
      go_enter Try.func17, Try.ntmps17
      go_wp2_with fail
      refine HB.out.mono ?_
      rintro e w1 ⟨rfl, rfl⟩
      go_wp2_with fail
      go_ret
      exact ⟨rfl, rfl⟩
end Go.Proofs.Ytmlpaafclobgcaa

/- The chapter's own scanner (correctorref6), its loops that only read: rowEnd, names, single, double; colon. -/
namespace Go.Proofs.Ytmlpaafclobgcaa
open Go.RowKit
open Go.Proofs.Ytmlpaafclobgcaa.Sg
set_option linter.unusedVariables false
variable {w : World} {a b off cap n : Nat} {L : List Nat}

theorem rowN_zero (c : Nat) (t : List Nat) (h : Sc.brk c = true) : Sc.rowN (c :: t) = 0 := (Sc.row_brk c t h).2
theorem rowN_one (c : Nat) (t : List Nat) (h : Sc.brk c = false) : Sc.rowN (c :: t) = Sc.rowN t + 1 := (Sc.row_on c t h).2
set_option maxHeartbeats 2000000 in
theorem rRowEnd (i T : Nat) (hn : L.length = n) (hm : n ≤ 16384) (hi : i ≤ n) (hTT : i + Sc.rowN (L.drop i) = T) (c0 : w.cell? ⟨a, 0, none⟩ = some (.slice (some ⟨b, off, none⟩) n cap)) (hT : Txt w b off L) :
    Calls Try.prog 33 #[.pointer (some ⟨a, 0, none⟩), .int .i64 i] w fun e w' => e = .returned (.int .i64 T) ∧ w = w' := by
  have HT := Lib.hid hT
  have HN := Lib.hid hn
  have HTT := Lib.hid hTT
  clear hT hn hTT
  go_enter Try.func33, Try.ntmps33
  go_wp2_with fail
  go_loopw [1] (fun is wr => ∃ k : Nat, is = .int .i64 k ∧ k ≤ n ∧ Hid (k + Sc.rowN (L.drop k) = T) ∧ w = wr) (fun is _ => n - (intOf is).toNat)
  case atStart => exact ⟨i, rfl, hi, HTT, rfl⟩
  case round =>
    obtain ⟨k, rfl, hk, HK, rfl⟩ := hrel
    rcases drop_cases L k with ⟨h1, h2⟩ | ⟨c, t, h1, h2, h3⟩
    · have i1 : ¬ ((k : Int) < (n : Int)) := by have := HN.out; omega
      have HE := Lib.hid (show T = k by have := HK.out; rw [h1, show Sc.rowN [] = 0 from rfl] at this; omega)
      clear h1 h2 HK HTT
      go_wp2_with fail
      go_ret
      exact ⟨by rw [HE.out]; rfl, rfl⟩
    · have hkn : k < n := by have := HN.out; omega
      have i1 : (k : Int) < (n : Int) := by omega
      have hB := brk_at_ (cap := cap) k c t HN.out (by omega) HT.out h1
      have hz := brkS_zero c t
      obtain ⟨K, hKd⟩ : ∃ K, Sc.brkS (c :: t) = K := ⟨_, rfl⟩
      rw [hKd] at hB hz
      have HB := Lib.hid hB
      clear hB hKd h3
      cases hb : Sc.brk c with
      | true =>
        have gK : ((K : Int) == 0) = false := by have := mt hz.1 (by rw [hb]; simp); simp; omega
        have HE := Lib.hid (show T = k by have := HK.out; rw [h1, rowN_zero c t hb] at this; omega)
        clear h1 h2 HK HTT hz hb hkn
        go_wp2_with fail
        refine HB.out.mono ?_
        rintro e w1 ⟨rfl, rfl⟩
        go_wp2_with fail
        go_ret
        exact ⟨by rw [HE.out]; rfl, rfl⟩
      | false =>
        obtain rfl : K = 0 := hz.2 hb
        have HE := Lib.hid (show (k + 1) + Sc.rowN (L.drop (k + 1)) = T by have := HK.out; rw [h1, rowN_one c t hb] at this; rw [h2]; omega)
        clear h1 h2 HK HTT hz hb
        go_wp2_with fail
        refine HB.out.mono ?_
        rintro e w1 ⟨rfl, rfl⟩
        go_wp2_with fail
        go_roundw
        case rel => exact ⟨k + 1, by go_num, by omega, HE, trivial⟩
        case measure => simp [intOf]; omega
/-- What a name, a tag may have. -/
def cls (tag : Bool) : Nat → Bool := if tag = true then Sc.tgc else Sc.nam
theorem cls_on (tag : Bool) (c : Nat) : cls tag c = (Sc.nam c || (tag && c == 33)) := by
  cases tag
  · simp [cls]
  · simp [cls, Sc.tgc, Bool.or_comm]
set_option maxHeartbeats 2000000 in
theorem rNames (tag : Bool) (i T : Nat) (hn : L.length = n) (hm : n ≤ 16384) (hi : i ≤ n) (hTT : i + Sc.run (cls tag) (L.drop i) = T) (c0 : w.cell? ⟨a, 0, none⟩ = some (.slice (some ⟨b, off, none⟩) n cap)) (hT : Txt w b off L) :
    Calls Try.prog 35 #[.pointer (some ⟨a, 0, none⟩), .int .i64 i, .bool tag] w fun e w' => e = .returned (.int .i64 T) ∧ w = w' := by
  have HT := Lib.hid hT
  have HN := Lib.hid hn
  have HTT := Lib.hid hTT
  clear hT hn hTT
  go_enter Try.func35, Try.ntmps35
  go_wp2_with fail
  go_loopw [1] (fun is wr => ∃ k : Nat, is = .int .i64 k ∧ k ≤ n ∧ Hid (k + Sc.run (cls tag) (L.drop k) = T) ∧ w = wr) (fun is _ => n - (intOf is).toNat)
  case atStart => exact ⟨i, rfl, hi, HTT, rfl⟩
  case round =>
    obtain ⟨k, rfl, hk, HK, rfl⟩ := hrel
    rcases drop_cases L k with ⟨h1, h2⟩ | ⟨c, t, h1, h2, h3⟩
    · have i1 : ¬ ((k : Int) < (n : Int)) := by have := HN.out; omega
      have HE := Lib.hid (show T = k by have := HK.out; rw [h1, show Sc.run (cls tag) [] = 0 from rfl] at this; omega)
      clear h1 h2 HK HTT
      go_wp2_with fail
      go_ret
      exact ⟨by rw [HE.out]; rfl, rfl⟩
    · have hkn : k < n := by have := HN.out; omega
      have i1 : (k : Int) < (n : Int) := by omega
      have d := HT.out.at_ h1
      have HNm := Lib.hid (refName c w)
      obtain ⟨N, hNd⟩ : ∃ N, Sc.nam c = N := ⟨_, rfl⟩
      rw [hNd] at HNm
      have hc := cls_on tag c
      rw [hNd] at hc
      have HGo := Lib.hid (fun (g : cls tag c = true) => show (k + 1) + Sc.run (cls tag) (L.drop (k + 1)) = T by have := HK.out; rw [h1, Sc.run_step, if_pos g] at this; rw [h2]; omega)
      have HSt := Lib.hid (fun (g : ¬ cls tag c = true) => show T = k by have := HK.out; rw [h1, Sc.run_step, if_neg g] at this; omega)
      clear h1 h2 h3 HK HTT hNd
      cases N with
      | true =>
        have HR := Lib.hid (HGo.out (by rw [hc]; rfl))
        clear hc HGo HSt
        go_wp2_with fail
        refine HNm.out.mono ?_
        rintro e w1 ⟨rfl, rfl⟩
        go_wp2_with fail
        go_roundw
        case rel => exact ⟨k + 1, by go_num, by omega, HR, trivial⟩
        case measure => simp [intOf]; omega
      | false =>
        cases tag with
        | false =>
          have HR := Lib.hid (HSt.out (by rw [hc]; simp))
          clear hc HGo HSt
          go_wp2_with fail
          refine HNm.out.mono ?_
          rintro e w1 ⟨rfl, rfl⟩
          go_wp2_with fail
          go_ret
          exact ⟨by rw [HR.out]; rfl, rfl⟩
        | true =>
          by_cases q : c = 33
          · have g : ((c : Int) == 33) = true := by simp; omega
            have HR := Lib.hid (HGo.out (by rw [hc, q]; rfl))
            clear hc HGo HSt q
            go_wp2_with fail
            refine HNm.out.mono ?_
            rintro e w1 ⟨rfl, rfl⟩
            go_wp2_with fail
            go_roundw
            case rel => exact ⟨k + 1, by go_num, by omega, HR, trivial⟩
            case measure => simp [intOf]; omega
          · have g : ((c : Int) == 33) = false := by simp; omega
            have HR := Lib.hid (HSt.out (by rw [hc]; simp [q]))
            clear hc HGo HSt q
            go_wp2_with fail
            refine HNm.out.mono ?_
            rintro e w1 ⟨rfl, rfl⟩
            go_wp2_with fail
            go_ret
            exact ⟨by rw [HR.out]; rfl, rfl⟩
theorem sing_on (c : Nat) (r : List Nat) (h : c ≠ 39) : Sc.sing (c :: r) = Sc.sing r + 1 := by
  cases r with
  | nil => rfl
  | cons d t => rw [Sc.sing, if_neg h]
theorem sing_two (d : Nat) (r : List Nat) (h : d = 39) : Sc.sing (39 :: d :: r) = Sc.sing r + 2 := by rw [Sc.sing, if_pos rfl, if_pos h]
theorem sing_one (d : Nat) (r : List Nat) (h : d ≠ 39) : Sc.sing (39 :: d :: r) = 1 := by rw [Sc.sing, if_pos rfl, if_neg h]
/-- A piece of the text from a place on. -/
theorem piece_on {k c m : Nat} {t : List Nat} (h1 : L.drop k = c :: t) (h2 : L.drop (k + 1) = t) (h : k < m) : (L.drop k).take (m - k) = c :: (L.drop (k + 1)).take (m - (k + 1)) := by
  rw [h1, h2, show m - k = m - (k + 1) + 1 by omega, List.take_succ_cons]
theorem piece_off {k m : Nat} (h : m ≤ k) : (L.drop k).take (m - k) = [] := by
  rw [show m - k = 0 by omega, List.take_zero]
set_option maxHeartbeats 2000000 in
theorem rSingle (i m T : Nat) (hn : L.length = n) (hm : n ≤ 16384) (hi : i ≤ m) (hmn : m ≤ n) (hTT : i + Sc.sing ((L.drop i).take (m - i)) = T) (c0 : w.cell? ⟨a, 0, none⟩ = some (.slice (some ⟨b, off, none⟩) n cap)) (hT : Txt w b off L) :
    Calls Try.prog 37 #[.pointer (some ⟨a, 0, none⟩), .int .i64 i, .int .i64 m] w fun e w' => e = .returned (.int .i64 T) ∧ w = w' := by
  have HT := Lib.hid hT
  have HN := Lib.hid hn
  have HTT := Lib.hid hTT
  clear hT hn hTT
  go_enter Try.func37, Try.ntmps37
  go_wp2_with fail
  go_loopw [1] (fun is wr => ∃ k : Nat, is = .int .i64 k ∧ k ≤ m ∧ Hid (k + Sc.sing ((L.drop k).take (m - k)) = T) ∧ w = wr) (fun is _ => m - (intOf is).toNat)
  case atStart => exact ⟨i, rfl, hi, HTT, rfl⟩
  case round =>
    obtain ⟨k, rfl, hk, HK, rfl⟩ := hrel
    by_cases hlt : k < m
    · have i1 : (k : Int) < (m : Int) := by omega
      have i2 : (k : Int) < (n : Int) := by omega
      rcases drop_cases L k with ⟨h1, h2⟩ | ⟨c, t, h1, h2, h3⟩
      · have := HN.out; omega
      have d := HT.out.at_ h1
      have hP := piece_on h1 h2 hlt
      by_cases q : c = 39
      · subst q
        by_cases hl2 : k + 1 < m
        · have j1 : (k : Int) + 1 < (m : Int) := by omega
          have j2 : (k : Int) + 1 < (n : Int) := by omega
          rcases drop_cases L (k + 1) with ⟨g1, g2⟩ | ⟨x, u, g1, g2, g3⟩
          · have := HN.out; omega
          have d2 := HT.out.at_ g1
          have hP2 := piece_on g1 g2 hl2
          by_cases q2 : x = 39
          · have gx : ((x : Int) == 39) = true := by simp; omega
            have HR := Lib.hid (show (k + 2) + Sc.sing ((L.drop (k + 2)).take (m - (k + 2))) = T by have := HK.out; rw [hP, hP2, sing_two x _ q2, show k + 1 + 1 = k + 2 from rfl] at this; omega)
            clear h1 h2 h3 HK HTT hP hP2 q2 g1 g2 g3
            go_wp2_with fail
            go_roundw
            case rel => exact ⟨k + 2, by go_num, by omega, HR, trivial⟩
            case measure => simp [intOf]; omega
          · have gx : ((x : Int) == 39) = false := by simp; omega
            have HR := Lib.hid (show T = k + 1 by have := HK.out; rw [hP, hP2, sing_one x _ q2] at this; omega)
            clear h1 h2 h3 HK HTT hP hP2 q2 g1 g2 g3
            go_wp2_with fail
            go_ret
            exact ⟨by rw [HR.out]; first | rfl | go_num, rfl⟩
        · have j1 : ¬ ((k : Int) + 1 < (m : Int)) := by omega
          have HR := Lib.hid (show T = k + 1 by have := HK.out; rw [hP, piece_off (by omega)] at this; exact this.symm)
          clear h1 h2 h3 HK HTT hP
          go_wp2_with fail
          go_ret
          exact ⟨by rw [HR.out]; first | rfl | go_num, rfl⟩
      · have gc : ((c : Int) != 39) = true := by simp; omega
        have HR := Lib.hid (show (k + 1) + Sc.sing ((L.drop (k + 1)).take (m - (k + 1))) = T by have := HK.out; rw [hP, sing_on c _ q] at this; omega)
        clear h1 h2 h3 HK HTT hP q
        go_wp2_with fail
        go_roundw
        case rel => exact ⟨k + 1, by go_num, by omega, HR, trivial⟩
        case measure => simp [intOf]; omega
    · have i1 : ¬ ((k : Int) < (m : Int)) := by omega
      have HR := Lib.hid (show T = m by have := HK.out; rw [piece_off (by omega)] at this; have e : Sc.sing [] = 0 := rfl; omega)
      clear HK HTT
      go_wp2_with fail
      go_ret
      exact ⟨by rw [HR.out]; rfl, rfl⟩
theorem doub_on (c : Nat) (r : List Nat) (h : c ≠ 34) (h2 : c ≠ 92) : Sc.doub (c :: r) = Sc.doub r + 1 := by
  cases r with
  | nil => rfl
  | cons d t => rw [Sc.doub, if_neg h, if_neg h2]
theorem doub_quote (r : List Nat) : Sc.doub (34 :: r) = 1 := by
  cases r with
  | nil => rfl
  | cons d t => rw [Sc.doub, if_pos rfl]
theorem doub_two (d : Nat) (r : List Nat) : Sc.doub (92 :: d :: r) = Sc.doub r + 2 := by rw [Sc.doub, if_neg (by decide), if_pos rfl]
set_option maxHeartbeats 2000000 in
theorem rDouble (i m T : Nat) (hn : L.length = n) (hm : n ≤ 16384) (hi : i ≤ m) (hmn : m ≤ n) (hTT : i + Sc.doub ((L.drop i).take (m - i)) = T) (c0 : w.cell? ⟨a, 0, none⟩ = some (.slice (some ⟨b, off, none⟩) n cap)) (hT : Txt w b off L) :
    Calls Try.prog 38 #[.pointer (some ⟨a, 0, none⟩), .int .i64 i, .int .i64 m] w fun e w' => e = .returned (.int .i64 T) ∧ w = w' := by
  have HT := Lib.hid hT
  have HN := Lib.hid hn
  have HTT := Lib.hid (show min i m + Sc.doub ((L.drop i).take (m - i)) = T by rw [Nat.min_eq_left hi]; exact hTT)
  clear hT hn hTT
  go_enter Try.func38, Try.ntmps38
  go_wp2_with fail
  go_loopw [1] (fun is wr => ∃ k : Nat, is = .int .i64 k ∧ k ≤ m + 1 ∧ Hid (min k m + Sc.doub ((L.drop k).take (m - k)) = T) ∧ w = wr) (fun is _ => m + 1 - (intOf is).toNat)
  case atStart => exact ⟨i, rfl, by omega, HTT, rfl⟩
  case round =>
    obtain ⟨k, rfl, hk, HK, rfl⟩ := hrel
    by_cases hlt : k < m
    · have i1 : (k : Int) < (m : Int) := by omega
      have i2 : (k : Int) < (n : Int) := by omega
      rcases drop_cases L k with ⟨h1, h2⟩ | ⟨c, t, h1, h2, h3⟩
      · have := HN.out; omega
      have d := HT.out.at_ h1
      have hP := piece_on h1 h2 hlt
      by_cases q : c = 34
      · subst q
        have HR := Lib.hid (show T = k + 1 by have := HK.out; rw [hP, doub_quote] at this; omega)
        clear h1 h2 h3 HK HTT hP
        go_wp2_with fail
        go_ret
        exact ⟨by rw [HR.out]; first | rfl | go_num, rfl⟩
      · have gc : ((c : Int) == 34) = false := by simp; omega
        by_cases q2 : c = 92
        · have g2 : ((c : Int) == 92) = true := by simp; omega
          have HR := Lib.hid (show min (k + 2) m + Sc.doub ((L.drop (k + 2)).take (m - (k + 2))) = T by
            have h := HK.out
            rw [hP, q2] at h
            by_cases hl2 : k + 1 < m
            · rcases drop_cases L (k + 1) with ⟨g1, g2⟩ | ⟨x, u, g1, g2, g3⟩
              · have := HN.out; omega
              · rw [piece_on g1 g2 hl2, doub_two] at h
                have : k + 1 + 1 = k + 2 := rfl
                rw [this] at h
                omega
            · rw [piece_off (k := k + 1) (by omega), show Sc.doub [92] = 1 from rfl] at h
              rw [piece_off (by omega), show Sc.doub [] = 0 from rfl]
              omega)
          clear h1 h2 h3 HK HTT hP q q2
          go_wp2_with fail
          go_roundw
          case rel => exact ⟨k + 2, by go_num, by omega, HR, trivial⟩
          case measure => simp [intOf]; omega
        · have g2 : ((c : Int) == 92) = false := by simp; omega
          have HR := Lib.hid (show min (k + 1) m + Sc.doub ((L.drop (k + 1)).take (m - (k + 1))) = T by have := HK.out; rw [hP, doub_on c _ q q2] at this; omega)
          clear h1 h2 h3 HK HTT hP q q2
          go_wp2_with fail
          go_roundw
          case rel => exact ⟨k + 1, by go_num, by omega, HR, trivial⟩
          case measure => simp [intOf]; omega
    · have i1 : ¬ ((k : Int) < (m : Int)) := by omega
      have HR := Lib.hid (show T = m by have := HK.out; rw [piece_off (by omega)] at this; have e : Sc.doub [] = 0 := rfl; omega)
      clear HK HTT
      go_wp2_with fail
      go_ret
      exact ⟨by rw [HR.out]; rfl, rfl⟩
end Go.Proofs.Ytmlpaafclobgcaa

/- The chapter's own scanner (correctorref6): colon, head. -/
namespace Go.Proofs.Ytmlpaafclobgcaa
open Go.RowKit
open Go.Proofs.Ytmlpaafclobgcaa.Sg
set_option linter.unusedVariables false
variable {w : World} {a b off cap n : Nat} {L : List Nat}

theorem key_end (op : Bool) (t : List Nat) (h : Sc.endT t = true) : Sc.keyT op t = true := by
  cases t with
  | nil => rfl
  | cons d r => rw [Sc.endT] at h; simp [Sc.keyT, h]
theorem key_no (t : List Nat) (h : Sc.endT t = false) : Sc.keyT false t = false := by
  cases t with
  | nil => cases h
  | cons d r => rw [Sc.endT] at h; simp [Sc.keyT, h]
theorem key_flo (d : Nat) (r : List Nat) (h : Sc.endT (d :: r) = false) : Sc.keyT true (d :: r) = Sc.flo d := by
  rw [Sc.endT] at h; simp [Sc.keyT, h]
set_option maxHeartbeats 2000000 in
theorem rColon (i op c : Nat) (t : List Nat) (h1 : L.drop i = c :: t) (hn : L.length = n) (hm : n ≤ 16384) (c0 : w.cell? ⟨a, 0, none⟩ = some (.slice (some ⟨b, off, none⟩) n cap)) (c3 : w.cell? ⟨a, 3, none⟩ = some (.int .i64 op)) (hT : Txt w b off L) :
    Calls Try.prog 36 #[.pointer (some ⟨a, 0, none⟩), .int .i64 i] w fun e w' => e = .returned (.bool (Sc.colT (decide (0 < op)) (c :: t))) ∧ w = w' := by
  have h2 := Sc.drop_lt h1
  have hi : i < n := by omega
  have hb := rByte i hn (by omega) (by omega) c0 hT
  rw [show L.getD i 0 = c by rw [List.getD_eq_getElem?_getD, drop_get h1]; rfl] at hb
  have HB := Lib.hid hb
  have he := rEnded (i + 1) hn (by omega) (by omega) c0 hT
  have hb2 := rByte (i + 1) hn (by omega) (by omega) c0 hT
  rw [show ((i + 1 : Nat) : Int) = (i : Int) + 1 from by omega, h2.2.1] at he
  rw [show ((i + 1 : Nat) : Int) = (i : Int) + 1 from by omega] at hb2
  have i1 : (i : Int) < (n : Int) := by omega
  rw [Sc.colT]
  by_cases q : c = 58
  · have g : ((c : Int) == 58) = true := by simp; omega
    have gc : (c == 58) = true := by simp; omega
    rw [gc, Bool.true_and]
    cases hE : Sc.endT t with
    | true =>
      rw [hE] at he
      have HE := Lib.hid he
      rw [key_end _ t hE]
      clear hb he hb2 hT h1 h2 hn q gc hE
      go_enter Try.func36, Try.ntmps36
      go_wp2_with fail
      refine HB.out.mono ?_
      rintro e w1 ⟨rfl, rfl⟩
      go_wp2_with fail
      refine HE.out.mono ?_
      rintro e w1 ⟨rfl, rfl⟩
      go_wp2_with fail
      go_ret
      exact ⟨rfl, rfl⟩
    | false =>
      rw [hE] at he
      have HE := Lib.hid he
      by_cases ho : 0 < op
      · have hoI : (0 : Int) < (op : Int) := by omega
        rw [decide_eq_true ho]
        cases t with
        | nil => cases hE
        | cons d r =>
          rw [show L.getD (i + 1) 0 = d by rw [List.getD_eq_getElem?_getD, drop_get h2.2.1]; rfl] at hb2
          have HB2 := Lib.hid hb2
          have HF := Lib.hid (refFlow d w)
          rw [key_flo d r hE]
          obtain ⟨F, hF⟩ : ∃ F, Sc.flo d = F := ⟨_, rfl⟩
          rw [hF] at HF ⊢
          clear hb he hb2 hT h1 h2 hn q gc hE ho hF
          go_enter Try.func36, Try.ntmps36
          go_wp2_with fail
          refine HB.out.mono ?_
          rintro e w1 ⟨rfl, rfl⟩
          go_wp2_with fail
          refine HE.out.mono ?_
          rintro e w1 ⟨rfl, rfl⟩
          go_wp2_with fail
          refine HB2.out.mono ?_
          rintro e w1 ⟨rfl, rfl⟩
          go_wp2_with fail
          refine HF.out.mono ?_
          rintro e w1 ⟨rfl, rfl⟩
          go_wp2_with fail
          go_ret
          exact ⟨by simp, rfl⟩
      · obtain rfl : op = 0 := by omega
        rw [show decide (0 < 0) = false from rfl, key_no t hE]
        clear hb he hb2 hT h1 h2 hn q gc hE ho
        go_enter Try.func36, Try.ntmps36
        go_wp2_with fail
        refine HB.out.mono ?_
        rintro e w1 ⟨rfl, rfl⟩
        go_wp2_with fail
        refine HE.out.mono ?_
        rintro e w1 ⟨rfl, rfl⟩
        go_wp2_with fail
        go_ret
        exact ⟨by simp, rfl⟩
  · have g : ((c : Int) == 58) = false := by simp; omega
    have gc : (c == 58) = false := by simp; omega
    rw [gc, Bool.false_and]
    clear hb he hb2 hT h1 h2 hn q gc
    go_enter Try.func36, Try.ntmps36
    go_wp2_with fail
    refine HB.out.mono ?_
    rintro e w1 ⟨rfl, rfl⟩
    go_wp2_with fail
    go_ret
    exact ⟨rfl, rfl⟩

theorem okT_nil (rest : List Nat) (h : rest.drop (Sc.run Sc.blk rest) = []) : Sc.okT rest = true := by unfold Sc.okT; rw [h]
theorem okT_cons (rest : List Nat) (x : Nat) (u : List Nat) (h : rest.drop (Sc.run Sc.blk rest) = x :: u) : Sc.okT rest = (Sc.brk x || (x == 35 && decide (0 < Sc.run Sc.blk rest))) := by unfold Sc.okT; rw [h]
theorem headT_none (c : Nat) (t : List Nat) (h1 : c ≠ 124) (h2 : c ≠ 62) : Sc.headT (c :: t) = 0 := by rw [Sc.headT, if_neg (by omega)]
theorem headT_some (c : Nat) (t : List Nat) (h : c = 124 ∨ c = 62) (H : Nat) (hH : Sc.headS t = H) : Sc.headT (c :: t) = if Sc.okT ((c :: t).drop H) = true then H else 0 := by rw [Sc.headT, if_pos h, hH]
theorem headS_val (t : List Nat) : Sc.headS t = if t.getD 0 0 = 43 ∨ t.getD 0 0 = 45 then 2 else 1 := by
  cases t with
  | nil => rfl
  | cons d r =>
    show (if d = 43 then 2 else if d = 45 then 2 else 1) = if d = 43 ∨ d = 45 then 2 else 1
    by_cases h : d = 43
    · rw [if_pos h, if_pos (.inl h)]
    · rw [if_neg h]
      by_cases h2 : d = 45
      · rw [if_pos h2, if_pos (.inr h2)]
      · rw [if_neg h2, if_neg (by omega)]
set_option maxHeartbeats 4000000 in
set_option maxRecDepth 100000 in
theorem rHead0 (p op c : Nat) (t : List Nat) (h1 : L.drop p = c :: t) (hn : L.length = n) (hm : n ≤ 16384) (hno : (c ≠ 124 ∧ c ≠ 62) ∨ 0 < op) (c0 : w.cell? ⟨a, 0, none⟩ = some (.slice (some ⟨b, off, none⟩) n cap)) (c1 : w.cell? ⟨a, 1, none⟩ = some (.int .i64 p)) (c3 : w.cell? ⟨a, 3, none⟩ = some (.int .i64 op)) (hT : Txt w b off L) :
    Calls Try.prog 39 #[.pointer (some ⟨a, 0, none⟩)] w fun e w' => e = .returned (.int .i64 (0 : Nat)) ∧ Below w.heap.size w w' := by
  have h2 := Sc.drop_lt h1
  have i1 : (p : Int) < (n : Int) := by omega
  have d := hT.at_ h1
  have d' := d
  have HB := Lib.hid (fun k => below_drewN (Below.refl w.heap.size w) k)
  clear h1 h2 hT d'
  by_cases q : c ≠ 124 ∧ c ≠ 62
  · have g1 : ((c : Int) != 124) = true := by simp; omega
    have g2 : ((c : Int) != 62) = true := by simp; omega
    clear hno q
    go_enter Try.func39, Try.ntmps39
    go_wp2_with fail
    go_big_quiet (fail)
    have hb := HB.out nq
    have c3 := at_below hb c3
    generalize w.drewN nq = W at *
    go_wp2_with fail
    go_ret
    exact ⟨rfl, hb⟩
  · have ho : 0 < op := by omega
    have hoI : (0 : Int) < (op : Int) := by omega
    by_cases q1 : c = 124
    · have g1 : ((c : Int) != 124) = false := by simp; omega
      clear hno q q1
      go_enter Try.func39, Try.ntmps39
      go_wp2_with fail
      go_big_quiet (fail)
      have hb := HB.out nq
      have c3 := at_below hb c3
      generalize w.drewN nq = W at *
      go_wp2_with fail
      go_ret
      exact ⟨rfl, hb⟩
    · have g1 : ((c : Int) != 124) = true := by simp; omega
      have g2 : ((c : Int) != 62) = false := by simp; omega
      clear hno q q1
      go_enter Try.func39, Try.ntmps39
      go_wp2_with fail
      go_big_quiet (fail)
      have hb := HB.out nq
      have c3 := at_below hb c3
      generalize w.drewN nq = W at *
      go_wp2_with fail
      go_ret
      exact ⟨rfl, hb⟩
set_option maxHeartbeats 8000000 in
set_option maxRecDepth 100000 in
theorem rHead1 (p c H : Nat) (t : List Nat) (h1 : L.drop p = c :: t) (hn : L.length = n) (hm : n ≤ 16384) (hc : c = 124 ∨ c = 62) (hH : Sc.headS t = H) (c0 : w.cell? ⟨a, 0, none⟩ = some (.slice (some ⟨b, off, none⟩) n cap)) (c1 : w.cell? ⟨a, 1, none⟩ = some (.int .i64 p)) (c3 : w.cell? ⟨a, 3, none⟩ = some (.int .i64 (0 : Nat))) (hT : Txt w b off L) :
    Calls Try.prog 39 #[.pointer (some ⟨a, 0, none⟩)] w fun e w' => e = .returned (.int .i64 (Sc.headT (c :: t))) ∧ Below w.heap.size w w' := by
  have h2 := Sc.drop_lt h1
  have i1 : (p : Int) < (n : Int) := by omega
  have d := hT.at_ h1
  have HB := Lib.hid (fun k => below_drewN (Below.refl w.heap.size w) k)
  have hHl : H ≤ t.length + 1 := by rw [← hH]; exact Sc.headS_le t
  have hHv := headS_val t
  rw [hH] at hHv
  have hby := fun W (hb : Below w.heap.size w W) => by
    have := rByte (w := W) (a := a) (p + 1) hn (by omega) (by omega) (at_below hb c0) (hT.below hb)
    rw [show ((p + 1 : Nat) : Int) = (p : Int) + 1 from by omega, show L.getD (p + 1) 0 = t.getD 0 0 by rw [← h2.2.1, List.getD_eq_getElem?_getD, List.getD_eq_getElem?_getD, List.getElem?_drop]] at this
    exact this
  obtain ⟨x, hx⟩ : ∃ x, t.getD 0 0 = x := ⟨_, rfl⟩
  rw [hx] at hHv hby
  have HBy := Lib.hid hby
  obtain ⟨J, hJ⟩ : ∃ J, p + H = J := ⟨_, rfl⟩
  have hJn : J ≤ n := by omega
  have hr : (c :: t).drop H = L.drop J := by rw [← h1, List.drop_drop, hJ]
  have hF := headT_some c t hc H hH
  rw [hr] at hF
  obtain ⟨K, hK⟩ : ∃ K, J + Sc.run Sc.blk (L.drop J) = K := ⟨_, rfl⟩
  have hdK : (L.drop J).drop (Sc.run Sc.blk (L.drop J)) = L.drop K := by rw [List.drop_drop, hK]
  have HF := Lib.hid hF
  have HK := Lib.hid hK
  have HdK := Lib.hid hdK
  have HJ := Lib.hid hJ
  have HTx := Lib.hid hT
  have HN := Lib.hid hn
  have e1 : (J : Int) - (p : Int) = (H : Int) := by omega
  have w1 : IntKind.i64.wrap (H : Int) = (H : Int) := IntWalk.i64_in _ (by omega)
  clear h1 h2 hT hby hx hJ hK hdK hr hF hn hH hHl
  go_enter Try.func39, Try.ntmps39
  go_wp2_with fail
  go_big_quiet (fail)
  have hb := HB.out nq
  have c0 := at_below hb c0
  have c1 := at_below hb c1
  have c3 := at_below hb c3
  generalize w.drewN nq = W at *
  have HBy2 := Lib.hid (HBy.out W hb)
  have HTw := Lib.hid (HTx.out.below hb)
  have HBw := Lib.hid hb
  have hJB : ((x = 43 ∨ x = 45) ∧ J = p + 2) ∨ (¬ (x = 43 ∨ x = 45) ∧ J = p + 1) := by
    have := HJ.out
    by_cases g : x = 43 ∨ x = 45
    · rw [if_pos g] at hHv; exact .inl ⟨g, by omega⟩
    · rw [if_neg g] at hHv; exact .inr ⟨g, by omega⟩
  obtain ⟨B, hB⟩ : ∃ B, decide (x = 43 ∨ x = 45) = B := ⟨_, rfl⟩
  have HJB := Lib.hid (show J = if B = true then p + 2 else p + 1 by
    rcases hJB with ⟨g, e⟩ | ⟨g, e⟩
    · rw [← hB, decide_eq_true g]; exact e
    · rw [← hB, decide_eq_false g]; exact e)
  have HBB := Lib.hid hB
  have HE1 := Lib.hid e1
  have HW1 := Lib.hid w1
  have HC := Lib.hid hc
  clear hb HBy HB hHv hJB hB e1 w1 hc
  go_upto_region 2 with fail
  go_cut [28] (fun q wx => q = .bool false ∧ W = wx)
  case first =>
    by_cases q1 : c = 124
    · have g1 : ((c : Int) != 124) = false := by simp; omega
      clear q1
      go_wp2_with fail
      go_meet
      exact ⟨rfl, rfl⟩
    · have g1 : ((c : Int) != 124) = true := by simp; omega
      have g2 : ((c : Int) != 62) = false := by have := HC.out; simp; omega
      clear q1
      go_wp2_with fail
      go_meet
      exact ⟨rfl, rfl⟩
  case rest =>
  obtain ⟨rfl, rfl⟩ := hcut
  go_upto_region 5 with fail
  go_cut [43] (fun q wx => q = .bool B ∧ W = wx)
  case first =>
    by_cases x1 : x = 43
    · have y1 : ((x : Int) == 43) = true := by simp; omega
      have HE := Lib.hid (show B = true by rw [← HBB.out, decide_eq_true (.inl x1)])
      clear x1
      go_wp2_with fail
      refine HBy2.out.mono ?_
      rintro e w1 ⟨rfl, rfl⟩
      go_wp2_with fail
      go_meet
      exact ⟨by rw [HE.out], rfl⟩
    · have y1 : ((x : Int) == 43) = false := by simp; omega
      by_cases x2 : x = 45
      · have y2 : ((x : Int) == 45) = true := by simp; omega
        have HE := Lib.hid (show B = true by rw [← HBB.out, decide_eq_true (.inr x2)])
        clear x1 x2
        go_wp2_with fail
        refine HBy2.out.mono ?_
        rintro e w1 ⟨rfl, rfl⟩
        go_wp2_with fail
        refine HBy2.out.mono ?_
        rintro e w1 ⟨rfl, rfl⟩
        go_wp2_with fail
        go_meet
        exact ⟨by rw [HE.out], rfl⟩
      · have y2 : ((x : Int) == 45) = false := by simp; omega
        have HE := Lib.hid (show B = false by rw [← HBB.out, decide_eq_false (by omega)])
        clear x1 x2
        go_wp2_with fail
        refine HBy2.out.mono ?_
        rintro e w1 ⟨rfl, rfl⟩
        go_wp2_with fail
        refine HBy2.out.mono ?_
        rintro e w1 ⟨rfl, rfl⟩
        go_wp2_with fail
        go_meet
        exact ⟨by rw [HE.out], rfl⟩
  case rest =>
  obtain ⟨rfl, rfl⟩ := hcut
  go_upto_if 43 with fail
  go_cut [4] (fun q wx => q = .int .i64 J ∧ W = wx)
  case first =>
    cases B with
    | true =>
      go_wp2_with fail
      go_meet
      exact ⟨by rw [HJB.out]; first | rfl | (congr 1; simp; omega), rfl⟩
    | false =>
      go_wp2_with fail
      go_meet
      exact ⟨by rw [HJB.out]; first | rfl | (congr 1; simp; omega), rfl⟩
  case rest =>
    obtain ⟨rfl, rfl⟩ := hcut
    have e1 := HE1.out
    have w1 := HW1.out
    clear HBy2 HJB HBB d c3 HC HE1 HW1
    go_wp2_with fail
    go_loopw [5] (fun is wr => ∃ k : Nat, is = .int .i64 k ∧ J ≤ k ∧ k ≤ n ∧ Hid (k + Sc.run Sc.blk (L.drop k) = K) ∧ W = wr) (fun is _ => n - (intOf is).toNat)
    case atStart => exact ⟨J, rfl, Nat.le_refl _, hJn, HK, rfl⟩
    case round =>
      obtain ⟨k, rfl, hk0, hk, HKk, rfl⟩ := hrel
      rcases drop_cases L k with ⟨h1, h2⟩ | ⟨x, t', h1, h2, h3⟩
      · have i2 : ¬ ((k : Int) < (n : Int)) := by have := HN.out; omega
        have hkK : k = K := by have := HKk.out; rw [h1, show Sc.run Sc.blk [] = 0 from rfl] at this; exact this
        have HE := Lib.hid (show Sc.headT (c :: t) = H by rw [HF.out, if_pos (okT_nil _ (by rw [HdK.out, ← hkK, h1]))])
        clear h1 h2 HKk hkK
        go_wp2_with fail
        go_ret
        exact ⟨by rw [HE.out]; rfl, HBw.out⟩
      · have hkn : k < n := by have := HN.out; omega
        have i2 : (k : Int) < (n : Int) := by omega
        have d := HTw.out.at_ h1
        have HBl := Lib.hid (refBlank x W)
        have HBk := Lib.hid (brk_at_ (cap := cap) k x t' HN.out (by omega) HTw.out h1)
        have hz := brkS_zero x t'
        obtain ⟨Z, hZ⟩ : ∃ Z, Sc.brkS (x :: t') = Z := ⟨_, rfl⟩
        rw [hZ] at HBk hz
        cases hbl : Sc.blk x with
        | true =>
          rw [hbl] at HBl
          have HR := Lib.hid (show (k + 1) + Sc.run Sc.blk (L.drop (k + 1)) = K by have := HKk.out; rw [h1, Sc.run_step, if_pos hbl] at this; rw [h2]; omega)
          clear h1 h2 h3 HKk hz hZ hbl HBk
          go_wp2_with fail
          refine HBl.out.mono ?_
          rintro e w1 ⟨rfl, rfl⟩
          go_wp2_with fail
          go_roundw
          case rel => exact ⟨k + 1, by go_num, by omega, by omega, HR, trivial⟩
          case measure => simp [intOf]; omega
        | false =>
          rw [hbl] at HBl
          have hkK : k = K := by have := HKk.out; rw [h1, Sc.run_step, if_neg (by rw [hbl]; simp)] at this; exact this
          have hok := okT_cons (L.drop J) x t' (by rw [HdK.out, ← hkK, h1])
          have hrun : (0 < Sc.run Sc.blk (L.drop J)) = (J < k) := by have := HK.out; exact propext ⟨fun h => by omega, fun h => by omega⟩
          simp only [hrun] at hok
          cases hbr : Sc.brk x with
          | true =>
            have gZ : ((Z : Int) == 0) = false := by have := mt hz.1 (by rw [hbr]; simp); simp; omega
            have HE := Lib.hid (show Sc.headT (c :: t) = H by rw [HF.out, if_pos (by rw [hok, hbr]; rfl)])
            clear h1 h2 h3 HKk hz hZ hbl hbr hok hrun hkK
            go_wp2_with fail
            refine HBl.out.mono ?_
            rintro e w1 ⟨rfl, rfl⟩
            go_wp2_with fail
            refine HBk.out.mono ?_
            rintro e w1 ⟨rfl, rfl⟩
            go_wp2_with fail
            go_ret
            exact ⟨by rw [HE.out]; rfl, HBw.out⟩
          | false =>
            obtain rfl : Z = 0 := hz.2 hbr
            by_cases x1 : x = 35
            · have y1 : ((x : Int) == 35) = true := by simp; omega
              by_cases x2 : J < k
              · have j1 : (J : Int) < (k : Int) := by omega
                have HE := Lib.hid (show Sc.headT (c :: t) = H by rw [HF.out, if_pos (by rw [hok, x1, decide_eq_true x2]; simp)])
                clear h1 h2 h3 HKk hz hZ hbl hbr hok hrun hkK x1 x2
                go_wp2_with fail
                refine HBl.out.mono ?_
                rintro e w1 ⟨rfl, rfl⟩
                go_wp2_with fail
                refine HBk.out.mono ?_
                rintro e w1 ⟨rfl, rfl⟩
                go_wp2_with fail
                go_ret
                exact ⟨by rw [HE.out]; rfl, HBw.out⟩
              · obtain rfl : k = J := by omega
                have HE := Lib.hid (show Sc.headT (c :: t) = 0 by rw [HF.out, if_neg (by rw [hok, hbr]; simp)])
                clear h1 h2 h3 HKk hz hZ hbl hbr hok hrun hkK x1 x2
                go_wp2_with fail
                refine HBl.out.mono ?_
                rintro e w1 ⟨rfl, rfl⟩
                go_wp2_with fail
                refine HBk.out.mono ?_
                rintro e w1 ⟨rfl, rfl⟩
                go_wp2_with fail
                go_ret
                exact ⟨by rw [HE.out]; rfl, HBw.out⟩
            · have y1 : ((x : Int) == 35) = false := by simp; omega
              have HE := Lib.hid (show Sc.headT (c :: t) = 0 by rw [HF.out, if_neg (by rw [hok, hbr]; simp [x1])])
              clear h1 h2 h3 HKk hz hZ hbl hbr hok hrun hkK x1
              go_wp2_with fail
              refine HBl.out.mono ?_
              rintro e w1 ⟨rfl, rfl⟩
              go_wp2_with fail
              refine HBk.out.mono ?_
              rintro e w1 ⟨rfl, rfl⟩
              go_wp2_with fail
              go_ret
              exact ⟨by rw [HE.out]; rfl, HBw.out⟩
end Go.Proofs.Ytmlpaafclobgcaa
