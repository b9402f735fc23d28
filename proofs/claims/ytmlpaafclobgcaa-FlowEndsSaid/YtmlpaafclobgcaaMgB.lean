/- Several texts in one: Sm Sn So Tbd. -/
import Derived.Test.YtmlpaafclobgcaaMgA
import Derived.Lib.SlTrimSet
import Derived.Test.YtmlpaafclobgcaaMgC
/- Plain facts on how far a plain text goes, and on what is trimmed. -/
namespace Go.Proofs.Ytmlpaafclobgcaa.Sc
open Go.Proofs.Ytmlpaafclobgcaa.Sg

theorem nxL_pos (c : Nat) (r : List Nat) : 1 ≤ (nxL (c :: r)).2 := by
  unfold nxL nxN
  rw [if_neg (by simp)]
  have h : 1 ≤ (Lib.decodeN (c :: r).length ((c :: r).getD 0 0) ((c :: r).getD 1 0) ((c :: r).getD 2 0) ((c :: r).getD 3 0)).2 := by
    unfold Lib.decodeN
    (repeat' split) <;> (dsimp only; omega)
  split <;> exact h
theorem nxL_le (c : Nat) (r : List Nat) : (nxL (c :: r)).2 ≤ (c :: r).length := by
  unfold nxL nxN
  rw [if_neg (by simp)]
  have h := dec_le (c :: r).length ((c :: r).getD 0 0) ((c :: r).getD 1 0) ((c :: r).getD 2 0) ((c :: r).getD 3 0) (by simp)
  split <;> exact h
theorem goes_fuel (op : Bool) : ∀ (f g p : Nat) (l : List Nat), l.length ≤ f → l.length ≤ g → goes op f p l = goes op g p l
  | 0, g, p, l, h, _ => by
    obtain rfl : l = [] := List.eq_nil_of_length_eq_zero (by omega)
    cases g <;> rfl
  | f + 1, 0, p, l, _, h => by
    obtain rfl : l = [] := List.eq_nil_of_length_eq_zero (by omega)
    rfl
  | f + 1, g + 1, p, l, hf, hg => by
    rw [goes, goes]
    by_cases hs : stop op (blk p) l = true
    · rw [if_pos hs, if_pos hs]
    · rw [if_neg hs, if_neg hs]
      cases l with
      | nil => exact absurd rfl hs
      | cons c r =>
        have h1 := nxL_pos c r
        rw [goes_fuel op f g _ _ (by rw [List.length_drop]; omega) (by rw [List.length_drop]; omega)]
def goesN (op : Bool) (p : Nat) (l : List Nat) : Nat := goes op l.length p l
theorem goesN_stop (op : Bool) (p : Nat) (l : List Nat) (h : stop op (blk p) l = true) : goesN op p l = 0 := by
  unfold goesN
  cases hl : l.length with
  | zero => rfl
  | succ n => rw [goes, if_pos h]
theorem goesN_on (op : Bool) (p : Nat) (l : List Nat) (h : stop op (blk p) l = false) : goesN op p l = (nxL l).2 + goesN op (l.getD ((nxL l).2 - 1) 0) (l.drop (nxL l).2) := by
  cases l with
  | nil => cases h
  | cons c r =>
    have h1 := nxL_pos c r
    unfold goesN
    rw [List.length_cons, goes, if_neg (by rw [h]; simp)]
    rw [goes_fuel op r.length _ _ _ (by rw [List.length_drop, List.length_cons]; omega) (Nat.le_refl _)]
theorem plainN_eq (op : Bool) (r : List Nat) : plainN op r = trim (r.take ((nxL r).2 + goesN op (r.getD ((nxL r).2 - 1) 0) (r.drop (nxL r).2))) := by
  unfold plainN goesN
  rw [goes_fuel op r.length _ _ _ (by rw [List.length_drop]; omega) (Nat.le_refl _)]
theorem trim_le (l : List Nat) : trim l ≤ l.length := by
  induction l with
  | nil => exact Nat.le_refl _
  | cons c r ih => rw [trim, List.length_cons]; (repeat' split) <;> omega
theorem trim_rev (l : List Nat) : (l.reverse.dropWhile blk).length = trim l := by
  induction l with
  | nil => rfl
  | cons c r ih =>
    rw [List.reverse_cons, List.dropWhile_append, trim]
    by_cases h : trim r = 0
    · have h2 : (r.reverse.dropWhile blk) = [] := List.eq_nil_of_length_eq_zero (by rw [ih, h])
      rw [h2, if_pos h]
      cases hc : blk c with
      | true => simp [hc]
      | false => simp [hc]
    · rw [if_neg (by rw [List.isEmpty_iff]; intro e; rw [e] at ih; exact h (by rw [← ih]; rfl)), if_neg h, List.length_append, ih]
      rfl
theorem trim_lib (l : List UInt8) : (Lib.trimRightS l [32, 9]).length = trim (l.map UInt8.toNat) := by
  rw [← trim_rev, Lib.trimRightS, List.length_reverse, ← List.map_reverse]
  generalize l.reverse = m
  induction m with
  | nil => rfl
  | cons b r ih =>
    have key : ∀ n : Fin 256, ([32, 9] : List UInt8).contains n.val.toUInt8 = blk n.val := by decide +kernel
    have hb : ([32, 9] : List UInt8).contains b = blk b.toNat := by
      have := key ⟨b.toNat, UInt8.toNat_lt b⟩
      simpa using this
    rw [List.map_cons, List.dropWhile_cons, List.dropWhile_cons, hb]
    cases blk b.toNat with
    | true => simpa using ih
    | false => simp
theorem stop_at (op pb : Bool) (s : ByteArray) (p : Nat) (h : p < s.size) : stop op pb ((nats s).drop p) = (bad ((nats s).drop p) || ((s.get! p).toNat == 58 && key op ((nats s).drop (p + 1))) || ((s.get! p).toNat == 35 && pb) || (op && flo (s.get! p).toNat)) := by
  rw [drop_cons s p h]; rfl
theorem bad_at (s : ByteArray) (p : Nat) : bad ((nats s).drop p) = decide ((nx s p).1 < 0) := by rw [bad, ← nx_list]
end Go.Proofs.Ytmlpaafclobgcaa.Sc

/- Plain facts on the tokens of a text, step by step. -/
namespace Go.Proofs.Ytmlpaafclobgcaa.Sc
open Go.Proofs.Ytmlpaafclobgcaa.Sg

theorem sing_le (l : List Nat) : sing l ≤ l.length := by
  fun_induction sing l <;> simp_all <;> omega
theorem doub_le (l : List Nat) : doub l ≤ l.length := by
  fun_induction doub l <;> simp_all <;> omega
theorem named_le (l : List Nat) (h : 0 < (named l).1) : 0 < (named l).2 ∧ (named l).2 ≤ l.length := by
  cases l with
  | nil => exact absurd h (by decide)
  | cons c r =>
    have h1 := run_le nam r
    have h2 := run_le tgc r
    unfold named at h ⊢
    (repeat' split at h) <;> (repeat' split) <;> simp_all <;> omega
theorem quoted_le (l : List Nat) (h : 0 < (quoted l).1) : 0 < (quoted l).2 ∧ (quoted l).2 ≤ l.length := by
  cases l with
  | nil => exact absurd h (by decide)
  | cons c r =>
    have h1 := sing_le r
    have h2 := doub_le r
    unfold quoted at h ⊢
    (repeat' split at h) <;> (repeat' split) <;> simp_all <;> omega
theorem headS_le (r : List Nat) : headS r ≤ r.length + 1 := by
  cases r with
  | nil => decide
  | cons c t => rw [headS]; (repeat' split) <;> simp
theorem headN_le (l : List Nat) : headN l ≤ l.length := by
  cases l with
  | nil => decide
  | cons c r =>
    have := headS_le r
    rw [headN]
    split
    · split
      · simpa using this
      · exact Nat.zero_le _
    · exact Nat.zero_le _
theorem trim_pos (c : Nat) (r : List Nat) (h : blk c = false) : 0 < trim (c :: r) := by
  rw [trim]
  by_cases h1 : trim r = 0
  · rw [if_pos h1, h]; decide
  · rw [if_neg h1]; omega
theorem plainN_pos (op : Bool) (c : Nat) (r : List Nat) (h : blk c = false) : 0 < plainN op (c :: r) := by
  rw [plainN_eq]
  obtain ⟨k, hk⟩ : ∃ k, (nxL (c :: r)).2 + goesN op ((c :: r).getD ((nxL (c :: r)).2 - 1) 0) ((c :: r).drop (nxL (c :: r)).2) = k + 1 := ⟨_, (Nat.succ_pred_eq_of_pos (by have := nxL_pos c r; omega)).symm⟩
  rw [hk, List.take_succ_cons]
  exact trim_pos c _ h
theorem plainN_le (op : Bool) (r : List Nat) : plainN op r ≤ r.length := by
  rw [plainN_eq]
  refine Nat.le_trans (trim_le _) ?_
  rw [List.length_take]
  exact Nat.min_le_right _ _
theorem word_le (op : Nat) (dash : Bool) (c : Nat) (r : List Nat) (h : blk c = false) : 0 < (word op dash (c :: r)).2 ∧ (word op dash (c :: r)).2 ≤ (c :: r).length := by
  have h1 := named_le (c :: r)
  have h2 := quoted_le (c :: r)
  have h3 := headN_le (c :: r)
  have h4 := plainN_pos (decide (0 < op)) c r h
  have h5 := plainN_le (decide (0 < op)) (c :: r)
  unfold word
  (repeat' split) <;> simp_all
theorem mark_len (r : List Nat) (h : 0 < mark r) : 3 ≤ r.length := by
  unfold mark at h
  have key : ∀ l : List Nat, l.length = 3 → r.take 3 = l → 3 ≤ r.length := by
    intro l hl e
    have : (r.take 3).length = 3 := by rw [e, hl]
    rw [List.length_take] at this
    omega
  split at h
  · rename_i e; exact key _ rfl e
  · split at h
    · rename_i e; exact key _ rfl e
    · exact absurd h (by decide)
theorem run_zero (p : Nat → Bool) (c : Nat) (r : List Nat) (h : ¬ 0 < run p (c :: r)) : p c = false := by
  cases hp : p c with
  | false => rfl
  | true => rw [run, if_pos hp] at h; omega
theorem next_le (op : Nat) (dash blank first : Bool) (c : Nat) (r : List Nat) : 0 < (next op dash blank first (c :: r)).2 ∧ (next op dash blank first (c :: r)).2 ≤ (c :: r).length := by
  have h1 := mark_len (c :: r)
  have h2 := run_le spc (c :: r)
  have h3 := run_le blk (c :: r)
  unfold next
  split
  · rename_i h; exact ⟨(by decide : (0 : Nat) < 3), h1 h.2⟩
  split
  · rename_i h; exact ⟨h.2, h2⟩
  split
  · rename_i h; exact ⟨h, h3⟩
  split
  · exact ⟨by simp, Nat.le_refl _⟩
  · rename_i h _
    exact word_le op dash c r (run_zero blk c r h)
theorem rowN_le (l : List Nat) : rowN l ≤ l.length := run_le _ _
theorem rowL_len (l : List Nat) : (rowL l).length = rowN l := by
  rw [rowL, List.length_take]; have := rowN_le l; omega
theorem rowN_drop (l : List Nat) (j : Nat) (h : j ≤ rowN l) : rowN (l.drop j) = rowN l - j := by
  induction l generalizing j with
  | nil =>
    have : j = 0 := by have := rowN_le ([] : List Nat); simp at this; omega
    subst this; rfl
  | cons c r ih =>
    cases j with
    | zero => rfl
    | succ j =>
      have hc : (!brk c) = true := by
        unfold rowN at h
        rw [run] at h
        split at h
        · assumption
        · omega
      have e : rowN (c :: r) = rowN r + 1 := by unfold rowN; rw [run, if_pos hc]
      rw [List.drop_succ_cons, e, ih j (by omega)]
      omega
theorem brkS_pos (l : List Nat) (h : l ≠ []) (h0 : rowN l = 0) : 0 < brkS l := by
  cases l with
  | nil => exact absurd rfl h
  | cons c r =>
    have hc : brk c = true := by
      cases hb : brk c with
      | true => rfl
      | false =>
        unfold rowN at h0
        rw [run, if_pos (by rw [hb]; rfl)] at h0
        omega
    have : c = 10 ∨ c = 13 := by simpa [brk] using hc
    cases r with
    | nil => rcases this with rfl | rfl <;> decide
    | cons d t => rcases this with rfl | rfl <;> simp [brkS] <;> split <;> omega
theorem brkS_le (l : List Nat) : brkS l ≤ l.length := by
  cases l with
  | nil => decide
  | cons c r =>
    cases r with
    | nil => rw [brkS]; (repeat' split) <;> simp
    | cons d t => rw [brkS]; (repeat' split) <;> simp
theorem mid_pos (s : St) (l : List Nat) (h : l ≠ []) : 0 < (mid s l).2.1 ∧ (mid s l).2.1 ≤ l.length := by
  unfold mid
  split
  · rename_i h0; exact ⟨brkS_pos l h h0, brkS_le l⟩
  · rename_i h0
    have hl := rowL_len l
    have hle := rowN_le l
    cases hr : rowL l with
    | nil => rw [hr] at hl; exact absurd hl.symm h0
    | cons c r =>
      have := next_le s.op s.dash s.blank (s.col == 0) c r
      rw [← hr] at this ⊢
      exact ⟨this.1, by rw [hl] at this; exact Nat.le_trans this.2 hle⟩
theorem step_pos (s : St) (l : List Nat) (h : l ≠ []) : 0 < (step s l).2.1 ∧ (step s l).2.1 ≤ l.length := by
  unfold step
  split
  · split
    · have h1 := rowN_le l
      have h2 := brkS_le (l.drop (rowN l))
      rw [List.length_drop] at h2
      refine ⟨?_, by simp only; omega⟩
      by_cases h0 : rowN l = 0
      · have := brkS_pos l h h0
        simp only [h0, List.drop_zero]; omega
      · simp only; omega
    · exact mid_pos _ l h
  · exact mid_pos _ l h
theorem toks_fuel : ∀ (f g : Nat) (s : St) (at' : Nat) (l : List Nat), l.length ≤ f → l.length ≤ g → toks f s at' l = toks g s at' l
  | 0, g, s, at', l, h, _ => by
    obtain rfl : l = [] := List.eq_nil_of_length_eq_zero (by omega)
    cases g <;> rfl
  | f + 1, 0, s, at', l, _, h => by
    obtain rfl : l = [] := List.eq_nil_of_length_eq_zero (by omega)
    rfl
  | f + 1, g + 1, s, at', l, hf, hg => by
    rw [toks, toks]
    by_cases hl : l = []
    · rw [if_pos hl, if_pos hl]
    · rw [if_neg hl, if_neg hl]
      have := step_pos s l hl
      rw [toks_fuel f g _ _ _ (by rw [List.length_drop]; omega) (by rw [List.length_drop]; omega)]
def toksN (s : St) (at' : Nat) (l : List Nat) : List (Nat × Nat × Nat) := toks l.length s at' l
theorem toksN_nil (s : St) (at' : Nat) : toksN s at' [] = [] := rfl
theorem toksN_step (s : St) (at' : Nat) (l : List Nat) (h : l ≠ []) : toksN s at' l = ((step s l).1, at', at' + (step s l).2.1) :: toksN (step s l).2.2 (at' + (step s l).2.1) (l.drop (step s l).2.1) := by
  unfold toksN
  cases hl : l.length with
  | zero => exact absurd (List.eq_nil_of_length_eq_zero hl) h
  | succ n =>
    have := step_pos s l h
    rw [toks, if_neg h, toks_fuel n (l.drop (step s l).2.1).length _ _ _ (by rw [List.length_drop]; omega) (Nat.le_refl _)]
theorem tokens_eq (l : List Nat) : tokens l = if 16384 < l.length then [] else toksN (fresh 0 (-1)) 0 l := rfl
end Go.Proofs.Ytmlpaafclobgcaa.Sc

/- Plain facts for the walk of a row: what is known on the way, and what it becomes. -/
namespace Go.Proofs.Ytmlpaafclobgcaa.Sc
open Go.Proofs.Ytmlpaafclobgcaa.Sg

theorem step_text (op : Nat) (least : Int) (l : List Nat) (h : isText least (rowL l) = true) : step (fresh op least) l = (19, rowN l + brkS (l.drop (rowN l)), fresh op least) := by
  unfold step
  rw [if_pos (show (fresh op least).col = 0 from rfl), if_pos (show isText (fresh op least).least (rowL l) = true from h)]
  rfl
theorem step_mid (s : St) (l : List Nat) (h : s.col = 0 → s.least = -1) : step s l = mid s l := by
  unfold step
  by_cases hc : s.col = 0
  · have hl := h hc
    rw [if_pos hc, if_neg (by rw [hl]; simp [isText])]
    congr 1
    cases s
    simp only at hl
    rw [hl]
  · rw [if_neg hc]
theorem step_fresh (op : Nat) (least : Int) (l : List Nat) (h : isText least (rowL l) = false) : step (fresh op least) l = step (fresh op (-1)) l := by
  rw [step_mid (fresh op (-1)) l (fun _ => rfl)]
  unfold step
  rw [if_pos (show (fresh op least).col = 0 from rfl), if_neg (by rw [show (fresh op least).least = least from rfl, h]; simp)]
  rfl
theorem toksN_fresh (op : Nat) (least : Int) (p : Nat) (l : List Nat) (h : isText least (rowL l) = false) : toksN (fresh op least) p l = toksN (fresh op (-1)) p l := by
  cases l with
  | nil => rfl
  | cons c r => rw [toksN_step (fresh op least) p (c :: r) (by simp), toksN_step (fresh op (-1)) p (c :: r) (by simp), step_fresh op least _ h]
theorem mid_in (s : St) (l : List Nat) (h : rowN l ≠ 0) : mid s l = ((next s.op s.dash s.blank (s.col == 0) (rowL l)).1, (next s.op s.dash s.blank (s.col == 0) (rowL l)).2, take s (next s.op s.dash s.blank (s.col == 0) (rowL l)).1 (next s.op s.dash s.blank (s.col == 0) (rowL l)).2) := by
  unfold mid; rw [if_neg h]
theorem mid_end (s : St) (l : List Nat) (h : rowN l = 0) : mid s l = (1, brkS l, fresh s.op s.least) := by
  unfold mid; rw [if_pos h]
theorem opens_le (op k : Nat) : opens op k ≤ op + 1 := by
  unfold opens; (repeat' split) <;> omega
/-- On the way through a row. -/
structure Good (L : List Nat) (Tot l : List (Nat × Nat × Nat)) (st : St) (at' : Nat) : Prop where
  tot : l ++ toksN st at' (L.drop at') = Tot
  zero : st.col = 0 → st.least = -1
  op : st.op ≤ at'
  base : -1 ≤ st.base ∧ st.base ≤ at'
  least : -1 ≤ st.least
  len : l.length ≤ at'
  col : st.col ≤ at'
  last : st.col ≠ 0 → ∃ l0 x, l = l0 ++ [x] ∧ st.blank = (x.1 == 2 || x.1 == 3)
/-- At the beginning of a row. -/
structure GoodR (L : List Nat) (Tot l : List (Nat × Nat × Nat)) (op : Nat) (least : Int) (p : Nat) : Prop where
  tot : l ++ toksN (fresh op least) p (L.drop p) = Tot
  op : op ≤ p
  least : -1 ≤ least
  len : l.length ≤ p
theorem GoodR.text {L : List Nat} {Tot l : List (Nat × Nat × Nat)} {op : Nat} {least : Int} {p n : Nat} (h : GoodR L Tot l op least p) (hp : p < L.length) (ht : isText least (rowL (L.drop p)) = true) (hn : rowN (L.drop p) + brkS ((L.drop p).drop (rowN (L.drop p))) = n) :
    GoodR L Tot (l ++ [(19, p, p + n)]) op least (p + n) ∧ 0 < n ∧ p + n ≤ L.length := by
  have hne : L.drop p ≠ [] := fun e => by have := congrArg List.length e; rw [List.length_drop] at this; simp at this; omega
  have hs := step_text op least (L.drop p) ht
  rw [hn] at hs
  have hp2 := step_pos (fresh op least) (L.drop p) hne
  rw [hs, List.length_drop] at hp2
  obtain ⟨q1, q2⟩ : 0 < n ∧ n ≤ L.length - p := hp2
  have h1 := h.op
  have h2 := h.len
  refine ⟨⟨?_, by omega, h.least, by simp; omega⟩, q1, by omega⟩
  rw [List.append_assoc, List.singleton_append, ← h.tot, toksN_step _ _ _ hne, hs, List.drop_drop]
theorem GoodR.row {L : List Nat} {Tot l : List (Nat × Nat × Nat)} {op : Nat} {least : Int} {p : Nat} (h : GoodR L Tot l op least p) (ht : isText least (rowL (L.drop p)) = false) : Good L Tot l (fresh op (-1)) p :=
  ⟨by rw [← h.tot, toksN_fresh op least p _ ht], fun _ => rfl, h.op, ⟨Int.le_refl _, by show (-1 : Int) ≤ (p : Int); omega⟩, Int.le_refl _, h.len, Nat.zero_le _, fun hc => absurd rfl hc⟩
theorem Good.on {L : List Nat} {Tot l : List (Nat × Nat × Nat)} {st : St} {at' k n : Nat} (h : Good L Tot l st at') (hr : rowN (L.drop at') ≠ 0) (hn : next st.op st.dash st.blank (st.col == 0) (rowL (L.drop at')) = (k, n)) :
    Good L Tot (l ++ [(k, at', at' + n)]) (take st k n) (at' + n) ∧ 0 < n ∧ n ≤ rowN (L.drop at') := by
  have hne : L.drop at' ≠ [] := fun e => by rw [e] at hr; exact hr rfl
  have hs := step_mid st (L.drop at') h.zero
  rw [mid_in st _ hr, hn] at hs
  have hle : 0 < n ∧ n ≤ rowN (L.drop at') := by
    have hl := rowL_len (L.drop at')
    cases hrl : rowL (L.drop at') with
    | nil => rw [hrl] at hl; exact absurd hl.symm hr
    | cons c r =>
      rw [hrl] at hn hl
      have := next_le st.op st.dash st.blank (st.col == 0) c r
      rw [hn, hl] at this
      exact this
  have h1 := h.op
  have h2 := h.len
  have h3 := opens_le st.op k
  have h4 := h.base
  have h5 := h.least
  have h6 := h.col
  refine ⟨⟨?_, fun hc => ?_, ?_, ?_, ?_, by simp; omega, ?_, fun _ => ⟨l, _, rfl, rfl⟩⟩, hle⟩
  · rw [List.append_assoc, List.singleton_append, ← h.tot, toksN_step _ _ _ hne, hs, List.drop_drop]
  · have : st.col + n = 0 := hc
    omega
  · show opens st.op k ≤ at' + n; omega
  · show -1 ≤ (if st.base = -1 ∧ counts k = true then (st.col : Int) else st.base) ∧ (if st.base = -1 ∧ counts k = true then (st.col : Int) else st.base) ≤ ((at' + n : Nat) : Int)
    split <;> omega
  · show -1 ≤ (if k = 18 then (if st.base = -1 then (st.col : Int) else st.base + 1) else st.least)
    (repeat' split) <;> omega
  · show st.col + n ≤ at' + n; omega
theorem Good.brk {L : List Nat} {Tot l : List (Nat × Nat × Nat)} {st : St} {at' : Nat} (h : Good L Tot l st at') (hr : rowN (L.drop at') = 0) (hb : 0 < brkS (L.drop at')) :
    GoodR L Tot (l ++ [(1, at', at' + brkS (L.drop at'))]) st.op st.least (at' + brkS (L.drop at')) ∧ at' + brkS (L.drop at') ≤ L.length := by
  have hne : L.drop at' ≠ [] := fun e => by rw [e] at hb; exact absurd hb (by decide)
  have hs := step_mid st (L.drop at') h.zero
  rw [mid_end st _ hr] at hs
  have h1 := h.op
  have h2 := h.len
  have h3 := brkS_le (L.drop at')
  rw [List.length_drop] at h3
  refine ⟨⟨?_, by omega, h.least, by simp; omega⟩, by omega⟩
  rw [List.append_assoc, List.singleton_append, ← h.tot, toksN_step _ _ _ hne, hs, List.drop_drop]
theorem Good.stop {L : List Nat} {Tot l : List (Nat × Nat × Nat)} {st : St} {at' : Nat} (h : Good L Tot l st at') (hr : rowN (L.drop at') = 0) (hb : ¬ 0 < brkS (L.drop at')) : L.drop at' = [] ∧ GoodR L Tot l st.op st.least at' := by
  have hne : L.drop at' = [] := by
    cases hl : L.drop at' with
    | nil => rfl
    | cons c r => rw [hl] at hr hb; exact absurd (brkS_pos (c :: r) (by simp) hr) hb
  refine ⟨hne, ⟨?_, h.op, h.least, h.len⟩⟩
  have := h.tot
  rw [hne] at this ⊢
  exact this
end Go.Proofs.Ytmlpaafclobgcaa.Sc

/- The tokens of a text: how far they reach, how many they are (plain). -/
namespace Go.Proofs.Ytmlpaafclobgcaa
open Go.RowKit
set_option linter.unusedVariables false

theorem toks_bd : ∀ (f : Nat) (s : Sc.St) (p : Nat) (l : List Nat), ∀ x ∈ Sc.toks f s p l, x.2.1 ≤ p + l.length ∧ x.2.2 ≤ p + l.length
  | 0, _, _, _ => fun x h => by cases h
  | f + 1, s, p, l => fun x h => by
    rw [Sc.toks] at h
    by_cases hl : l = []
    · rw [if_pos hl] at h; cases h
    · rw [if_neg hl] at h
      have hp := Sc.step_pos s l hl
      rcases List.mem_cons.1 h with rfl | h
      · exact ⟨by show p ≤ _; omega, by show p + (Sc.step s l).2.1 ≤ _; omega⟩
      · have := toks_bd f _ _ _ x h
        rw [List.length_drop] at this
        omega
theorem tokens_bd (l : List Nat) (x : Tk) (h : x ∈ Sc.tokens l) : x.2.1 ≤ l.length ∧ x.2.2 ≤ l.length := by
  unfold Sc.tokens at h
  split at h
  · cases h
  · have := toks_bd _ _ _ _ x h; omega
theorem toks_len : ∀ (f : Nat) (s : Sc.St) (p : Nat) (l : List Nat), (Sc.toks f s p l).length ≤ f
  | 0, _, _, _ => by simp [Sc.toks]
  | f + 1, s, p, l => by
    rw [Sc.toks]
    split
    · simp
    · rw [List.length_cons]; have := toks_len f (Sc.step s l).2.2 (p + (Sc.step s l).2.1) (l.drop (Sc.step s l).2.1); omega
theorem tokens_len (l : List Nat) : (Sc.tokens l).length ≤ l.length := by
  unfold Sc.tokens
  split
  · simp
  · exact toks_len _ _ _ _
end Go.Proofs.Ytmlpaafclobgcaa
