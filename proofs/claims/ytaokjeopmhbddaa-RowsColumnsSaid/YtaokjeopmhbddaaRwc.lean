/- A row's column is how many bytes stand ahead of what counts (chapter 9's RowsColumns, plainly; no program text). -/
import Derived.Test.YtaokjeopmhbddaaRwq
import Derived.Test.YtaokjeopmhbddaaSp7
namespace Go.Proofs.Ytaokjeopmhbddaa.Rw
open Go.Proofs.Ytaokjeopmhbddaa.Sc

theorem run_rep (p : Nat → Bool) (c n : Nat) (r : List Nat) (hc : p c = true) (hr : run p r = 0) : run p (List.replicate n c ++ r) = n := by
  induction n with
  | zero => exact hr
  | succ n ih => rw [List.replicate_succ, List.cons_append, run, if_pos hc, ih]
theorem run_head (p : Nat → Bool) (l : List Nat) (h : ∀ c r, l = c :: r → p c = false) : run p l = 0 := by
  cases l with
  | nil => rfl
  | cons c r => rw [run, if_neg (by rw [h c r rfl]; decide)]
theorem mark_none (l : List Nat) (h : ∀ c r, l = c :: r → c ≠ 45 ∧ c ≠ 46) : Sc.mark l = 0 := by
  unfold Sc.mark
  cases l with
  | nil => rfl
  | cons c r =>
    have := h c r rfl
    rw [if_neg (fun e => by rw [List.take_succ_cons] at e; injection e with e; exact this.1 e), if_neg (fun e => by rw [List.take_succ_cons] at e; injection e with e; exact this.2 e)]
/-- A word of letters to the end. -/
theorem toks_word (st : St) (p : Nat) (w : List Nat) (h0 : w ≠ []) (hw : ∀ d ∈ w, letter d) (hz : st.col = 0 → st.least = -1) : toksN st p w = [(15, p, p + w.length)] := by
  have hp : plainN (decide (0 < st.op)) w = w.length := by
    have := letter_plain (decide (0 < st.op)) w [] h0 hw rfl
    rw [List.append_nil] at this
    exact this
  obtain ⟨c, r, rfl⟩ := List.exists_cons_of_ne_nil h0
  rw [toksN_mid st p (c :: r) 15 (c :: r).length h0 hz (row_all _ (fun d hd => letter_brk d (hw d hd))) (by rw [letter_next _ _ _ _ c r (hw c (by simp)), hp]), List.drop_of_length_le (Nat.le_refl _), toksN_nil]
/-- Tabs ahead of it. -/
theorem toks_tabs (st : St) (p t : Nat) (w : List Nat) (ht : 0 < t) (h0 : w ≠ []) (hw : ∀ d ∈ w, letter d) (hz : st.col = 0 → st.least = -1) : toksN st p (List.replicate t 9 ++ w) = [(3, p, p + t), (15, p + t, p + t + w.length)] := by
  have hb : ∀ d ∈ List.replicate t 9 ++ w, brk d = false := fun d hd => by
    rcases List.mem_append.1 hd with h | h
    · rw [List.eq_of_mem_replicate h]; rfl
    · exact letter_brk d (hw d h)
  have hne : List.replicate t 9 ++ w ≠ [] := by simp [h0]
  have hrw : run blk w = 0 := run_head blk w (fun c r e => by
    have := letter_calm false c (hw c (by rw [e]; simp))
    exact this.2.2.2.2)
  obtain ⟨t', rfl⟩ : ∃ t', t = t' + 1 := ⟨t - 1, by omega⟩
  have hm : Sc.mark (List.replicate (t' + 1) 9 ++ w) = 0 := mark_none _ (fun c r e => by
    rw [List.replicate_succ, List.cons_append] at e; injection e with e; omega)
  have hs : run spc (List.replicate (t' + 1) 9 ++ w) = 0 := by
    rw [List.replicate_succ, List.cons_append, run, if_neg (by decide)]
  have hr : run blk (List.replicate (t' + 1) 9 ++ w) = t' + 1 := run_rep blk 9 (t' + 1) w rfl hrw
  rw [toksN_mid st p _ 3 (t' + 1) hne hz (row_all _ hb) (by
    unfold next
    rw [hm, hs, hr, if_neg (by simp), if_neg (by simp), if_pos (by omega)]), List.drop_left' (by simp)]
  rw [toks_word _ _ w h0 hw (fun h => by
    have : st.col + (t' + 1) = 0 := h
    omega)]
/-- Spaces ahead of that. -/
theorem toks_in (s t : Nat) (w : List Nat) (h0 : w ≠ []) (hw : ∀ d ∈ w, letter d) (p : Nat) :
    toksN (fresh 0 (-1)) p (List.replicate s 32 ++ (List.replicate t 9 ++ w)) = (if s = 0 then [] else [(2, p, p + s)]) ++ ((if t = 0 then [] else [(3, p + s, p + s + t)]) ++ [(15, p + s + t, p + s + t + w.length)]) := by
  have tail : ∀ (st : St) (q : Nat), (st.col = 0 → st.least = -1) → toksN st q (List.replicate t 9 ++ w) = (if t = 0 then [] else [(3, q, q + t)]) ++ [(15, q + t, q + t + w.length)] := fun st q hz => by
    by_cases ht : t = 0
    · subst ht
      rw [if_pos rfl]
      exact toks_word st q w h0 hw hz
    · rw [if_neg ht]
      exact toks_tabs st q t w (by omega) h0 hw hz
  by_cases hs : s = 0
  · subst hs
    rw [if_pos rfl]
    exact tail _ p (fun _ => rfl)
  · rw [if_neg hs]
    obtain ⟨s', rfl⟩ : ∃ s', s = s' + 1 := ⟨s - 1, by omega⟩
    have hb : ∀ d ∈ List.replicate (s' + 1) 32 ++ (List.replicate t 9 ++ w), brk d = false := fun d hd => by
      rcases List.mem_append.1 hd with h | h
      · rw [List.eq_of_mem_replicate h]; rfl
      · rcases List.mem_append.1 h with h | h
        · rw [List.eq_of_mem_replicate h]; rfl
        · exact letter_brk d (hw d h)
    have hm : Sc.mark (List.replicate (s' + 1) 32 ++ (List.replicate t 9 ++ w)) = 0 := mark_none _ (fun c r e => by
      rw [List.replicate_succ, List.cons_append] at e; injection e with e; omega)
    have hsp : run spc (List.replicate (s' + 1) 32 ++ (List.replicate t 9 ++ w)) = s' + 1 := run_rep spc 32 (s' + 1) _ rfl (run_head spc _ (fun c r e => by
      cases t with
      | zero =>
        rw [List.replicate_zero, List.nil_append] at e
        have := hw c (by rw [e]; simp)
        unfold letter at this
        simp [spc]; omega
      | succ t =>
        rw [List.replicate_succ, List.cons_append] at e
        injection e with e
        rw [← e]; rfl))
    rw [toksN_mid (fresh 0 (-1)) p _ 2 (s' + 1) (by simp) (fun _ => rfl) (row_all _ hb) (by
      show next 0 true false true _ = _
      unfold next
      rw [hm, hsp, if_neg (by simp), if_pos ⟨rfl, by omega⟩]), List.drop_left' (by simp)]
    rw [tail _ _ (fun h => by
      have : 0 + (s' + 1) = 0 := h
      omega)]
    rfl
/-- The text of RowsColumns: its rows. -/
theorem rows_cols (s t : Nat) (w : List Nat) (hs : s < 9) (ht : t < 4) (h0 : w ≠ []) (hw : ∀ d ∈ w, letter d) (hl : w.length ≤ 20) :
    ∃ n, rowsN (tokens ([120, 58, 32, 49, 10] ++ (List.replicate s 32 ++ (List.replicate t 9 ++ w)))) = [⟨5, 0, 5, 0⟩, ⟨5, 5, n, ((s + t : Nat) : Int)⟩] := by
  have hlen : ([120, 58, 32, 49, 10] ++ (List.replicate s 32 ++ (List.replicate t 9 ++ w))).length ≤ 16384 := by simp; omega
  have hA : toksN (fresh 0 (-1)) 0 [120, 58, 32, 49, 10] = [(15, 0, 1), (6, 1, 2), (3, 2, 3), (15, 3, 4), (1, 4, 5)] := by decide +kernel
  have hF : finN (fresh 0 (-1)) [120, 58, 32, 49, 10] = fresh 0 (-1) := fin_still 5 _ _ (by decide) rfl (fun c hc => by simp at hc; unfold still; omega) rfl rfl
  have hT : tokens ([120, 58, 32, 49, 10] ++ (List.replicate s 32 ++ (List.replicate t 9 ++ w))) = [(15, 0, 1), (6, 1, 2), (3, 2, 3), (15, 3, 4), (1, 4, 5)] ++ ((if s = 0 then [] else [(2, 5, 5 + s)]) ++ ((if t = 0 then [] else [(3, 5 + s, 5 + s + t)]) ++ [(15, 5 + s + t, 5 + s + t + w.length)])) := by
    rw [tokens_eq, if_neg (by omega), toksN_app 5 (fresh 0 (-1)) 0 [120, 58, 32, 49, 10] (List.replicate s 32 ++ (List.replicate t 9 ++ w)) (by decide) (.inr rfl), hA, hF]
    show _ ++ toksN _ 5 _ = _
    rw [toks_in s t w h0 hw 5]
  rw [hT]
  by_cases h1 : s = 0
  · subst h1
    by_cases h2 : t = 0
    · subst h2
      exact ⟨6, by simp [rowsN, rowsF, rlen, ends, kindOf, colOf, firstC, counts, headK, headF, isMark, opnL, opens]⟩
    · exact ⟨7, by simp [h2, rowsN, rowsF, rlen, ends, kindOf, colOf, firstC, counts, headK, headF, isMark, opnL, opens]; try omega⟩
  · by_cases h2 : t = 0
    · subst h2
      exact ⟨7, by simp [h1, rowsN, rowsF, rlen, ends, kindOf, colOf, firstC, counts, headK, headF, isMark, opnL, opens]; try omega⟩
    · exact ⟨8, by simp [h1, h2, rowsN, rowsF, rlen, ends, kindOf, colOf, firstC, counts, headK, headF, isMark, opnL, opens]; try omega⟩
end Go.Proofs.Ytaokjeopmhbddaa.Rw
