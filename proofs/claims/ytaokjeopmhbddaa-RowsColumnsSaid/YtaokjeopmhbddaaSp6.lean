/- Plain facts on letters: one token; on a text of zeros; on words in brackets. -/
import Derived.Test.YtaokjeopmhbddaaSo
namespace Go.Proofs.Ytaokjeopmhbddaa.Sc
open Go.Proofs.Ytaokjeopmhbddaa.Sg

/-- A byte that a plain text goes past. -/
def calm (op : Bool) (c : Nat) : Prop := c < 128 ∧ c ≠ 58 ∧ c ≠ 35 ∧ (op && flo c) = false ∧ blk c = false
theorem nxL_ascii (c : Nat) (r : List Nat) (h : c < 128) : nxL (c :: r) = ((c : Int), 1) := by
  unfold nxL
  exact nx_ascii _ _ _ _ _ (by simp) h
theorem bad_ascii (c : Nat) (r : List Nat) (h : c < 128) : bad (c :: r) = false := by
  unfold bad
  rw [nxL_ascii c r h]
  exact decide_eq_false (by dsimp only; omega)
theorem stop_calm (op pb : Bool) (c : Nat) (r : List Nat) (h : calm op c) : stop op pb (c :: r) = false := by
  obtain ⟨h1, h2, h3, h4, h5⟩ := h
  rw [stop, bad_ascii c r h1, h4]
  simp [h2, h3]
theorem goesN_calm (op : Bool) (w rest : List Nat) (hw : ∀ c ∈ w, calm op c) (hr : stop op false rest = true) : ∀ p, blk p = false → goesN op p (w ++ rest) = w.length := by
  induction w with
  | nil => intro p hp; exact goesN_stop op p rest (by rw [hp]; exact hr)
  | cons c r ih =>
    intro p hp
    have hc := hw c (by simp)
    rw [List.cons_append, goesN_on op p (c :: (r ++ rest)) (stop_calm op _ c _ hc), nxL_ascii c _ hc.1]
    show 1 + goesN op ((c :: (r ++ rest)).getD 0 0) ((c :: (r ++ rest)).drop 1) = _
    rw [List.drop_succ_cons, List.drop_zero, List.getD_cons_zero, ih (fun d hd => hw d (by simp [hd])) c hc.2.2.2.2, List.length_cons]
    omega
theorem trim_calm (op : Bool) (w : List Nat) (hw : ∀ c ∈ w, calm op c) : trim w = w.length := by
  induction w with
  | nil => rfl
  | cons c r ih =>
    have h := ih (fun d hd => hw d (by simp [hd]))
    have hc := (hw c (by simp)).2.2.2.2
    rw [trim, h, List.length_cons]
    by_cases h0 : r.length = 0
    · rw [if_pos h0, hc]; simp [h0]
    · rw [if_neg h0]
theorem plainN_calm (op : Bool) (c : Nat) (w rest : List Nat) (hw : ∀ d ∈ c :: w, calm op d) (hr : stop op false rest = true) : plainN op (c :: w ++ rest) = (c :: w).length := by
  have hc := hw c (by simp)
  rw [plainN_eq, List.cons_append, nxL_ascii c _ hc.1]
  show trim ((c :: (w ++ rest)).take (1 + goesN op ((c :: (w ++ rest)).getD 0 0) ((c :: (w ++ rest)).drop 1))) = _
  rw [List.drop_succ_cons, List.drop_zero, List.getD_cons_zero, goesN_calm op w rest (fun d hd => hw d (by simp [hd])) hr c hc.2.2.2.2, Nat.add_comm, List.take_succ_cons, List.take_left' rfl, trim_calm op (c :: w) hw]
/-- A letter, or a zero. -/
def letter (c : Nat) : Prop := c = 0 ∨ (97 ≤ c ∧ c ≤ 122)
theorem letter_calm (op : Bool) (c : Nat) (h : letter c) : calm op c := by
  have hf : flo c = false := by
    rw [Bool.eq_false_iff]; intro hh; simp [flo] at hh; unfold letter at h; omega
  have hb : blk c = false := by
    rw [Bool.eq_false_iff]; intro hh; simp [blk] at hh; unfold letter at h; omega
  unfold letter at h
  exact ⟨by omega, by omega, by omega, by rw [hf, Bool.and_false], hb⟩
theorem letter_next (op : Nat) (dash blank first : Bool) (c : Nat) (r : List Nat) (h : letter c) : next op dash blank first (c :: r) = (15, plainN (decide (0 < op)) (c :: r)) := by
  have hc := letter_calm false c h
  have h1 : mark (c :: r) = 0 := by
    unfold mark
    rw [if_neg (fun e => by rw [List.take_succ_cons] at e; injection e with e; unfold letter at h; omega), if_neg (fun e => by rw [List.take_succ_cons] at e; injection e with e; unfold letter at h; omega)]
  have h2 : run spc (c :: r) = 0 := by rw [run, if_neg (by simp [spc]; unfold letter at h; omega)]
  have h3 : run blk (c :: r) = 0 := by rw [run, if_neg (by rw [hc.2.2.2.2]; simp)]
  have h4 : hsh (c :: r) = false := by simp [hsh]; exact hc.2.2.1
  have h5 : sign op dash (c :: r) = 0 := by
    rw [sign]; unfold letter at h
    rw [if_neg (by omega), if_neg (by omega), if_neg (by omega), if_neg (by omega), if_neg (by omega), if_neg (by omega), if_neg (by omega)]
  have h6 : (named (c :: r)).1 = 0 := by
    rw [named]; unfold letter at h
    rw [if_neg (by omega), if_neg (by omega), if_neg (by omega)]
  have h7 : (quoted (c :: r)).1 = 0 := by
    rw [quoted]; unfold letter at h
    rw [if_neg (by omega), if_neg (by omega)]
  have h8 : headN (c :: r) = 0 := by
    rw [headN]; unfold letter at h
    rw [if_neg (by omega)]
  have h9 := bad_ascii c r hc.1
  unfold next
  rw [h1, h2, h3, h4, if_neg (by simp), if_neg (by simp), if_neg (by simp), if_neg (by simp)]
  unfold word
  rw [h5, h6, h7, h8, h9, if_neg (by simp), if_neg (by simp), if_neg (by simp), if_neg (by simp), if_neg (by simp)]
theorem rowN_calm (w : List Nat) (hw : ∀ c ∈ w, brk c = false) (rest : List Nat) : rowN (w ++ rest) = w.length + rowN rest := by
  induction w with
  | nil => simp
  | cons c r ih =>
    have hc := hw c (by simp)
    have := ih (fun d hd => hw d (by simp [hd]))
    unfold rowN at *
    rw [List.cons_append, run, if_pos (by rw [hc]; rfl), this, List.length_cons]
    omega
/-- Zeros are one plain text. -/
theorem tokens_zeros (n : Nat) (h0 : 0 < n) (h : n ≤ 16384) : tokens (List.replicate n 0) = [(15, 0, n)] := by
  obtain ⟨m, rfl⟩ : ∃ m, n = m + 1 := ⟨n - 1, by omega⟩
  have hall : ∀ d ∈ List.replicate (m + 1) 0, d = 0 := fun d hd => List.eq_of_mem_replicate hd
  have hl : (List.replicate (m + 1) 0).length = m + 1 := List.length_replicate
  have hr : rowN (List.replicate (m + 1) 0) = m + 1 := by
    have := rowN_calm (List.replicate (m + 1) 0) (fun d hd => by rw [hall d hd]; rfl) []
    rw [List.append_nil, hl] at this
    exact this
  have hL : rowL (List.replicate (m + 1) 0) = List.replicate (m + 1) 0 := by
    rw [rowL, hr, List.take_of_length_le (by rw [hl]; exact Nat.le_refl _)]
  have hN : next 0 true false true (List.replicate (m + 1) 0) = (15, m + 1) := by
    rw [List.replicate_succ, letter_next _ _ _ _ _ _ (.inl rfl)]
    have := plainN_calm (decide (0 < 0)) 0 (List.replicate m 0) [] (fun d hd => letter_calm _ d (.inl (hall d (by rw [List.replicate_succ]; exact hd)))) rfl
    rw [List.append_nil] at this
    rw [this, List.length_cons, List.length_replicate]
  have hS : mid (fresh 0 (-1)) (List.replicate (m + 1) 0) = (15, m + 1, take (fresh 0 (-1)) 15 (m + 1)) := by
    rw [mid_in _ _ (by rw [hr]; omega), hL]
    show ((next 0 true false true (List.replicate (m + 1) 0)).1, (next 0 true false true (List.replicate (m + 1) 0)).2, take (fresh 0 (-1)) (next 0 true false true (List.replicate (m + 1) 0)).1 (next 0 true false true (List.replicate (m + 1) 0)).2) = _
    rw [hN]
  rw [tokens_eq, if_neg (by rw [hl]; omega), toksN_step _ _ _ (by simp), step_mid _ _ (fun _ => rfl), hS]
  show (15, 0, 0 + (m + 1)) :: toksN _ _ ((List.replicate (m + 1) 0).drop (m + 1)) = _
  rw [List.drop_of_length_le (by rw [hl]; exact Nat.le_refl _), toksN_nil, Nat.zero_add]
end Go.Proofs.Ytaokjeopmhbddaa.Sc
