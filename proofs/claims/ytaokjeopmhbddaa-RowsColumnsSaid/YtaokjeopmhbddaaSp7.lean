/- Plain facts on words and signs of brackets in one row. -/
import Derived.Test.YtaokjeopmhbddaaSp6
namespace Go.Proofs.Ytaokjeopmhbddaa.Sc
open Go.Proofs.Ytaokjeopmhbddaa.Sg

theorem toksN_mid (s : St) (at' : Nat) (l : List Nat) (k n : Nat) (h : l ≠ []) (hz : s.col = 0 → s.least = -1) (hr : rowN l = l.length) (hn : next s.op s.dash s.blank (s.col == 0) l = (k, n)) :
    toksN s at' l = (k, at', at' + n) :: toksN (take s k n) (at' + n) (l.drop n) := by
  have hL : rowL l = l := by rw [rowL, hr, List.take_of_length_le (Nat.le_refl _)]
  have hl : 0 < l.length := List.length_pos_iff.2 h
  have hS : step s l = (k, n, take s k n) := by
    rw [step_mid s l hz, mid_in s l (by omega), hL, hn]
  rw [toksN_step s at' l h, hS]
/-- A sign of brackets. -/
def brack (c : Nat) : Prop := c = 44 ∨ c = 91 ∨ c = 93 ∨ c = 123 ∨ c = 125
theorem brack_calm (c : Nat) (h : brack c) : calm false c := by
  unfold brack at h
  refine ⟨by omega, by omega, by omega, rfl, ?_⟩
  rw [Bool.eq_false_iff]; intro hh; simp [blk] at hh; omega
theorem brack_flo (c : Nat) (h : brack c) : flo c = true := by
  unfold brack at h
  rcases h with rfl | rfl | rfl | rfl | rfl <;> rfl
theorem brack_brk (c : Nat) (h : brack c) : brk c = false := by
  unfold brack at h
  rcases h with rfl | rfl | rfl | rfl | rfl <;> rfl
theorem letter_brk (c : Nat) (h : letter c) : brk c = false := by
  rw [Bool.eq_false_iff]; intro hh; simp [brk] at hh; unfold letter at h; omega
theorem brack_next (op : Nat) (dash blank first : Bool) (c k : Nat) (r : List Nat) (h : brack c) (hk : sign op dash (c :: r) = k) (h0 : 0 < k) : next op dash blank first (c :: r) = (k, 1) := by
  have hc := brack_calm c h
  have h1 : mark (c :: r) = 0 := by
    unfold mark
    rw [if_neg (fun e => by rw [List.take_succ_cons] at e; injection e with e; unfold brack at h; omega), if_neg (fun e => by rw [List.take_succ_cons] at e; injection e with e; unfold brack at h; omega)]
  have h2 : run spc (c :: r) = 0 := by rw [run, if_neg (by simp [spc]; unfold brack at h; omega)]
  have h3 : run blk (c :: r) = 0 := by rw [run, if_neg (by rw [hc.2.2.2.2]; simp)]
  have h4 : hsh (c :: r) = false := by simp [hsh]; exact hc.2.2.1
  unfold next
  rw [h1, h2, h3, h4, if_neg (by simp), if_neg (by simp), if_neg (by simp), if_neg (by simp)]
  unfold word
  rw [hk, if_pos h0]
theorem row_all (l : List Nat) (h : ∀ c ∈ l, brk c = false) : rowN l = l.length := by
  have := rowN_calm l h []
  rw [List.append_nil] at this
  rw [this]; rfl
theorem tokens_calm (c : Nat) (r : List Nat) (h : letter c) (hw : ∀ d ∈ c :: r, calm false d) (hb : ∀ d ∈ c :: r, brk d = false) (hl : (c :: r).length ≤ 16384) : tokens (c :: r) = [(15, 0, (c :: r).length)] := by
  have hp := plainN_calm false c r [] hw rfl
  rw [List.append_nil] at hp
  rw [tokens_eq, if_neg (by omega), toksN_mid (fresh 0 (-1)) 0 (c :: r) 15 (c :: r).length (by simp) (fun _ => rfl) (row_all _ hb) (by
    show next 0 true false true (c :: r) = _
    rw [letter_next 0 true false true c r h]
    show (15, plainN false (c :: r)) = _
    rw [hp]), List.drop_of_length_le (Nat.le_refl _), toksN_nil, Nat.zero_add]
theorem letter_plain (op : Bool) (w rest : List Nat) (h0 : w ≠ []) (hw : ∀ d ∈ w, letter d) (hr : stop op false rest = true) : plainN op (w ++ rest) = w.length := by
  obtain ⟨c, r, rfl⟩ := List.exists_cons_of_ne_nil h0
  exact plainN_calm op c r rest (fun d hd => letter_calm op d (hw d hd)) hr
/-- What a sign of brackets is while one is open. -/
def brackK (c : Nat) : Nat := if c = 44 then 7 else if c = 91 then 8 else if c = 123 then 9 else if c = 93 then 10 else 11
theorem kinds_a (w : List Nat) (c : Nat) (h0 : w ≠ []) (hw : ∀ d ∈ w, letter d) (hc : brack c) (hl : w.length ≤ 20) : tokens (w ++ c :: w) = [(15, 0, 2 * w.length + 1)] := by
  obtain ⟨a, r, rfl⟩ := List.exists_cons_of_ne_nil h0
  have hm : ∀ d ∈ a :: r ++ c :: a :: r, calm false d ∧ brk d = false := by
    intro d hd
    rcases List.mem_append.1 hd with h | h
    · exact ⟨letter_calm _ d (hw d h), letter_brk d (hw d h)⟩
    · rcases List.mem_cons.1 h with rfl | h
      · exact ⟨brack_calm _ hc, brack_brk _ hc⟩
      · exact ⟨letter_calm _ d (hw d h), letter_brk d (hw d h)⟩
  rw [List.cons_append] at hm ⊢
  have hz : (a :: (r ++ c :: a :: r)).length = 2 * (a :: r).length + 1 := by simp; omega
  rw [tokens_calm a _ (hw a (by simp)) (fun d hd => (hm d hd).1) (fun d hd => (hm d hd).2) (by rw [hz]; omega), hz]
theorem kinds_b (w : List Nat) (c : Nat) (h0 : w ≠ []) (hw : ∀ d ∈ w, letter d) (hc : brack c) (hl : w.length ≤ 20) :
    ∃ k, tokens (91 :: (w ++ c :: w)) = [(8, 0, 1), (15, 1, 1 + w.length), (k, 1 + w.length, 1 + w.length + 1), (15, 1 + w.length + 1, 1 + w.length + 1 + w.length)] := by
  have hne : ∃ a r, w = a :: r := List.exists_cons_of_ne_nil h0
  have hbw : ∀ d ∈ w, brk d = false := fun d hd => letter_brk d (hw d hd)
  have hbc : ∀ d ∈ c :: w, brk d = false := fun d hd => by
    rcases List.mem_cons.1 hd with rfl | h
    · exact brack_brk _ hc
    · exact hbw d h
  have hb1 : ∀ d ∈ w ++ c :: w, brk d = false := fun d hd => by
    rcases List.mem_append.1 hd with h | h
    · exact hbw d h
    · exact hbc d h
  have hb0 : ∀ d ∈ 91 :: (w ++ c :: w), brk d = false := fun d hd => by
    rcases List.mem_cons.1 hd with rfl | h
    · rfl
    · exact hb1 d h
  have hz : (91 :: (w ++ c :: w)).length = 2 * w.length + 2 := by simp; omega
  have hsg : sign 1 false (c :: w) = brackK c ∧ 0 < brackK c := by
    unfold brack at hc
    rcases hc with rfl | rfl | rfl | rfl | rfl <;> exact ⟨rfl, by decide⟩
  refine ⟨brackK c, ?_⟩
  rw [tokens_eq, if_neg (by rw [hz]; omega),
    toksN_mid (fresh 0 (-1)) 0 _ 8 1 (by simp) (fun _ => rfl) (row_all _ hb0) (brack_next 0 true false true 91 8 _ (.inr (.inl rfl)) rfl (by decide)),
    List.drop_succ_cons, List.drop_zero, Nat.zero_add]
  obtain ⟨a, r, hwr⟩ := hne
  have hn1 : next 1 false false false (w ++ c :: w) = (15, w.length) := by
    have hp := letter_plain true w (c :: w) h0 hw (by rw [stop, brack_flo c hc]; simp)
    rw [← hp]
    rw [hwr, List.cons_append]
    exact letter_next 1 false false false a _ (hw a (by rw [hwr]; simp))
  rw [toksN_mid (take (fresh 0 (-1)) 8 1) 1 (w ++ c :: w) 15 w.length (by simp) (fun hcol => by cases hcol) (row_all _ hb1) hn1, List.drop_left' rfl]
  rw [toksN_mid (take (take (fresh 0 (-1)) 8 1) 15 w.length) (1 + w.length) (c :: w) (brackK c) 1 (by simp) (fun hcol => by
      have : 0 + 1 + w.length = 0 := hcol
      omega) (row_all _ hbc) (by
      rw [show ((take (take (fresh 0 (-1)) 8 1) 15 w.length).col == 0) = false from beq_eq_false_iff_ne.2 (show 0 + 1 + w.length ≠ 0 by omega)]
      exact brack_next 1 false false false c (brackK c) w hc hsg.1 hsg.2), List.drop_succ_cons, List.drop_zero]
  obtain ⟨s3, hs3⟩ : ∃ s3, take (take (take (fresh 0 (-1)) 8 1) 15 w.length) (brackK c) 1 = s3 := ⟨_, rfl⟩
  have hc3 : s3.col = 0 + 1 + w.length + 1 := by rw [← hs3]; rfl
  rw [hs3, toksN_mid s3 (1 + w.length + 1) w 15 w.length h0 (fun hcol => by omega) (row_all _ hbw) (by
      have hp := letter_plain (decide (0 < s3.op)) w [] h0 hw rfl
      rw [List.append_nil] at hp
      rw [← hp, hwr]
      exact letter_next s3.op s3.dash s3.blank (s3.col == 0) a r (hw a (by rw [hwr]; simp))), List.drop_of_length_le (Nat.le_refl _), toksN_nil]
end Go.Proofs.Ytaokjeopmhbddaa.Sc
