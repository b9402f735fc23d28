/- Plain facts between what the program does of block texts, piece by piece, and what Bk says of them (no program text). -/
import Derived.Test.YtogiaaiphbamnaaBk
namespace Go.Proofs.Ytogiaaiphbamnaa.Bk

theorem strip_eq (n : Nat) (o : List UInt8) : strip n o = o.drop (min n (spaces o)) := rfl
theorem spaces_le (o : List UInt8) : spaces o ≤ o.length := by
  induction o with
  | nil => exact Nat.le_refl _
  | cons c r ih => rw [spaces]; split <;> simp <;> omega
theorem own_len (o : List UInt8) : (ownL o).length ≤ o.length := by
  induction o with
  | nil => exact Nat.le_refl _
  | cons c r ih => rw [ownL]; split <;> simp <;> omega
theorem strip_len (n : Nat) (o : List UInt8) : (strip n o).length ≤ o.length := by
  unfold strip; rw [List.length_drop]; omega
/-- What is taken from a line are spaces, so it is empty as before. -/
theorem empty_strip (n : Nat) (o : List UInt8) : emptyL (strip n o) = emptyL o := by
  induction o generalizing n with
  | nil => simp [strip]
  | cons c r ih =>
    by_cases hc : c = 32
    · subst hc
      cases n with
      | zero => simp [strip]
      | succ n =>
        have e : strip (n + 1) ((32 : UInt8) :: r) = strip n r := by
          unfold strip
          rw [spaces, if_pos rfl, show min (n + 1) (spaces r + 1) = min n (spaces r) + 1 by omega, List.drop_succ_cons]
        rw [e, ih n]
        unfold emptyL
        rw [List.all_cons]
        rfl
    · have e : strip n (c :: r) = c :: r := by
        unfold strip
        rw [spaces, if_neg hc, Nat.min_zero, List.drop_zero]
      rw [e]
/-- The core is the first lines, as many as it has. -/
theorem core_le (l : List (List UInt8)) : (core l).length ≤ l.length := by
  induction l with
  | nil => exact Nat.le_refl _
  | cons o r ih => rw [core]; split <;> simp <;> omega
theorem core_take (l : List (List UInt8)) : l.take (core l).length = core l := by
  induction l with
  | nil => rfl
  | cons o r ih =>
    rw [core]
    split
    · rfl
    · rw [List.length_cons, List.take_succ_cons, ih]
theorem ind_core (l : List (List UInt8)) (h : core l ≠ []) : ind (core l) = ind l := by
  induction l with
  | nil => rfl
  | cons o r ih =>
    rw [core]
    by_cases hc : core r = [] ∧ emptyL o = true
    · rw [core, if_pos hc] at h; exact absurd rfl h
    · rw [if_neg hc, ind, ind]
      cases he : emptyL o with
      | false => rfl
      | true =>
        rw [if_pos rfl, if_pos rfl]
        exact ih fun h0 => hc ⟨h0, he⟩
/-- From behind: the first n lines, the last of which is empty, have the core of one less. -/
theorem core_snoc_empty (l : List (List UInt8)) (o : List UInt8) (h : emptyL o = true) : core (l ++ [o]) = core l := by
  induction l with
  | nil => simp [core, h]
  | cons x r ih => rw [List.cons_append, core, core, ih]
theorem core_snoc_full (l : List (List UInt8)) (o : List UInt8) (h : emptyL o = false) : core (l ++ [o]) = l ++ [o] := by
  induction l with
  | nil => simp [core, h]
  | cons x r ih => rw [List.cons_append, core, ih, if_neg (fun x => by simp at x)]
theorem core_back (l : List (List UInt8)) (n : Nat) (o : List UInt8) (ho : l[n]? = some o) (h : emptyL o = true) : core (l.take (n + 1)) = core (l.take n) := by
  rw [List.take_add_one, ho]
  exact core_snoc_empty _ _ h
theorem core_stop (l : List (List UInt8)) (n : Nat) (o : List UInt8) (ho : l[n]? = some o) (h : emptyL o = false) : core (l.take (n + 1)) = l.take (n + 1) := by
  rw [List.take_add_one, ho]
  exact core_snoc_full _ _ h
/-- The indent, from the front on. -/
theorem ind_drop (l : List (List UInt8)) (k : Nat) (o : List UInt8) (ho : l[k]? = some o) : ind (l.drop k) = if emptyL o = true then ind (l.drop (k + 1)) else spaces o := by
  have hk := (List.getElem?_eq_some_iff.1 ho).1
  rw [List.drop_eq_getElem_cons hk]
  have e : l[k] = o := (List.getElem?_eq_some_iff.1 ho).2
  rw [e, ind]
/-- What is folded of contents; each is empty just where its line is. -/
def foldC (last : Option Bool) (gap : Nat) (cs : List (List UInt8)) : List UInt8 := foldG last gap (cs.map fun c => (c, emptyL c))
theorem foldC_nil (last : Option Bool) (gap : Nat) : foldC last gap [] = [] := by unfold foldC; rfl
/-- What stands between what is ahead and a content that is not empty. -/
def jointL (last : Option Bool) (c : Bool) (gap : Nat) : List UInt8 := match last with
  | none => feeds gap
  | some b => if b || c then feeds (gap + 1) else if gap = 0 then [32] else feeds gap
theorem foldC_drop (last : Option Bool) (gap : Nat) (cs : List (List UInt8)) (k : Nat) (c : List UInt8) (h : cs[k]? = some c) :
    foldC last gap (cs.drop k) = if emptyL c = true then foldC last (gap + 1) (cs.drop (k + 1))
      else jointL last (inward c) gap ++ (c ++ foldC (some (inward c)) 0 (cs.drop (k + 1))) := by
  have hk := (List.getElem?_eq_some_iff.1 h).1
  have e : cs[k] = c := (List.getElem?_eq_some_iff.1 h).2
  rw [List.drop_eq_getElem_cons hk, e]
  unfold foldC
  rw [List.map_cons]
  cases he : emptyL c with
  | true => rw [if_pos rfl]; cases last <;> rfl
  | false => rw [if_neg (by decide)]; cases last <;> rfl
theorem body_fold (n : Nat) (l : List (List UInt8)) : bodyL true n l = foldC none 0 (l.map (strip n)) := by
  unfold bodyL foldC
  rw [if_pos rfl, List.map_map]
  congr 1
  refine List.map_congr_left fun o _ => ?_
  show _ = (strip n o, emptyL (strip n o))
  rw [empty_strip]
theorem body_join (n : Nat) (l : List (List UInt8)) : bodyL false n l = joinL (l.map (strip n)) := by
  unfold bodyL; rw [if_neg (by decide)]
/-- How long what is said may be. -/
theorem foldC_len (cs : List (List UInt8)) : ∀ last gap, (foldC last gap cs).length ≤ gap + 2 * cs.length + (cs.map List.length).sum := by
  induction cs with
  | nil => intro last gap; rw [foldC_nil]; simp
  | cons c r ih =>
    intro last gap
    have e := foldC_drop last gap (c :: r) 0 c rfl
    rw [List.drop_zero, List.drop_succ_cons, List.drop_zero] at e
    rw [e]
    have h1 := ih last (gap + 1)
    have h2 := ih (some (inward c)) 0
    simp only [List.map_cons, List.sum_cons, List.length_cons]
    split
    · omega
    · rw [List.length_append, List.length_append]
      unfold jointL
      cases last with
      | none => simp only [feeds, List.length_replicate]; omega
      | some b =>
        simp only
        split
        · simp only [feeds, List.length_replicate]; omega
        · split
          · simp; omega
          · simp only [feeds, List.length_replicate]; omega
theorem joinL_len (cs : List (List UInt8)) : (joinL cs).length ≤ cs.length + (cs.map List.length).sum := by
  induction cs with
  | nil => simp [joinL]
  | cons c r ih =>
    cases r with
    | nil => simp [joinL]
    | cons d r => rw [joinL]; simp only [List.length_append, List.length_cons, List.map_cons, List.sum_cons] at *; omega
theorem sum_strip (n : Nat) (l : List (List UInt8)) : ((l.map (strip n)).map List.length).sum ≤ (l.map List.length).sum := by
  induction l with
  | nil => simp
  | cons o r ih => simp only [List.map_cons, List.sum_cons]; have := strip_len n o; omega
theorem sum_own (l : List (List UInt8)) : ((l.map ownL).map List.length).sum ≤ (l.map List.length).sum := by
  induction l with
  | nil => simp
  | cons o r ih => simp only [List.map_cons, List.sum_cons]; have := own_len o; omega
theorem sum_take (l : List (List UInt8)) (n : Nat) : ((l.take n).map List.length).sum ≤ (l.map List.length).sum := by
  induction l generalizing n with
  | nil => simp
  | cons o r ih =>
    cases n with
    | zero => simp
    | succ n => simp only [List.take_succ_cons, List.map_cons, List.sum_cons]; have := ih n; omega
/-- An own text from how far its bytes are no breaks. -/
def nbr (c : UInt8) : Bool := !(c == 10 || c == 13)
theorem own_take (o : List UInt8) (k : Nat) (h : ∀ j c, j < k → o[j]? = some c → nbr c = true) (he : k = o.length ∨ ∃ c, o[k]? = some c ∧ nbr c = false) : ownL o = o.take k := by
  induction o generalizing k with
  | nil => simp [ownL]
  | cons c r ih =>
    rw [ownL]
    cases k with
    | zero =>
      rcases he with he | ⟨d, hd, hn⟩
      · simp at he
      · obtain rfl : c = d := by simpa using hd
        rw [if_pos (by simp only [nbr, Bool.not_eq_false', Bool.or_eq_true, beq_iff_eq] at hn; exact hn)]; rfl
    | succ k =>
      have h0 := h 0 c (by omega) rfl
      rw [if_neg (by simpa [nbr] using h0), List.take_succ_cons, ih k (fun j d hj hd => h (j + 1) d (by omega) (by simpa using hd)) (by
        rcases he with he | ⟨d, hd, hn⟩
        · left; simpa using he
        · right; exact ⟨d, by simpa using hd, hn⟩)]
theorem spaces_is (o : List UInt8) (k : Nat) (h : ∀ j c, j < k → o[j]? = some c → c = 32) (he : k = o.length ∨ ∃ c, o[k]? = some c ∧ c ≠ 32) : spaces o = k := by
  induction o generalizing k with
  | nil =>
    rcases he with he | ⟨c, hc, _⟩
    · exact he.symm
    · simp at hc
  | cons c r ih =>
    rw [spaces]
    cases k with
    | zero =>
      rcases he with he | ⟨d, hd, hn⟩
      · simp at he
      · obtain rfl : c = d := by simpa using hd
        rw [if_neg hn]
    | succ k =>
      rw [if_pos (h 0 c (by omega) rfl), ih k (fun j d hj hd => h (j + 1) d (by omega) (by simpa using hd)) (by
        rcases he with he | ⟨d, hd, hn⟩
        · left; simpa using he
        · right; exact ⟨d, by simpa using hd, hn⟩)]
theorem empty_is (o : List UInt8) (h : ∀ (j : Nat) (c : UInt8), o[j]? = some c → blk c = true) : emptyL o = true := by
  unfold emptyL
  rw [List.all_eq_true]
  intro c hc
  obtain ⟨j, hj⟩ := List.getElem?_of_mem hc
  exact h j c hj
theorem empty_not (o : List UInt8) (k : Nat) (c : UInt8) (h : o[k]? = some c) (hn : blk c = false) : emptyL o = false := by
  unfold emptyL
  rw [Bool.eq_false_iff]
  intro ha
  have := List.all_eq_true.1 ha c (List.mem_of_getElem? h)
  rw [hn] at this
  cases this
end Go.Proofs.Ytogiaaiphbamnaa.Bk
