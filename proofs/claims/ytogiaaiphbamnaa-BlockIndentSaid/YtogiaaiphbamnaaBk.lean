/- Plain facts on block texts (no program text): what lines say under a head, and what the statements of chapter 8 ask of it. -/
import Derived.Test.YtogiaaiphbamnaaCh
namespace Go.Proofs.Ytogiaaiphbamnaa.Bk

/-- A line without its break. -/
def ownL : List UInt8 → List UInt8
  | [] => []
  | c :: r => if c = 10 ∨ c = 13 then [] else c :: ownL r
def blk (c : UInt8) : Bool := c == 32 || c == 9
/-- Only blanks. -/
def emptyL (o : List UInt8) : Bool := o.all blk
/-- How many spaces stand ahead. -/
def spaces : List UInt8 → Nat
  | [] => 0
  | c :: r => if c = 32 then spaces r + 1 else 0
/-- Without its first spaces, at most n. -/
def strip (n : Nat) (o : List UInt8) : List UInt8 := o.drop (min n (spaces o))
def inward : List UInt8 → Bool
  | [] => false
  | c :: _ => blk c
def feeds (n : Nat) : List UInt8 := List.replicate n 10
/-- The lines up to the last one that is not empty. -/
def core : List (List UInt8) → List (List UInt8)
  | [] => []
  | o :: r => if core r = [] ∧ emptyL o = true then [] else o :: core r
/-- The indent: how many spaces the first line has that is not empty. -/
def ind : List (List UInt8) → Nat
  | [] => 0
  | o :: r => if emptyL o = true then ind r else spaces o
/-- Line by line. -/
def joinL : List (List UInt8) → List UInt8
  | [] => []
  | [c] => c
  | c :: d :: r => c ++ 10 :: joinL (d :: r)
/-- Folded: what stands ahead begins with a blank, or not, or there is nothing; how many empty lines are between; contents, and whether each is of an empty line. -/
def foldG : Option Bool → Nat → List (List UInt8 × Bool) → List UInt8
  | _, _, [] => []
  | last, gap, (_, true) :: r => foldG last (gap + 1) r
  | none, gap, (c, false) :: r => feeds gap ++ (c ++ foldG (some (inward c)) 0 r)
  | some b, gap, (c, false) :: r => (if b || inward c then feeds (gap + 1) else if gap = 0 then [32] else feeds gap) ++ (c ++ foldG (some (inward c)) 0 r)
def bodyL (f : Bool) (n : Nat) (l : List (List UInt8)) : List UInt8 := if f = true then foldG none 0 (l.map fun o => (strip n o, emptyL o)) else joinL (l.map (strip n))
/-- What lines say, folded or not, with - or +. -/
def text (f m p : Bool) (ls : List (List UInt8)) : List UInt8 :=
  if core (ls.map ownL) = [] then (if p = true then feeds ls.length else [])
  else bodyL f (ind (ls.map ownL)) (core (ls.map ownL)) ++ (if m = true then [] else if p = true then feeds (ls.length - (core (ls.map ownL)).length + 1) else [10])
/-- Three heads differ in their ends alone. -/
theorem chomps (f : Bool) (ls : List (List UInt8)) :
    (text f true false ls = [] ∧ text f false false ls = [] ∧ (text f false true ls).length = ls.length) ∨
    (text f false false ls = text f true false ls ++ [10] ∧ ∃ r, text f false true ls = text f false false ls ++ r) := by
  by_cases h : core (ls.map ownL) = []
  · left; simp [text, h, feeds]
  · right
    have a : ∀ m p, text f m p ls = bodyL f (ind (ls.map ownL)) (core (ls.map ownL)) ++ (if m = true then [] else if p = true then feeds (ls.length - (core (ls.map ownL)).length + 1) else [10]) := fun m p => by unfold text; rw [if_neg h]
    refine ⟨by rw [a, a]; simp, feeds (ls.length - (core (ls.map ownL)).length), ?_⟩
    rw [a, a]
    simp [feeds, List.replicate_succ]
/-- All lines are empty. -/
theorem core_none (os : List (List UInt8)) (h : ∀ o ∈ os, emptyL o = true) : core os = [] := by
  induction os with
  | nil => rfl
  | cons o r ih =>
    rw [core, if_pos ⟨ih fun x hx => h x (by simp [hx]), h o (by simp)⟩]
theorem text_none (f m p : Bool) (ls : List (List UInt8)) (h : ∀ l ∈ ls, emptyL (ownL l) = true) : text f m p ls = if p = true then feeds ls.length else [] := by
  unfold text
  rw [if_pos (core_none _ (by intro o ho; obtain ⟨l, hl, rfl⟩ := List.mem_map.1 ho; exact h l hl))]
/-- Further in. -/
theorem own_in (b : Nat) (l : List UInt8) : ownL (List.replicate b 32 ++ l) = List.replicate b 32 ++ ownL l := by
  induction b with
  | zero => rfl
  | succ b ih => rw [List.replicate_succ, List.cons_append, ownL, if_neg (by decide), ih]; rfl
theorem empty_in (b : Nat) (o : List UInt8) : emptyL (List.replicate b 32 ++ o) = emptyL o := by
  induction b with
  | zero => rfl
  | succ b ih => rw [List.replicate_succ, List.cons_append]; unfold emptyL at *; rw [List.all_cons, ih]; rfl
theorem spaces_in (b : Nat) (o : List UInt8) : spaces (List.replicate b 32 ++ o) = b + spaces o := by
  induction b with
  | zero => simp
  | succ b ih => rw [List.replicate_succ, List.cons_append, spaces, if_pos rfl, ih]; omega
theorem strip_in (b n : Nat) (o : List UInt8) : strip (b + n) (List.replicate b 32 ++ o) = strip n o := by
  unfold strip
  rw [spaces_in, show min (b + n) (b + spaces o) = b + min n (spaces o) by omega]
  rw [← List.drop_drop, List.drop_left' (by simp)]
theorem core_in (b : Nat) (os : List (List UInt8)) : core (os.map (List.replicate b 32 ++ ·)) = (core os).map (List.replicate b 32 ++ ·) := by
  induction os with
  | nil => rfl
  | cons o r ih =>
    rw [List.map_cons, core, core, ih, empty_in]
    by_cases h : core r = [] ∧ emptyL o = true
    · rw [if_pos h, if_pos ⟨by rw [h.1]; rfl, h.2⟩]; rfl
    · rw [if_neg h, if_neg (fun x => h ⟨List.map_eq_nil_iff.1 x.1, x.2⟩)]; rfl
theorem ind_in (b : Nat) (os : List (List UInt8)) (h : core os ≠ []) : ind (os.map (List.replicate b 32 ++ ·)) = b + ind os := by
  induction os with
  | nil => exact absurd rfl h
  | cons o r ih =>
    rw [List.map_cons, ind, ind, empty_in]
    cases he : emptyL o with
    | true =>
      rw [if_pos rfl, if_pos rfl]
      refine ih fun hc => h ?_
      rw [core, if_pos ⟨hc, he⟩]
    | false => rw [if_neg (by decide), if_neg (by decide), spaces_in]
theorem body_in (f : Bool) (b n : Nat) (os : List (List UInt8)) : bodyL f (b + n) (os.map (List.replicate b 32 ++ ·)) = bodyL f n os := by
  unfold bodyL
  cases f with
  | true =>
    rw [if_pos rfl, if_pos rfl, List.map_map]
    congr 1
    refine List.map_congr_left fun o _ => ?_
    show (strip (b + n) (List.replicate b 32 ++ o), emptyL (List.replicate b 32 ++ o)) = _
    rw [strip_in, empty_in]
  | false =>
    rw [if_neg (by decide), if_neg (by decide), List.map_map]
    congr 1
    refine List.map_congr_left fun o _ => ?_
    show strip (b + n) (List.replicate b 32 ++ o) = _
    rw [strip_in]
theorem text_in (f m p : Bool) (b : Nat) (ls : List (List UInt8)) : text f m p (ls.map (List.replicate b 32 ++ ·)) = text f m p ls := by
  have e : (ls.map (List.replicate b 32 ++ ·)).map ownL = (ls.map ownL).map (List.replicate b 32 ++ ·) := by
    rw [List.map_map, List.map_map]
    exact List.map_congr_left fun l _ => own_in b l
  unfold text
  rw [e, core_in]
  by_cases h : core (ls.map ownL) = []
  · rw [if_pos h, if_pos (by rw [h]; rfl), List.length_map]
  · rw [if_neg h, if_neg (fun x => h (List.map_eq_nil_iff.1 x)), ind_in b _ h, body_in, List.length_map, List.length_map]
/-- Words, of letters. -/
def Word (w : List UInt8) : Prop := w ≠ [] ∧ ∀ c ∈ w, 97 ≤ c.toNat ∧ c.toNat ≤ 122
theorem let_ne {c d : UInt8} (h : 97 ≤ c.toNat) (hd : d.toNat < 97) : c ≠ d := fun e => by rw [e] at h; omega
theorem own_word (w : List UInt8) (r : List UInt8) (h : ∀ c ∈ w, 97 ≤ c.toNat ∧ c.toNat ≤ 122) : ownL (w ++ 10 :: r) = w := by
  induction w with
  | nil => rfl
  | cons c w ih =>
    have hc := (h c (by simp)).1
    rw [List.cons_append, ownL, if_neg (fun x => x.elim (let_ne hc (by decide)) (let_ne hc (by decide))), ih fun d hd => h d (by simp [hd])]
theorem word_first {w : List UInt8} (h : Word w) : emptyL w = false ∧ spaces w = 0 ∧ inward w = false := by
  obtain ⟨h1, h2⟩ := h
  cases w with
  | nil => exact absurd rfl h1
  | cons c w =>
    have hc := (h2 c (by simp)).1
    have hb : blk c = false := by
      have a := let_ne (d := 32) hc (by decide)
      have b := let_ne (d := 9) hc (by decide)
      simp [blk, a, b]
    refine ⟨?_, ?_, hb⟩
    · unfold emptyL; rw [List.all_cons, hb]; rfl
    · rw [spaces, if_neg (let_ne hc (by decide))]
/-- A word's line, n spaces in. -/
def lineW (n : Nat) (w : List UInt8) : List UInt8 := List.replicate n 32 ++ (w ++ [10])
theorem own_line (n : Nat) {w : List UInt8} (h : Word w) : ownL (lineW n w) = List.replicate n 32 ++ w := by
  unfold lineW
  rw [own_in, own_word w [] h.2]
theorem line_word (n : Nat) {w : List UInt8} (h : Word w) : emptyL (List.replicate n 32 ++ w) = false ∧ spaces (List.replicate n 32 ++ w) = n ∧ strip n (List.replicate n 32 ++ w) = w := by
  obtain ⟨h1, h2, h3⟩ := word_first h
  refine ⟨by rw [empty_in]; exact h1, by rw [spaces_in, h2]; rfl, ?_⟩
  have := strip_in n 0 w
  rw [Nat.add_zero] at this
  rw [this]
  unfold strip
  rw [Nat.zero_min]; rfl
theorem core_some (os : List (List UInt8)) (h : ∀ o ∈ os, emptyL o = false) (r : List (List UInt8)) (hr : ∀ o ∈ r, emptyL o = true) : core (os ++ r) = os := by
  induction os with
  | nil => exact core_none r hr
  | cons o l ih =>
    rw [List.cons_append, core, if_neg (fun x => by rw [h o (by simp)] at x; exact absurd x.2 (by decide)), ih fun x hx => h x (by simp [hx])]
/-- The lines of words, each n spaces in, and empty ones behind. -/
theorem text_words (n : Nat) (ws : List (List UInt8)) (h : ∀ w ∈ ws, Word w) (h0 : ws ≠ []) (r : List (List UInt8)) (hr : ∀ l ∈ r, emptyL (ownL l) = true) (m p : Bool) :
    text false m p (ws.map (lineW n) ++ r) = joinL ws ++ (if m = true then [] else if p = true then feeds (r.length + 1) else [10]) := by
  have e : (ws.map (lineW n) ++ r).map ownL = ws.map (List.replicate n 32 ++ ·) ++ r.map ownL := by
    rw [List.map_append, List.map_map]
    congr 1
    exact List.map_congr_left fun w hw => own_line n (h w hw)
  have c : core ((ws.map (lineW n) ++ r).map ownL) = ws.map (List.replicate n 32 ++ ·) := by
    rw [e]
    refine core_some _ ?_ _ ?_
    · intro o ho; obtain ⟨w, hw, rfl⟩ := List.mem_map.1 ho; exact (line_word n (h w hw)).1
    · intro o ho; obtain ⟨l, hl, rfl⟩ := List.mem_map.1 ho; exact hr l hl
  have i : ind ((ws.map (lineW n) ++ r).map ownL) = n := by
    rw [e]
    cases ws with
    | nil => exact absurd rfl h0
    | cons w ws =>
      have hw := line_word n (h w (by simp))
      rw [List.map_cons, List.cons_append, ind, if_neg (by rw [hw.1]; decide)]
      exact hw.2.1
  unfold text
  rw [c, i, if_neg (fun x => h0 (List.map_eq_nil_iff.1 x))]
  have b : bodyL false n (ws.map (List.replicate n 32 ++ ·)) = joinL ws := by
    unfold bodyL
    rw [if_neg (by decide), List.map_map]
    congr 1
    conv => rhs; rw [← List.map_id ws]
    exact List.map_congr_left fun w hw => (line_word n (h w hw)).2.2
  rw [b, List.length_append, List.length_map, List.length_map, Nat.add_sub_cancel_left]
/-- Words with empty lines ahead of each. -/
def linesF : List (Nat × List UInt8) → List (List UInt8)
  | [] => []
  | (g, w) :: r => List.replicate g [10] ++ lineW 2 w :: linesF r
def wantF : List (Nat × List UInt8) → List UInt8
  | [] => []
  | (g, w) :: r => (if g = 0 then [32] else feeds g) ++ (w ++ wantF r)
def ownsF : List (Nat × List UInt8) → List (List UInt8)
  | [] => []
  | (g, w) :: r => List.replicate g [] ++ ([32, 32] ++ w) :: ownsF r
theorem owns_lines (l : List (Nat × List UInt8)) (h : ∀ x ∈ l, Word x.2) : (linesF l).map ownL = ownsF l := by
  induction l with
  | nil => rfl
  | cons x r ih =>
    obtain ⟨g, w⟩ := x
    rw [linesF, ownsF, List.map_append, List.map_replicate, List.map_cons, own_line 2 (h (g, w) (by simp)), ih fun y hy => h y (by simp [hy])]
    rfl
theorem fold_gap (last : Option Bool) (g : Nat) (r : List (List UInt8 × Bool)) : ∀ k, foldG last k (List.replicate g ([], true) ++ r) = foldG last (k + g) r := by
  induction g with
  | zero => intro k; rfl
  | succ g ih =>
    intro k
    rw [List.replicate_succ, List.cons_append, foldG, ih (k + 1)]
    congr 1; omega
theorem core_gap (g : Nat) (o : List UInt8) (r : List (List UInt8)) (ho : emptyL o = false) : core (List.replicate g [] ++ o :: r) = List.replicate g [] ++ o :: core r := by
  induction g with
  | zero =>
    show core (o :: r) = o :: core r
    rw [core, if_neg (fun x => by rw [ho] at x; exact absurd x.2 (by decide))]
  | succ g ih =>
    rw [List.replicate_succ, List.cons_append, core, ih, if_neg (fun x => by simp at x)]
    rfl
theorem core_owns (l : List (Nat × List UInt8)) (h : ∀ x ∈ l, Word x.2) : core (ownsF l) = ownsF l := by
  induction l with
  | nil => rfl
  | cons x r ih =>
    obtain ⟨g, w⟩ := x
    have hw : emptyL ([32, 32] ++ w) = false := (line_word 2 (h (g, w) (by simp))).1
    rw [ownsF, core_gap g _ _ hw, ih fun y hy => h y (by simp [hy])]
theorem ind_gap (g : Nat) (o : List UInt8) (r : List (List UInt8)) (ho : emptyL o = false) : ind (List.replicate g [] ++ o :: r) = spaces o := by
  induction g with
  | zero =>
    show ind (o :: r) = _
    rw [ind, if_neg (by rw [ho]; decide)]
  | succ g ih => rw [List.replicate_succ, List.cons_append, ind, if_pos (show emptyL [] = true from rfl), ih]
theorem fold_owns (l : List (Nat × List UInt8)) (h : ∀ x ∈ l, Word x.2) : foldG (some false) 0 ((ownsF l).map fun o => (strip 2 o, emptyL o)) = wantF l := by
  induction l with
  | nil => rfl
  | cons x r ih =>
    obtain ⟨g, w⟩ := x
    have hw := line_word 2 (h (g, w) (by simp))
    have hi := (word_first (h (g, w) (by simp))).2.2
    rw [ownsF, List.map_append, List.map_replicate, List.map_cons]
    show foldG (some false) 0 (List.replicate g ([], true) ++ (strip 2 (List.replicate 2 32 ++ w), emptyL (List.replicate 2 32 ++ w)) :: _) = _
    rw [fold_gap, hw.1, hw.2.2, foldG, Nat.zero_add, hi, ih fun y hy => h y (by simp [hy]), wantF]
    rfl
/-- Folded words. -/
theorem text_folds (w : List UInt8) (l : List (Nat × List UInt8)) (hw : Word w) (h : ∀ x ∈ l, Word x.2) (m : Bool) :
    text true m false (linesF ((0, w) :: l)) = w ++ wantF l ++ (if m = true then [] else [10]) := by
  have hall : ∀ x ∈ (0, w) :: l, Word x.2 := fun x hx => by
    rcases List.mem_cons.1 hx with rfl | hx
    · exact hw
    · exact h x hx
  have hl := line_word 2 hw
  have hi := (word_first hw).2.2
  unfold text
  rw [owns_lines _ hall, core_owns _ hall, ownsF, if_neg (by simp)]
  have e : ind (List.replicate 0 [] ++ ([32, 32] ++ w) :: ownsF l) = 2 := (ind_gap 0 _ _ hl.1).trans hl.2.1
  rw [e]
  have b : bodyL true 2 (List.replicate 0 [] ++ ([32, 32] ++ w) :: ownsF l) = w ++ wantF l := by
    unfold bodyL
    rw [if_pos rfl]
    show foldG none 0 ((strip 2 (List.replicate 2 32 ++ w), emptyL (List.replicate 2 32 ++ w)) :: _) = _
    rw [hl.1, hl.2.2, foldG, hi, fold_owns l h]
    rfl
  rw [b]
  cases m <;> rfl
end Go.Proofs.Ytogiaaiphbamnaa.Bk
