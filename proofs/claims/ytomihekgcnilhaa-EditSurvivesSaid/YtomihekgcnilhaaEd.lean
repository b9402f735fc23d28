/- Edits, plainly: which may be, which are kept, where places are then. No program stands behind this text. -/
namespace Go.Proofs.Ytomihekgcnilhaa.Ed

structure E where
  f : Int
  t : Int
  p : List UInt8

/-- May an edit be, by itself, of a text of n bytes? 0: yes. -/
def one (n : Int) (e : E) : Int := if e.f < 0 ∨ e.t < e.f ∨ n < e.t then 1 else if 1000 < e.p.length then 4 else 0
theorem one_ok {n : Int} {e : E} (h : one n e = 0) : 0 ≤ e.f ∧ e.f ≤ e.t ∧ e.t ≤ n ∧ e.p.length ≤ 1000 := by
  unfold one at h
  split at h
  · omega
  · split at h <;> omega
theorem ok_one {n : Int} {e : E} (h : 0 ≤ e.f ∧ e.f ≤ e.t ∧ e.t ≤ n ∧ e.p.length ≤ 1000) : one n e = 0 := by
  unfold one
  rw [if_neg (by omega), if_neg (by omega)]
def low (q : Option Int) (f : Int) : Bool := match q with | some x => decide (f < x) | none => false
/-- What Check tells of edits behind one that ends at q. -/
def checkFrom (n : Int) : Option Int → List E → Int
  | _, [] => 0
  | q, e :: r => if one n e ≠ 0 then one n e else if low q e.f = true then 6 else checkFrom n (some e.t) r
def check (n : Int) (l : List E) : Int := if 200 < l.length then 3 else checkFrom n none l
def upon (a b : E) : Bool := decide ((a.f < b.t ∧ b.f < a.t) ∨ (a.f = b.f ∧ a.t = b.t))
def ahead (a b : E) : Bool := decide (a.f < b.f ∨ (a.f = b.f ∧ a.t < b.t))
/-- One put in where it belongs. -/
def ins (e : E) : List E → List E
  | [] => [e]
  | x :: r => if ahead x e = true then x :: ins e r else e :: x :: r
def step (n : Int) (out : List E) (e : E) : List E := if out.length < 200 ∧ one n e = 0 ∧ ∀ k ∈ out, upon e k = false then ins e out else out
def choose (n : Int) (l : List E) : List E := l.foldl (step n) []
/-- One stands wholly ahead of another one. -/
def Before (a b : E) : Prop := a.t ≤ b.f ∧ ahead a b = true
/-- What may be done: in order, none upon another. -/
def Good (n : Int) (l : List E) : Prop := l.Pairwise Before ∧ (∀ e ∈ l, one n e = 0) ∧ l.length ≤ 200

theorem before_of {n : Int} {a b : E} (ha : one n a = 0) (hb : one n b = 0) (hu : upon a b = false) (hh : ahead a b = true) : Before a b := by
  have h1 := one_ok ha
  have h2 := one_ok hb
  refine ⟨?_, hh⟩
  simp only [upon, decide_eq_false_iff_not] at hu
  simp only [ahead, decide_eq_true_eq] at hh
  omega
theorem not_ahead {a b : E} (h : ahead a b = false) (hu : upon a b = false) : ahead b a = true := by
  simp only [upon, decide_eq_false_iff_not] at hu
  simp only [ahead, decide_eq_false_iff_not, decide_eq_true_eq] at *
  omega
theorem upon_comm (a b : E) : upon a b = upon b a := by
  unfold upon
  congr 1
  exact propext ⟨fun h => by omega, fun h => by omega⟩
theorem ahead_trans {a b c : E} (h : ahead a b = true) (k : ahead b c = true) : ahead a c = true := by
  simp only [ahead, decide_eq_true_eq] at *
  omega
theorem ins_mem (e y : E) (l : List E) : y ∈ ins e l ↔ y = e ∨ y ∈ l := by
  induction l with
  | nil => simp [ins]
  | cons x r ih =>
    rw [ins]
    split
    · rw [List.mem_cons, ih, List.mem_cons]
      constructor
      · rintro (h | h | h)
        · exact .inr (.inl h)
        · exact .inl h
        · exact .inr (.inr h)
      · rintro (h | h | h)
        · exact .inr (.inl h)
        · exact .inl h
        · exact .inr (.inr h)
    · rw [List.mem_cons, List.mem_cons]
theorem ins_len (e : E) (l : List E) : (ins e l).length = l.length + 1 := by
  induction l with
  | nil => rfl
  | cons x r ih =>
    rw [ins]
    split
    · rw [List.length_cons, ih, List.length_cons]
    · rfl
theorem ins_good {n : Int} {e : E} {l : List E} (h : l.Pairwise Before) (hl : ∀ x ∈ l, one n x = 0) (he : one n e = 0) (hu : ∀ k ∈ l, upon e k = false) : (ins e l).Pairwise Before := by
  induction l with
  | nil => simp [ins]
  | cons x r ih =>
    obtain ⟨h1, h2⟩ := List.pairwise_cons.1 h
    have hx := hu x (List.mem_cons_self ..)
    rw [ins]
    split
    · rename_i ha
      rw [List.pairwise_cons]
      refine ⟨fun y hy => ?_, ih h2 (fun y hy => hl y (List.mem_cons_of_mem _ hy)) (fun y hy => hu y (List.mem_cons_of_mem _ hy))⟩
      rcases (ins_mem e y r).1 hy with rfl | hy
      · exact before_of (hl x (List.mem_cons_self ..)) he (by rw [upon_comm]; exact hx) ha
      · exact h1 y hy
    · rename_i ha
      have ha' : ahead e x = true := not_ahead (by simpa using ha) (by rw [upon_comm]; exact hx)
      rw [List.pairwise_cons]
      refine ⟨fun y hy => ?_, h⟩
      rcases List.mem_cons.1 hy with rfl | hy
      · exact before_of he (hl y (List.mem_cons_self ..)) hx ha'
      · exact before_of he (hl y (List.mem_cons_of_mem _ hy)) (hu y (List.mem_cons_of_mem _ hy)) (ahead_trans ha' (h1 y hy).2)
theorem step_good {n : Int} {out : List E} {e : E} (h : Good n out) : Good n (step n out e) := by
  unfold step
  split
  · rename_i hc
    obtain ⟨c1, c2, c3⟩ := hc
    refine ⟨ins_good h.1 h.2.1 c2 c3, fun y hy => ?_, by rw [ins_len]; omega⟩
    rcases (ins_mem e y out).1 hy with rfl | hy
    · exact c2
    · exact h.2.1 y hy
  · exact h
theorem good_nil (n : Int) : Good n [] := ⟨List.Pairwise.nil, (fun e he => by cases he), Nat.zero_le _⟩
theorem fold_good {n : Int} (l : List E) : ∀ out, Good n out → Good n (l.foldl (step n) out) := by
  induction l with
  | nil => intro out h; exact h
  | cons e r ih => intro out h; exact ih _ (step_good h)
theorem choose_good (n : Int) (l : List E) : Good n (choose n l) := fold_good l [] (good_nil n)
theorem checkFrom_good {n : Int} (l : List E) : ∀ q : Option Int, l.Pairwise Before → (∀ e ∈ l, one n e = 0) → (∀ x, q = some x → ∀ e ∈ l, x ≤ e.f) → checkFrom n q l = 0 := by
  induction l with
  | nil => intro q _ _ _; rfl
  | cons e r ih =>
    intro q h hl hq
    obtain ⟨h1, h2⟩ := List.pairwise_cons.1 h
    have he := hl e (List.mem_cons_self ..)
    unfold checkFrom
    rw [if_neg (by simp [he])]
    have hn : low q e.f = false := by
      cases q with
      | none => rfl
      | some x => have := hq x rfl e (List.mem_cons_self ..); simp [low]; omega
    rw [hn, if_neg (by simp)]
    exact ih (some e.t) h2 (fun y hy => hl y (List.mem_cons_of_mem _ hy)) (fun x hx y hy => by rw [← Option.some.inj hx]; exact (h1 y hy).1)
theorem check_good {n : Int} {l : List E} (h : Good n l) : check n l = 0 := by
  unfold check
  rw [if_neg (by have := h.2.2; omega)]
  exact checkFrom_good l none h.1 h.2.1 (fun x hx => by cases hx)
theorem ins_last {e : E} {l : List E} (h : ∀ x ∈ l, ahead x e = true) : ins e l = l ++ [e] := by
  induction l with
  | nil => rfl
  | cons x r ih =>
    rw [ins, if_pos (h x (List.mem_cons_self ..)), ih (fun y hy => h y (List.mem_cons_of_mem _ hy))]
    rfl
theorem before_upon {n : Int} {a b : E} (ha : one n a = 0) (hb : one n b = 0) (h : Before a b) : upon b a = false := by
  have h1 := one_ok ha
  have h2 := one_ok hb
  obtain ⟨h3, h4⟩ := h
  simp only [ahead, decide_eq_true_eq] at h4
  simp only [upon, decide_eq_false_iff_not]
  omega
/-- What may be done stays as it is. -/
theorem fold_same {n : Int} (r : List E) : ∀ out, Good n (out ++ r) → r.foldl (step n) out = out ++ r := by
  induction r with
  | nil => intro out _; simp
  | cons e r ih =>
    intro out h
    obtain ⟨h1, h2, h3⟩ := h
    have hp := List.pairwise_append.1 h1
    have he := h2 e (by simp)
    have hs : step n out e = out ++ [e] := by
      unfold step
      rw [if_pos ⟨by simp only [List.length_append, List.length_cons] at h3; omega, he, fun k hk => before_upon (h2 k (by simp [hk])) he (hp.2.2 k hk e (by simp))⟩]
      exact ins_last (fun x hx => (hp.2.2 x hx e (by simp)).2)
    rw [List.foldl_cons, hs, ih (out ++ [e]) (by rw [List.append_assoc]; exact ⟨h1, h2, h3⟩), List.append_assoc]
    rfl
theorem choose_same {n : Int} {l : List E} (h : Good n l) : choose n l = l := fold_same l [] h
/-- Those that were taken stay; one that may be is taken, or lies upon one that is. -/
theorem step_keeps {n : Int} {out : List E} {e y : E} (h : y ∈ out) : y ∈ step n out e := by
  unfold step
  split
  · exact (ins_mem e y out).2 (.inr h)
  · exact h
theorem fold_keeps {n : Int} (l : List E) : ∀ (out : List E) (y : E), y ∈ out → y ∈ l.foldl (step n) out := by
  induction l with
  | nil => intro out y h; exact h
  | cons e r ih => intro out y h; exact ih _ y (step_keeps h)
theorem step_len {n : Int} {out : List E} {e : E} : (step n out e).length ≤ out.length + 1 := by
  unfold step
  split
  · rw [ins_len]; exact Nat.le_refl _
  · omega
theorem step_near {n : Int} {out : List E} {e : E} (h : out.length < 200) (he : one n e = 0) : e ∈ step n out e ∨ ∃ k ∈ step n out e, upon e k = true := by
  unfold step
  by_cases hc : ∀ k ∈ out, upon e k = false
  · rw [if_pos ⟨h, he, hc⟩]
    exact .inl ((ins_mem e e out).2 (.inl rfl))
  · rw [if_neg (fun hh => hc hh.2.2)]
    refine .inr ?_
    apply Classical.byContradiction
    intro hno
    apply hc
    intro k hk
    cases hu : upon e k with
    | false => rfl
    | true => exact absurd ⟨k, hk, hu⟩ hno
theorem fold_near {n : Int} (l : List E) : ∀ (out : List E), out.length + l.length ≤ 200 → (∀ e ∈ l, one n e = 0) → ∀ e ∈ l, e ∈ l.foldl (step n) out ∨ ∃ k ∈ l.foldl (step n) out, upon e k = true := by
  induction l with
  | nil => intro out _ _ e he; cases he
  | cons x r ih =>
    intro out hlen hl e he
    rw [List.foldl_cons]
    rw [List.length_cons] at hlen
    rcases List.mem_cons.1 he with rfl | he
    · rcases step_near (out := out) (by omega) (hl e (List.mem_cons_self ..)) with h | ⟨k, hk, hu⟩
      · exact .inl (fold_keeps r _ e h)
      · exact .inr ⟨k, fold_keeps r _ k hk, hu⟩
    · exact ih _ (by have := @step_len n out x; omega) (fun y hy => hl y (List.mem_cons_of_mem _ hy)) e he
theorem choose_first {n : Int} {e : E} {r : List E} (he : one n e = 0) : e ∈ choose n (e :: r) := by
  unfold choose
  rw [List.foldl_cons]
  apply fold_keeps
  unfold step
  rw [if_pos ⟨by simp, he, fun k hk => by cases hk⟩]
  exact (ins_mem e e []).2 (.inl rfl)

/-! ### What comes out, and where places are then -/
/-- What comes out of b from place k on (l may be done). -/
def applyFrom (b : List UInt8) : Nat → List E → List UInt8
  | k, [] => b.drop k
  | k, e :: r => (b.drop k).take (e.f.toNat - k) ++ e.p ++ applyFrom b e.t.toNat r
def apply (b : List UInt8) (l : List E) : List UInt8 := applyFrom b 0 l
/-- Where a place is then, if all ahead made it `by` further. -/
def mapFrom : Int → List E → Int → Int
  | d, [], x => x + d
  | d, e :: r, x => if e.t ≤ x then mapFrom (d + e.p.length - (e.t - e.f)) r x else if e.f < x then e.f + d + e.p.length else mapFrom d r x
def map (l : List E) (x : Int) : Int := mapFrom 0 l x
/-- How much longer it becomes. -/
def more : List E → Int
  | [] => 0
  | e :: r => e.p.length - (e.t - e.f) + more r
/-- From place k on: in order, within n. -/
def Fits (n : Nat) (k : Nat) (l : List E) : Prop := l.Pairwise Before ∧ (∀ e ∈ l, one n e = 0 ∧ (k : Int) ≤ e.f)
theorem fits_tail {n k : Nat} {e : E} {r : List E} (h : Fits n k (e :: r)) : Fits n e.t.toNat r := by
  obtain ⟨h1, h2⟩ := h
  obtain ⟨h3, h4⟩ := List.pairwise_cons.1 h1
  refine ⟨h4, fun y hy => ⟨(h2 y (List.mem_cons_of_mem _ hy)).1, ?_⟩⟩
  have h5 := (h3 y hy).1
  have h6 := one_ok (h2 e (List.mem_cons_self ..)).1
  omega
theorem fits_of {n : Nat} {l : List E} (h : Good n l) : Fits n 0 l := ⟨h.1, fun e he => ⟨h.2.1 e he, (one_ok (h.2.1 e he)).1⟩⟩
theorem apply_len {b : List UInt8} (l : List E) : ∀ k : Nat, Fits b.length k l → k ≤ b.length → ((applyFrom b k l).length : Int) = b.length - k + more l := by
  induction l with
  | nil => intro k _ hk; simp only [applyFrom, more, List.length_drop]; omega
  | cons e r ih =>
    intro k h hk
    have h1 := one_ok (h.2 e (List.mem_cons_self ..)).1
    have h2 := (h.2 e (List.mem_cons_self ..)).2
    have h3 := ih e.t.toNat (fits_tail h) (by omega)
    simp only [applyFrom, more, List.length_append, List.length_take, List.length_drop]
    omega
/-- Behind all edits, and from the end on. -/
theorem map_end {n : Nat} (l : List E) : ∀ (k : Nat) (d x : Int), Fits n k l → (n : Int) ≤ x → mapFrom d l x = x + d + more l := by
  induction l with
  | nil => intro k d x _ _; simp only [mapFrom, more]; omega
  | cons e r ih =>
    intro k d x h hx
    have h1 := one_ok (h.2 e (List.mem_cons_self ..)).1
    rw [mapFrom, if_pos (by omega), ih e.t.toNat _ x (fits_tail h) hx, more]
    omega
/-- Ahead of all edits that are left. -/
theorem map_low {n : Nat} (l : List E) : ∀ (k : Nat) (d x : Int), Fits n k l → x ≤ k → (∀ e ∈ l, e.t ≤ x → False) ∨ l = [] → mapFrom d l x = x + d := by
  induction l with
  | nil => intro k d x _ _ _; rfl
  | cons e r ih =>
    intro k d x h hx hno
    have h1 := one_ok (h.2 e (List.mem_cons_self ..)).1
    have h2 := (h.2 e (List.mem_cons_self ..)).2
    have hno' : ∀ y ∈ e :: r, y.t ≤ x → False := by
      rcases hno with h | h
      · exact h
      · cases h
    rw [mapFrom, if_neg (fun hc => hno' e (List.mem_cons_self ..) hc), if_neg (by omega)]
    exact ih e.t.toNat d x (fits_tail h) (by omega) (.inl (fun y hy => hno' y (List.mem_cons_of_mem _ hy)))
/-- Places from the last cut on lie from where the next byte comes on. -/
theorem map_ge {n : Nat} (l : List E) : ∀ (k : Nat) (d x : Int), Fits n k l → (k : Int) ≤ x → (k : Int) + d ≤ mapFrom d l x := by
  induction l with
  | nil => intro k d x _ hx; simp only [mapFrom]; omega
  | cons e r ih =>
    intro k d x h hx
    have h1 := one_ok (h.2 e (List.mem_cons_self ..)).1
    have h2 := (h.2 e (List.mem_cons_self ..)).2
    rw [mapFrom]
    split
    · have := ih e.t.toNat (d + e.p.length - (e.t - e.f)) x (fits_tail h) (by omega)
      omega
    · split
      · omega
      · rename_i hc hc2
        rw [map_low r e.t.toNat d x (fits_tail h) (by omega) (.inl (fun y hy hyt => by
          have := (h.2 y (List.mem_cons_of_mem _ hy)).1
          have h3 := one_ok this
          have h4 := (List.pairwise_cons.1 h.1).1 y hy
          have h5 := h4.1
          omega))]
        omega
/-- A place ahead of what is left of the next edit. -/
theorem map_front {n k : Nat} {e : E} {r : List E} {d x : Int} (h : Fits n k (e :: r)) (h1 : x < e.t) (h2 : x ≤ e.f) : mapFrom d (e :: r) x = x + d := by
  have h3 := one_ok (h.2 e (List.mem_cons_self ..)).1
  rw [mapFrom, if_neg (by omega), if_neg (by omega)]
  exact map_low r e.t.toNat d x (fits_tail h) (by omega) (.inl (fun y hy hyt => by
    have h4 := one_ok (h.2 y (List.mem_cons_of_mem _ hy)).1
    have h5 := ((List.pairwise_cons.1 h.1).1 y hy).1
    omega))
theorem map_mono {n : Nat} (l : List E) : ∀ (k : Nat) (d x y : Int), Fits n k l → (k : Int) ≤ x → x ≤ y → mapFrom d l x ≤ mapFrom d l y := by
  induction l with
  | nil => intro k d x y _ _ hxy; simp only [mapFrom]; omega
  | cons e r ih =>
    intro k d x y h hx hxy
    have h1 := one_ok (h.2 e (List.mem_cons_self ..)).1
    have hge := map_ge r e.t.toNat (d + e.p.length - (e.t - e.f)) y (fits_tail h)
    by_cases c1 : e.t ≤ x
    · rw [mapFrom, if_pos c1, mapFrom, if_pos (by omega)]
      exact ih e.t.toNat _ x y (fits_tail h) (by omega) hxy
    · by_cases c2 : e.f < x
      · rw [mapFrom, if_neg c1, if_pos c2, mapFrom]
        split
        · have := hge (by omega); omega
        · rw [if_pos (by omega)]; omega
      · rw [map_front h (by omega) (by omega)]
        by_cases c3 : e.t ≤ y
        · rw [mapFrom, if_pos c3]
          have := hge (by omega); omega
        · by_cases c4 : e.f < y
          · rw [mapFrom, if_neg c3, if_pos c4]; omega
          · rw [map_front h (by omega) (by omega)]; omega
/-- A byte that no edit touches is there. -/
theorem map_free {b : List UInt8} (l : List E) : ∀ (k : Nat) (d : Int) (x : Nat), Fits b.length k l → k ≤ x → x < b.length → (∀ e ∈ l, ¬ (e.f ≤ x ∧ (x : Int) < e.t)) →
    (k : Int) + d ≤ mapFrom d l x ∧ (applyFrom b k l)[(mapFrom d l x - (k + d)).toNat]? = b[x]? := by
  induction l with
  | nil =>
    intro k d x _ hk hx _
    refine ⟨by simp only [mapFrom]; omega, ?_⟩
    simp only [mapFrom, applyFrom, List.getElem?_drop]
    congr 1
    omega
  | cons e r ih =>
    intro k d x h hk hx hfree
    have h1 := one_ok (h.2 e (List.mem_cons_self ..)).1
    have h2 := (h.2 e (List.mem_cons_self ..)).2
    have hf := hfree e (List.mem_cons_self ..)
    have hpre : ((b.drop k).take (e.f.toNat - k)).length = e.f.toNat - k := by rw [List.length_take, List.length_drop]; omega
    refine ⟨map_ge (e :: r) k d x h (by omega), ?_⟩
    by_cases c1 : e.t ≤ (x : Int)
    · obtain ⟨g1, g2⟩ := ih e.t.toNat (d + e.p.length - (e.t - e.f)) x (fits_tail h) (by omega) hx (fun y hy => hfree y (List.mem_cons_of_mem _ hy))
      rw [mapFrom, if_pos c1, applyFrom, List.getElem?_append_right (by rw [List.length_append, hpre]; omega), List.length_append, hpre, ← g2]
      congr 1
      omega
    · have c2 : (x : Int) < e.f := by omega
      rw [map_front h (by omega) (by omega), applyFrom, List.append_assoc, List.getElem?_append_left (by rw [hpre]; omega), List.getElem?_take, if_pos (by omega), List.getElem?_drop]
      congr 1
      omega
theorem map_bound {b : List UInt8} {l : List E} (h : Good b.length l) {x : Int} (h0 : 0 ≤ x) (h1 : x ≤ b.length) : 0 ≤ map l x ∧ map l x ≤ (apply b l).length := by
  have hf := fits_of h
  have e1 := map_ge l 0 0 x hf (by simpa using h0)
  have e2 := map_mono l 0 0 x b.length hf (by simpa using h0) h1
  have e3 := map_end l 0 0 b.length hf (Int.le_refl _)
  have e4 := apply_len l 0 hf (Nat.zero_le _)
  unfold map apply
  omega
theorem map_at_end {b : List UInt8} {l : List E} (h : Good b.length l) (j : Nat) : map l (b.length + j) = (apply b l).length + j := by
  have hf := fits_of h
  have e3 := map_end l 0 0 (b.length + j) hf (by omega)
  have e4 := apply_len l 0 hf (Nat.zero_le _)
  unfold map apply
  omega
theorem map_byte {b : List UInt8} {l : List E} (h : Good b.length l) {x : Nat} (hx : x < b.length) (hfree : ∀ e ∈ l, ¬ (e.f ≤ x ∧ (x : Int) < e.t)) : 0 ≤ map l x ∧ (apply b l)[(map l x).toNat]? = b[x]? := by
  obtain ⟨h1, h2⟩ := map_free l 0 0 x (fits_of h) (Nat.zero_le _) hx hfree
  unfold map apply
  simp only [Int.natCast_zero, Int.add_zero, Int.sub_zero] at h1 h2
  exact ⟨h1, h2⟩
/-- An edit that puts what it takes changes nothing. -/
theorem apply_same {b : List UInt8} {e : E} (h : one b.length e = 0) (hp : e.p = (b.drop e.f.toNat).take (e.t.toNat - e.f.toNat)) : apply b [e] = b := by
  have h1 := one_ok h
  unfold apply
  rw [applyFrom, applyFrom, hp, List.drop_zero, Nat.sub_zero]
  have e1 : b.drop e.t.toNat = (b.drop e.f.toNat).drop (e.t.toNat - e.f.toNat) := by rw [List.drop_drop]; congr 1; omega
  rw [e1, List.append_assoc, List.take_append_drop, List.take_append_drop]
theorem apply_nil (b : List UInt8) : apply b [] = b := by simp [apply, applyFrom]
end Go.Proofs.Ytomihekgcnilhaa.Ed
