/- Plain facts on quoted texts (no program text): what they say, how they are written; what was written is read as it was. -/
import Derived.Test.YtmkchfpmlidaiaaCh
namespace Go.Proofs.Ytmkchfpmlidaiaa.Qo
open Go.Proofs.Ytmkchfpmlidaiaa.Es
open Go.Lib Go.RowKit

/-- Of a TSingle behind its first byte: what it says, and whether it ends. -/
def sgT : List UInt8 → List UInt8 × Bool
  | [] => ([], false)
  | [c] => if c = 39 then ([], true) else ([c], false)
  | c :: d :: r => if c = 39 then (if d = 39 then (39 :: (sgT r).1, (sgT r).2) else ([], true)) else (c :: (sgT (d :: r)).1, (sgT (d :: r)).2)
theorem sgT_on (c : UInt8) (r : List UInt8) (h : c ≠ 39) : sgT (c :: r) = (c :: (sgT r).1, (sgT r).2) := by
  cases r with
  | nil => simp [sgT, h]
  | cons d t => rw [sgT, if_neg h]
theorem sgT_two (r : List UInt8) : sgT (39 :: 39 :: r) = (39 :: (sgT r).1, (sgT r).2) := by rw [sgT, if_pos rfl, if_pos rfl]
theorem sgT_end (d : UInt8) (r : List UInt8) (h : d ≠ 39) : sgT (39 :: d :: r) = ([], true) := by rw [sgT, if_pos rfl, if_neg h]
theorem sgT_last : sgT [39] = ([], true) := rfl
/-- Of a TDouble from place p on: what it says, which escapes are none, whether it ends. -/
def dbF : Nat → Nat → List UInt8 → List UInt8 × List Nat × Bool
  | 0, _, _ => ([], [], false)
  | _ + 1, _, [] => ([], [], false)
  | f + 1, p, c :: r =>
    if c = 34 then ([], [], true)
    else if c = 92 then (match esc (c :: r) with
      | some (v, k) => ((Utf8.encode v).data.toList ++ (dbF f (p + k) ((c :: r).drop k)).1, (dbF f (p + k) ((c :: r).drop k)).2)
      | none => (c :: (dbF f (p + 1) r).1, p :: (dbF f (p + 1) r).2.1, (dbF f (p + 1) r).2.2))
    else (c :: (dbF f (p + 1) r).1, (dbF f (p + 1) r).2)
theorem esc_len {l : List UInt8} {v : Int} {k : Nat} (h : esc l = some (v, k)) : 2 ≤ k ∧ k ≤ l.length := by
  match l with
  | [] => cases h
  | [_] => cases h
  | a :: c :: rest =>
    by_cases ha : a.toNat = 92
    · cases hs : shortI c.toNat with
      | some u =>
        rw [esc_simple ha hs] at h
        injection h with h; injection h with h1 h2; subst h2; simp
      | none =>
        by_cases hd : digsI c.toNat = 0 ∨ rest.length < digsI c.toNat
        · rw [esc_lacks ha hs hd] at h; cases h
        · cases hn : sign (rest.take (digsI c.toNat)) with
          | none => rw [esc_bad ha hs (by omega) (by omega) hn] at h; cases h
          | some u =>
            rw [esc_good ha hs (by omega) (by omega) hn] at h
            injection h with h; injection h with h1 h2; subst h2; simp; omega
    · rw [esc_other ha] at h; cases h
theorem dbF_fuel : ∀ (f g p : Nat) (l : List UInt8), l.length ≤ f → l.length ≤ g → dbF f p l = dbF g p l
  | 0, g, p, l, h, _ => by
    obtain rfl : l = [] := List.eq_nil_of_length_eq_zero (by omega)
    cases g <;> rfl
  | f + 1, 0, p, l, _, h => by
    obtain rfl : l = [] := List.eq_nil_of_length_eq_zero (by omega)
    rfl
  | f + 1, g + 1, p, [], _, _ => rfl
  | f + 1, g + 1, p, c :: r, hf, hg => by
    have h1 := dbF_fuel f g (p + 1) r (by simp at hf; omega) (by simp at hg; omega)
    rw [dbF, dbF, h1]
    by_cases q : c = 34
    · rw [if_pos q, if_pos q]
    · rw [if_neg q, if_neg q]
      by_cases q2 : c = 92
      · rw [if_pos q2, if_pos q2]
        cases he : esc (c :: r) with
        | none => rfl
        | some x =>
          obtain ⟨v, k⟩ := x
          have := esc_len he
          have h2 := dbF_fuel f g (p + k) ((c :: r).drop k) (by rw [List.length_drop]; omega) (by rw [List.length_drop]; omega)
          simp only [h2]
      · rw [if_neg q2, if_neg q2]
def dbT (p : Nat) (l : List UInt8) : List UInt8 × List Nat × Bool := dbF l.length p l
theorem dbT_nil (p : Nat) : dbT p [] = ([], [], false) := rfl
theorem dbT_end (p : Nat) (r : List UInt8) : dbT p (34 :: r) = ([], [], true) := by
  unfold dbT; rw [List.length_cons, dbF, if_pos rfl]
theorem dbT_on (p : Nat) (c : UInt8) (r : List UInt8) (h1 : c ≠ 34) (h2 : c ≠ 92) : dbT p (c :: r) = (c :: (dbT (p + 1) r).1, (dbT (p + 1) r).2) := by
  unfold dbT; rw [List.length_cons, dbF, if_neg h1, if_neg h2]
theorem dbT_esc (p : Nat) (r : List UInt8) (v : Int) (k : Nat) (h : esc (92 :: r) = some (v, k)) : dbT p (92 :: r) = ((Utf8.encode v).data.toList ++ (dbT (p + k) ((92 :: r).drop k)).1, (dbT (p + k) ((92 :: r).drop k)).2) := by
  have hl := esc_len h
  have e := dbF_fuel r.length ((92 :: r).drop k).length (p + k) ((92 :: r).drop k) (by rw [List.length_drop, List.length_cons]; omega) (Nat.le_refl _)
  unfold dbT
  rw [List.length_cons, dbF, if_neg (by decide), if_pos rfl, h]
  simp only [e]
theorem dbT_bad (p : Nat) (r : List UInt8) (h : esc (92 :: r) = none) : dbT p (92 :: r) = (92 :: (dbT (p + 1) r).1, p :: (dbT (p + 1) r).2.1, (dbT (p + 1) r).2.2) := by
  unfold dbT
  rw [List.length_cons, dbF, if_neg (by decide), if_pos rfl, h]
/-- What a token says. -/
def textT (kind : Int) (l : List UInt8) : List UInt8 × List Nat × Bool :=
  if l = [] then ([], [], false)
  else if kind = 15 then (l, [], true)
  else if kind = 16 then ((sgT (l.drop 1)).1, [], (sgT (l.drop 1)).2)
  else if kind = 17 then dbT 1 (l.drop 1)
  else ([], [], false)
/-- A digit, written. -/
def dig (n : Nat) : UInt8 := if n < 10 then UInt8.ofNat (48 + n) else UInt8.ofNat (87 + n)
/-- A byte, written. -/
def one (c : UInt8) : List UInt8 :=
  if c = 34 then [92, 34] else if c = 92 then [92, 92] else if c = 0 then [92, 48] else if c = 9 then [92, 116] else if c = 10 then [92, 110] else if c = 13 then [92, 114]
  else if c < 32 then [92, 120, dig (c.toNat / 16), dig (c.toNat % 16)] else [c]
def body (l : List UInt8) : List UInt8 := l.flatMap one
def writeT (l : List UInt8) : List UInt8 := 34 :: (body l ++ [34])
/-- A byte that is written with a backslash is read as itself, whatever stands behind. -/
theorem one_hex : ∀ c : Fin 32, sign [dig (c.val / 16), dig (c.val % 16)] = some (c.val : Int) := by decide +kernel
theorem enc_low : ∀ c : Fin 128, (Utf8.encode (c.val : Int)).data.toList = [UInt8.ofNat c.val] := by decide +kernel
theorem enc_byte (c : UInt8) (h : c.toNat < 128) : (Utf8.encode (c.toNat : Int)).data.toList = [c] := by
  have := enc_low ⟨c.toNat, h⟩
  rw [this]
  exact congrArg (fun x => [x]) UInt8.ofNat_toNat
theorem u8_lt (c : UInt8) (n : Nat) (hn : n < 256) : c < UInt8.ofNat n ↔ c.toNat < n := by
  rw [UInt8.lt_iff_toNat_lt, UInt8.toNat_ofNat_of_lt' (by simpa using hn)]
theorem u8_eq (c : UInt8) (n : Nat) (h : c.toNat = n) : c = UInt8.ofNat n := by
  subst h; exact UInt8.ofNat_toNat.symm
/-- What is written of a byte: itself, or an escape that is read as it. -/
theorem one_is (c : UInt8) : (c ≠ 34 ∧ c ≠ 92 ∧ one c = [c] ∧ c.toNat ≠ 10 ∧ c.toNat ≠ 13) ∨ (c.toNat < 128 ∧ (∀ r, esc (one c ++ r) = some ((c.toNat : Int), (one c).length)) ∧ ∃ x, one c = 92 :: x) := by
  by_cases q1 : c = 34
  · subst q1; exact .inr ⟨by decide, fun r => esc_simple (by decide) (by decide), _, rfl⟩
  by_cases q2 : c = 92
  · subst q2; exact .inr ⟨by decide, fun r => esc_simple (by decide) (by decide), _, rfl⟩
  by_cases q3 : c = 0
  · subst q3; exact .inr ⟨by decide, fun r => esc_simple (by decide) (by decide), _, rfl⟩
  by_cases q4 : c = 9
  · subst q4; exact .inr ⟨by decide, fun r => esc_simple (by decide) (by decide), _, rfl⟩
  by_cases q5 : c = 10
  · subst q5; exact .inr ⟨by decide, fun r => esc_simple (by decide) (by decide), _, rfl⟩
  by_cases q6 : c = 13
  · subst q6; exact .inr ⟨by decide, fun r => esc_simple (by decide) (by decide), _, rfl⟩
  have e : one c = if c < 32 then [92, 120, dig (c.toNat / 16), dig (c.toNat % 16)] else [c] := by
    unfold one
    rw [if_neg q1, if_neg q2, if_neg q3, if_neg q4, if_neg q5, if_neg q6]
  by_cases q7 : c < 32
  · rw [if_pos q7] at e
    have hlt : c.toNat < 32 := (u8_lt c 32 (by decide)).1 q7
    refine .inr ⟨by omega, fun r => ?_, _, e⟩
    rw [e]
    have h := one_hex ⟨c.toNat, hlt⟩
    exact esc_good (a := 92) (c := 120) (r := dig (c.toNat / 16) :: dig (c.toNat % 16) :: r) (by decide) (by decide) (by decide) (by show 2 ≤ _; simp) h
  · rw [if_neg q7] at e
    have hge : ¬ c.toNat < 32 := fun h => q7 ((u8_lt c 32 (by decide)).2 h)
    exact .inl ⟨q1, q2, e, by omega, by omega⟩
theorem dbT_one (p : Nat) (c : UInt8) (r : List UInt8) : dbT p (one c ++ r) = (c :: (dbT (p + (one c).length) r).1, (dbT (p + (one c).length) r).2) := by
  rcases one_is c with ⟨h1, h2, h3, -, -⟩ | ⟨h1, h2, x, h3⟩
  · rw [h3]; exact dbT_on p c r h1 h2
  · have he := h2 r
    have hl : (one c ++ r).drop (one c).length = r := List.drop_left
    rw [h3] at he hl
    rw [h3]
    rw [show (92 :: x) ++ r = 92 :: (x ++ r) from rfl] at he hl ⊢
    rw [dbT_esc p _ _ _ he, hl, enc_byte c h1]
    rfl
theorem body_cons (c : UInt8) (l : List UInt8) : body (c :: l) = one c ++ body l := rfl
/-- P702. -/
theorem dbT_body (l : List UInt8) : ∀ p, dbT p (body l ++ [34]) = (l, [], true) := by
  induction l with
  | nil => intro p; exact dbT_end p []
  | cons c l ih =>
    intro p
    rw [body_cons, List.append_assoc, dbT_one, ih]
/-- A TSingle's signs, each single quote twice. -/
def twice (l : List UInt8) : List UInt8 := l.flatMap fun c => if c = 39 then [39, 39] else [c]
theorem sgT_twice (l : List UInt8) : sgT (twice l ++ [39]) = (l, true) ∧ sgT (twice l) = (l, false) := by
  induction l with
  | nil => exact ⟨rfl, rfl⟩
  | cons c l ih =>
    by_cases q : c = 39
    · subst q
      have e : twice (39 :: l) = 39 :: 39 :: twice l := rfl
      rw [e]
      refine ⟨?_, ?_⟩
      · show sgT (39 :: 39 :: (twice l ++ [39])) = _
        rw [sgT_two, ih.1]
      · rw [sgT_two, ih.2]
    · have e : twice (c :: l) = c :: twice l := by unfold twice; rw [List.flatMap_cons, if_neg q]; rfl
      rw [e]
      refine ⟨?_, ?_⟩
      · show sgT (c :: (twice l ++ [39])) = _
        rw [sgT_on c _ q, ih.1]
      · rw [sgT_on c _ q, ih.2]
/-- Escapes that are none (true), and breaks (false). -/
def badL (l : List Bool) : List UInt8 := l.flatMap fun b => if b = true then [92, 113] else [92, 110]
def badW (l : List Bool) : List UInt8 := l.flatMap fun b => if b = true then [92, 113] else [10]
def badP : Nat → List Bool → List Nat
  | _, [] => []
  | p, b :: l => if b = true then p :: badP (p + 2) l else badP (p + 2) l
theorem dbT_bads (l : List Bool) : ∀ p, dbT p (badL l ++ [34]) = (badW l, badP p l, true) := by
  induction l with
  | nil => intro p; exact dbT_end p []
  | cons b l ih =>
    intro p
    cases b with
    | true =>
      have e : badL (true :: l) ++ [34] = 92 :: 113 :: (badL l ++ [34]) := rfl
      rw [e, dbT_bad p _ (esc_lacks (by decide) (by decide) (.inl (by decide))), dbT_on (p + 1) 113 _ (by decide) (by decide), ih]
      rfl
    | false =>
      have e : badL (false :: l) ++ [34] = 92 :: 110 :: (badL l ++ [34]) := rfl
      rw [e, dbT_esc p _ 10 2 (esc_simple (by decide) (by decide)), show (92 :: 110 :: (badL l ++ [34])).drop 2 = badL l ++ [34] from rfl, ih]
      rfl
theorem badP_len (l : List Bool) : ∀ p, (badP p l).length = l.countP (· == true) := by
  induction l with
  | nil => intro p; rfl
  | cons b l ih => intro p; cases b <;> simp [badP, ih]
theorem badL_len (l : List Bool) : (badL l).length = 2 * l.length := by
  induction l with
  | nil => rfl
  | cons b l ih =>
    have : (badL (b :: l)).length = 2 + (badL l).length := by cases b <;> simp [badL] <;> omega
    rw [this, ih, List.length_cons]; omega
/-- The places: in order, each a backslash. -/
theorem badP_at (l : List Bool) : ∀ p (pre : List UInt8), pre.length = p → ∀ x ∈ badP p l, p ≤ x ∧ x + 1 < p + 2 * l.length + 1 ∧ (pre ++ badL l)[x]? = some 92 := by
  induction l with
  | nil => intro p pre _ x hx; cases hx
  | cons b l ih =>
    intro p pre hp x hx
    have e : pre ++ badL (b :: l) = (pre ++ (if b = true then [92, 113] else [92, 110])) ++ badL l := by
      show pre ++ ((if b = true then [92, 113] else [92, 110]) ++ badL l) = _
      rw [List.append_assoc]
    have hl : (pre ++ (if b = true then ([92, 113] : List UInt8) else [92, 110])).length = p + 2 := by rw [List.length_append, hp]; cases b <;> rfl
    have hgo : ∀ x ∈ badP (p + 2) l, p ≤ x ∧ x + 1 < p + 2 * (b :: l).length + 1 ∧ (pre ++ badL (b :: l))[x]? = some 92 := by
      intro x hx
      have := ih (p + 2) _ hl x hx
      rw [e]
      exact ⟨by omega, by rw [List.length_cons]; omega, this.2.2⟩
    cases b with
    | true =>
      rw [badP, if_pos rfl] at hx
      rcases List.mem_cons.1 hx with rfl | hx
      · refine ⟨Nat.le_refl _, by rw [List.length_cons]; omega, ?_⟩
        rw [List.getElem?_append_right (by omega), hp, Nat.sub_self]
        rfl
      · exact hgo x hx
    | false =>
      rw [badP, if_neg (by decide)] at hx
      exact hgo x hx
theorem badP_up (l : List Bool) : ∀ p, (badP p l).Pairwise (· < ·) := by
  induction l with
  | nil => intro p; exact List.Pairwise.nil
  | cons b l ih =>
    intro p
    cases b with
    | true =>
      rw [badP, if_pos rfl]
      refine List.Pairwise.cons ?_ (ih (p + 2))
      intro x hx
      have := (badP_at l (p + 2) (List.replicate (p + 2) 0) (by simp) x hx).1
      omega
    | false => rw [badP, if_neg (by decide)]; exact ih (p + 2)
end Go.Proofs.Ytmkchfpmlidaiaa.Qo
