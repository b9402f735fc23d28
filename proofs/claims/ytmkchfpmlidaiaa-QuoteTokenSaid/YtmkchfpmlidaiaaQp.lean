/- Plain facts: the tokens of a dash, a blank, and a text that is written with quotes (no program text). -/
import Derived.Test.YtmkchfpmlidaiaaQo
import Derived.Test.YtmkchfpmlidaiaaSo
namespace Go.Proofs.Ytmkchfpmlidaiaa.Qo
open Go.Proofs.Ytmkchfpmlidaiaa.Es
open Go.Proofs.Ytmkchfpmlidaiaa.Sc

theorem dig_ok : ∀ n : Fin 16, (dig n.val).toNat ≠ 34 ∧ (dig n.val).toNat ≠ 92 ∧ (dig n.val).toNat ≠ 10 ∧ (dig n.val).toNat ≠ 13 := by decide +kernel
def low (c : Nat) : Prop := c ≠ 10 ∧ c ≠ 13
/-- How a byte is written, sign by sign. -/
theorem one_form (c : UInt8) : (∃ x : Nat, (one c).map UInt8.toNat = [x] ∧ x ≠ 34 ∧ x ≠ 92 ∧ low x) ∨ (∃ x : Nat, (one c).map UInt8.toNat = [92, x] ∧ low x) ∨ (∃ x y : Nat, (one c).map UInt8.toNat = [92, 120, x, y] ∧ x ≠ 34 ∧ x ≠ 92 ∧ low x ∧ y ≠ 34 ∧ y ≠ 92 ∧ low y) := by
  rcases one_is c with ⟨h1, h2, h3, h4, h5⟩ | ⟨h1, -, x, h3⟩
  · refine .inl ⟨c.toNat, by rw [h3]; rfl, fun h => h1 (u8_eq c 34 h), fun h => h2 (u8_eq c 92 h), h4, h5⟩
  · by_cases q1 : c = 34
    · subst q1; exact .inr (.inl ⟨34, rfl, by decide, by decide⟩)
    by_cases q2 : c = 92
    · subst q2; exact .inr (.inl ⟨92, rfl, by decide, by decide⟩)
    by_cases q3 : c = 0
    · subst q3; exact .inr (.inl ⟨48, rfl, by decide, by decide⟩)
    by_cases q4 : c = 9
    · subst q4; exact .inr (.inl ⟨116, rfl, by decide, by decide⟩)
    by_cases q5 : c = 10
    · subst q5; exact .inr (.inl ⟨110, rfl, by decide, by decide⟩)
    by_cases q6 : c = 13
    · subst q6; exact .inr (.inl ⟨114, rfl, by decide, by decide⟩)
    have e : one c = if c < 32 then [92, 120, dig (c.toNat / 16), dig (c.toNat % 16)] else [c] := by
      unfold one
      rw [if_neg q1, if_neg q2, if_neg q3, if_neg q4, if_neg q5, if_neg q6]
    by_cases q7 : c < 32
    · rw [if_pos q7] at e
      have hlt : c.toNat < 32 := (u8_lt c 32 (by decide)).1 q7
      have k1 := dig_ok ⟨c.toNat / 16, by omega⟩
      have k2 := dig_ok ⟨c.toNat % 16, by omega⟩
      exact .inr (.inr ⟨_, _, by rw [e]; rfl, k1.1, k1.2.1, k1.2.2, k2.1, k2.2.1, k2.2.2⟩)
    · rw [if_neg q7] at e
      rw [e] at h3
      injection h3 with h3
      exact absurd h3 q2
theorem doub_1 (x d : Nat) (t : List Nat) (h1 : x ≠ 34) (h2 : x ≠ 92) : doub (x :: d :: t) = doub (d :: t) + 1 := by rw [doub, if_neg h1, if_neg h2]
theorem doub_2 (x : Nat) (r : List Nat) : doub (92 :: x :: r) = doub r + 2 := by rw [doub, if_neg (by decide), if_pos rfl]
theorem doub_one (c : UInt8) (d : Nat) (t : List Nat) : doub ((one c).map UInt8.toNat ++ d :: t) = (one c).length + doub (d :: t) := by
  have hl : (one c).length = ((one c).map UInt8.toNat).length := (List.length_map _).symm
  rw [hl]
  rcases one_form c with ⟨x, h, h1, h2, -⟩ | ⟨x, h, -⟩ | ⟨x, y, h, h1, h2, -, h3, h4, -⟩
  · rw [h]; show doub (x :: d :: t) = 1 + doub (d :: t); rw [doub_1 x d t h1 h2]; omega
  · rw [h]; show doub (92 :: x :: d :: t) = 2 + doub (d :: t); rw [doub_2]; omega
  · rw [h]; show doub (92 :: 120 :: x :: y :: d :: t) = 4 + doub (d :: t); rw [doub_2, doub_1 x y _ h1 h2, doub_1 y d t h3 h4]; omega
theorem doub_body (l : List UInt8) : doub ((body l).map UInt8.toNat ++ [34]) = (body l).length + 1 := by
  induction l with
  | nil => rfl
  | cons c l ih =>
    have e : (body (c :: l)).map UInt8.toNat ++ [34] = (one c).map UInt8.toNat ++ ((body l).map UInt8.toNat ++ [34]) := by rw [body_cons, List.map_append, List.append_assoc]
    obtain ⟨d, t, hd⟩ : ∃ d t, (body l).map UInt8.toNat ++ [34] = d :: t := by
      cases hb : (body l).map UInt8.toNat with
      | nil => exact ⟨34, [], rfl⟩
      | cons a r => exact ⟨a, r ++ [34], rfl⟩
    rw [e, hd, doub_one, ← hd, ih, body_cons, List.length_append]
    omega
theorem body_low (l : List UInt8) : ∀ x ∈ (body l).map UInt8.toNat, brk x = false := by
  induction l with
  | nil => intro x hx; cases hx
  | cons c l ih =>
    intro x hx
    rw [body_cons, List.map_append, List.mem_append] at hx
    rcases hx with hx | hx
    · have key : low x := by
        rcases one_form c with ⟨a, h, -, -, h1⟩ | ⟨a, h, h1⟩ | ⟨a, b, h, -, -, h1, -, -, h2⟩
        · rw [h] at hx; simp at hx; subst hx; exact h1
        · rw [h] at hx; simp at hx; rcases hx with rfl | rfl
          · exact ⟨by decide, by decide⟩
          · exact h1
        · rw [h] at hx; simp at hx; rcases hx with rfl | rfl | rfl | rfl
          · exact ⟨by decide, by decide⟩
          · exact ⟨by decide, by decide⟩
          · exact h1
          · exact h2
      simp [brk]
      exact key
    · exact ih x hx
theorem rowN_ten (l : List Nat) (h : ∀ x ∈ l, brk x = false) : rowN (l ++ [10]) = l.length ∧ rowL (l ++ [10]) = l := by
  have h1 : rowN (l ++ [10]) = l.length := by
    induction l with
    | nil => rfl
    | cons c l ih =>
      have hc := h c (by simp)
      show run _ (c :: (l ++ [10])) = _
      rw [run, if_pos (by rw [hc]; rfl)]
      have := ih (fun x hx => h x (by simp [hx]))
      rw [List.length_cons, ← this]
      rfl
  exact ⟨h1, by unfold rowL; rw [h1, List.take_left']; rfl⟩
/-- The four tokens. -/
theorem toks_four (B : List Nat) (hb : ∀ x ∈ B, brk x = false) (hd : doub (B ++ [34]) = B.length + 1) (hl : B.length ≤ 10000) :
    tokens (45 :: 32 :: 34 :: (B ++ [34]) ++ [10]) = [(5, 0, 1), (3, 1, 2), (17, 2, B.length + 4), (1, B.length + 4, B.length + 5)] := by
  have hn : ∀ x ∈ B ++ [34], brk x = false := fun x hx => by
    rcases List.mem_append.1 hx with hx | hx
    · exact hb x hx
    · simp at hx; subst hx; rfl
  have r3 := rowN_ten (34 :: (B ++ [34])) (fun x hx => by rcases List.mem_cons.1 hx with rfl | hx; rfl; exact hn x hx)
  have r2 := rowN_ten (32 :: 34 :: (B ++ [34])) (fun x hx => by rcases List.mem_cons.1 hx with rfl | hx; rfl; rcases List.mem_cons.1 hx with rfl | hx; rfl; exact hn x hx)
  have r1 := rowN_ten (45 :: 32 :: 34 :: (B ++ [34])) (fun x hx => by rcases List.mem_cons.1 hx with rfl | hx; rfl; rcases List.mem_cons.1 hx with rfl | hx; rfl; rcases List.mem_cons.1 hx with rfl | hx; rfl; exact hn x hx)
  rw [tokens_eq, if_neg (by simp; omega)]
  obtain ⟨R, hR⟩ : ∃ R, B ++ [34] = R := ⟨_, rfl⟩
  have hRl : R.length = B.length + 1 := by rw [← hR, List.length_append]; rfl
  rw [hR] at hd r1 r2 r3 ⊢
  have s1 : Sc.step (fresh 0 (-1)) (45 :: 32 :: 34 :: R ++ [10]) = (5, 1, ⟨0, 0, -1, true, 1, false⟩) := by
    rw [step_mid _ _ (fun _ => rfl), mid_in _ _ (by rw [r1.1]; simp), r1.2]
    have : Sc.next (fresh 0 (-1)).op (fresh 0 (-1)).dash (fresh 0 (-1)).blank ((fresh 0 (-1)).col == 0) (45 :: 32 :: 34 :: R) = (5, 1) := by
      simp [Sc.fresh, Sc.next, Sc.mark, Sc.run, Sc.spc, Sc.blk, Sc.hsh, Sc.word, Sc.sign, Sc.part]
    rw [this]
    rfl
  have s2 : Sc.step ⟨0, 0, -1, true, 1, false⟩ (32 :: 34 :: R ++ [10]) = (3, 1, ⟨0, 0, -1, true, 2, true⟩) := by
    rw [step_mid _ _ (fun _ => rfl), mid_in _ _ (by rw [r2.1]; simp), r2.2]
    have : Sc.next 0 true false ((1 : Nat) == 0) (32 :: 34 :: R) = (3, 1) := by
      simp [Sc.next, Sc.mark, Sc.run, Sc.spc, Sc.blk]
    show ((Sc.next 0 true false ((1 : Nat) == 0) (32 :: 34 :: R)).1, (Sc.next 0 true false ((1 : Nat) == 0) (32 :: 34 :: R)).2, Sc.take _ (Sc.next 0 true false ((1 : Nat) == 0) (32 :: 34 :: R)).1 (Sc.next 0 true false ((1 : Nat) == 0) (32 :: 34 :: R)).2) = _
    rw [this]
    rfl
  have s3 : Sc.step ⟨0, 0, -1, true, 2, true⟩ (34 :: R ++ [10]) = (17, B.length + 2, ⟨0, 0, -1, false, 2 + (B.length + 2), false⟩) := by
    rw [step_mid _ _ (fun _ => rfl), mid_in _ _ (by rw [r3.1]; simp), r3.2]
    have : Sc.next 0 true true ((2 : Nat) == 0) (34 :: R) = (17, B.length + 2) := by
      simp [Sc.next, Sc.run, Sc.blk, Sc.hsh, Sc.word, Sc.sign, Sc.named, Sc.quoted, hd]
    show ((Sc.next 0 true true ((2 : Nat) == 0) (34 :: R)).1, (Sc.next 0 true true ((2 : Nat) == 0) (34 :: R)).2, Sc.take _ (Sc.next 0 true true ((2 : Nat) == 0) (34 :: R)).1 (Sc.next 0 true true ((2 : Nat) == 0) (34 :: R)).2) = _
    rw [this]
    rfl
  have d3 : (34 :: R ++ [10]).drop (B.length + 2) = [10] := by
    show ((34 :: R) ++ [10]).drop (B.length + 2) = [10]
    exact List.drop_left' (by rw [List.length_cons, hRl])
  rw [toksN_step _ _ _ (by simp), s1]
  show (5, 0, 0 + 1) :: toksN _ (0 + 1) (32 :: 34 :: R ++ [10]) = _
  rw [toksN_step _ _ _ (by simp), s2]
  show (5, 0, 0 + 1) :: (3, 0 + 1, 0 + 1 + 1) :: toksN _ (0 + 1 + 1) (34 :: R ++ [10]) = _
  rw [toksN_step _ _ _ (by simp), s3, d3, toksN_step _ _ _ (by simp)]
  have s4 : Sc.step ⟨0, 0, -1, false, 2 + (B.length + 2), false⟩ [10] = (1, 1, fresh 0 (-1)) := by
    rw [step_mid _ _ (fun h => absurd h (by simp)), mid_end _ _ rfl]
    rfl
  rw [s4]
  show (5, 0, 0 + 1) :: (3, 0 + 1, 0 + 1 + 1) :: (17, 0 + 1 + 1, 0 + 1 + 1 + (B.length + 2)) :: (1, 0 + 1 + 1 + (B.length + 2), 0 + 1 + 1 + (B.length + 2) + 1) :: toksN _ _ [] = _
  rw [toksN_nil, show 0 + 1 + 1 + (B.length + 2) = B.length + 4 by omega]
theorem toks_written (l : List UInt8) (hl : (body l).length ≤ 10000) : tokens ((([45, 32] : List UInt8) ++ writeT l ++ [10]).map UInt8.toNat) = [(5, 0, 1), (3, 1, 2), (17, 2, 2 + (writeT l).length), (1, 2 + (writeT l).length, 3 + (writeT l).length)] := by
  have h := toks_four ((body l).map UInt8.toNat) (body_low l) (by rw [doub_body, List.length_map]) (by rw [List.length_map]; exact hl)
  have e : (([45, 32] : List UInt8) ++ writeT l ++ [10]).map UInt8.toNat = 45 :: 32 :: 34 :: ((body l).map UInt8.toNat ++ [34]) ++ [10] := by
    simp [writeT]
  have e2 : (writeT l).length = (body l).length + 2 := by simp [writeT]
  rw [e, h, List.length_map, e2]
  simp; omega
end Go.Proofs.Ytmkchfpmlidaiaa.Qo
