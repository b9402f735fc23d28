/- Plain facts on a head and the rows of its text. -/
import Derived.Test.YtapkejdjbmdebaaDoorSp8
namespace Go.Proofs.YtapkejdjbmdebaaDoor.Sc
open Go.Proofs.YtapkejdjbmdebaaDoor.Sg

deriving instance DecidableEq for St
def sp (n : Nat) : List Nat := List.replicate n 32
/-- The head's row; what may stand in its text; the last row. -/
def headR (i : Nat) : List Nat := sp i ++ [107, 58, 32, 124, 10]
def six : List (List Nat) := [[45, 32, 97], [91], [34, 111, 112, 101, 110], [35, 32, 110, 111, 32, 99, 111, 109, 109, 101, 110, 116], [45, 45, 45], [38, 120]]
def lineR (i : Nat) (w : List Nat) : List Nat := sp (i + 1) ++ w ++ [10]
def lastR (i : Nat) : List Nat := sp i ++ [101, 110, 100]
def no19 (l : List (Nat × Nat × Nat)) : Bool := l.all fun x => x.1 != 19
theorem head_fin : ∀ i : Fin 5, (finN (fresh 0 (-1)) (headR i.val) = fresh 0 ((i.val : Int) + 1)) ∧ no19 (toksN (fresh 0 (-1)) 0 (headR i.val)) = true := by decide +kernel
theorem line_step : ∀ i : Fin 5, ∀ w ∈ six, step (fresh 0 ((i.val : Int) + 1)) (lineR i.val w) = (19, (lineR i.val w).length, fresh 0 ((i.val : Int) + 1)) := by decide +kernel
theorem last_toks : ∀ i : Fin 5, no19 (toksN (fresh 0 ((i.val : Int) + 1)) 0 (lastR i.val)) = true ∧ ((toksN (fresh 0 ((i.val : Int) + 1)) 0 (lastR i.val)).getLast?.map fun x => (x.1, x.2.2)) = some (15, i.val + 3) := by decide +kernel
theorem headR_ends (i : Nat) : ends (headR i) := by unfold ends headR; rw [List.getLast?_append]; rfl
theorem lineR_ends (i : Nat) (w : List Nat) : ends (lineR i w) := by unfold ends lineR; rw [List.getLast?_append]; rfl
def body (i : Nat) (ws : List (List Nat)) : List Nat := (ws.map (lineR i)).flatten
def count19 (l : List (Nat × Nat × Nat)) : Nat := l.countP fun x => x.1 == 19
theorem count_no (l : List (Nat × Nat × Nat)) (h : no19 l = true) : count19 l = 0 := by
  unfold count19
  rw [List.countP_eq_zero]
  intro x hx
  simp only [no19, List.all_eq_true] at h
  have := h x hx
  simpa using this
theorem no19_shift (q : Nat) (l : List (Nat × Nat × Nat)) (h : no19 l = true) : no19 (l.map (shift q)) = true := by
  simp only [no19, List.all_eq_true, List.mem_map] at h ⊢
  rintro x ⟨y, hy, rfl⟩
  exact h y hy
/-- Behind the head: one token for each row of its text, then the last row's. -/
theorem rest_toks (i : Nat) (hi : i < 5) : ∀ (ws : List (List Nat)) (p : Nat), (∀ w ∈ ws, w ∈ six) →
    ∃ ts, toksN (fresh 0 ((i : Int) + 1)) p (body i ws ++ lastR i) = ts ++ (toksN (fresh 0 ((i : Int) + 1)) 0 (lastR i)).map (shift (p + (body i ws).length)) ∧ count19 ts = ws.length
  | [], p, _ => ⟨[], by rw [show body i [] = [] from rfl, List.nil_append, List.nil_append, toksN_shift _ p]; rfl, rfl⟩
  | w :: ws, p, h => by
    have hw := h w (by simp)
    have hs := line_step ⟨i, hi⟩ w hw
    simp only at hs
    have he := lineR_ends i w
    obtain ⟨ts, h1, h2⟩ := rest_toks i hi ws (p + (lineR i w).length) (fun v hv => h v (by simp [hv]))
    refine ⟨(19, p, p + (lineR i w).length) :: ts, ?_, ?_⟩
    · have e : body i (w :: ws) ++ lastR i = lineR i w ++ (body i ws ++ lastR i) := by
        show (lineR i w ++ body i ws) ++ lastR i = _
        rw [List.append_assoc]
      have hl : (body i (w :: ws)).length = (lineR i w).length + (body i ws).length := by
        show (lineR i w ++ body i ws).length = _
        rw [List.length_append]
      rw [e, toksN_step _ _ _ (by simp [ends_ne he]), step_app _ _ _ he, hs]
      show (19, p, p + (lineR i w).length) :: toksN _ (p + (lineR i w).length) ((lineR i w ++ (body i ws ++ lastR i)).drop (lineR i w).length) = _
      rw [List.drop_left' rfl, h1, hl, Nat.add_assoc, List.cons_append]
    · unfold count19 at h2 ⊢
      rw [List.countP_cons, h2, List.length_cons]
      rfl
/-- Rows that are deeper than the row of a head are its text; the first one that is not ends it. -/
theorem texts_toks (i : Nat) (hi : i < 5) (ws : List (List Nat)) (h : ∀ w ∈ ws, w ∈ six) (hl : (headR i ++ body i ws ++ lastR i).length ≤ 16384) :
    count19 (tokens (headR i ++ body i ws ++ lastR i)) = ws.length ∧ ∃ t0 a, tokens (headR i ++ body i ws ++ lastR i) = t0 ++ [(15, a, (headR i ++ body i ws ++ lastR i).length)] := by
  obtain ⟨hf, hn⟩ := head_fin ⟨i, hi⟩
  obtain ⟨hn2, hlast⟩ := last_toks ⟨i, hi⟩
  simp only at hf hn hn2 hlast
  obtain ⟨ts, h1, h2⟩ := rest_toks i hi ws (headR i).length h
  have e : tokens (headR i ++ body i ws ++ lastR i) = toksN (fresh 0 (-1)) 0 (headR i) ++ (ts ++ (toksN (fresh 0 ((i : Int) + 1)) 0 (lastR i)).map (shift ((headR i).length + (body i ws).length))) := by
    rw [tokens_eq, if_neg (by omega), List.append_assoc, toksN_app _ _ _ _ _ (Nat.le_refl _) (.inr (headR_ends i)), hf, Nat.zero_add, h1]
  have hz : (lastR i).length = i + 3 := by simp [lastR, sp]
  constructor
  · rw [e]
    unfold count19 at *
    have a1 := count_no _ hn
    have a2 := count_no _ (no19_shift ((headR i).length + (body i ws).length) _ hn2)
    unfold count19 at a1 a2
    rw [List.countP_append, List.countP_append, a1, a2, h2]
    omega
  · obtain ⟨t0, x, hx⟩ : ∃ t0 x, toksN (fresh 0 ((i : Int) + 1)) 0 (lastR i) = t0 ++ [x] := by
      cases hc : toksN (fresh 0 ((i : Int) + 1)) 0 (lastR i) with
      | nil => rw [hc] at hlast; cases hlast
      | cons y r => exact ⟨_, _, (List.dropLast_concat_getLast (by simp)).symm⟩
    rw [hx, List.getLast?_append] at hlast
    simp at hlast
    obtain ⟨k1, k2⟩ := hlast
    refine ⟨toksN (fresh 0 (-1)) 0 (headR i) ++ (ts ++ t0.map (shift ((headR i).length + (body i ws).length))), x.2.1 + ((headR i).length + (body i ws).length), ?_⟩
    rw [e, hx, List.map_append, ← List.append_assoc ts, ← List.append_assoc]
    congr 1
    show [(x.1, x.2.1 + _, x.2.2 + _)] = _
    rw [k1, k2, List.length_append, List.length_append, hz]
    congr 3
    omega
end Go.Proofs.YtapkejdjbmdebaaDoor.Sc
