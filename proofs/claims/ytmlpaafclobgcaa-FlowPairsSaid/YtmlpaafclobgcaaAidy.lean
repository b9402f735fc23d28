/- Plainly: FlowPairs' texts, item by item, and what is counted of them. -/
import Derived.Test.YtmlpaafclobgcaaAidx
import Derived.Test.YtmlpaafclobgcaaNumb
import Derived.Lib.MinMax
namespace Go.Proofs.Ytmlpaafclobgcaa
open Go.RowKit
open Go.Proofs.Ytmlpaafclobgcaa.Sg
open Go.Proofs.Ytmlpaafclobgcaa.Sq
open Go.Proofs.Ytmlpaafclobgcaa.Ar
set_option linter.unusedVariables false

def bodyB : List Nat → List Nat
  | [] => []
  | k :: r => Fl.itB k ++ Fl.tailB r
theorem allB_is (b x : Nat) (ks : List Nat) : Fl.allB b x ks = b :: (bodyB ks ++ [x]) := by
  cases ks <;> rfl
theorem tailB_put : ∀ (r : List Nat) (k : Nat), Fl.tailB (r ++ [k]) = Fl.tailB r ++ (44 :: 32 :: Fl.itB k)
  | [], k => by show 44 :: 32 :: (Fl.itB k ++ []) = _; rw [List.append_nil]; rfl
  | x :: r, k => by
    show 44 :: 32 :: (Fl.itB x ++ Fl.tailB (r ++ [k])) = 44 :: 32 :: (Fl.itB x ++ Fl.tailB r) ++ _
    rw [tailB_put r k]; simp
theorem bodyB_one (k : Nat) : bodyB [k] = Fl.itB k := by show Fl.itB k ++ [] = _; rw [List.append_nil]
theorem bodyB_put (ks : List Nat) (k : Nat) (h : 0 < ks.length) : bodyB (ks ++ [k]) = (bodyB ks ++ [44, 32]) ++ Fl.itB k := by
  cases ks with
  | nil => exact absurd h (by decide)
  | cons x r =>
    show Fl.itB x ++ Fl.tailB (r ++ [k]) = _
    rw [tailB_put]
    show _ = ((Fl.itB x ++ Fl.tailB r) ++ [44, 32]) ++ _
    simp
theorem itB_len (k : Nat) : (Fl.itB k).length ≤ 5 := by unfold Fl.itB; split <;> simp
theorem tailB_len : ∀ r : List Nat, (Fl.tailB r).length ≤ 7 * r.length
  | [] => Nat.le_refl _
  | k :: r => by
    show (Fl.itB k ++ Fl.tailB r).length + 1 + 1 ≤ 7 * (r.length + 1)
    rw [List.length_append]
    have := tailB_len r
    have := itB_len k
    omega
theorem bodyB_len (ks : List Nat) : (bodyB ks).length ≤ 7 * ks.length := by
  cases ks with
  | nil => exact Nat.le_refl _
  | cons k r =>
    show (Fl.itB k ++ Fl.tailB r).length ≤ 7 * (r.length + 1)
    rw [List.length_append]
    have := tailB_len r
    have := itB_len k
    omega
def nkey (l : List (Int × Bool)) : Nat := l.countP (fun p => p.1 == 6 && p.2)
theorem nkey_step {l : List Nd} {i : Nat} {x : Nd} (h : l[i]? = some x) : nkey ((Fl.sig l).take (i + 1)) = nkey ((Fl.sig l).take i) + (if x.k = 6 ∧ x.y = true then 1 else 0) := by
  have hs : (Fl.sig l)[i]? = some (x.k, x.y) := by unfold Fl.sig; rw [List.getElem?_map, h]; rfl
  rw [List.take_add_one, hs]
  unfold nkey
  rw [List.countP_append]
  by_cases e : x.k = 6 ∧ x.y = true
  · rw [if_pos e]; simp [e.1, e.2]
  · rw [if_neg e]
    by_cases e1 : x.k = 6
    · have e2 : x.y = false := by cases h : x.y with
        | true => exact absurd ⟨e1, h⟩ e
        | false => rfl
      simp [e2]
    · simp [e1]
theorem nkey_le (l : List (Int × Bool)) (i : Nat) : nkey (l.take i) ≤ i := by
  have h1 := List.countP_le_length (p := fun p : Int × Bool => p.1 == 6 && p.2) (l := l.take i)
  have h2 := List.length_take_le i l
  unfold nkey; omega
theorem nkey_all (l : List Nd) : nkey ((Fl.sig l).take l.length) = nkey (Fl.sig l) := by
  rw [List.take_of_length_le (by unfold Fl.sig; rw [List.length_map]; omega)]
def np (ks : List Nat) : Nat := ks.countP (fun k => decide (0 < k))
def nq (ks : List Nat) : Nat := ks.countP (fun k => decide (k ≠ 2))
theorem np_put (ks : List Nat) (k : Nat) : np (ks ++ [k]) = np ks + (if 0 < k then 1 else 0) := by
  unfold np; rw [List.countP_append]; by_cases e : 0 < k <;> simp [e]
theorem nq_put (ks : List Nat) (k : Nat) : nq (ks ++ [k]) = nq ks + (if k ≠ 2 then 1 else 0) := by
  unfold nq; rw [List.countP_append]; by_cases e : k = 2 <;> simp [e]
theorem count_dict : ∀ ks : List Nat, (∀ z ∈ ks, z < 4) → nk 6 (ks.flatMap (Fl.itS true)) = ks.length ∧ nkey (ks.flatMap (Fl.itS true)) = nq ks ∧ nk 6 (ks.flatMap (Fl.itS false)) = np ks ∧ (ks.flatMap (Fl.itS true)).length ≤ 3 * ks.length ∧ (ks.flatMap (Fl.itS false)).length ≤ 3 * ks.length
  | [] => fun _ => ⟨rfl, rfl, rfl, Nat.le_refl _, Nat.le_refl _⟩
  | k :: r => fun h => by
    obtain ⟨h1, h2, h3, h4, h5⟩ := count_dict r (fun z hz => h z (List.mem_cons_of_mem _ hz))
    have hk := h k List.mem_cons_self
    unfold nk nkey nq np at *
    simp only [List.flatMap_cons, List.countP_append, List.countP_cons, List.length_append, List.length_cons]
    rw [h1, h2, h3]
    clear h1 h2 h3 h
    generalize List.flatMap (Fl.itS true) r = F at *
    generalize List.flatMap (Fl.itS false) r = G at *
    rcases (by omega : k = 0 ∨ k = 1 ∨ k = 2 ∨ k = 3) with rfl | rfl | rfl | rfl
    all_goals (simp [Fl.itS]; omega)
theorem pair_tame (b x : Nat) (ks : List Nat) (hb : b ≠ 124 ∧ b ≠ 62) (hx : x ≠ 124 ∧ x ≠ 62) : Tame (Fl.allB b x ks) := by
  have hi : ∀ k, Tame (Fl.itB k) := fun k z hz => by
    unfold Fl.itB at hz
    split at hz <;> (simp at hz; omega)
  have ht : ∀ r, Tame (Fl.tailB r) := fun r => by
    induction r with
    | nil => intro z hz; cases hz
    | cons k r ih =>
      intro z hz
      have hz : z ∈ 44 :: 32 :: (Fl.itB k ++ Fl.tailB r) := hz
      rw [List.mem_cons, List.mem_cons, List.mem_append] at hz
      rcases hz with h | h | h | h
      · omega
      · omega
      · exact hi k z h
      · exact ih z h
  rw [allB_is]
  intro z hz
  rw [List.mem_cons, List.mem_append, List.mem_singleton] at hz
  rcases hz with h | h | h
  · omega
  · cases ks with
    | nil => cases h
    | cons k r =>
      have h : z ∈ Fl.itB k ++ Fl.tailB r := h
      rw [List.mem_append] at h
      rcases h with h | h
      · exact hi k z h
      · exact ht r z h
  · omega
end Go.Proofs.Ytmlpaafclobgcaa
