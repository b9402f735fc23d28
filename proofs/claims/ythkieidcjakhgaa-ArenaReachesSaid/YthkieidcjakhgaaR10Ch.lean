/- Chains of nodes (for ArenaReaches), plainly. -/
import Derived.Test.YthkieidcjakhgaaAr9
namespace Go.Proofs.Ythkieidcjakhgaa.Ar
set_option linter.unusedVariables false

/-- Node j of a chain of i in a stream of n, all reaching as far as T. -/
def nd (n : Int) (i : Nat) (T : Int) (j : Nat) : Nd :=
  if j = 0 then ⟨1, 0, n, -1, if 0 < i then [1] else [], false⟩ else ⟨3, (j : Int) - 1, T, (j : Int) - 1, if j < i then [(j : Int) + 1] else [], false⟩
/-- The nodes up to k reach as far as T, the others as far as T'. -/
def mix (n : Int) (i : Nat) (T T' : Int) (k : Nat) : List Nd := (List.range (i + 1)).map (fun j => nd n i (if j ≤ k then T else T') j)
def chain (n : Int) (i : Nat) (T : Int) : List Nd := (List.range (i + 1)).map (nd n i T)
theorem nd_zero (n : Int) (i : Nat) (T T' : Int) : nd n i T 0 = nd n i T' 0 := rfl
theorem mix_len (n : Int) (i : Nat) (T T' : Int) (k : Nat) : (mix n i T T' k).length = i + 1 := by simp [mix]
theorem chain_len (n : Int) (i : Nat) (T : Int) : (chain n i T).length = i + 1 := by simp [chain]
theorem mix_get (n : Int) (i : Nat) (T T' : Int) (k j : Nat) (h : j ≤ i) : (mix n i T T' k)[j]? = some (nd n i (if j ≤ k then T else T') j) := by
  unfold mix
  rw [List.getElem?_map, List.getElem?_range (by omega)]; rfl
theorem chain_get (n : Int) (i : Nat) (T : Int) (j : Nat) (h : j ≤ i) : (chain n i T)[j]? = some (nd n i T j) := by
  unfold chain
  rw [List.getElem?_map, List.getElem?_range (by omega)]; rfl
theorem mix_all (n : Int) (i : Nat) (T T' : Int) : mix n i T T' i = chain n i T := by
  unfold mix chain
  refine List.map_congr_left (fun j hj => ?_)
  have := List.mem_range.1 hj
  rw [if_pos (by omega)]
theorem mix_none (n : Int) (i : Nat) (T T' : Int) : mix n i T T' 0 = chain n i T' := by
  unfold mix chain
  refine List.map_congr_left (fun j hj => ?_)
  by_cases h : j = 0
  · subst h; rfl
  · rw [if_neg (by omega)]
theorem nd_up (n : Int) (i : Nat) (T : Int) (j : Nat) : (nd n i T j).u = (j : Int) - 1 := by
  unfold nd
  split
  · subst_vars; rfl
  · rfl
theorem nd_kids (n : Int) (i : Nat) (T : Int) (j : Nat) (h : j ≤ i) : (nd n i T j).ks = if j < i then [(j : Int) + 1] else [] := by
  unfold nd
  split
  · subst_vars; rfl
  · rfl
theorem good_mix (n : Int) (i : Nat) (T T' : Int) (k : Nat) (hT : (i : Int) ≤ T + 1) (hT' : (i : Int) ≤ T' + 1) : Good (mix n i T T' k) := by
  refine ⟨by rw [mix_len]; omega, fun j x h => ?_, fun j x h z hz => ?_, fun j x h z hz y hy => by
    have hj : j ≤ i := by have := (List.getElem?_eq_some_iff.1 h).1; rw [mix_len] at this; omega
    rw [mix_get _ _ _ _ _ _ hj] at h
    obtain rfl := Option.some.inj h
    rw [nd_kids _ _ _ _ hj] at hz
    by_cases hji : j < i
    · rw [if_pos hji] at hz
      obtain rfl : z = (j : Int) + 1 := by simpa using hz
      rw [show ((j : Int) + 1).toNat = j + 1 by omega, mix_get _ _ _ _ _ _ (by omega)] at hy
      obtain rfl := Option.some.inj hy
      have e1 : ∀ S : Int, (nd n i S j).f ≤ (i : Int) - 1 := fun S => by
        unfold nd
        split
        · show (0 : Int) ≤ _; omega
        · show (j : Int) - 1 ≤ _; omega
      have e2 : ∀ S : Int, (nd n i S (j + 1)).t = S := fun S => by
        unfold nd
        rw [if_neg (by omega)]
      rw [e2]
      refine Int.le_trans (e1 _) ?_
      split <;> omega
    · rw [if_neg hji] at hz; cases hz⟩
  · have hj : j ≤ i := by have := (List.getElem?_eq_some_iff.1 h).1; rw [mix_len] at this; omega
    rw [mix_get _ _ _ _ _ _ hj] at h
    obtain rfl := Option.some.inj h
    rw [nd_up]
    omega
  · have hj : j ≤ i := by have := (List.getElem?_eq_some_iff.1 h).1; rw [mix_len] at this; omega
    rw [mix_get _ _ _ _ _ _ hj] at h
    obtain rfl := Option.some.inj h
    rw [nd_kids _ _ _ _ hj] at hz
    rw [mix_len]
    split at hz
    · obtain rfl : z = (j : Int) + 1 := by simpa using hz
      omega
    · cases hz
theorem good_chain (n : Int) (i : Nat) (T : Int) (hT : (i : Int) ≤ T + 1) : Good (chain n i T) := by rw [← mix_all n i T T]; exact good_mix _ _ _ _ _ hT hT
def upT (x : Nd) (t : Int) : Nd := { x with t := max x.t t }
def addK (x : Nd) (z : Int) : Nd := { x with ks := x.ks ++ [z] }
theorem reach_up (l : List Nd) (k t : Int) (x : Nd) (h : Good l) (hk : 0 ≤ k) (hx : l[k.toNat]? = some x) : reachN l k t = reachN (l.set k.toNat (upT x t)) x.u t := reach_step l k t x h hk hx
theorem upT_nd (n : Int) (i : Nat) (T T' : Int) (j : Nat) (h1 : T ≤ T') (hj : j ≠ 0) : upT (nd n i T j) T' = nd n i T' j := by
  unfold upT nd
  rw [if_neg hj, if_neg hj]
  have : max T T' = T' := by omega
  simp [this]
theorem upT_zero (n : Int) (i : Nat) (T T' : Int) (h2 : T' ≤ n) : upT (nd n i T 0) T' = nd n i T 0 := by
  unfold upT nd
  rw [if_pos rfl]
  have : max n T' = n := by omega
  simp [this]
theorem addK_nd (n : Int) (i : Nat) (T : Int) : addK (nd n i T i) ((i + 1 : Nat) : Int) = nd n (i + 1) T i := by
  unfold addK nd
  by_cases h : i = 0
  · subst h; rfl
  · rw [if_neg h, if_neg h]
    simp
theorem nd_more (n : Int) (i : Nat) (T : Int) (j : Nat) (h : j < i) : nd n i T j = nd n (i + 1) T j := by
  unfold nd
  by_cases h0 : j = 0
  · subst h0
    rw [if_pos rfl, if_pos rfl, if_pos h, if_pos (by omega)]
  · rw [if_neg h0, if_neg h0, if_pos h, if_pos (by omega)]
theorem reach_mix (n : Int) (i : Nat) (T T' : Int) (h0 : (i : Int) ≤ T + 1) (h1 : T ≤ T') (h2 : T' ≤ n) : ∀ k : Nat, k ≤ i → reachN (mix n i T T' k) k T' = chain n i T'
  | 0, hk => by
    have hg := mix_get n i T T' 0 0 (Nat.zero_le _)
    rw [show ((0 : Nat) : Int) = 0 from rfl, reach_up _ 0 T' _ (good_mix _ _ _ _ _ h0 (by omega)) (Int.le_refl _) hg]
    have e : (nd n i (if 0 ≤ 0 then T else T') 0).u = -1 := by rw [nd_up]; rfl
    rw [e, reach_stop _ _ _ (by decide)]
    have e2 := upT_zero n i (if 0 ≤ 0 then T else T') T' h2
    rw [e2, show (0 : Int).toNat = 0 from rfl, ← mix_none n i T T']
    refine List.ext_getElem? (fun j => ?_)
    rw [List.getElem?_set]
    by_cases hj : 0 = j
    · subst hj
      rw [if_pos rfl, if_pos (by rw [mix_len]; omega), hg]
    · rw [if_neg hj]
  | k + 1, hk => by
    have hg := mix_get n i T T' (k + 1) (k + 1) hk
    rw [if_pos (Nat.le_refl _)] at hg
    rw [reach_up _ ((k + 1 : Nat) : Int) T' (nd n i T (k + 1)) (good_mix _ _ _ _ _ h0 (by omega)) (by omega) (by rw [Int.toNat_natCast]; exact hg), nd_up, Int.toNat_natCast]
    have e2 := upT_nd n i T T' (k + 1) h1 (by omega)
    have e3 : (mix n i T T' (k + 1)).set (k + 1) (nd n i T' (k + 1)) = mix n i T T' k := by
      refine List.ext_getElem? (fun j => ?_)
      rw [List.getElem?_set]
      by_cases hj : k + 1 = j
      · subst hj
        rw [if_pos rfl, if_pos (by rw [mix_len]; omega), mix_get _ _ _ _ _ _ hk, if_neg (by omega)]
      · rw [if_neg hj]
        by_cases hji : j ≤ i
        · rw [mix_get _ _ _ _ _ _ hji, mix_get _ _ _ _ _ _ hji]
          by_cases hjk : j ≤ k
          · rw [if_pos (by omega), if_pos hjk]
          · rw [if_neg (by omega), if_neg hjk]
        · rw [List.getElem?_eq_none (by rw [mix_len]; omega), List.getElem?_eq_none (by rw [mix_len]; omega)]
    rw [e2, e3, show ((k + 1 : Nat) : Int) - 1 = (k : Int) by omega]
    exact reach_mix n i T T' h0 h1 h2 k (by omega)
theorem first_chain (n : Int) (i : Nat) (T : Int) : firstT (chain n i T) = n := by
  unfold chain
  rw [List.range_succ_eq_map]; rfl
theorem chain_new (n : Int) (h0 : 0 ≤ n) (h1 : n ≤ 32768) (T : Int) : newN n = chain n 0 T := by
  unfold newN
  rw [if_neg (by omega)]
  rfl
theorem chain_add (n : Int) (i : Nat) (h : (i : Int) + 1 ≤ n) : addN (chain n i i) i 3 i ((i : Int) + 1) = (chain n (i + 1) ((i : Int) + 1), (i : Int) + 1) := by
  have hp := chain_get n i i i (Nat.le_refl _)
  have hks : (nd n i i i).ks = [] := by rw [nd_kids _ _ _ _ (Nat.le_refl _), if_neg (Nat.lt_irrefl _)]
  have hf : ¬ ((i : Int) < (nd n i i i).f) := by
    unfold nd
    split
    · show ¬ ((i : Int) < 0); omega
    · show ¬ ((i : Int) < (i : Int) - 1); omega
  have hm : mayAdd (chain n i i) i 3 i ((i : Int) + 1) = true := by
    unfold mayAdd
    rw [Int.toNat_natCast, hp]
    dsimp only
    rw [hks, first_chain, chain_len]
    have e1 : decide ((i : Int) < 0) = false := decide_eq_false (by omega)
    have e2 : decide (((i + 1 : Nat) : Int) ≤ (i : Int)) = false := decide_eq_false (by omega)
    have e3 : decide ((i : Int) + 1 < (i : Int)) = false := decide_eq_false (by omega)
    have e4 : decide (n < (i : Int) + 1) = false := decide_eq_false (by omega)
    rw [e1, e2, e3, e4, decide_eq_false hf]
    rfl
  have e : ((chain n i i ++ [(⟨3, (i : Int), (i : Int) + 1, (i : Int), [], false⟩ : Nd)]).set i (addK (nd n i i i) ((i + 1 : Nat) : Int))) = mix n (i + 1) i ((i : Int) + 1) i := by
    refine List.ext_getElem? (fun j => ?_)
    rw [List.getElem?_set]
    by_cases hj : i = j
    · subst hj
      rw [if_pos rfl, if_pos (by rw [List.length_append, chain_len, List.length_cons, List.length_nil]; omega), mix_get _ _ _ _ _ _ (by omega), if_pos (Nat.le_refl _), addK_nd]
    · rw [if_neg hj]
      rcases Nat.lt_trichotomy j (i + 1) with h1 | h1 | h1
      · rw [List.getElem?_append_left (by rw [chain_len]; exact h1), chain_get _ _ _ _ (by omega), mix_get _ _ _ _ _ _ (by omega), if_pos (by omega), nd_more n i i j (by omega)]
      · subst h1
        rw [List.getElem?_append_right (by rw [chain_len]; exact Nat.le_refl _), chain_len, Nat.sub_self, mix_get _ _ _ _ _ _ (Nat.le_refl _), if_neg (by omega)]
        show some _ = some _
        congr 1
        unfold nd
        rw [if_neg (by omega), if_neg (by omega), show ((i + 1 : Nat) : Int) - 1 = (i : Int) by omega]
      · rw [List.getElem?_eq_none (by rw [List.length_append, chain_len]; simp; omega), List.getElem?_eq_none (by rw [mix_len]; omega)]
  unfold addN
  rw [if_pos hm, Int.toNat_natCast, hp]
  dsimp only
  rw [chain_len]
  show (reachN ((chain n i i ++ [(⟨3, (i : Int), (i : Int) + 1, (i : Int), [], false⟩ : Nd)]).set i (addK (nd n i i i) ((i + 1 : Nat) : Int))) i ((i : Int) + 1), ((i + 1 : Nat) : Int)) = _
  rw [e, reach_mix n (i + 1) i ((i : Int) + 1) (by omega) (by omega) h i (by omega)]
  rfl
theorem chain_grow (n : Int) (d : Nat) (to' : Int) (h1 : (d : Int) ≤ to') (h2 : to' ≤ n) : growN (chain n d d) d to' = chain n d to' := by
  have hm : mayGrow (chain n d d) d to' = true := by
    unfold mayGrow
    rw [chain_len, first_chain]
    have e1 : decide ((d : Int) < 0) = false := decide_eq_false (by omega)
    have e2 : decide (((d + 1 : Nat) : Int) ≤ (d : Int)) = false := decide_eq_false (by omega)
    have e4 : decide (n < to') = false := decide_eq_false (by omega)
    rw [e1, e2, e4]; rfl
  unfold growN
  rw [if_pos hm]
  have := reach_mix n d d to' (by omega) h1 h2 d (Nat.le_refl _)
  rw [mix_all] at this
  exact this
theorem grow_no {l : List Nd} {i t : Int} (h : i < 0 ∨ firstT l < t) : growN l i t = l := by
  have hm : mayGrow l i t = false := by
    unfold mayGrow
    rcases h with h | h <;> simp [h]
  unfold growN
  rw [hm]; rfl
theorem chain_all (n : Int) (i : Nat) (T : Int) : ∀ k : Nat, k ≤ i → allK (chain n i T) k = (List.range k).map (fun (j : Nat) => (j : Int) + 1)
  | 0, hk => rfl
  | k + 1, hk => by
    have hg := chain_get n i T k (by omega)
    rw [allK_step hg, chain_all n i T k (by omega), nd_kids _ _ _ _ (by omega), if_pos (by omega), List.range_succ, List.map_append]
    rfl
theorem count_none : ∀ n m : Nat, n ≤ m → (List.range n).countP (fun k => k == m) = 0
  | 0, m => fun _ => rfl
  | n + 1, m => fun h => by
    rw [List.range_succ, List.countP_append, count_none n m (by omega)]
    have : (n == m) = false := by simp; omega
    simp [this]
theorem count_range : ∀ n m : Nat, m < n → (List.range n).countP (fun k => k == m) = 1
  | 0, m => fun h => by omega
  | n + 1, m => fun h => by
    rw [List.range_succ, List.countP_append]
    by_cases e : m = n
    · subst e
      rw [count_none m m (Nat.le_refl _)]
      simp
    · rw [count_range n m (by omega)]
      have : (n == m) = false := by simp; omega
      simp [this]
theorem chain_seen (n : Int) (i : Nat) (T : Int) (j : Nat) (h0 : 0 < j) (h1 : j ≤ i) : seenN (chain n i T) (chain n i T).length j = 1 := by
  rw [chain_len]
  show (allK (chain n i T) (i + 1)).countP (fun z => z == (j : Int)) = 1
  rw [allK_step (chain_get n i T i (Nat.le_refl _)), nd_kids _ _ _ _ (Nat.le_refl _), if_neg (Nat.lt_irrefl _), List.append_nil, chain_all n i T i (Nat.le_refl _), List.countP_map]
  have e : List.countP ((fun z => z == (j : Int)) ∘ fun (k : Nat) => (k : Int) + 1) (List.range i) = List.countP (fun k => k == j - 1) (List.range i) := by
    refine List.countP_congr (fun k _ => ?_)
    simp only [Function.comp_apply, beq_iff_eq]
    omega
  rw [e]
  exact count_range i (j - 1) (by omega)
theorem chain_node (n : Int) (i : Nat) (T : Int) (h1 : (i : Int) ≤ T) (h2 : T ≤ n) (j : Nat) (hj : j ≤ i) : nodeOk (chain n i T) j = true := by
  unfold nodeOk kidsN
  rw [chain_get n i T j hj]
  dsimp only
  rw [nd_up, nd_kids _ _ _ _ hj]
  have e1 : (decide (0 < j) && (decide ((j : Int) - 1 < 0) || decide ((j : Int) ≤ (j : Int) - 1))) = false := by
    by_cases h : 0 < j
    · rw [decide_eq_false (show ¬ ((j : Int) - 1 < 0) by omega), decide_eq_false (show ¬ ((j : Int) ≤ (j : Int) - 1) by omega)]; simp
    · simp [h]
  rw [e1, Bool.not_false, Bool.true_and]
  by_cases h : j < i
  · rw [if_pos h, kidsF, if_neg (by rw [chain_len]; omega), show ((j : Int) + 1).toNat = j + 1 by omega, chain_get n i T (j + 1) (by omega)]
    dsimp only
    have hc : nd n i T (j + 1) = ⟨3, (j : Int), T, (j : Int), (nd n i T (j + 1)).ks, false⟩ := by
      rw [nd_kids _ _ _ _ (by omega)]
      unfold nd
      rw [if_neg (by omega), show ((j + 1 : Nat) : Int) - 1 = (j : Int) by omega]
    rw [hc]
    dsimp only
    have hx : (nd n i T j).f ≤ (j : Int) ∧ T ≤ (nd n i T j).t := by
      unfold nd
      split
      · exact ⟨by show (0 : Int) ≤ _; omega, h2⟩
      · exact ⟨by show (j : Int) - 1 ≤ _; omega, Int.le_refl _⟩
    rw [if_neg (by omega)]
    rfl
  · rw [if_neg h]; rfl
theorem chain_check (n : Int) (i : Nat) (T : Int) (h1 : (i : Int) ≤ T) (h2 : T ≤ n) : checkN (chain n i T) n = true := by
  refine check_ok ?_ (fun j hj => chain_node n i T h1 h2 j (by rw [chain_len] at hj; omega)) (fun j h0 hj => chain_seen n i T j h0 (by rw [chain_len] at hj; omega))
  unfold firstOk chain
  rw [List.range_succ_eq_map]
  show (!(decide ((1 : Int) ≠ 1) || decide ((0 : Int) ≠ 0) || decide (n ≠ n) || decide ((-1 : Int) ≠ -1) || decide (n < 0))) = true
  rw [decide_eq_false (show ¬ (n < 0) by omega)]
  simp
theorem chain_kids (n : Int) (i : Nat) (T : Int) : ∀ x ∈ chain n i T, x.ks.length ≤ 200 := by
  intro x hx
  unfold chain at hx
  obtain ⟨j, hj, rfl⟩ := List.mem_map.1 hx
  have := List.mem_range.1 hj
  rw [nd_kids _ _ _ _ (by omega)]
  split <;> simp
end Go.Proofs.Ythkieidcjakhgaa.Ar
