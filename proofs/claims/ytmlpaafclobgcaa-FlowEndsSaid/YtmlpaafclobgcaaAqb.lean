/- Package arena's Check, plainly: what is held and what is in order is what the document asks (no program text). -/
import Derived.Test.YtmlpaafclobgcaaMgG
namespace Go.Proofs.Ytmlpaafclobgcaa.Ar
set_option linter.unusedVariables false

def upK (l : List Nd) (i : Nat) : List Int := (l.take i).flatMap (·.ks)
theorem upK_succ {l : List Nd} {i : Nat} {x : Nd} (h : l[i]? = some x) : upK l (i + 1) = upK l i ++ x.ks := by
  unfold upK
  rw [List.take_add_one, h, List.flatMap_append]
  simp
theorem upK_mem {l : List Nd} : ∀ (i : Nat) {z : Int}, z ∈ upK l i → ∃ (j : Nat) (x : Nd), j < i ∧ l[j]? = some x ∧ z ∈ x.ks
  | 0, z => fun h => by simp [upK] at h
  | i + 1, z => fun h => by
    cases hx : l[i]? with
    | none =>
      have : upK l (i + 1) = upK l i := by unfold upK; rw [List.take_add_one, hx]; simp
      rw [this] at h
      obtain ⟨j, x, h1, h2⟩ := upK_mem i h
      exact ⟨j, x, by omega, h2⟩
    | some x =>
      rw [upK_succ hx, List.mem_append] at h
      rcases h with h | h
      · obtain ⟨j, y, h1, h2⟩ := upK_mem i h
        exact ⟨j, y, by omega, h2⟩
      · exact ⟨i, x, by omega, hx, h⟩
theorem mem_upK {l : List Nd} {j : Nat} {x : Nd} {z : Int} (hx : l[j]? = some x) (hz : z ∈ x.ks) : ∀ (i : Nat), j < i → z ∈ upK l i
  | 0 => fun h => absurd h (Nat.not_lt_zero j)
  | i + 1 => fun h => by
    by_cases e : j = i
    · subst e
      rw [upK_succ hx, List.mem_append]; exact .inr hz
    · have := mem_upK hx hz i (by omega)
      cases hy : l[i]? with
      | none => 
        have e2 : upK l (i + 1) = upK l i := by unfold upK; rw [List.take_add_one, hy]; simp
        rw [e2]; exact this
      | some y => rw [upK_succ hy, List.mem_append]; exact .inl this
theorem seen_upK (l : List Nd) (i n : Nat) : seenN l i n = (upK l i).countP (fun z => z == (n : Int)) := rfl
/-- A kid is its node's alone, and stands there for the first time. -/
def Pair (l : List Nd) (i : Nat) (x : Nd) (k : Nat) (z : Int) : Prop := (i : Int) < z ∧ z < l.length ∧ (∀ c, l[z.toNat]? = some c → c.u = (i : Int)) ∧ z ∉ x.ks.take k
def Pairs (l : List Nd) (i : Nat) : Prop := ∀ (j : Nat) (x : Nd), j < i → l[j]? = some x → ∀ (k : Nat) (z : Int), x.ks[k]? = some z → Pair l j x k z
def Held (l : List Nd) : Prop := Pairs l l.length ∧ ∀ z : Nat, 0 < z → z < l.length → (z : Int) ∈ upK l l.length
def ordF (l : List Nd) : Int → List Int → Option Int
  | p, [] => some p
  | p, z :: r => match l[z.toNat]? with
    | none => none
    | some c => if c.f < p then none else ordF l c.t r
def nodeOrd (l : List Nd) (x : Nd) : Bool := match ordF l x.f x.ks with
  | none => false
  | some q => decide (q ≤ x.t)
def Ordd (l : List Nd) : Prop := ∀ (i : Nat) (x : Nd), l[i]? = some x → nodeOrd l x = true
/-- The first node, as package arena asks it. -/
def beginN (l : List Nd) (n : Int) : Bool := match l with
  | [] => false
  | x :: _ => decide (x.k = 1) && decide (x.f = 0) && decide (x.t = n) && decide (x.u = -1)
theorem nodeOrd_q {l : List Nd} {x : Nd} (h : nodeOrd l x = true) : ∃ q, ordF l x.f x.ks = some q ∧ q ≤ x.t := by
  unfold nodeOrd at h
  cases hq : ordF l x.f x.ks with
  | none => rw [hq] at h; cases h
  | some q => rw [hq] at h; exact ⟨q, rfl, of_decide_eq_true h⟩
theorem ordF_ge (l : List Nd) : ∀ (ks : List Int) (p q : Int), (∀ z ∈ ks, ∀ c, l[z.toNat]? = some c → c.f ≤ c.t) → ordF l p ks = some q → p ≤ q
  | [], p, q => fun _ h => by
    rw [ordF] at h
    exact Int.le_of_eq (Option.some.inj h)
  | z :: r, p, q => fun hk h => by
    rw [ordF] at h
    cases hc : l[z.toNat]? with
    | none => rw [hc] at h; cases h
    | some c =>
      rw [hc] at h
      dsimp only at h
      by_cases hp : c.f < p
      · rw [if_pos hp] at h; cases h
      · rw [if_neg hp] at h
        have h1 := ordF_ge l r c.t q (fun y hy => hk y (List.mem_cons_of_mem _ hy)) h
        have h2 := hk z (List.mem_cons_self ..) c hc
        omega
theorem f_le_t {l : List Nd} (hp : Pairs l l.length) (ho : Ordd l) : ∀ (d i : Nat) (x : Nd), l.length - i ≤ d → l[i]? = some x → x.f ≤ x.t
  | 0, i, x => fun hd hx => by
    have := (List.getElem?_eq_some_iff.1 hx).1
    omega
  | d + 1, i, x => fun hd hx => by
    have hi := (List.getElem?_eq_some_iff.1 hx).1
    obtain ⟨q, h1, h2⟩ := nodeOrd_q (ho i x hx)
    have := ordF_ge l x.ks x.f q (fun z hz c hc => by
      obtain ⟨k, hk⟩ := List.getElem?_of_mem hz
      obtain ⟨e1, e2, _, _⟩ := hp i x hi hx k z hk
      exact f_le_t hp ho d z.toNat c (by omega) hc) h1
    omega
theorem ord_kids {l : List Nd} {i : Nat} {x : Nd} : ∀ (ks : List Int) (p q : Int), (∀ z ∈ ks, 0 < z ∧ z < l.length ∧ ∀ c, l[z.toNat]? = some c → c.u = (i : Int) ∧ c.f ≤ c.t) → ordF l p ks = some q → q ≤ x.t → kidsF l i x p ks = true
  | [], p, q => fun _ _ _ => rfl
  | z :: r, p, q => fun hk h hq => by
    obtain ⟨h0, h1, h2⟩ := hk z (List.mem_cons_self ..)
    obtain ⟨c, hc⟩ : ∃ c, l[z.toNat]? = some c := ⟨_, List.getElem?_eq_getElem (by omega)⟩
    obtain ⟨h3, h4⟩ := h2 c hc
    rw [ordF, hc] at h
    dsimp only at h
    by_cases hp : c.f < p
    · rw [if_pos hp] at h; cases h
    · rw [if_neg hp] at h
      have hk' := fun y hy => hk y (List.mem_cons_of_mem z hy)
      have h5 := ordF_ge l r c.t q (fun y hy d hd => ((hk' y hy).2.2 d hd).2) h
      rw [kidsF, if_neg (by omega), hc]
      dsimp only
      rw [if_neg (by omega)]
      exact ord_kids r c.t q hk' h hq
theorem kids_ord {l : List Nd} {i : Nat} {x : Nd} : ∀ (ks : List Int) (p : Int), kidsF l i x p ks = true → ∃ q, ordF l p ks = some q ∧ (q ≤ x.t ∨ (ks = [] ∧ q = p))
  | [], p => fun _ => ⟨p, rfl, .inr ⟨rfl, rfl⟩⟩
  | z :: r, p => fun h => by
    cases hb : badK l i x p z with
    | true => rw [kidsF_bad hb] at h; cases h
    | false =>
      obtain ⟨c, h0, h1, hc, h4⟩ := kidsF_step (r := r) hb
      rw [h4] at h
      obtain ⟨q, h5, h6⟩ := kids_ord r c.t h
      unfold badK at hb
      rw [hc] at hb
      simp only [Bool.or_eq_false_iff, decide_eq_false_iff_not] at hb
      obtain ⟨_, ⟨⟨_, hp⟩, ht⟩, _⟩ := hb
      refine ⟨q, ?_, .inl ?_⟩
      · rw [ordF, hc]
        dsimp only
        rw [if_neg hp]
        exact h5
      · rcases h6 with h6 | ⟨_, h6⟩
        · exact h6
        · omega
theorem kids_mem {l : List Nd} {i : Nat} {x : Nd} : ∀ (ks : List Int) (p : Int), kidsF l i x p ks = true → ∀ z ∈ ks, ∃ c, 0 < z ∧ z < l.length ∧ l[z.toNat]? = some c ∧ c.u = (i : Int) ∧ c.f ≤ c.t
  | [], p => fun _ z hz => by cases hz
  | y :: r, p => fun h z hz => by
    cases hb : badK l i x p y with
    | true => rw [kidsF_bad hb] at h; cases h
    | false =>
      obtain ⟨c, h0, h1, hc, h4⟩ := kidsF_step (r := r) hb
      rw [h4] at h
      rcases List.mem_cons.1 hz with rfl | hz
      · unfold badK at hb
        rw [hc] at hb
        simp only [Bool.or_eq_false_iff, decide_eq_false_iff_not] at hb
        obtain ⟨_, ⟨⟨hu, _⟩, _⟩, hf⟩ := hb
        exact ⟨c, h0, h1, hc, by omega, by omega⟩
      · exact kids_mem r c.t h z hz
theorem one_of : ∀ (ks : List Int) (z : Int), (∀ (k : Nat), ks[k]? = some z → z ∉ ks.take k) → z ∈ ks → ks.countP (fun y => y == z) = 1
  | [], z => fun _ h => by cases h
  | y :: r, z => fun h hz => by
    rw [List.countP_cons]
    by_cases e : y = z
    · subst e
      have : r.countP (fun w => w == y) = 0 := by
        rw [List.countP_eq_zero]
        intro w hw e
        have e : w = y := by simpa using e
        subst e
        obtain ⟨k, hk⟩ := List.getElem?_of_mem hw
        exact h (k + 1) (by simpa using hk) (by simp)
      simp [this]
    · have hr : z ∈ r := by
        rcases List.mem_cons.1 hz with h1 | h1
        · exact absurd h1.symm e
        · exact h1
      have := one_of r z (fun k hk hm => h (k + 1) (by simpa using hk) (by rw [List.take_succ_cons]; exact List.mem_cons_of_mem _ hm)) hr
      simp [e, this]
theorem two_of (ks : List Int) (k : Nat) (z : Int) (hk : ks[k]? = some z) (hm : z ∈ ks.take k) : 2 ≤ ks.countP (fun y => y == z) := by
  have h1 : ks = ks.take k ++ (z :: ks.drop (k + 1)) := by
    have h2 := List.getElem?_eq_some_iff.1 hk
    have h3 := List.drop_eq_getElem_cons h2.1
    rw [h2.2] at h3
    rw [← h3, List.take_append_drop]
  rw [h1, List.countP_append, List.countP_cons]
  have : 0 < (ks.take k).countP (fun y => y == z) := List.countP_pos_iff.2 ⟨z, hm, by simp⟩
  simp
  omega
/-- How often a number is a kid: in its own node alone. -/
theorem seen_own {l : List Nd} {m : Nat} {y : Nd} {n : Nat} (hy : l[m]? = some y) (h : ∀ (j : Nat) (x : Nd), l[j]? = some x → (n : Int) ∈ x.ks → j = m) : ∀ i, i ≤ l.length → seenN l i n = if m < i then y.ks.countP (fun z => z == (n : Int)) else 0
  | 0 => fun _ => by simp [seenN]
  | i + 1 => fun hi => by
    obtain ⟨x, hx⟩ : ∃ x, l[i]? = some x := ⟨_, List.getElem?_eq_getElem hi⟩
    have ih := seen_own hy h i (by omega)
    rw [seen_upK] at ih ⊢
    rw [upK_succ hx, List.countP_append, ih]
    by_cases e : i = m
    · subst e
      rw [hx] at hy
      obtain rfl := Option.some.inj hy
      rw [if_neg (by omega), if_pos (by omega)]
      omega
    · have : x.ks.countP (fun z => z == (n : Int)) = 0 := by
        rw [List.countP_eq_zero]
        intro w hw e2
        have e2 : w = (n : Int) := by simpa using e2
        subst e2
        exact e (h i x hx hw)
      rw [this]
      by_cases c : m < i
      · rw [if_pos c, if_pos (by omega)]; omega
      · rw [if_neg c, if_neg (by omega)]
theorem seen_ge {l : List Nd} {j : Nat} {x : Nd} (hx : l[j]? = some x) (n : Nat) : ∀ i, j < i → x.ks.countP (fun z => z == (n : Int)) ≤ seenN l i n
  | 0 => fun h => absurd h (Nat.not_lt_zero j)
  | i + 1 => fun h => by
    cases hy : l[i]? with
    | none =>
      have h1 := (List.getElem?_eq_some_iff.1 hx).1
      rw [List.getElem?_eq_none_iff] at hy
      have := seen_ge hx n i (by omega)
      have e2 : upK l (i + 1) = upK l i := by unfold upK; rw [List.take_add_one, List.getElem?_eq_none hy]; simp
      rw [seen_upK] at this ⊢
      rw [e2]; exact this
    | some y =>
      rw [seen_upK, upK_succ hy, List.countP_append]
      by_cases e : j = i
      · subst e
        rw [hx] at hy
        obtain rfl := Option.some.inj hy
        omega
      · have := seen_ge hx n i (by omega)
        rw [seen_upK] at this
        omega
theorem check_to {l : List Nd} {n : Int} (hb : beginN l n = true) (hh : Held l) (ho : Ordd l) : checkN l n = true := by
  obtain ⟨hp, hs⟩ := hh
  have hft := fun i x hx => f_le_t hp ho (l.length - i) i x (Nat.le_refl _) hx
  have hpos : 0 < l.length := by
    cases l with
    | nil => cases hb
    | cons _ _ => simp
  unfold checkN
  have h1 : firstOk l n = true := by
    cases l with
    | nil => cases hb
    | cons x r =>
      unfold beginN at hb
      simp only [Bool.and_eq_true, decide_eq_true_eq] at hb
      have := hft 0 x rfl
      unfold firstOk
      have hn : ¬ n < 0 := by omega
      simp [hb, hn]
  have hup : ∀ (i : Nat), 0 < i → ∀ x, l[i]? = some x → ∃ (j : Nat) (y : Nd), j < i ∧ l[j]? = some y ∧ (i : Int) ∈ y.ks ∧ x.u = (j : Int) := fun i h0 x hx => by
    have hi := (List.getElem?_eq_some_iff.1 hx).1
    obtain ⟨j, y, hj, hy, hz⟩ := upK_mem _ (hs i h0 hi)
    obtain ⟨k, hk⟩ := List.getElem?_of_mem hz
    obtain ⟨e1, e2, e3, _⟩ := hp j y hj hy k _ hk
    exact ⟨j, y, by omega, hy, hz, e3 x (by rw [Int.toNat_natCast]; exact hx)⟩
  have h2 : (List.range l.length).all (nodeOk l) = true := by
    rw [List.all_eq_true]
    intro i hi
    have hi := List.mem_range.1 hi
    obtain ⟨x, hx⟩ : ∃ x, l[i]? = some x := ⟨_, List.getElem?_eq_getElem hi⟩
    have hk : kidsN l i = true := by
      unfold kidsN
      rw [hx]
      obtain ⟨q, h3, h4⟩ := nodeOrd_q (ho i x hx)
      refine ord_kids x.ks x.f q (fun z hz => ?_) h3 h4
      obtain ⟨k, hk⟩ := List.getElem?_of_mem hz
      obtain ⟨e1, e2, e3, _⟩ := hp i x hi hx k z hk
      exact ⟨by omega, e2, fun c hc => ⟨e3 c hc, hft _ c hc⟩⟩
    unfold nodeOk
    rw [hx]
    dsimp only
    rw [hk, Bool.and_true]
    rcases Nat.eq_zero_or_pos i with e | e
    · simp [e]
    · obtain ⟨j, y, h5, _, _, h6⟩ := hup i e x hx
      simp [e]
      omega
  have h3 : (List.range l.length).all (fun i => i == 0 || seenN l l.length i == 1) = true := by
    rw [List.all_eq_true]
    intro i hi
    have hi := List.mem_range.1 hi
    rcases Nat.eq_zero_or_pos i with e | e
    · simp [e]
    · obtain ⟨x, hx⟩ : ∃ x, l[i]? = some x := ⟨_, List.getElem?_eq_getElem hi⟩
      obtain ⟨m, y, h5, hy, hz, h6⟩ := hup i e x hx
      have hm := (List.getElem?_eq_some_iff.1 hy).1
      have := seen_own hy (n := i) (fun j x' hx' hz' => by
        have hj := (List.getElem?_eq_some_iff.1 hx').1
        obtain ⟨k, hk⟩ := List.getElem?_of_mem hz'
        obtain ⟨_, _, e3, _⟩ := hp j x' hj hx' k _ hk
        have := e3 x (by rw [Int.toNat_natCast]; exact hx)
        omega) l.length (Nat.le_refl _)
      rw [if_pos hm, one_of y.ks i (fun k hk => (hp m y hm hy k _ hk).2.2.2) hz] at this
      simp [this]
  rw [h1, h2, h3]; rfl
theorem check_from {l : List Nd} {n : Int} (h : checkN l n = true) : beginN l n = true ∧ Held l ∧ Ordd l := by
  unfold checkN at h
  simp only [Bool.and_eq_true] at h
  obtain ⟨⟨h1, h2⟩, h3⟩ := h
  rw [List.all_eq_true] at h2 h3
  have hnk : ∀ (i : Nat) (x : Nd), l[i]? = some x → (0 < i → 0 ≤ x.u ∧ x.u < i) ∧ kidsF l i x x.f x.ks = true := fun i x hx => by
    have hi := (List.getElem?_eq_some_iff.1 hx).1
    have h4 := h2 i (List.mem_range.2 hi)
    unfold nodeOk at h4
    rw [hx] at h4
    dsimp only at h4
    rw [Bool.and_eq_true] at h4
    obtain ⟨h5, h6⟩ := h4
    unfold kidsN at h6
    rw [hx] at h6
    refine ⟨fun h0 => ?_, h6⟩
    simp [h0] at h5
    omega
  have hsn : ∀ i : Nat, 0 < i → i < l.length → seenN l l.length i = 1 := fun i h0 hi => by
    have := h3 i (List.mem_range.2 hi)
    have e : (i == 0) = false := by simp; omega
    rw [e] at this
    simpa using this
  have hbeg : beginN l n = true ∧ 0 ≤ n ∧ ∀ x, l[0]? = some x → x.f ≤ x.t := by
    cases l with
    | nil => cases h1
    | cons x r =>
      unfold firstOk at h1
      simp at h1
      refine ⟨by unfold beginN; simp [h1], by omega, fun y hy => ?_⟩
      obtain rfl : x = y := by simpa using hy
      omega
  have hmem : ∀ (z : Nat), 0 < z → z < l.length → (z : Int) ∈ upK l l.length := fun z h0 hz => by
    have := hsn z h0 hz
    rw [seen_upK] at this
    have hp : 0 < (upK l l.length).countP (fun y => y == (z : Int)) := by omega
    obtain ⟨y, h5, h6⟩ := List.countP_pos_iff.1 hp
    have h6 : y = (z : Int) := by simpa using h6
    rw [← h6]; exact h5
  refine ⟨hbeg.1, ⟨fun j x hj hx k z hk => ?_, hmem⟩, fun i x hx => ?_⟩
  · obtain ⟨c, e1, e2, hc, e4, _⟩ := kids_mem x.ks x.f (hnk j x hx).2 z (List.mem_of_getElem? hk)
    have hcu := (hnk _ c hc).1 (by omega)
    refine ⟨by omega, e2, fun d hd => ?_, fun hm => ?_⟩
    · rw [hc] at hd
      rw [← Option.some.inj hd]; exact e4
    · obtain ⟨zn, rfl⟩ : ∃ zn : Nat, z = (zn : Int) := ⟨z.toNat, by omega⟩
      have h5 := two_of x.ks k _ hk hm
      have h6 := seen_ge hx zn l.length hj
      have h7 := hsn zn (by omega) (by omega)
      omega
  · obtain ⟨q, h5, h6⟩ := kids_ord x.ks x.f (hnk i x hx).2
    have hft : x.f ≤ x.t := by
      rcases Nat.eq_zero_or_pos i with e | e
      · subst e; exact hbeg.2.2 x hx
      · have hi := (List.getElem?_eq_some_iff.1 hx).1
        obtain ⟨j, y, _, hy, hz⟩ := upK_mem _ (hmem i e hi)
        obtain ⟨c, _, _, hc, _, e5⟩ := kids_mem y.ks y.f (hnk j y hy).2 _ hz
        rw [Int.toNat_natCast, hx] at hc
        obtain rfl := Option.some.inj hc
        exact e5
    unfold nodeOrd
    rw [h5]
    dsimp only
    refine decide_eq_true ?_
    rcases h6 with h6 | ⟨_, h6⟩
    · exact h6
    · omega
end Go.Proofs.Ytmlpaafclobgcaa.Ar
