/- Trees in a row, plainly (chapter 10; no program text): New, reach, Add, Grow, Check, Same. -/
import Derived.Test.YthkieidcjakhgaaChecked
namespace Go.Proofs.Ythkieidcjakhgaa.Ar

/-- A node: its kind, from, to (t), the node that it is in, the nodes in it, whether its first kid is its key. -/
structure Nd where
  k : Int
  f : Int
  t : Int
  u : Int
  ks : List Int
  y : Bool
def newN (n : Int) : List Nd := [⟨1, 0, if n < 0 ∨ 32768 < n then 0 else n, -1, [], false⟩]
/-- From a node on, the way out: each reaches as far as that, at least. -/
def reachF : Nat → List Nd → Int → Int → List Nd
  | 0, l, _, _ => l
  | f + 1, l, k, to' => if k < 0 then l else match l[k.toNat]? with
    | none => l
    | some x => reachF f (l.set k.toNat { x with t := max x.t to' }) x.u to'
def reachN (l : List Nd) (k to' : Int) : List Nd := reachF (l.length + 1) l k to'
def firstT (l : List Nd) : Int := match l with
  | [] => 0
  | x :: _ => x.t
def atT (l : List Nd) (i : Int) : Int := match l[i.toNat]? with
  | some x => x.t
  | none => 0
/-- May such a node be added? -/
def mayAdd (l : List Nd) (up kind f t : Int) : Bool :=
  !(decide (up < 0) || decide ((l.length : Int) ≤ up) || decide (kind < 1) || decide (11 < kind) || decide (t < f) || decide (firstT l < t)) &&
  match l[up.toNat]? with
  | none => false
  | some p => !(decide (f < p.f)) && match p.ks.getLast? with
    | none => true
    | some z => !(decide (f < atT l z))
def addN (l : List Nd) (up kind f t : Int) : List Nd × Int :=
  if mayAdd l up kind f t = true then
    match l[up.toNat]? with
    | none => (l, -1)
    | some p => (reachN ((l ++ [(⟨kind, f, t, up, [], false⟩ : Nd)]).set up.toNat { p with ks := p.ks ++ [(l.length : Int)] }) up t, l.length)
  else (l, -1)
def mayGrow (l : List Nd) (i t : Int) : Bool := !(decide (i < 0) || decide ((l.length : Int) ≤ i) || decide (firstT l < t))
def growN (l : List Nd) (i t : Int) : List Nd := if mayGrow l i t = true then reachN l i t else l
/-- Trees that calls lead to: each node's Up is one ahead of it (the first one's is none), its kids are nodes. -/
structure Good (l : List Nd) : Prop where
  pos : 0 < l.length
  up : ∀ (i : Nat) (x : Nd), l[i]? = some x → -1 ≤ x.u ∧ x.u < i
  kid : ∀ (i : Nat) (x : Nd), l[i]? = some x → ∀ z ∈ x.ks, 0 ≤ z ∧ z < l.length
  ext : ∀ (i : Nat) (x : Nd), l[i]? = some x → ∀ z ∈ x.ks, ∀ y, l[z.toNat]? = some y → x.f ≤ y.t
theorem good_new (n : Int) : Good (newN n) := by
  refine ⟨by simp [newN], fun i x h => ?_, fun i x h => ?_, fun i x h => ?_⟩
  · cases i with
    | zero => obtain rfl : _ = x := by simpa [newN] using h
              exact ⟨Int.le_refl _, by show (-1 : Int) < 0; decide⟩
    | succ i => simp [newN] at h
  · cases i with
    | zero => obtain rfl : _ = x := by simpa [newN] using h
              intro z hz; simp at hz
    | succ i => simp [newN] at h
  · cases i with
    | zero => obtain rfl : _ = x := by simpa [newN] using h
              intro z hz; simp at hz
    | succ i => simp [newN] at h
theorem good_set {l : List Nd} (h : Good l) (i : Nat) (x : Nd) (hx : l[i]? = some x) (t : Int) (ht : x.t ≤ t) : Good (l.set i { x with t := t }) := by
  have hi := (List.getElem?_eq_some_iff.1 hx).1
  have key : ∀ (j : Nat) (y : Nd), (l.set i { x with t := t })[j]? = some y → ∃ y', l[j]? = some y' ∧ y.f = y'.f ∧ y.ks = y'.ks ∧ y'.t ≤ y.t := by
    intro j y hy
    rw [List.getElem?_set] at hy
    split at hy
    · rename_i e; subst e
      injection hy with hy; subst hy
      exact ⟨x, hx, rfl, rfl, ht⟩
    · exact ⟨y, hy, rfl, rfl, Int.le_refl _⟩
  refine ⟨by rw [List.length_set]; exact h.pos, fun j y hy => ?_, fun j y hy => ?_, fun j y hy z hz y2 hy2 => by
    obtain ⟨y', h1, h2, h3, _⟩ := key j y hy
    obtain ⟨y2', h4, _, _, h5⟩ := key _ y2 hy2
    rw [h3] at hz
    have := h.ext j y' h1 z hz y2' h4
    rw [h2]; omega⟩
  · rw [List.getElem?_set] at hy
    split at hy
    · rename_i e; subst e
      injection hy with hy; subst hy
      exact h.up i x hx
    · exact h.up j y hy
  · rw [List.length_set]
    rw [List.getElem?_set] at hy
    split at hy
    · rename_i e; subst e
      injection hy with hy; subst hy
      exact h.kid i x hx
    · exact h.kid j y hy
theorem good_reach : ∀ (f : Nat) (l : List Nd) (k t : Int), Good l → Good (reachF f l k t) ∧ (reachF f l k t).length = l.length
  | 0, l, k, t => fun h => ⟨h, rfl⟩
  | f + 1, l, k, t => fun h => by
    rw [reachF]
    by_cases hk : k < 0
    · rw [if_pos hk]; exact ⟨h, rfl⟩
    · rw [if_neg hk]
      cases hx : l[k.toNat]? with
      | none => exact ⟨h, rfl⟩
      | some x =>
        have ih := good_reach f _ x.u t (good_set h k.toNat x hx (max x.t t) (Int.le_max_left _ _))
        exact ⟨ih.1, by rw [ih.2, List.length_set]⟩
/-- The fuel does not bear, if there is enough. -/
theorem reach_fuel : ∀ (f g : Nat) (l : List Nd) (k t : Int), Good l → k < f → k < g → reachF f l k t = reachF g l k t
  | 0, g, l, k, t => fun h h1 h2 => by
    rw [reachF]
    cases g with
    | zero => rfl
    | succ g => rw [reachF, if_pos (by omega)]
  | f + 1, 0, l, k, t => fun h h1 h2 => by
    rw [reachF, reachF, if_pos (by omega)]
  | f + 1, g + 1, l, k, t => fun h h1 h2 => by
    rw [reachF, reachF]
    by_cases hk : k < 0
    · rw [if_pos hk, if_pos hk]
    · rw [if_neg hk, if_neg hk]
      cases hx : l[k.toNat]? with
      | none => rfl
      | some x =>
        have hu := (h.up _ x hx).2
        exact reach_fuel f g _ x.u t (good_set h k.toNat x hx _ (Int.le_max_left _ _)) (by omega) (by omega)
theorem reach_step (l : List Nd) (k t : Int) (x : Nd) (h : Good l) (hk : 0 ≤ k) (hx : l[k.toNat]? = some x) : reachN l k t = reachN (l.set k.toNat { x with t := max x.t t }) x.u t := by
  have hi := (List.getElem?_eq_some_iff.1 hx).1
  unfold reachN
  rw [reachF, if_neg (by omega), hx]
  dsimp only
  have hu := (h.up _ x hx).2
  exact reach_fuel _ _ _ _ _ (good_set h k.toNat x hx _ (Int.le_max_left _ _)) (by omega) (by rw [List.length_set]; omega)
theorem reach_stop (l : List Nd) (k t : Int) (hk : k < 0) : reachN l k t = l := by
  unfold reachN; rw [reachF, if_pos hk]
theorem good_reachN {l : List Nd} (k t : Int) (h : Good l) : Good (reachN l k t) := (good_reach _ l k t h).1
theorem len_reachN {l : List Nd} (k t : Int) (h : Good l) : (reachN l k t).length = l.length := (good_reach _ l k t h).2
theorem may_up {l : List Nd} {up kind f t : Int} (h : mayAdd l up kind f t = true) : 0 ≤ up ∧ up < l.length ∧ ∃ p, l[up.toNat]? = some p := by
  unfold mayAdd at h
  cases hp : l[up.toNat]? with
  | none => rw [hp] at h; simp at h
  | some p =>
    rw [hp] at h
    simp at h
    exact ⟨by omega, by omega, p, rfl⟩
theorem may_le {l : List Nd} {up kind f t : Int} {p : Nd} (h : mayAdd l up kind f t = true) (hp : l[up.toNat]? = some p) : p.f ≤ t ∧ f ≤ t := by
  unfold mayAdd at h
  rw [hp] at h
  simp at h
  omega
theorem good_put {l : List Nd} (h : Good l) (up kind f t : Int) (p : Nd) (h0 : 0 ≤ up) (hp : l[up.toNat]? = some p) (hf : p.f ≤ t) :
    Good ((l ++ [(⟨kind, f, t, up, [], false⟩ : Nd)]).set up.toNat { p with ks := p.ks ++ [(l.length : Int)] }) := by
  have hi := (List.getElem?_eq_some_iff.1 hp).1
  have hlen : ((l ++ [(⟨kind, f, t, up, [], false⟩ : Nd)]).set up.toNat { p with ks := p.ks ++ [(l.length : Int)] }).length = l.length + 1 := by simp
  have key : ∀ j y, ((l ++ [(⟨kind, f, t, up, [], false⟩ : Nd)]).set up.toNat { p with ks := p.ks ++ [(l.length : Int)] })[j]? = some y → (j = up.toNat ∧ y = { p with ks := p.ks ++ [(l.length : Int)] }) ∨ (j ≠ up.toNat ∧ l[j]? = some y) ∨ (j = l.length ∧ y = ⟨kind, f, t, up, [], false⟩) := by
    intro j y hy
    rw [List.getElem?_set] at hy
    split at hy
    · rename_i e; subst e
      try rw [if_pos (by simp; omega)] at hy
      injection hy with hy
      exact .inl ⟨rfl, hy.symm⟩
    · rename_i e
      rcases Nat.lt_trichotomy j l.length with hj | hj | hj
      · rw [List.getElem?_append_left hj] at hy
        exact .inr (.inl ⟨fun h => e h.symm, hy⟩)
      · subst hj
        rw [List.getElem?_append_right (Nat.le_refl _)] at hy
        simp at hy
        exact .inr (.inr ⟨rfl, hy.symm⟩)
      · rw [List.getElem?_eq_none (by simp; omega)] at hy; cases hy
  refine ⟨by omega, fun j y hy => ?_, fun j y hy z hz => ?_, fun j y hy z hz y2 hy2 => by
    have old : ∀ (q : Nd) (j : Nat), l[j]? = some q → z ∈ q.ks → q.f ≤ y2.t := fun q j hq hzq => by
      have hb := h.kid j q hq z hzq
      rcases key _ y2 hy2 with ⟨e, rfl⟩ | ⟨_, h4⟩ | ⟨e, _⟩
      · exact h.ext j q hq z hzq p (by rw [e]; exact hp)
      · exact h.ext j q hq z hzq y2 h4
      · omega
    rcases key j y hy with ⟨rfl, rfl⟩ | ⟨_, hy⟩ | ⟨rfl, rfl⟩
    · rcases List.mem_append.1 hz with hz | hz
      · exact old p _ hp hz
      · obtain rfl : z = (l.length : Int) := by simpa using hz
        rcases key _ y2 hy2 with ⟨e, rfl⟩ | ⟨_, h4⟩ | ⟨e, rfl⟩
        · have : up.toNat = l.length := by omega
          omega
        · have := (List.getElem?_eq_some_iff.1 h4).1
          omega
        · exact hf
    · exact old y j hy hz
    · simp at hz⟩
  · rcases key j y hy with ⟨rfl, rfl⟩ | ⟨_, hy⟩ | ⟨rfl, rfl⟩
    · exact h.up _ p hp
    · exact h.up j y hy
    · exact ⟨by show -1 ≤ up; omega, by show up < _; omega⟩
  · rw [hlen]
    rcases key j y hy with ⟨rfl, rfl⟩ | ⟨_, hy⟩ | ⟨rfl, rfl⟩
    · rcases List.mem_append.1 hz with hz | hz
      · have := h.kid _ p hp z hz; omega
      · simp at hz; omega
    · have := h.kid j y hy z hz; omega
    · simp at hz
theorem good_add {l : List Nd} (h : Good l) (up kind f t : Int) : Good (addN l up kind f t).1 := by
  unfold addN
  by_cases hm : mayAdd l up kind f t = true
  · rw [if_pos hm]
    obtain ⟨h0, _, p, hp⟩ := may_up hm
    rw [hp]
    exact good_reachN _ _ (good_put h up kind f t p h0 hp (may_le hm hp).1)
  · rw [if_neg hm]; exact h
theorem good_grow {l : List Nd} (h : Good l) (i t : Int) : Good (growN l i t) := by
  unfold growN
  split
  · exact good_reachN _ _ h
  · exact h
theorem len_add {l : List Nd} (h : Good l) (up kind f t : Int) : (addN l up kind f t).1.length ≤ l.length + 1 := by
  unfold addN
  by_cases hm : mayAdd l up kind f t = true
  · rw [if_pos hm]
    obtain ⟨h0, _, p, hp⟩ := may_up hm
    rw [hp]
    show (reachN _ _ _).length ≤ _
    rw [len_reachN _ _ (good_put h up kind f t p h0 hp (may_le hm hp).1)]
    simp
  · rw [if_neg hm]; exact Nat.le_succ _
theorem len_grow {l : List Nd} (h : Good l) (i t : Int) : (growN l i t).length = l.length := by
  unfold growN
  split
  · exact len_reachN _ _ h
  · rfl
/-- Do node i's kids lie as they must, one behind the other from a place on? -/
def kidsF (l : List Nd) (i : Nat) (x : Nd) : Int → List Int → Bool
  | _, [] => true
  | p, n :: r => if n ≤ 0 ∨ (l.length : Int) ≤ n then false else match l[n.toNat]? with
    | none => false
    | some c => if c.u ≠ (i : Int) ∨ c.f < p ∨ x.t < c.t ∨ c.t < c.f then false else kidsF l i x c.t r
def kidsN (l : List Nd) (i : Nat) : Bool := match l[i]? with
  | none => false
  | some x => kidsF l i x x.f x.ks
/-- How often a number stands in all nodes' kids up to a node. -/
def seenN (l : List Nd) (i : Nat) (n : Nat) : Nat := ((l.take i).flatMap (·.ks)).countP (fun z => z == (n : Int))
def firstOk (l : List Nd) (n : Int) : Bool := match l with
  | [] => false
  | x :: _ => !(decide (x.k ≠ 1) || decide (x.f ≠ 0) || decide (x.t ≠ n) || decide (x.u ≠ -1) || decide (n < 0))
def nodeOk (l : List Nd) (i : Nat) : Bool := match l[i]? with
  | none => false
  | some x => !(decide (0 < i) && (decide (x.u < 0) || decide ((i : Int) ≤ x.u))) && kidsN l i
def checkN (l : List Nd) (n : Int) : Bool := firstOk l n && (List.range l.length).all (nodeOk l) && (List.range l.length).all (fun i => i == 0 || seenN l l.length i == 1)
def sameNd (x y : Nd) : Bool := decide (x.k = y.k) && decide (x.f = y.f) && decide (x.t = y.t) && decide (x.u = y.u) && (x.y == y.y) && decide (x.ks = y.ks)
def sameN : List Nd → List Nd → Bool
  | [], [] => true
  | x :: r, y :: q => sameNd x y && sameN r q
  | _, _ => false
end Go.Proofs.Ythkieidcjakhgaa.Ar
