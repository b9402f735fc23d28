/- Several texts in one: Ar0 Ckt Ckf Ckg Flp Flq Flr Fls Flt. -/
import Derived.Test.YtmlpaafclobgcaaChecked
/- Trees in a row, plainly (chapter 10; no program text): New, reach, Add, Grow, Check, Same. -/
namespace Go.Proofs.Ytmlpaafclobgcaa.Ar

/-- A node: its kind, from, to (t), the node that it is in, the nodes in it, whether its first kid is its key. -/
structure Nd where
  k : Int
  f : Int
  t : Int
  u : Int
  ks : List Int
  y : Bool
def newN (n : Int) : List Nd := [⟨1, 0, if n < 0 ∨ 32768 < n then 0 else n, -1, [], false⟩]
/-- From a node on, the way out: each reaches as far as that, at least. -/
def reachF : Nat → List Nd → Int → Int → List Nd
  | 0, l, _, _ => l
  | f + 1, l, k, to' => if k < 0 then l else match l[k.toNat]? with
    | none => l
    | some x => reachF f (l.set k.toNat { x with t := max x.t to' }) x.u to'
def reachN (l : List Nd) (k to' : Int) : List Nd := reachF (l.length + 1) l k to'
def firstT (l : List Nd) : Int := match l with
  | [] => 0
  | x :: _ => x.t
def atT (l : List Nd) (i : Int) : Int := match l[i.toNat]? with
  | some x => x.t
  | none => 0
/-- May such a node be added? -/
def mayAdd (l : List Nd) (up kind f t : Int) : Bool :=
  !(decide (up < 0) || decide ((l.length : Int) ≤ up) || decide (kind < 1) || decide (11 < kind) || decide (t < f) || decide (firstT l < t)) &&
  match l[up.toNat]? with
  | none => false
  | some p => !(decide (f < p.f)) && match p.ks.getLast? with
    | none => true
    | some z => !(decide (f < atT l z))
def addN (l : List Nd) (up kind f t : Int) : List Nd × Int :=
  if mayAdd l up kind f t = true then
    match l[up.toNat]? with
    | none => (l, -1)
    | some p => (reachN ((l ++ [(⟨kind, f, t, up, [], false⟩ : Nd)]).set up.toNat { p with ks := p.ks ++ [(l.length : Int)] }) up t, l.length)
  else (l, -1)
def mayGrow (l : List Nd) (i t : Int) : Bool := !(decide (i < 0) || decide ((l.length : Int) ≤ i) || decide (firstT l < t))
def growN (l : List Nd) (i t : Int) : List Nd := if mayGrow l i t = true then reachN l i t else l
/-- Trees that calls lead to: each node's Up is one ahead of it (the first one's is none), its kids are nodes. -/
structure Good (l : List Nd) : Prop where
  pos : 0 < l.length
  up : ∀ (i : Nat) (x : Nd), l[i]? = some x → -1 ≤ x.u ∧ x.u < i
  kid : ∀ (i : Nat) (x : Nd), l[i]? = some x → ∀ z ∈ x.ks, 0 ≤ z ∧ z < l.length
  ext : ∀ (i : Nat) (x : Nd), l[i]? = some x → ∀ z ∈ x.ks, ∀ y, l[z.toNat]? = some y → x.f ≤ y.t
theorem good_new (n : Int) : Good (newN n) := by
  refine ⟨by simp [newN], fun i x h => ?_, fun i x h => ?_, fun i x h => ?_⟩
  · cases i with
    | zero => obtain rfl : _ = x := by simpa [newN] using h
              exact ⟨Int.le_refl _, by show (-1 : Int) < 0; decide⟩
    | succ i => simp [newN] at h
  · cases i with
    | zero => obtain rfl : _ = x := by simpa [newN] using h
              intro z hz; simp at hz
    | succ i => simp [newN] at h
  · cases i with
    | zero => obtain rfl : _ = x := by simpa [newN] using h
              intro z hz; simp at hz
    | succ i => simp [newN] at h
theorem good_set {l : List Nd} (h : Good l) (i : Nat) (x : Nd) (hx : l[i]? = some x) (t : Int) (ht : x.t ≤ t) : Good (l.set i { x with t := t }) := by
  have hi := (List.getElem?_eq_some_iff.1 hx).1
  have key : ∀ (j : Nat) (y : Nd), (l.set i { x with t := t })[j]? = some y → ∃ y', l[j]? = some y' ∧ y.f = y'.f ∧ y.ks = y'.ks ∧ y'.t ≤ y.t := by
    intro j y hy
    rw [List.getElem?_set] at hy
    split at hy
    · rename_i e; subst e
      injection hy with hy; subst hy
      exact ⟨x, hx, rfl, rfl, ht⟩
    · exact ⟨y, hy, rfl, rfl, Int.le_refl _⟩
  refine ⟨by rw [List.length_set]; exact h.pos, fun j y hy => ?_, fun j y hy => ?_, fun j y hy z hz y2 hy2 => by
    obtain ⟨y', h1, h2, h3, _⟩ := key j y hy
    obtain ⟨y2', h4, _, _, h5⟩ := key _ y2 hy2
    rw [h3] at hz
    have := h.ext j y' h1 z hz y2' h4
    rw [h2]; omega⟩
  · rw [List.getElem?_set] at hy
    split at hy
    · rename_i e; subst e
      injection hy with hy; subst hy
      exact h.up i x hx
    · exact h.up j y hy
  · rw [List.length_set]
    rw [List.getElem?_set] at hy
    split at hy
    · rename_i e; subst e
      injection hy with hy; subst hy
      exact h.kid i x hx
    · exact h.kid j y hy
theorem good_reach : ∀ (f : Nat) (l : List Nd) (k t : Int), Good l → Good (reachF f l k t) ∧ (reachF f l k t).length = l.length
  | 0, l, k, t => fun h => ⟨h, rfl⟩
  | f + 1, l, k, t => fun h => by
    rw [reachF]
    by_cases hk : k < 0
    · rw [if_pos hk]; exact ⟨h, rfl⟩
    · rw [if_neg hk]
      cases hx : l[k.toNat]? with
      | none => exact ⟨h, rfl⟩
      | some x =>
        have ih := good_reach f _ x.u t (good_set h k.toNat x hx (max x.t t) (Int.le_max_left _ _))
        exact ⟨ih.1, by rw [ih.2, List.length_set]⟩
/-- The fuel does not bear, if there is enough. -/
theorem reach_fuel : ∀ (f g : Nat) (l : List Nd) (k t : Int), Good l → k < f → k < g → reachF f l k t = reachF g l k t
  | 0, g, l, k, t => fun h h1 h2 => by
    rw [reachF]
    cases g with
    | zero => rfl
    | succ g => rw [reachF, if_pos (by omega)]
  | f + 1, 0, l, k, t => fun h h1 h2 => by
    rw [reachF, reachF, if_pos (by omega)]
  | f + 1, g + 1, l, k, t => fun h h1 h2 => by
    rw [reachF, reachF]
    by_cases hk : k < 0
    · rw [if_pos hk, if_pos hk]
    · rw [if_neg hk, if_neg hk]
      cases hx : l[k.toNat]? with
      | none => rfl
      | some x =>
        have hu := (h.up _ x hx).2
        exact reach_fuel f g _ x.u t (good_set h k.toNat x hx _ (Int.le_max_left _ _)) (by omega) (by omega)
theorem reach_step (l : List Nd) (k t : Int) (x : Nd) (h : Good l) (hk : 0 ≤ k) (hx : l[k.toNat]? = some x) : reachN l k t = reachN (l.set k.toNat { x with t := max x.t t }) x.u t := by
  have hi := (List.getElem?_eq_some_iff.1 hx).1
  unfold reachN
  rw [reachF, if_neg (by omega), hx]
  dsimp only
  have hu := (h.up _ x hx).2
  exact reach_fuel _ _ _ _ _ (good_set h k.toNat x hx _ (Int.le_max_left _ _)) (by omega) (by rw [List.length_set]; omega)
theorem reach_stop (l : List Nd) (k t : Int) (hk : k < 0) : reachN l k t = l := by
  unfold reachN; rw [reachF, if_pos hk]
theorem good_reachN {l : List Nd} (k t : Int) (h : Good l) : Good (reachN l k t) := (good_reach _ l k t h).1
theorem len_reachN {l : List Nd} (k t : Int) (h : Good l) : (reachN l k t).length = l.length := (good_reach _ l k t h).2
theorem may_up {l : List Nd} {up kind f t : Int} (h : mayAdd l up kind f t = true) : 0 ≤ up ∧ up < l.length ∧ ∃ p, l[up.toNat]? = some p := by
  unfold mayAdd at h
  cases hp : l[up.toNat]? with
  | none => rw [hp] at h; simp at h
  | some p =>
    rw [hp] at h
    simp at h
    exact ⟨by omega, by omega, p, rfl⟩
theorem may_le {l : List Nd} {up kind f t : Int} {p : Nd} (h : mayAdd l up kind f t = true) (hp : l[up.toNat]? = some p) : p.f ≤ t ∧ f ≤ t := by
  unfold mayAdd at h
  rw [hp] at h
  simp at h
  omega
theorem good_put {l : List Nd} (h : Good l) (up kind f t : Int) (p : Nd) (h0 : 0 ≤ up) (hp : l[up.toNat]? = some p) (hf : p.f ≤ t) :
    Good ((l ++ [(⟨kind, f, t, up, [], false⟩ : Nd)]).set up.toNat { p with ks := p.ks ++ [(l.length : Int)] }) := by
  have hi := (List.getElem?_eq_some_iff.1 hp).1
  have hlen : ((l ++ [(⟨kind, f, t, up, [], false⟩ : Nd)]).set up.toNat { p with ks := p.ks ++ [(l.length : Int)] }).length = l.length + 1 := by simp
  have key : ∀ j y, ((l ++ [(⟨kind, f, t, up, [], false⟩ : Nd)]).set up.toNat { p with ks := p.ks ++ [(l.length : Int)] })[j]? = some y → (j = up.toNat ∧ y = { p with ks := p.ks ++ [(l.length : Int)] }) ∨ (j ≠ up.toNat ∧ l[j]? = some y) ∨ (j = l.length ∧ y = ⟨kind, f, t, up, [], false⟩) := by
    intro j y hy
    rw [List.getElem?_set] at hy
    split at hy
    · rename_i e; subst e
      try rw [if_pos (by simp; omega)] at hy
      injection hy with hy
      exact .inl ⟨rfl, hy.symm⟩
    · rename_i e
      rcases Nat.lt_trichotomy j l.length with hj | hj | hj
      · rw [List.getElem?_append_left hj] at hy
        exact .inr (.inl ⟨fun h => e h.symm, hy⟩)
      · subst hj
        rw [List.getElem?_append_right (Nat.le_refl _)] at hy
        simp at hy
        exact .inr (.inr ⟨rfl, hy.symm⟩)
      · rw [List.getElem?_eq_none (by simp; omega)] at hy; cases hy
  refine ⟨by omega, fun j y hy => ?_, fun j y hy z hz => ?_, fun j y hy z hz y2 hy2 => by
    have old : ∀ (q : Nd) (j : Nat), l[j]? = some q → z ∈ q.ks → q.f ≤ y2.t := fun q j hq hzq => by
      have hb := h.kid j q hq z hzq
      rcases key _ y2 hy2 with ⟨e, rfl⟩ | ⟨_, h4⟩ | ⟨e, _⟩
      · exact h.ext j q hq z hzq p (by rw [e]; exact hp)
      · exact h.ext j q hq z hzq y2 h4
      · omega
    rcases key j y hy with ⟨rfl, rfl⟩ | ⟨_, hy⟩ | ⟨rfl, rfl⟩
    · rcases List.mem_append.1 hz with hz | hz
      · exact old p _ hp hz
      · obtain rfl : z = (l.length : Int) := by simpa using hz
        rcases key _ y2 hy2 with ⟨e, rfl⟩ | ⟨_, h4⟩ | ⟨e, rfl⟩
        · have : up.toNat = l.length := by omega
          omega
        · have := (List.getElem?_eq_some_iff.1 h4).1
          omega
        · exact hf
    · exact old y j hy hz
    · simp at hz⟩
  · rcases key j y hy with ⟨rfl, rfl⟩ | ⟨_, hy⟩ | ⟨rfl, rfl⟩
    · exact h.up _ p hp
    · exact h.up j y hy
    · exact ⟨by show -1 ≤ up; omega, by show up < _; omega⟩
  · rw [hlen]
    rcases key j y hy with ⟨rfl, rfl⟩ | ⟨_, hy⟩ | ⟨rfl, rfl⟩
    · rcases List.mem_append.1 hz with hz | hz
      · have := h.kid _ p hp z hz; omega
      · simp at hz; omega
    · have := h.kid j y hy z hz; omega
    · simp at hz
theorem good_add {l : List Nd} (h : Good l) (up kind f t : Int) : Good (addN l up kind f t).1 := by
  unfold addN
  by_cases hm : mayAdd l up kind f t = true
  · rw [if_pos hm]
    obtain ⟨h0, _, p, hp⟩ := may_up hm
    rw [hp]
    exact good_reachN _ _ (good_put h up kind f t p h0 hp (may_le hm hp).1)
  · rw [if_neg hm]; exact h
theorem good_grow {l : List Nd} (h : Good l) (i t : Int) : Good (growN l i t) := by
  unfold growN
  split
  · exact good_reachN _ _ h
  · exact h
theorem len_add {l : List Nd} (h : Good l) (up kind f t : Int) : (addN l up kind f t).1.length ≤ l.length + 1 := by
  unfold addN
  by_cases hm : mayAdd l up kind f t = true
  · rw [if_pos hm]
    obtain ⟨h0, _, p, hp⟩ := may_up hm
    rw [hp]
    show (reachN _ _ _).length ≤ _
    rw [len_reachN _ _ (good_put h up kind f t p h0 hp (may_le hm hp).1)]
    simp
  · rw [if_neg hm]; exact Nat.le_succ _
theorem len_grow {l : List Nd} (h : Good l) (i t : Int) : (growN l i t).length = l.length := by
  unfold growN
  split
  · exact len_reachN _ _ h
  · rfl
/-- Do node i's kids lie as they must, one behind the other from a place on? -/
def kidsF (l : List Nd) (i : Nat) (x : Nd) : Int → List Int → Bool
  | _, [] => true
  | p, n :: r => if n ≤ 0 ∨ (l.length : Int) ≤ n then false else match l[n.toNat]? with
    | none => false
    | some c => if c.u ≠ (i : Int) ∨ c.f < p ∨ x.t < c.t ∨ c.t < c.f then false else kidsF l i x c.t r
def kidsN (l : List Nd) (i : Nat) : Bool := match l[i]? with
  | none => false
  | some x => kidsF l i x x.f x.ks
/-- How often a number stands in all nodes' kids up to a node. -/
def seenN (l : List Nd) (i : Nat) (n : Nat) : Nat := ((l.take i).flatMap (·.ks)).countP (fun z => z == (n : Int))
def firstOk (l : List Nd) (n : Int) : Bool := match l with
  | [] => false
  | x :: _ => !(decide (x.k ≠ 1) || decide (x.f ≠ 0) || decide (x.t ≠ n) || decide (x.u ≠ -1) || decide (n < 0))
def nodeOk (l : List Nd) (i : Nat) : Bool := match l[i]? with
  | none => false
  | some x => !(decide (0 < i) && (decide (x.u < 0) || decide ((i : Int) ≤ x.u))) && kidsN l i
def checkN (l : List Nd) (n : Int) : Bool := firstOk l n && (List.range l.length).all (nodeOk l) && (List.range l.length).all (fun i => i == 0 || seenN l l.length i == 1)
def sameNd (x y : Nd) : Bool := decide (x.k = y.k) && decide (x.f = y.f) && decide (x.t = y.t) && decide (x.u = y.u) && (x.y == y.y) && decide (x.ks = y.ks)
def sameN : List Nd → List Nd → Bool
  | [], [] => true
  | x :: r, y :: q => sameNd x y && sameN r q
  | _, _ => false
end Go.Proofs.Ytmlpaafclobgcaa.Ar

/- Trees that are checked, and the way out of a node behind which nothing stands (P1003), plainly; no program text. -/
namespace Go.Proofs.Ytmlpaafclobgcaa.Ar

/-- How a kid a lies ahead of a kid b. -/
def Ahead (l : List Nd) (a b : Int) : Prop := a < b ∧ ∀ x y, l[a.toNat]? = some x → l[b.toNat]? = some y → x.t ≤ y.f
/-- What Check asks, and that kids' numbers rise. -/
structure CkQ (Q : Nat → Int → Prop) (l : List Nd) (n : Int) : Prop where
  first : ∃ x r, l = x :: r ∧ x.k = 1 ∧ x.f = 0 ∧ x.t = n ∧ x.u = -1 ∧ 0 ≤ n
  up : ∀ (i : Nat) (x : Nd), 0 < i → l[i]? = some x → 0 ≤ x.u ∧ x.u < i
  kid : ∀ (i : Nat) (x : Nd), l[i]? = some x → ∀ z ∈ x.ks, ∃ (j : Nat) (y : Nd), z = (j : Int) ∧ 0 < j ∧ l[j]? = some y ∧ y.u = (i : Int) ∧ x.f ≤ y.f ∧ y.f ≤ y.t ∧ (y.t ≤ x.t ∨ Q i y.t)
  ord : ∀ (i : Nat) (x : Nd), l[i]? = some x → x.ks.Pairwise (Ahead l)
  seen : ∀ i : Nat, 0 < i → i < l.length → (l.flatMap (·.ks)).countP (fun z => z == (i : Int)) = 1
abbrev Ck (l : List Nd) (n : Int) : Prop := CkQ (fun _ _ => False) l n
theorem CkQ.pos {Q : Nat → Int → Prop} {l : List Nd} {n : Int} (h : CkQ Q l n) : 0 < l.length := by
  obtain ⟨x, r, rfl, _⟩ := h.first; simp
theorem CkQ.zero {Q : Nat → Int → Prop} {l : List Nd} {n : Int} (h : CkQ Q l n) : ∃ x, l[0]? = some x ∧ x.t = n ∧ x.u = -1 ∧ x.f = 0 := by
  obtain ⟨x, r, rfl, _, h1, h2, h3, _⟩ := h.first; exact ⟨x, rfl, h2, h3, h1⟩
theorem CkQ.firstT {Q : Nat → Int → Prop} {l : List Nd} {n : Int} (h : CkQ Q l n) : firstT l = n := by
  obtain ⟨x, r, rfl, _, _, h2, _⟩ := h.first; exact h2
theorem CkQ.good {Q : Nat → Int → Prop} {l : List Nd} {n : Int} (h : CkQ Q l n) : Good l := by
  refine ⟨h.pos, fun i x hx => ?_, fun i x hx z hz => ?_, fun i x hx z hz y hy => ?_⟩
  · rcases Nat.eq_zero_or_pos i with rfl | hi
    · obtain ⟨x', h1, _, h3, _⟩ := h.zero
      rw [h1] at hx; injection hx with hx; subst hx; omega
    · have := h.up i x hi hx; omega
  · obtain ⟨j, y, rfl, h0, hy, _⟩ := h.kid i x hx z hz
    have := (List.getElem?_eq_some_iff.1 hy).1
    omega
  · obtain ⟨j, y', rfl, h0, hy', h1, h2, h3, _⟩ := h.kid i x hx z hz
    rw [Int.toNat_natCast, hy'] at hy
    injection hy with hy; subst hy; omega
theorem kids_ok (l : List Nd) (i : Nat) (x : Nd) : ∀ (ks : List Int) (p : Int), (∀ z ∈ ks, ∃ (j : Nat) (y : Nd), z = (j : Int) ∧ 0 < j ∧ l[j]? = some y ∧ y.u = (i : Int) ∧ p ≤ y.f ∧ y.f ≤ y.t ∧ y.t ≤ x.t) →
    ks.Pairwise (Ahead l) → kidsF l i x p ks = true
  | [], p => fun _ _ => rfl
  | z :: r, p => fun hk ho => by
    obtain ⟨j, y, rfl, h0, hy, h1, h2, h3, h4⟩ := hk z (by simp)
    have hj := (List.getElem?_eq_some_iff.1 hy).1
    rw [kidsF, if_neg (by omega), Int.toNat_natCast, hy]
    dsimp only
    rw [if_neg (by omega)]
    rw [List.pairwise_cons] at ho
    refine kids_ok l i x r y.t (fun z hz => ?_) ho.2
    obtain ⟨j', y', rfl, g0, gy, g1, g2, g3, g4⟩ := hk z (by simp [hz])
    exact ⟨j', y', rfl, g0, gy, g1, (ho.1 _ hz).2 y y' (by rw [Int.toNat_natCast]; exact hy) (by rw [Int.toNat_natCast]; exact gy), g3, g4⟩
theorem CkQ.check {l : List Nd} {n : Int} (h : Ck l n) : checkN l n = true := by
  unfold checkN
  rw [Bool.and_eq_true, Bool.and_eq_true]
  refine ⟨⟨?_, ?_⟩, ?_⟩
  · obtain ⟨x, r, rfl, h1, h2, h3, h4, h5⟩ := h.first
    simp [firstOk, h1, h2, h3, h4, h5]
  · rw [List.all_eq_true]
    intro i hi
    rw [List.mem_range] at hi
    obtain ⟨x, hx⟩ : ∃ x, l[i]? = some x := ⟨_, List.getElem?_eq_getElem hi⟩
    have hk : kidsN l i = true := by
      unfold kidsN; rw [hx]; exact kids_ok l i x x.ks x.f (fun z hz => by obtain ⟨j, y, h1, h2, h3, h4, h5, h6, h7⟩ := h.kid i x hx z hz; exact ⟨j, y, h1, h2, h3, h4, h5, h6, h7.elim id False.elim⟩) (h.ord i x hx)
    unfold nodeOk
    rw [hx]
    dsimp only
    rw [hk]
    rcases Nat.eq_zero_or_pos i with rfl | h0
    · simp
    · have := h.up i x h0 hx
      rw [show decide (x.u < 0) = false from decide_eq_false (by omega), show decide ((i : Int) ≤ x.u) = false from decide_eq_false (by omega)]
      simp
  · rw [List.all_eq_true]
    intro i hi
    rw [List.mem_range] at hi
    rcases Nat.eq_zero_or_pos i with rfl | h0
    · rfl
    · have := h.seen i h0 hi
      unfold seenN
      rw [List.take_length, this]
      simp
theorem ck_new (n : Int) (h0 : 0 ≤ n) (h1 : n ≤ 32768) : Ck (newN n) n := by
  have hn : newN n = [⟨1, 0, n, -1, [], false⟩] := by unfold newN; rw [if_neg (by omega)]
  rw [hn]
  have hx : ∀ (i : Nat) (x : Nd), [(⟨1, 0, n, -1, [], false⟩ : Nd)][i]? = some x → i = 0 ∧ x = ⟨1, 0, n, -1, [], false⟩ := by
    intro i x h
    cases i with
    | zero => exact ⟨rfl, by simpa using h.symm⟩
    | succ i => simp at h
  refine ⟨⟨_, _, rfl, rfl, rfl, rfl, rfl, h0⟩, fun i x hi h => ?_, fun i x h z hz => ?_, fun i x h => ?_, fun i hi h => ?_⟩
  · obtain ⟨rfl, _⟩ := hx i x h; omega
  · obtain ⟨rfl, rfl⟩ := hx i x h; simp at hz
  · obtain ⟨rfl, rfl⟩ := hx i x h; exact .nil
  · simp at h; omega

/-- The way out of a node: it, what it is in, and so on. -/
inductive On (l : List Nd) : Nat → Nat → Prop
  | self (c : Nat) : On l c c
  | out (c p i : Nat) (x : Nd) : l[c]? = some x → x.u = (p : Int) → 0 < c → On l p i → On l c i
theorem On.mono {l l' : List Nd} {c i : Nat} (h : ∀ (d : Nat) (x : Nd), l[d]? = some x → ∃ x', l'[d]? = some x' ∧ x'.u = x.u) (ho : On l c i) : On l' c i := by
  induction ho with
  | self => exact .self _
  | out d q i x hd hq h00 ho ih =>
    obtain ⟨x', h1, h2⟩ := h d x hd
    exact .out d q i x' h1 (by rw [h2]; exact hq) h00 ih
theorem On.low {l : List Nd} {c i : Nat} (ho : On l c i) (hg : Good l) : i ≤ c := by
  induction ho with
  | self => exact Nat.le_refl _
  | out d q i x hd hq h00 ho ih => have := hg.up d x hd; omega
/-- Nothing stands behind a node in all that it is in; it and they (but the first) reach no further than e. -/
inductive Sp (l : List Nd) (e : Int) : Nat → Prop
  | root : Sp l e 0
  | up (c p : Nat) (x y : Nd) : 0 < c → l[c]? = some x → l[p]? = some y → x.u = (p : Int) → y.ks.getLast? = some (c : Int) → x.t ≤ e → Sp l e p → Sp l e c
theorem Sp.le {l : List Nd} {e e' : Int} {c : Nat} (h : Sp l e c) (he : e ≤ e') : Sp l e' c := by
  induction h with
  | root => exact .root
  | up c p x y h0 hx hy hu hl ht _ ih => exact .up c p x y h0 hx hy hu hl (by omega) ih
/-- What is on the way out reaches as far as that, all else stays. -/
theorem reach_on : ∀ (c : Nat) (l : List Nd) (t : Int), Good l → c < l.length → ∀ (i : Nat) (x : Nd), l[i]? = some x →
    ∃ x', (reachN l c t)[i]? = some x' ∧ ((On l c i ∧ x' = { x with t := max x.t t }) ∨ (¬ On l c i ∧ x' = x)) := by
  intro c
  induction c using Nat.strongRecOn with
  | ind c ih =>
    intro l t hg hc i x hx
    obtain ⟨z, hz⟩ : ∃ z, l[c]? = some z := ⟨_, List.getElem?_eq_getElem hc⟩
    have hu := hg.up c z hz
    rw [reach_step l c t z hg (by omega) (by rw [Int.toNat_natCast]; exact hz), Int.toNat_natCast]
    have hg' := good_set hg c z hz (max z.t t) (Int.le_max_left _ _)
    have hset : ∀ (j : Nat), (l.set c { z with t := max z.t t })[j]? = if c = j then some { z with t := max z.t t } else l[j]? := by
      intro j
      by_cases e : c = j
      · subst e; rw [List.getElem?_set_self hc, if_pos rfl]
      · rw [List.getElem?_set_ne e, if_neg e]
    by_cases h0 : z.u < 0
    · -- the first node: no further
      rw [reach_stop _ _ _ h0]
      by_cases e : c = i
      · subst e
        rw [hz] at hx; injection hx with hx; subst hx
        exact ⟨_, by rw [hset, if_pos rfl], .inl ⟨.self _, rfl⟩⟩
      · refine ⟨x, by rw [hset, if_neg e]; exact hx, .inr ⟨fun h => ?_, rfl⟩⟩
        cases h with
        | self => exact e rfl
        | out _ p _ x1 hc' hp h00 ho =>
          rw [hz] at hc'; injection hc' with hc'; subst hc'; omega
    · -- it is in another one
      obtain ⟨p, hp⟩ : ∃ p : Nat, z.u = (p : Int) := ⟨z.u.toNat, by omega⟩
      have hpc : p < c := by omega
      have hrp : ∀ L : List Nd, reachN L z.u t = reachN L (p : Int) t := fun L => by rw [hp]
      rw [hrp]
      have hon : ∀ j, On (l.set c { z with t := max z.t t }) p j ↔ On l p j := by
        intro j
        constructor
        · refine On.mono (fun d y hd => ?_)
          rw [hset] at hd
          split at hd
          · rename_i e; subst e
            injection hd with hd; subst hd
            exact ⟨z, hz, rfl⟩
          · exact ⟨y, hd, rfl⟩
        · refine On.mono (fun d y hd => ?_)
          by_cases e : c = d
          · subst e
            rw [hz] at hd; injection hd with hd; subst hd
            exact ⟨{ z with t := max z.t t }, by rw [hset, if_pos rfl], rfl⟩
          · exact ⟨y, by rw [hset, if_neg e]; exact hd, rfl⟩
      have hlow : ∀ d j, On l d j → d < c → j ≠ c := fun d j h hd => by have := h.low hg; omega
      by_cases e : c = i
      · subst e
        rw [hz] at hx; injection hx with hx; subst hx
        obtain ⟨x', h1, h2⟩ := ih p hpc _ t hg' (by rw [List.length_set]; omega) c _ (by rw [hset, if_pos rfl])
        rcases h2 with ⟨h2, _⟩ | ⟨_, h2⟩
        · exact absurd rfl (hlow p c ((hon c).1 h2) hpc)
        · exact ⟨x', h1, .inl ⟨.self _, h2⟩⟩
      · obtain ⟨x', h1, h2⟩ := ih p hpc _ t hg' (by rw [List.length_set]; omega) i x (by rw [hset, if_neg e]; exact hx)
        refine ⟨x', h1, ?_⟩
        have h00 : 0 < c := by omega
        rcases h2 with ⟨h2, h3⟩ | ⟨h2, h3⟩
        · exact .inl ⟨.out c p i z hz hp h00 ((hon i).1 h2), h3⟩
        · refine .inr ⟨fun h => h2 ((hon i).2 ?_), h3⟩
          cases h with
          | self => exact absurd rfl e
          | out _ p' _ x1 hc' hp' h00' ho =>
            rw [hz] at hc'; injection hc' with hc'; subst hc'
            obtain rfl : p' = p := by omega
            exact ho
end Go.Proofs.Ytmlpaafclobgcaa.Ar

/- What keeps a tree checked (P1003), plainly: a node put into one behind which nothing stands, one that is grown; no program text. -/
namespace Go.Proofs.Ytmlpaafclobgcaa.Ar

/-- All but how far nodes reach. -/
def Like (x x' : Nd) : Prop := x'.k = x.k ∧ x'.f = x.f ∧ x'.u = x.u ∧ x'.ks = x.ks ∧ x'.y = x.y
theorem On.next {l : List Nd} {c i j : Nat} {y : Nd} (h : On l c j) (hy : l[j]? = some y) (hu : y.u = (i : Int)) (h0 : 0 < j) : On l c i := by
  induction h with
  | self c => exact .out c i i y hy hu h0 (.self i)
  | out d q j x hd hq h00 ho ih => exact .out d q i x hd hq h00 (ih hy h0)
theorem Sp.on {l : List Nd} {e : Int} {c i : Nat} (ho : On l c i) : Sp l e c → Sp l e i := by
  induction ho with
  | self c => exact id
  | out d q i x hd hq h00 ho ih =>
    intro hs
    cases hs with
    | root => omega
    | up _ p x1 y h0 hx hy hu hl ht hsp =>
      rw [hd] at hx; injection hx with hx; subst hx
      obtain rfl : p = q := by omega
      exact ih hsp
theorem last_most {l : List Nd} : ∀ (ks : List Int) (z : Int), ks.Pairwise (Ahead l) → ks.getLast? = some z → ∀ b ∈ ks, b ≤ z
  | [], z => fun _ h => by simp at h
  | [a], z => fun _ h b hb => by
    simp at h hb; omega
  | a :: a' :: r, z => fun ho h b hb => by
    rw [List.pairwise_cons] at ho
    have hz : (a' :: r).getLast? = some z := by rw [List.getLast?_cons_cons] at h; exact h
    have ih := last_most (a' :: r) z ho.2 hz
    rcases List.mem_cons.1 hb with rfl | hb
    · have h1 := (ho.1 a' (by simp)).1
      have h2 := ih a' (by simp)
      omega
    · exact ih b hb
/-- A node is grown, with all that it is in. -/
theorem ck_reach {n b t : Int} {c : Nat} {l : List Nd} (h : CkQ (fun i y => On l c i ∧ y ≤ t) l n) (hs : Sp l b c) (hc : c < l.length) (htn : t ≤ n) :
    Ck (reachN l c t) n ∧ (∀ d, Sp l b d → Sp (reachN l c t) (max b t) d) ∧ (reachN l c t).length = l.length ∧
    (∀ (i : Nat) (x : Nd), l[i]? = some x → ∃ x', (reachN l c t)[i]? = some x' ∧ Like x x' ∧ ((On l c i ∧ x'.t = max x.t t) ∨ (¬ On l c i ∧ x'.t = x.t))) := by
  have hg := h.good
  have hlen := len_reachN (l := l) c t hg
  have H := reach_on c l t hg hc
  obtain ⟨r, hr⟩ : ∃ r, reachN l c t = r := ⟨_, rfl⟩
  rw [hr] at hlen H ⊢
  have G : ∀ (i : Nat) (x : Nd), l[i]? = some x → ∃ x', r[i]? = some x' ∧ Like x x' ∧ ((On l c i ∧ x'.t = max x.t t) ∨ (¬ On l c i ∧ x'.t = x.t)) := by
    intro i x hx
    obtain ⟨x', h1, h2⟩ := H i x hx
    rcases h2 with ⟨h2, rfl⟩ | ⟨h2, rfl⟩
    · exact ⟨_, h1, ⟨rfl, rfl, rfl, rfl, rfl⟩, .inl ⟨h2, rfl⟩⟩
    · exact ⟨_, h1, ⟨rfl, rfl, rfl, rfl, rfl⟩, .inr ⟨h2, rfl⟩⟩
  have B : ∀ (i : Nat) (x' : Nd), r[i]? = some x' → ∃ x, l[i]? = some x ∧ Like x x' ∧ ((On l c i ∧ x'.t = max x.t t) ∨ (¬ On l c i ∧ x'.t = x.t)) := by
    intro i x' hx'
    have hi := (List.getElem?_eq_some_iff.1 hx').1
    obtain ⟨x, hx⟩ : ∃ x, l[i]? = some x := ⟨_, List.getElem?_eq_getElem (by omega)⟩
    obtain ⟨y, h1, h2⟩ := G i x hx
    rw [hx'] at h1; injection h1 with h1; subst h1
    exact ⟨x, hx, h2⟩
  refine ⟨⟨?_, ?_, ?_, ?_, ?_⟩, ?_, hlen, G⟩
  · obtain ⟨x, q, rfl, h1, h2, h3, h4, h5⟩ := h.first
    obtain ⟨x', g1, ⟨e1, e2, e3, e4, e5⟩, g2⟩ := G 0 x rfl
    cases r with
    | nil => simp at g1
    | cons y q' =>
      simp at g1; subst g1
      refine ⟨_, _, rfl, by omega, by omega, ?_, by omega, h5⟩
      rcases g2 with ⟨_, g2⟩ | ⟨_, g2⟩ <;> omega
  · intro i x' hi hx'
    obtain ⟨x, hx, ⟨e1, e2, e3, e4, e5⟩, _⟩ := B i x' hx'
    rw [e3]; exact h.up i x hi hx
  · intro i x' hx' z hz
    obtain ⟨x, hx, ⟨e1, e2, e3, e4, e5⟩, g2⟩ := B i x' hx'
    rw [e4] at hz
    obtain ⟨j, y, rfl, h0, hy, k1, k2, k3, k4⟩ := h.kid i x hx z hz
    obtain ⟨y', hy', ⟨d1, d2, d3, d4, d5⟩, g3⟩ := G j y hy
    refine ⟨j, y', rfl, h0, hy', by omega, by omega, by rcases g3 with ⟨_, g3⟩ | ⟨_, g3⟩ <;> omega, .inl ?_⟩
    rcases g3 with ⟨o, g3⟩ | ⟨_, g3⟩
    · rcases g2 with ⟨_, g2⟩ | ⟨no, _⟩
      · rcases k4 with k4 | ⟨_, k4⟩ <;> omega
      · exact absurd (o.next hy k1 h0) no
    · rcases g2 with ⟨_, g2⟩ | ⟨no, g2⟩
      · rcases k4 with k4 | ⟨_, k4⟩ <;> omega
      · rcases k4 with k4 | ⟨k4, _⟩
        · omega
        · exact absurd k4 no
  · intro i x' hx'
    obtain ⟨x, hx, ⟨e1, e2, e3, e4, e5⟩, g2⟩ := B i x' hx'
    rw [e4]
    have ho := h.ord i x hx
    refine ho.imp_of_mem (fun {a b} ha hb hab => ⟨hab.1, fun xa yb hxa hyb => ?_⟩)
    obtain ⟨ja, ya, rfl, a0, hya, a1, a2, a3, a4⟩ := h.kid i x hx a ha
    rw [Int.toNat_natCast] at hxa
    obtain ⟨xa0, q1, ⟨_, _, _, _, _⟩, q2⟩ := B ja xa hxa
    obtain ⟨yb0, p1, ⟨_, p2, _, _, _⟩, _⟩ := B b.toNat yb hyb
    have hle := hab.2 xa0 yb0 (by rw [Int.toNat_natCast]; exact q1) p1
    rcases q2 with ⟨o, q2⟩ | ⟨_, q2⟩
    · exfalso
      have hsa := Sp.on o hs
      cases hsa with
      | root => omega
      | up _ p x1 y h0 hx1 hy1 hu hl ht hsp =>
        rw [hya] at hx1; injection hx1 with hx1; subst hx1
        obtain rfl : p = i := by omega
        rw [hx] at hy1; injection hy1 with hy1; subst hy1
        have := last_most x.ks _ ho hl b hb
        have := hab.1
        omega
    · omega
  · intro i hi hil
    have hm : r.map (·.ks) = l.map (·.ks) := by
      refine List.ext_getElem? (fun i => ?_)
      rw [List.getElem?_map, List.getElem?_map]
      cases hx : l[i]? with
      | none =>
        have : r[i]? = none := by rw [List.getElem?_eq_none_iff] at hx ⊢; omega
        rw [this]
      | some x =>
        obtain ⟨x', g1, ⟨_, _, _, e4, _⟩, _⟩ := G i x hx
        rw [g1]; simp [e4]
    rw [List.flatMap_def, hm, ← List.flatMap_def]
    exact h.seen i hi (by omega)
  · intro d hd
    induction hd with
    | root => exact .root
    | up d p x y h0 hx hy hu hl ht hsp ih =>
      obtain ⟨x', g1, ⟨_, _, e3, _, _⟩, g2⟩ := G d x hx
      obtain ⟨y', k1, ⟨_, _, _, d4, _⟩, _⟩ := G p y hy
      exact .up d p x' y' h0 g1 k1 (by rw [e3]; exact hu) (by rw [d4]; exact hl) (by rcases g2 with ⟨_, g2⟩ | ⟨_, g2⟩ <;> omega) ih
/-- A node may be put into c from e on; none of those that c is in (nor c) reaches further than b. -/
structure Fits (l : List Nd) (e b : Int) (c : Nat) : Prop where
  lt : c < l.length
  sp : Sp l b c
  here : ∀ x, l[c]? = some x → x.f ≤ e ∧ ∀ z ∈ x.ks, ∀ y, l[z.toNat]? = some y → y.t ≤ e
theorem Fits.le {l : List Nd} {e e' b b' : Int} {c : Nat} (h : Fits l e b c) (he : e ≤ e') (hb : b ≤ b') : Fits l e' b' c :=
  ⟨h.lt, h.sp.le hb, fun x hx => ⟨by have := (h.here x hx).1; omega, fun z hz y hy => by have := (h.here x hx).2 z hz y hy; omega⟩⟩
theorem Ck.toQ {l : List Nd} {n : Int} (h : Ck l n) (Q : Nat → Int → Prop) : CkQ Q l n :=
  ⟨h.first, h.up, fun i x hx z hz => by obtain ⟨j, y, h1, h2, h3, h4, h5, h6, h7⟩ := h.kid i x hx z hz; exact ⟨j, y, h1, h2, h3, h4, h5, h6, .inl (h7.elim id False.elim)⟩, h.ord, h.seen⟩
theorem ck_grow {l : List Nd} {n e b t : Int} {c : Nat} (h : Ck l n) (hf : Fits l e b c) (he : e ≤ t) (hb : b ≤ t) (htn : t ≤ n) :
    Ck (growN l c t) n ∧ Fits (growN l c t) t t c ∧ (growN l c t).length = l.length ∧ (∀ (i : Nat) (x : Nd), l[i]? = some x → ∃ x', (growN l c t)[i]? = some x' ∧ Like x x') := by
  have hg : growN l c t = reachN l c t := by
    unfold growN mayGrow
    have hl := hf.lt
    rw [h.firstT, show decide ((c : Int) < 0) = false from decide_eq_false (by omega), show decide ((l.length : Int) ≤ (c : Int)) = false from decide_eq_false (by omega), show decide (n < t) = false from decide_eq_false (by omega)]
    rfl
  rw [hg]
  obtain ⟨h1, h2, h3, h4⟩ := ck_reach (h.toQ _) (hf.sp.le hb) hf.lt htn
  have h2c := (h2 c (hf.sp.le hb)).le (e' := t) (by omega)
  refine ⟨h1, ⟨by rw [h3]; exact hf.lt, h2c, fun x' hx' => ?_⟩, h3, fun i x hx => by obtain ⟨x', a, b, _⟩ := h4 i x hx; exact ⟨x', a, b⟩⟩
  obtain ⟨x, hx⟩ : ∃ x, l[c]? = some x := ⟨_, List.getElem?_eq_getElem hf.lt⟩
  obtain ⟨x2, a, ⟨_, b2, _, b4, _⟩, b⟩ := h4 c x hx
  rw [hx'] at a; injection a with a; subst a
  refine ⟨by have := (hf.here x hx).1; omega, fun z hz y' hy' => ?_⟩
  rw [b4] at hz
  obtain ⟨j, y, rfl, j0, hy, _⟩ := h.kid c x hx z hz
  rw [Int.toNat_natCast] at hy'
  obtain ⟨y2, c1, _, c3⟩ := h4 j y hy
  rw [hy'] at c1; injection c1 with c1; subst c1
  have := (hf.here x hx).2 _ hz y (by rw [Int.toNat_natCast]; exact hy)
  rcases c3 with ⟨_, c3⟩ | ⟨_, c3⟩ <;> omega
end Go.Proofs.Ytmlpaafclobgcaa.Ar

/- A node put into one behind which nothing stands keeps a tree checked (P1003), plainly; a node that is said to have a key; no program text. -/
namespace Go.Proofs.Ytmlpaafclobgcaa.Ar

theorem count_put (P : Int → Bool) (z : Int) : ∀ (l : List Nd) (i : Nat) (x : Nd), l[i]? = some x →
    ((l.set i { x with ks := x.ks ++ [z] }).flatMap (·.ks)).countP P = (l.flatMap (·.ks)).countP P + (if P z then 1 else 0)
  | [], i, x => fun h => by simp at h
  | a :: r, 0, x => fun h => by
    have h : a = x := by simpa using h
    subst h
    simp only [List.set_cons_zero, List.flatMap_cons, List.countP_append, List.countP_cons, List.countP_nil]
    split <;> omega
  | a :: r, i + 1, x => fun h => by
    have ih := count_put P z r i x (by simpa using h)
    simp only [List.set_cons_succ, List.flatMap_cons, List.countP_append] at ih ⊢
    omega
theorem may_put {l : List Nd} {n e b f t kind : Int} {up : Nat} {p : Nd} (h : Ck l n) (hf : Fits l e b up) (hp : l[up]? = some p) (he : e ≤ f) (hft : f ≤ t) (htn : t ≤ n) (hk1 : 1 ≤ kind) (hk2 : kind ≤ 11) : mayAdd l up kind f t = true := by
  have hl := hf.lt
  unfold mayAdd
  rw [h.firstT, Int.toNat_natCast, hp, show decide ((up : Int) < 0) = false from decide_eq_false (by omega), show decide ((l.length : Int) ≤ (up : Int)) = false from decide_eq_false (by omega),
    show decide (kind < 1) = false from decide_eq_false (by omega), show decide (11 < kind) = false from decide_eq_false (by omega), show decide (t < f) = false from decide_eq_false (by omega), show decide (n < t) = false from decide_eq_false (by omega)]
  dsimp only
  rw [show decide (f < p.f) = false from decide_eq_false (by have := (hf.here p hp).1; omega)]
  cases hz : p.ks.getLast? with
  | none => rfl
  | some z =>
    have hm : z ∈ p.ks := List.mem_of_getLast? hz
    obtain ⟨j, y, rfl, j0, hy, _⟩ := h.kid up p hp z hm
    have h1 := (hf.here p hp).2 _ hm y (by rw [Int.toNat_natCast]; exact hy)
    have h2 : atT l (j : Int) = y.t := by unfold atT; rw [Int.toNat_natCast, hy]
    dsimp only
    rw [h2, show decide (f < y.t) = false from decide_eq_false (by omega)]
    rfl
theorem ck_add {l : List Nd} {n e b f t kind : Int} {up : Nat} (h : Ck l n) (hf : Fits l e b up) (he : e ≤ f) (hft : f ≤ t) (htn : t ≤ n) (hk1 : 1 ≤ kind) (hk2 : kind ≤ 11) :
    ∃ r, addN l up kind f t = (r, (l.length : Int)) ∧ Ck r n ∧ Fits r t (max b t) up ∧ Fits r f (max b t) l.length ∧ r[l.length]? = some ⟨kind, f, t, up, [], false⟩ ∧ r.length = l.length + 1 ∧
      (∀ (i : Nat) (x : Nd), l[i]? = some x → ∃ x', r[i]? = some x' ∧ x'.k = x.k ∧ x'.f = x.f ∧ x'.u = x.u ∧ x'.y = x.y ∧ (i ≠ up → x'.ks = x.ks)) := by
  obtain ⟨p, hp⟩ : ∃ p, l[up]? = some p := ⟨_, List.getElem?_eq_getElem hf.lt⟩
  have hl := hf.lt
  have hpf := (hf.here p hp).1
  have hmay := may_put h hf hp he hft htn hk1 hk2
  obtain ⟨m, hm⟩ : ∃ m, (l ++ [(⟨kind, f, t, up, [], false⟩ : Nd)]).set up { p with ks := p.ks ++ [(l.length : Int)] } = m := ⟨_, rfl⟩
  have hadd : addN l up kind f t = (reachN m up t, (l.length : Int)) := by
    unfold addN
    rw [if_pos hmay, Int.toNat_natCast, hp]
    dsimp only
    rw [hm]
  have hml : m.length = l.length + 1 := by rw [← hm]; simp
  have mu : m[up]? = some { p with ks := p.ks ++ [(l.length : Int)] } := by rw [← hm]; exact List.getElem?_set_self (by simp; omega)
  have mo : ∀ i x, i ≠ up → l[i]? = some x → m[i]? = some x := by
    intro i x hi hx
    have := (List.getElem?_eq_some_iff.1 hx).1
    rw [← hm, List.getElem?_set_ne (fun e => hi e.symm), List.getElem?_append_left this]; exact hx
  have mn : m[l.length]? = some ⟨kind, f, t, up, [], false⟩ := by
    rw [← hm, List.getElem?_set_ne (by omega), List.getElem?_append_right (Nat.le_refl _)]; simp
  have mg : ∀ i x, l[i]? = some x → ∃ x', m[i]? = some x' ∧ x'.k = x.k ∧ x'.f = x.f ∧ x'.t = x.t ∧ x'.u = x.u ∧ x'.y = x.y ∧ (i ≠ up → x'.ks = x.ks) := by
    intro i x hx
    by_cases e : i = up
    · subst e
      rw [hp] at hx; injection hx with hx; subst hx
      exact ⟨_, mu, rfl, rfl, rfl, rfl, rfl, fun h => absurd rfl h⟩
    · exact ⟨x, mo i x e hx, rfl, rfl, rfl, rfl, rfl, fun _ => rfl⟩
  have mb : ∀ i x', m[i]? = some x' → (i = l.length ∧ x' = ⟨kind, f, t, up, [], false⟩) ∨ (i < l.length ∧ ∃ x, l[i]? = some x ∧ x'.k = x.k ∧ x'.f = x.f ∧ x'.t = x.t ∧ x'.u = x.u ∧ (i = up → x = p ∧ x'.ks = p.ks ++ [(l.length : Int)]) ∧ (i ≠ up → x'.ks = x.ks)) := by
    intro i x' hx'
    have hi := (List.getElem?_eq_some_iff.1 hx').1
    by_cases e : i = l.length
    · subst e
      rw [mn] at hx'; injection hx' with hx'
      exact .inl ⟨rfl, hx'.symm⟩
    · refine .inr ⟨by omega, ?_⟩
      obtain ⟨x, hx⟩ : ∃ x, l[i]? = some x := ⟨_, List.getElem?_eq_getElem (by omega)⟩
      by_cases e2 : i = up
      · subst e2
        rw [hp] at hx; injection hx with hx; subst hx
        rw [mu] at hx'; injection hx' with hx'; subst hx'
        exact ⟨p, hp, rfl, rfl, rfl, rfl, fun _ => ⟨rfl, rfl⟩, fun h => absurd rfl h⟩
      · rw [mo i x e2 hx] at hx'; injection hx' with hx'; subst hx'
        exact ⟨x, hx, rfl, rfl, rfl, rfl, fun h => absurd h e2, fun _ => rfl⟩
  have hahead : ∀ (i : Nat) (x : Nd), l[i]? = some x → x.ks.Pairwise (Ahead m) := by
    intro i x hx
    refine (h.ord i x hx).imp_of_mem (fun {a b} ha hb hab => ⟨hab.1, fun xa yb hxa hyb => ?_⟩)
    obtain ⟨ja, ya, rfl, _, hya, _⟩ := h.kid i x hx a ha
    obtain ⟨jb, yb', rfl, _, hyb', _⟩ := h.kid i x hx b hb
    rw [Int.toNat_natCast] at hxa hyb
    obtain ⟨xa', q1, _, _, q2, _⟩ := mg ja ya hya
    obtain ⟨yb2, r1, _, r2, _⟩ := mg jb yb' hyb'
    rw [hxa] at q1; injection q1 with q1; subst q1
    rw [hyb] at r1; injection r1 with r1; subst r1
    have := hab.2 ya yb' (by rw [Int.toNat_natCast]; exact hya) (by rw [Int.toNat_natCast]; exact hyb')
    omega
  have hQ : CkQ (fun i y => On m up i ∧ y ≤ t) m n := by
    refine ⟨?_, ?_, ?_, ?_, ?_⟩
    · obtain ⟨x, q, rfl, h1, h2, h3, h4, h5⟩ := h.first
      obtain ⟨x', g1, g2, g3, g4, g5, _⟩ := mg 0 x rfl
      cases m with
      | nil => simp at g1
      | cons y q' => simp at g1; subst g1; exact ⟨_, _, rfl, by omega, by omega, by omega, by omega, h5⟩
    · intro i x' hi hx'
      rcases mb i x' hx' with ⟨rfl, rfl⟩ | ⟨hil, x, hx, _, _, _, e3, _⟩
      · show 0 ≤ (up : Int) ∧ (up : Int) < _; omega
      · rw [e3]; exact h.up i x hi hx
    · intro i x' hx' z hz
      rcases mb i x' hx' with ⟨rfl, rfl⟩ | ⟨hil, x, hx, _, e1, e2, e3, e4, e5⟩
      · simp at hz
      · by_cases e : i = up
        · obtain ⟨rfl, hks⟩ := e4 e
          subst e
          rw [hks, List.mem_append] at hz
          rcases hz with hz | hz
          · obtain ⟨j, y, rfl, j0, hy, k1, k2, k3, k4⟩ := h.kid i x hx z hz
            obtain ⟨y', g1, _, g3, g4, g5, _⟩ := mg j y hy
            exact ⟨j, y', rfl, j0, g1, by omega, by omega, by omega, .inl (by have := k4.elim id False.elim; omega)⟩
          · simp at hz
            subst hz
            exact ⟨l.length, _, rfl, by omega, mn, rfl, by show x'.f ≤ f; omega, hft, .inr ⟨.self _, Int.le_refl _⟩⟩
        · rw [e5 e] at hz
          obtain ⟨j, y, rfl, j0, hy, k1, k2, k3, k4⟩ := h.kid i x hx z hz
          obtain ⟨y', g1, _, g3, g4, g5, _⟩ := mg j y hy
          exact ⟨j, y', rfl, j0, g1, by omega, by omega, by omega, .inl (by have := k4.elim id False.elim; omega)⟩
    · intro i x' hx'
      rcases mb i x' hx' with ⟨rfl, rfl⟩ | ⟨hil, x, hx, _, e1, e2, e3, e4, e5⟩
      · exact .nil
      · by_cases e : i = up
        · obtain ⟨rfl, hks⟩ := e4 e
          subst e
          rw [hks, List.pairwise_append]
          refine ⟨hahead _ _ hx, by simp, fun a ha b hb => ?_⟩
          simp at hb
          subst hb
          obtain ⟨j, y, rfl, j0, hy, _⟩ := h.kid i x hx a ha
          have hj := (List.getElem?_eq_some_iff.1 hy).1
          refine ⟨by omega, fun xa yb hxa hyb => ?_⟩
          rw [Int.toNat_natCast] at hxa hyb
          rw [mn] at hyb; injection hyb with hyb; subst hyb
          obtain ⟨y', g1, _, _, g4, _⟩ := mg j y hy
          rw [hxa] at g1; injection g1 with g1; subst g1
          have := (hf.here x hx).2 _ ha y (by rw [Int.toNat_natCast]; exact hy)
          show xa.t ≤ f
          omega
        · rw [e5 e]; exact hahead _ _ hx
    · intro i hi hil
      have hc := count_put (fun z => z == (i : Int)) (l.length : Int) (l ++ [(⟨kind, f, t, up, [], false⟩ : Nd)]) up p (by rw [List.getElem?_append_left hl]; exact hp)
      rw [hm] at hc
      rw [hc]
      have h0 : ((l ++ [(⟨kind, f, t, up, [], false⟩ : Nd)]).flatMap (·.ks)) = l.flatMap (·.ks) := by simp
      rw [h0]
      by_cases e : i = l.length
      · subst e
        rw [if_pos (by simp)]
        have : (l.flatMap (·.ks)).countP (fun z => z == (l.length : Int)) = 0 := by
          rw [List.countP_eq_zero]
          intro z hz
          rw [List.mem_flatMap] at hz
          obtain ⟨x, hx, hz⟩ := hz
          obtain ⟨i, hi2⟩ := List.getElem?_of_mem hx
          obtain ⟨j, y, rfl, _, hy, _⟩ := h.kid i x hi2 z hz
          have hj := (List.getElem?_eq_some_iff.1 hy).1
          simp
          omega
        omega
      · rw [if_neg (by simp; omega)]
        exact h.seen i hi (by omega)
  have hsm : ∀ d, Sp l b d → d ≤ up → Sp m b d := by
    intro d hd
    induction hd with
    | root => exact fun _ => .root
    | up d q x y h0 hx hy hu hla ht hsp ih =>
      intro hdu
      have hqd := (h.up d x h0 hx).2
      obtain ⟨x', g1, _, _, g4, g5, _⟩ := mg d x hx
      exact .up d q x' y h0 g1 (mo q y (by omega) hy) (by omega) hla (by omega) (ih (by omega))
  have hsu := hsm up hf.sp (Nat.le_refl _)
  obtain ⟨c1, c2, c3, c4⟩ := ck_reach hQ hsu (by omega) htn
  obtain ⟨r, hr⟩ : ∃ r, reachN m up t = r := ⟨_, rfl⟩
  rw [hr] at hadd c1 c2 c3 c4
  obtain ⟨u', a1, ⟨_, a3, a4, a5, _⟩, _⟩ := c4 up _ mu
  obtain ⟨n', b1, ⟨b2, b3, b4, b5, b6⟩, b7⟩ := c4 l.length _ mn
  have bt : n'.t = t := by
    rcases b7 with ⟨b7, _⟩ | ⟨_, b7⟩
    · have := b7.low hQ.good; omega
    · exact b7
  have hnew : n' = ⟨kind, f, t, up, [], false⟩ := by
    obtain ⟨nk, nf, nt, nu, nks, ny⟩ := n'
    dsimp only at b2 b3 b4 b5 b6 bt
    subst b2 b3 b4 b5 b6 bt
    rfl
  subst hnew
  refine ⟨r, hadd, c1, ⟨by omega, c2 up hsu, fun x hx => ?_⟩, ⟨by omega, ?_, fun x hx => ?_⟩, b1, by omega, fun i x hx => ?_⟩
  · rw [a1] at hx; injection hx with hx; subst hx
    dsimp only at a3 a5
    refine ⟨by omega, fun z hz y hy => ?_⟩
    rw [a5, List.mem_append] at hz
    rcases hz with hz | hz
    · obtain ⟨j, y0, rfl, _, hy0, _⟩ := h.kid up p hp z hz
      rw [Int.toNat_natCast] at hy
      obtain ⟨y1, g1, _, _, g4, _⟩ := mg j y0 hy0
      obtain ⟨y2, d1, _, d2⟩ := c4 j y1 g1
      rw [hy] at d1; injection d1 with d1; subst d1
      have := (hf.here p hp).2 _ hz y0 (by rw [Int.toNat_natCast]; exact hy0)
      rcases d2 with ⟨_, d2⟩ | ⟨_, d2⟩ <;> omega
    · simp at hz
      subst hz
      rw [Int.toNat_natCast, b1] at hy
      injection hy with hy; subst hy
      exact Int.le_refl _
  · exact .up l.length up _ u' (by omega) b1 a1 rfl (by rw [a5]; simp) (Int.le_max_right _ _) (c2 up hsu)
  · rw [b1] at hx; injection hx with hx; subst hx
    exact ⟨Int.le_refl _, fun z hz => by simp at hz⟩
  · obtain ⟨x1, g1, g2, g3, g4, g5, g6, g7⟩ := mg i x hx
    obtain ⟨x2, d1, ⟨d2, d3, d4, d5, d6⟩, _⟩ := c4 i x1 g1
    exact ⟨x2, d1, by omega, by omega, by omega, by rw [d6, g6], fun e => by rw [d5, g7 e]⟩
/-- Out of the node that one is in the same may be put in. -/
theorem Fits.out {l : List Nd} {n e b : Int} {c p : Nat} {x : Nd} (h : Ck l n) (hf : Fits l e b c) (hx : l[c]? = some x) (hu : x.u = (p : Int)) (h0 : 0 < c) : Fits l b b p := by
  have hup := h.up c x h0 hx
  have hs := hf.sp
  cases hs with
  | root => omega
  | up _ q x1 y _ hx1 hy hu1 hla ht hsp =>
    rw [hx] at hx1; injection hx1 with hx1; subst hx1
    obtain rfl : q = p := by omega
    refine ⟨(List.getElem?_eq_some_iff.1 hy).1, hsp, fun y' hy' => ?_⟩
    rw [hy] at hy'; injection hy' with hy'; subst hy'
    have hmem : (c : Int) ∈ y.ks := List.mem_of_getLast? hla
    obtain ⟨j, x2, hj, _, hx2, _, k2, k3, _⟩ := h.kid q y hy c hmem
    obtain rfl : j = c := by omega
    rw [hx] at hx2; injection hx2 with hx2; subst hx2
    refine ⟨by omega, fun z hz w hw => ?_⟩
    have hle := last_most y.ks _ (h.ord q y hy) hla z hz
    obtain ⟨jz, z2, rfl, _, hz2, _, z3, z4, _⟩ := h.kid q y hy z hz
    rw [Int.toNat_natCast, hz2] at hw
    injection hw with hw; subst hw
    by_cases e : jz = j
    · subst e
      rw [hx] at hz2; injection hz2 with hz2; subst hz2
      exact ht
    · -- it lies ahead of the last one
      obtain ⟨k, hk⟩ := List.getElem?_of_mem hz
      obtain ⟨k', hk'⟩ := List.getElem?_of_mem hmem
      have hpw := List.pairwise_iff_getElem.1 (h.ord q y hy)
      have h1 := (List.getElem?_eq_some_iff.1 hk).1
      have h2 := (List.getElem?_eq_some_iff.1 hk').1
      have e1 : y.ks[k] = (jz : Int) := (List.getElem?_eq_some_iff.1 hk).2
      have e2 : y.ks[k'] = (j : Int) := (List.getElem?_eq_some_iff.1 hk').2
      rcases Nat.lt_trichotomy k k' with hlt | heq | hgt
      · have := (hpw k k' h1 h2 hlt).2
        rw [e1, e2, Int.toNat_natCast, Int.toNat_natCast] at this
        have := this _ _ hz2 hx
        omega
      · subst heq; rw [e1] at e2; omega
      · have := (hpw k' k h2 h1 hgt).1
        rw [e1, e2] at this
        omega
end Go.Proofs.Ytmlpaafclobgcaa.Ar

/- Brackets, plainly (chapter 11; no program text): what Value answers, as a plain function over tokens and a tree. -/
namespace Go.Proofs.Ytmlpaafclobgcaa.Fl
open Go.Proofs.Ytmlpaafclobgcaa.Ar

abbrev Tk := Nat × Nat × Nat
structure Dg where
  code : Nat
  f : Nat
  t : Nat
structure St where
  t : List Nd
  d : List Dg
def raw (l : List Tk) (i : Nat) : Nat := match l[i]? with
  | some x => x.1
  | none => 0
def frm (l : List Tk) (i : Nat) : Nat := match l[i]? with
  | some x => x.2.1
  | none => 0
def too (l : List Tk) (i : Nat) : Nat := match l[i]? with
  | some x => x.2.2
  | none => 0
/-- A token's kind; 0: there is none ahead of e, or a mark. -/
def kd (l : List Tk) (e i : Nat) : Nat := if e ≤ i ∨ raw l i = 20 ∨ raw l i = 21 then 0 else raw l i
def cnt (k : Nat) : Bool := !(k == 1 || k == 2 || k == 3 || k == 4)
def isScal (k : Nat) : Bool := k == 15 || k == 16 || k == 17 || k == 13
def isProp' (k : Nat) : Bool := k == 12 || k == 14
def opens (k : Nat) : Bool := k == 8 || k == 9
def ends (k : Nat) : Bool := k == 10 || k == 11
/-- On while that is so, but so many at most. -/
def goW (p : Nat → Bool) : Nat → Nat → Nat
  | 0, i => i
  | f + 1, i => if p i = true then goW p f (i + 1) else i
def blanks (l : List Tk) (e i : Nat) : Nat := goW (fun j => raw l j == 3) (e - i) i
def trivia (l : List Tk) (e i : Nat) : Nat := goW (fun j => !cnt (raw l j)) (e - i) i
/-- Behind the last token that counts ahead of one, not ahead of another one. -/
def back (l : List Tk) : Nat → Nat → Nat
  | 0, _ => 0
  | i + 1, m => if m < i + 1 ∧ cnt (raw l i) = false then back l i m else i + 1
def step (k n : Nat) : Nat := if opens k = true then n + 1 else if ends k = true then n - 1 else n
def balF (l : List Tk) (e : Nat) : Nat → Nat → Nat → Option Nat
  | 0, _, _ => none
  | f + 1, j, n => if kd l e j = 0 then none else if step (kd l e j) n = 0 then some (j + 1) else balF l e f (j + 1) (step (kd l e j) n)
def balanced (l : List Tk) (e i : Nat) : Nat := match balF l e (e - i) i 0 with
  | some j => j
  | none => back l (goW (fun j => kd l e j != 0) (e - i) i) (i + 1)
def text (l : List Tk) (e i : Nat) : Nat :=
  let j := goW (fun j => !cnt (raw l j) && raw l j != 1) (e - (i + 1)) (i + 1)
  if e ≤ j ∨ raw l j ≠ 1 ∨ e ≤ j + 1 ∨ raw l (j + 1) ≠ 19 then i + 1 else goW (fun j => raw l j == 19) (e - (j + 1)) (j + 1)
def strayF (l : List Tk) (e : Nat) : Nat → Nat → Nat → Nat
  | 0, j, _ => j
  | f + 1, j, n => if kd l e j = 0 then j else if n = 0 ∧ (kd l e j = 7 ∨ ends (kd l e j) = true) then j else strayF l e f (j + 1) (step (kd l e j) n)
def stray (l : List Tk) (e i : Nat) : Nat := back l (strayF l e (e - i) i 0) (i + 1)
def props (l : List Tk) (e : Nat) : Nat → Nat → Nat
  | 0, i => i
  | f + 1, i => if isProp' (kd l e i) = true then props l e f (trivia l e (i + 1)) else i
/-- Behind a key's TColon; 0: there is no key. -/
def key (l : List Tk) (e i : Nat) : Nat :=
  let a := props l e (e - i) i
  let b := if isScal (kd l e a) = true then trivia l e (a + 1) else a
  if kd l e b = 6 then b + 1 else 0
def firstOf (o : Option (Nat × Nat)) (i : Nat) : Nat := match o with
  | none => i
  | some x => x.1
/-- The first and the last one of the TAnchors and TTags, and what is behind them. -/
def lead (l : List Tk) (e : Nat) : Nat → Option (Nat × Nat) → Nat → Option (Nat × Nat) × Nat
  | 0, o, i => (o, i)
  | f + 1, o, i => if isProp' (kd l e i) = true then lead l e f (some (firstOf o i, i)) (blanks l e (i + 1)) else (o, i)
def begins (k : Nat) : Bool := isProp' k || isScal k || opens k || k == 18
def add (s : St) (up : Int) (k f t : Nat) : St × Int := (⟨(addN s.t up k f t).1, s.d⟩, (addN s.t up k f t).2)
def err (l : List Tk) (s : St) (up : Int) (f t code : Nat) : St := ⟨(addN s.t up 11 f t).1, s.d ++ [⟨code, frm l f, too l (t - 1)⟩]⟩
def keyed (l : List Nd) (i : Int) : List Nd := match l[i.toNat]? with
  | none => l
  | some x => l.set i.toNat { x with y := true }
/-- A value: its node, the token behind, what there is then. -/
def valF (l : List Tk) (e : Nat) (col : Option (Int → Nat → St → Nat × St)) (up : Int) (p : Nat) (s : St) : Int × Nat × St :=
  let o := (lead l e (e - blanks l e p) none (blanks l e p)).1
  let i := (lead l e (e - blanks l e p) none (blanks l e p)).2
  let fr := firstOf o i
  let k := kd l e i
  if k = 13 then ((add s up 8 fr (i + 1)).2, i + 1, (add s up 8 fr (i + 1)).1)
  else if isScal k = true then ((add s up 7 fr (i + 1)).2, i + 1, (add s up 7 fr (i + 1)).1)
  else if k = 18 then ((add s up 7 fr (text l e i)).2, text l e i, (add s up 7 fr (text l e i)).1)
  else if opens k = true then match col with
    | none => ((addN s.t up 11 fr (balanced l e i)).2, balanced l e i, err l s up fr (balanced l e i) 10)
    | some col =>
      let a := add s up (if k = 9 then 10 else 9) fr (i + 1)
      let r := col a.2 i a.1
      (a.2, r.1, r.2)
  else match o with
    | some x => ((add s up 7 fr (x.2 + 1)).2, x.2 + 1, (add s up 7 fr (x.2 + 1)).1)
    | none => (-1, p, s)
def pair (l : List Tk) (s : St) (c : Int) (j q : Nat) : St × Int :=
  let a := add s c 6 j q
  if q - j < 2 then a
  else
    let b := add a.1 a.2 (if (List.range (q - j)).any (fun x => raw l (j + x) == 13) = true then 8 else 7) j (back l (q - 1) (j + 1))
    (⟨keyed b.1.t a.2, b.1.d⟩, a.2)
def item (l : List Tk) (e : Nat) (val : Int → Nat → St → Int × Nat × St) (dict : Bool) (c : Int) (j : Nat) (s : St) : Nat × St :=
  let q := key l e j
  if 0 < q then
    let p := pair l s c j q
    let x := trivia l e q
    if kd l e x = 0 ∨ kd l e x = 7 ∨ ends (kd l e x) = true then (q, p.1)
    else
      let r := val p.2 x p.1
      if r.1 < 0 then (q, r.2.2) else (r.2.1, r.2.2)
  else if dict = true then
    let p := add s c 6 j (j + 1)
    let r := val p.2 j ⟨keyed p.1.t p.2, p.1.d⟩
    (r.2.1, r.2.2)
  else
    let r := val c j s
    (r.2.1, r.2.2)
/-- A collection, from a token on. -/
def colF (l : List Tk) (e : Nat) (val : Int → Nat → St → Int × Nat × St) (c : Int) (op : Nat) : Nat → Nat → Bool → St → Nat × St
  | 0, p, _, s => (p, s)
  | g + 1, p, have', s =>
    let j := trivia l e p
    let k := kd l e j
    if k = 0 then (back l p (op + 1), ⟨s.t, s.d ++ [⟨9, frm l op, too l op⟩]⟩)
    else if k = (if raw l op = 9 then 11 else 10) then (j + 1, ⟨growN s.t c (j + 1), s.d⟩)
    else if ends k = true then colF l e val c op g (j + 1) have' (err l s c j (j + 1) 8)
    else if k = 7 then
      if have' = true then colF l e val c op g (j + 1) false ⟨growN s.t c (j + 1), s.d⟩
      else colF l e val c op g (j + 1) have' (err l s c j (j + 1) 8)
    else if have' = true then colF l e val c op g (stray l e j) have' (err l s c j (stray l e j) 8)
    else if 0 < key l e j ∨ begins k = true then colF l e val c op g (item l e val (raw l op == 9) c j s).1 true (item l e val (raw l op == 9) c j s).2
    else colF l e val c op g (j + 1) have' (err l s c j (j + 1) 8)
/-- A value, so deep. -/
def valN (l : List Tk) (e : Nat) : Nat → Int → Nat → St → Int × Nat × St
  | 0 => valF l e none
  | d + 1 => valF l e (some (fun c op s => colF l e (valN l e d) c op (e - op) (op + 1) false s))
end Go.Proofs.Ytmlpaafclobgcaa.Fl

/- Brackets, plainly: how far its words go; no program text. -/
namespace Go.Proofs.Ytmlpaafclobgcaa.Fl
open Go.Proofs.Ytmlpaafclobgcaa.Ar

theorem kd_lt {l : List Tk} {e i : Nat} (h : kd l e i ≠ 0) : i < e ∧ raw l i = kd l e i := by
  unfold kd at h ⊢
  split at h
  · exact absurd rfl h
  · rename_i h1; rw [if_neg h1]; exact ⟨by omega, rfl⟩
theorem goW_ge (p : Nat → Bool) : ∀ (f i : Nat), i ≤ goW p f i
  | 0, i => Nat.le_refl _
  | f + 1, i => by
    rw [goW]; split
    · have := goW_ge p f (i + 1); omega
    · exact Nat.le_refl _
theorem goW_le (p : Nat → Bool) : ∀ (f i : Nat), goW p f i ≤ i + f
  | 0, i => Nat.le_refl _
  | f + 1, i => by
    rw [goW]; split
    · have := goW_le p f (i + 1); omega
    · omega
theorem goW_on (p : Nat → Bool) (f i : Nat) (h : goW p f i ≠ i) : p i = true := by
  cases f with
  | zero => exact absurd rfl h
  | succ f => rw [goW] at h; split at h
              · rename_i h1; exact h1
              · exact absurd rfl h
/-- The last one that is gone past is so. -/
theorem goW_last (p : Nat → Bool) : ∀ (f i : Nat), i < goW p f i → p (goW p f i - 1) = true
  | 0, i => fun h => absurd h (Nat.lt_irrefl _)
  | f + 1, i => fun h => by
    rw [goW] at h ⊢
    split at h
    · rename_i h1
      rw [if_pos h1]
      by_cases h2 : i + 1 < goW p f (i + 1)
      · exact goW_last p f (i + 1) h2
      · have h3 := goW_ge p f (i + 1)
        have h4 : goW p f (i + 1) = i + 1 := by omega
        rw [h4]; exact h1
    · exact absurd h (Nat.lt_irrefl _)
/-- It ends where that is not so, or as far as it may go. -/
theorem goW_stop (p : Nat → Bool) : ∀ (f i : Nat), goW p f i = i + f ∨ p (goW p f i) = false
  | 0, _ => .inl rfl
  | f + 1, i => by
    rw [goW]; split
    · rcases goW_stop p f (i + 1) with h | h
      · exact .inl (by omega)
      · exact .inr h
    · rename_i h; exact .inr (by simpa using h)
theorem blanks_in {l : List Tk} {e i : Nat} (h : i ≤ e) : i ≤ blanks l e i ∧ blanks l e i ≤ e := by
  have h1 := goW_ge (fun j => raw l j == 3) (e - i) i
  have h2 := goW_le (fun j => raw l j == 3) (e - i) i
  unfold blanks; omega
theorem trivia_in {l : List Tk} {e i : Nat} (h : i ≤ e) : i ≤ trivia l e i ∧ trivia l e i ≤ e := by
  have h1 := goW_ge (fun j => !cnt (raw l j)) (e - i) i
  have h2 := goW_le (fun j => !cnt (raw l j)) (e - i) i
  unfold trivia; omega
theorem back_le (l : List Tk) : ∀ (i m : Nat), back l i m ≤ i
  | 0, m => Nat.le_refl _
  | i + 1, m => by
    rw [back]; split
    · have := back_le l i m; omega
    · exact Nat.le_refl _
theorem back_ge (l : List Tk) : ∀ (i m : Nat), m ≤ i → m ≤ back l i m
  | 0, m => fun h => h
  | i + 1, m => fun h => by
    rw [back]; split
    · exact back_ge l i m (by omega)
    · exact h
theorem back_cnt (l : List Tk) : ∀ (i m : Nat), m < back l i m → cnt (raw l (back l i m - 1)) = true
  | 0, m => fun h => absurd h (Nat.not_lt_zero _)
  | i + 1, m => fun h => by
    rw [back] at h ⊢
    split
    · rename_i h1; rw [if_pos h1] at h; exact back_cnt l i m h
    · rename_i h1
      rw [if_neg h1] at h
      rw [Nat.add_sub_cancel]
      cases hc : cnt (raw l i) with
      | true => rfl
      | false => exact absurd ⟨h, hc⟩ h1
theorem back_self (l : List Tk) (i m : Nat) (h0 : 0 < i) (h : cnt (raw l (i - 1)) = true) : back l i m = i := by
  cases i with
  | zero => omega
  | succ i => rw [back, if_neg (fun h2 => by rw [Nat.add_sub_cancel] at h; rw [h] at h2; exact absurd h2.2 (by decide))]
theorem props_in (l : List Tk) (e : Nat) : ∀ (f i : Nat), i ≤ e → i ≤ props l e f i ∧ props l e f i ≤ e
  | 0, i => fun h => ⟨Nat.le_refl _, h⟩
  | f + 1, i => fun h => by
    rw [props]; split
    · rename_i h1
      have h2 : kd l e i ≠ 0 := fun h3 => by rw [h3] at h1; exact absurd h1 (by decide)
      have h3 := (kd_lt h2).1
      have h4 := trivia_in (l := l) (e := e) (i := i + 1) (by omega)
      have := props_in l e f _ h4.2
      omega
    · exact ⟨Nat.le_refl _, h⟩
theorem key_in {l : List Tk} {e j : Nat} (hj : j ≤ e) (h : 0 < key l e j) : j < key l e j ∧ key l e j ≤ e ∧ raw l (key l e j - 1) = 6 := by
  unfold key at h ⊢
  dsimp only at h ⊢
  have h1 := props_in l e (e - j) j hj
  obtain ⟨a, ha⟩ : ∃ a, props l e (e - j) j = a := ⟨_, rfl⟩
  rw [ha] at h h1 ⊢
  obtain ⟨b, hb⟩ : ∃ b, (if isScal (kd l e a) = true then trivia l e (a + 1) else a) = b := ⟨_, rfl⟩
  rw [hb] at h ⊢
  have hab : a ≤ b := by
    rw [← hb]; split
    · rename_i h2
      have h3 : kd l e a ≠ 0 := fun h4 => by rw [h4] at h2; exact absurd h2 (by decide)
      have := trivia_in (l := l) (e := e) (i := a + 1) (kd_lt h3).1
      omega
    · exact Nat.le_refl _
  split at h
  · rename_i h2
    rw [if_pos h2]
    have h3 := kd_lt (l := l) (e := e) (i := b) (by rw [h2]; decide)
    exact ⟨by omega, by omega, by rw [Nat.add_sub_cancel, h3.2, h2]⟩
  · omega
theorem balF_in (l : List Tk) (e : Nat) : ∀ (f j n r : Nat), balF l e f j n = some r → j < r ∧ r ≤ e ∧ (0 < n ∨ opens (kd l e j) = true → ends (raw l (r - 1)) = true)
  | 0, j, n, r => fun h => by simp [balF] at h
  | f + 1, j, n, r => fun h => by
    rw [balF] at h
    split at h
    · simp at h
    · rename_i h0
      have hk := kd_lt h0
      split at h
      · rename_i h1
        injection h with h; subst h
        refine ⟨by omega, by omega, fun h2 => ?_⟩
        rw [Nat.add_sub_cancel, hk.2]
        unfold step at h1
        split at h1
        · omega
        · rename_i h3
          split at h1
          · rename_i h4; exact h4
          · rcases h2 with h2 | h2
            · omega
            · exact absurd h2 h3
      · rename_i h1
        obtain ⟨g1, g2, g3⟩ := balF_in l e f (j + 1) _ r h
        exact ⟨by omega, g2, fun _ => g3 (.inl (by omega))⟩
theorem cnt_end {k : Nat} (h : ends k = true) : cnt k = true := by
  unfold ends at h
  simp at h
  rcases h with rfl | rfl <;> rfl
theorem cnt_open {k : Nat} (h : opens k = true) : cnt k = true := by
  unfold opens at h
  simp at h
  rcases h with rfl | rfl <;> rfl
theorem cnt_prop {k : Nat} (h : isProp' k = true) : cnt k = true := by
  unfold isProp' at h
  simp at h
  rcases h with rfl | rfl <;> rfl
theorem cnt_scal {k : Nat} (h : isScal k = true) : cnt k = true := by
  unfold isScal at h
  simp at h
  rcases h with (((rfl | rfl) | rfl) | rfl) <;> rfl
theorem balanced_in {l : List Tk} {e i : Nat} (h : opens (kd l e i) = true) : i < balanced l e i ∧ balanced l e i ≤ e ∧ cnt (raw l (balanced l e i - 1)) = true := by
  have h0 : kd l e i ≠ 0 := fun h1 => by rw [h1] at h; exact absurd h (by decide)
  have hk := kd_lt h0
  unfold balanced
  cases hb : balF l e (e - i) i 0 with
  | some r =>
    obtain ⟨h1, h2, h3⟩ := balF_in l e _ _ _ _ hb
    exact ⟨h1, h2, cnt_end (h3 (.inr h))⟩
  | none =>
    dsimp only
    obtain ⟨g, hg⟩ : ∃ g, goW (fun j => kd l e j != 0) (e - i) i = g := ⟨_, rfl⟩
    have g1 : i < g := by
      rw [← hg, show e - i = (e - i - 1) + 1 by omega, goW, if_pos (by simpa using h0)]
      have := goW_ge (fun j => kd l e j != 0) (e - i - 1) (i + 1)
      omega
    have g2 : g ≤ e := by have := goW_le (fun j => kd l e j != 0) (e - i) i; omega
    rw [hg]
    have b1 := back_le l g (i + 1)
    have b2 := back_ge l g (i + 1) (by omega)
    refine ⟨by omega, by omega, ?_⟩
    by_cases hb : i + 1 < back l g (i + 1)
    · exact back_cnt l g (i + 1) hb
    · have : back l g (i + 1) = i + 1 := by omega
      rw [this, Nat.add_sub_cancel, hk.2]
      exact cnt_open h
theorem text_in {l : List Tk} {e i : Nat} (h : kd l e i = 18) : i < text l e i ∧ text l e i ≤ e ∧ cnt (raw l (text l e i - 1)) = true := by
  have hk := kd_lt (l := l) (e := e) (i := i) (by rw [h]; decide)
  unfold text
  dsimp only
  obtain ⟨j, hj⟩ : ∃ j, goW (fun j => !cnt (raw l j) && raw l j != 1) (e - (i + 1)) (i + 1) = j := ⟨_, rfl⟩
  have j1 : i + 1 ≤ j := by rw [← hj]; exact goW_ge _ _ _
  rw [hj]
  split
  · refine ⟨by omega, by omega, ?_⟩
    rw [Nat.add_sub_cancel, hk.2, h]; rfl
  · rename_i h1
    have a1 : j + 1 < e := by omega
    have a2 : raw l (j + 1) = 19 := by
      by_cases h2 : raw l (j + 1) = 19
      · exact h2
      · exact absurd (.inr (.inr (.inr h2))) h1
    obtain ⟨r, hr⟩ : ∃ r, goW (fun j => raw l j == 19) (e - (j + 1)) (j + 1) = r := ⟨_, rfl⟩
    have r1 : j + 1 < r := by
      rw [← hr, show e - (j + 1) = (e - (j + 1) - 1) + 1 by omega, goW, if_pos (by simpa using a2)]
      have := goW_ge (fun j => raw l j == 19) (e - (j + 1) - 1) (j + 1 + 1)
      omega
    have r2 : r ≤ e := by have := goW_le (fun j => raw l j == 19) (e - (j + 1)) (j + 1); omega
    have r3 := goW_last (fun j => raw l j == 19) (e - (j + 1)) (j + 1) (by omega)
    rw [hr] at r3 ⊢
    refine ⟨by omega, r2, ?_⟩
    have r3 : raw l (r - 1) = 19 := by simpa using r3
    rw [r3]; rfl
theorem strayF_in (l : List Tk) (e : Nat) : ∀ (f j n : Nat), j ≤ strayF l e f j n ∧ (j ≤ e → strayF l e f j n ≤ e)
  | 0, j, n => ⟨Nat.le_refl _, id⟩
  | f + 1, j, n => by
    rw [strayF]
    split
    · exact ⟨Nat.le_refl _, id⟩
    · rename_i h0
      have := kd_lt h0
      split
      · exact ⟨Nat.le_refl _, id⟩
      · have ih := strayF_in l e f (j + 1) (step (kd l e j) n)
        exact ⟨by omega, fun _ => ih.2 (by omega)⟩
theorem stray_in {l : List Tk} {e j : Nat} (h0 : kd l e j ≠ 0) (hc : cnt (raw l j) = true) (h7 : kd l e j ≠ 7) (he : ends (kd l e j) = false) : j < stray l e j ∧ stray l e j ≤ e ∧ cnt (raw l (stray l e j - 1)) = true := by
  have hk := kd_lt h0
  unfold stray
  obtain ⟨g, hg⟩ : ∃ g, strayF l e (e - j) j 0 = g := ⟨_, rfl⟩
  have g1 : j < g := by
    rw [← hg, show e - j = (e - j - 1) + 1 by omega, strayF, if_neg h0, if_neg (by rw [he]; simp [h7])]
    have := (strayF_in l e (e - j - 1) (j + 1) (step (kd l e j) 0)).1
    omega
  have g2 : g ≤ e := by rw [← hg]; exact (strayF_in l e _ _ _).2 (by omega)
  rw [hg]
  have b1 := back_le l g (j + 1)
  have b2 := back_ge l g (j + 1) (by omega)
  refine ⟨by omega, by omega, ?_⟩
  by_cases hb : j + 1 < back l g (j + 1)
  · exact back_cnt l g (j + 1) hb
  · have : back l g (j + 1) = j + 1 := by omega
    rw [this, Nat.add_sub_cancel]; exact hc
theorem lead_in (l : List Tk) (e lo : Nat) : ∀ (f : Nat) (o : Option (Nat × Nat)) (i : Nat), lo ≤ i → i ≤ e → (∀ a z, o = some (a, z) → lo ≤ a ∧ a ≤ z ∧ z < i ∧ isProp' (raw l z) = true) →
    i ≤ (lead l e f o i).2 ∧ (lead l e f o i).2 ≤ e ∧ (∀ a z, (lead l e f o i).1 = some (a, z) → lo ≤ a ∧ a ≤ z ∧ z < (lead l e f o i).2 ∧ isProp' (raw l z) = true) ∧
      ((lead l e f o i).1 = none → o = none ∧ (lead l e f o i).2 = i ∧ (0 < f → isProp' (kd l e i) = false))
  | 0, o, i => fun h1 h2 h3 => ⟨Nat.le_refl _, h2, h3, fun h => ⟨h, rfl, fun h => absurd h (Nat.lt_irrefl _)⟩⟩
  | f + 1, o, i => fun h1 h2 h3 => by
    rw [lead]
    split
    · rename_i hp
      have h0 : kd l e i ≠ 0 := fun h4 => by rw [h4] at hp; exact absurd hp (by decide)
      have hk := kd_lt h0
      have hb := blanks_in (l := l) (e := e) (i := i + 1) (by omega)
      have ih := lead_in l e lo f (some (firstOf o i, i)) (blanks l e (i + 1)) (by omega) hb.2 (fun a z h => by
        injection h with h
        injection h with ha hz
        subst hz
        refine ⟨?_, ?_, by omega, by rw [hk.2]; exact hp⟩
        · cases o with
          | none => simp only [firstOf] at ha; omega
          | some x => obtain ⟨x1, x2⟩ := x; have := h3 x1 x2 rfl; simp only [firstOf] at ha; omega
        · cases o with
          | none => simp only [firstOf] at ha; omega
          | some x => obtain ⟨x1, x2⟩ := x; have := h3 x1 x2 rfl; simp only [firstOf] at ha; omega)
      refine ⟨by omega, ih.2.1, ih.2.2.1, fun h => ?_⟩
      have := (ih.2.2.2 h).1
      simp at this
    · rename_i hp
      exact ⟨Nat.le_refl _, h2, h3, fun h => ⟨h, rfl, fun _ => by simpa using hp⟩⟩
end Go.Proofs.Ytmlpaafclobgcaa.Fl

/- Brackets, plainly (P1103): whatever tokens come, a value ends behind one of them or there is none, its tree is checked, and errors are as many as what is told but DOpen; no program text. -/
namespace Go.Proofs.Ytmlpaafclobgcaa.Fl
open Go.Proofs.Ytmlpaafclobgcaa.Ar

def errs (l : List Nd) : Nat := l.countP (fun x => x.k == 11)
def told (d : List Dg) : Nat := d.countP (fun x => x.code != 9)
def Keep (l l' : List Nd) : Prop := l.length ≤ l'.length ∧ ∀ (i : Nat) (x : Nd), l[i]? = some x → ∃ x', l'[i]? = some x' ∧ x'.k = x.k ∧ x'.f = x.f ∧ x'.u = x.u
theorem Keep.refl (l : List Nd) : Keep l l := ⟨Nat.le_refl _, fun _ x h => ⟨x, h, rfl, rfl, rfl⟩⟩
theorem Keep.trans {a b c : List Nd} (h : Keep a b) (g : Keep b c) : Keep a c := by
  refine ⟨Nat.le_trans h.1 g.1, fun i x hx => ?_⟩
  obtain ⟨y, h1, h2, h3, h4⟩ := h.2 i x hx
  obtain ⟨z, g1, g2, g3, g4⟩ := g.2 i y h1
  exact ⟨z, g1, by omega, by omega, by omega⟩
structure Ok (n : Int) (up : Nat) (s0 : St) (e b : Int) (s : St) : Prop where
  ck : Ck s.t n
  fits : Fits s.t e b up
  keep : Keep s0.t s.t
  tells : errs s.t + told s0.d = errs s0.t + told s.d
theorem Ok.le {n e b e' b' : Int} {up : Nat} {s0 s : St} (h : Ok n up s0 e b s) (he : e ≤ e') (hb : b ≤ b') : Ok n up s0 e' b' s := ⟨h.ck, h.fits.le he hb, h.keep, h.tells⟩
theorem Ok.start {n e b : Int} {up : Nat} {s : St} (h : Ck s.t n) (g : Fits s.t e b up) : Ok n up s e b s := ⟨h, g, Keep.refl _, rfl⟩
theorem Ok.trans {n e b e1 b1 : Int} {up c : Nat} {s0 s s' : St} (h : Ok n up s0 e b s) (g : Ok n c s e1 b1 s') : Ok n c s0 e1 b1 s' :=
  ⟨g.ck, g.fits, h.keep.trans g.keep, by have h1 := h.tells; have h2 := g.tells; omega⟩
theorem Ok.out {n e b : Int} {c p : Nat} {s0 s : St} (h : Ok n c s0 e b s) {x : Nd} (hx : s.t[c]? = some x) (hu : x.u = (p : Int)) (h0 : 0 < c) : Ok n p s0 b b s :=
  ⟨h.ck, h.fits.out h.ck hx hu h0, h.keep, h.tells⟩
theorem same_kinds {l r : List Nd} (hl : r.length = l.length) (h : ∀ (i : Nat) (x : Nd), l[i]? = some x → ∃ x', r[i]? = some x' ∧ x'.k = x.k) : r.map (·.k) = l.map (·.k) := by
  refine List.ext_getElem? (fun i => ?_)
  rw [List.getElem?_map, List.getElem?_map]
  cases hx : l[i]? with
  | none =>
    have : r[i]? = none := by rw [List.getElem?_eq_none_iff] at hx ⊢; omega
    rw [this]
  | some x =>
    obtain ⟨x', h1, h2⟩ := h i x hx
    rw [h1]; simp [h2]
theorem errs_map (l : List Nd) : errs l = (l.map (·.k)).countP (fun k => k == 11) := by
  unfold errs; rw [List.countP_map]; rfl
theorem errs_same {l r : List Nd} (hl : r.length = l.length) (h : ∀ (i : Nat) (x : Nd), l[i]? = some x → ∃ x', r[i]? = some x' ∧ x'.k = x.k) : errs r = errs l := by
  rw [errs_map, errs_map, same_kinds hl h]
theorem errs_more {l r : List Nd} {z : Nd} (hl : r.length = l.length + 1) (h : ∀ (i : Nat) (x : Nd), l[i]? = some x → ∃ x', r[i]? = some x' ∧ x'.k = x.k) (hz : r[l.length]? = some z) : errs r = errs l + (if z.k == 11 then 1 else 0) := by
  have h1 : r = r.take l.length ++ [z] := by
    refine List.ext_getElem? (fun i => ?_)
    by_cases hi : i < l.length
    · rw [List.getElem?_append_left (by rw [List.length_take]; omega), List.getElem?_take_of_lt hi]
    · by_cases e : i = l.length
      · subst e
        rw [hz, List.getElem?_append_right (by rw [List.length_take]; omega), List.length_take, Nat.min_eq_left (by omega), Nat.sub_self]; rfl
      · rw [List.getElem?_eq_none (by omega), List.getElem?_eq_none (by rw [List.length_append, List.length_take]; simp; omega)]
  have h2 : errs (r.take l.length) = errs l := errs_same (by rw [List.length_take]; omega) (fun i x hx => by
    have hi := (List.getElem?_eq_some_iff.1 hx).1
    obtain ⟨x', g1, g2⟩ := h i x hx
    exact ⟨x', by rw [List.getElem?_take_of_lt hi]; exact g1, g2⟩)
  rw [h1]
  unfold errs at h2 ⊢
  rw [List.countP_append, h2, List.countP_cons, List.countP_nil]
  omega
theorem ok_put {n e b : Int} {up f t kind : Nat} {s0 s : St} (h : Ok n up s0 e b s) (he : e ≤ f) (hft : f ≤ t) (htn : (t : Int) ≤ n) (hk1 : 1 ≤ kind) (hk2 : kind ≤ 11) :
    ∃ r, addN s.t up kind f t = (r, (s.t.length : Int)) ∧ Ck r n ∧ Fits r t (max b t) up ∧ Fits r f (max b t) s.t.length ∧ Keep s.t r ∧ errs r = errs s.t + (if kind = 11 then 1 else 0) ∧
      (∃ x, r[s.t.length]? = some x ∧ x.u = (up : Int) ∧ x.k = (kind : Int)) ∧ 0 < s.t.length := by
  obtain ⟨r, h1, h2, h3, h4, h5, h6, h7⟩ := ck_add (f := (f : Int)) (t := (t : Int)) (kind := (kind : Int)) h.ck h.fits he (by omega) htn (by omega) (by omega)
  refine ⟨r, h1, h2, h3, h4, ⟨by omega, fun i x hx => ?_⟩, ?_, ⟨_, h5, rfl, rfl⟩, h.ck.pos⟩
  · obtain ⟨x', g1, g2, g3, g4, _⟩ := h7 i x hx
    exact ⟨x', g1, g2, g3, g4⟩
  · rw [errs_more h6 (fun i x hx => by obtain ⟨x', g1, g2, _⟩ := h7 i x hx; exact ⟨x', g1, g2⟩) h5]
    congr 1
    by_cases e : kind = 11
    · subst e; rfl
    · rw [if_neg (by simp; omega), if_neg e]
theorem ok_add {n e b : Int} {up f t kind : Nat} {s0 s : St} (h : Ok n up s0 e b s) (he : e ≤ f) (hft : f ≤ t) (htn : (t : Int) ≤ n) (hk1 : 1 ≤ kind) (hk2 : kind ≤ 10) :
    ∃ s', add s up kind f t = (s', (s.t.length : Int)) ∧ Ok n up s0 t (max b t) s' ∧ Ok n s.t.length s0 f (max b t) s' ∧ (∃ x, s'.t[s.t.length]? = some x ∧ x.u = (up : Int)) ∧ 0 < s.t.length := by
  obtain ⟨r, h1, h2, h3, h4, h5, h6, ⟨x, h7, h8, _⟩, h9⟩ := ok_put h he hft htn hk1 (by omega)
  have ht : errs r + told s0.d = errs s0.t + told s.d := by rw [h6, if_neg (by omega)]; have := h.tells; omega
  refine ⟨⟨r, s.d⟩, by unfold add; rw [h1], ⟨h2, h3, h.keep.trans h5, ht⟩, ⟨h2, h4, h.keep.trans h5, ht⟩, ⟨x, h7, h8⟩, h9⟩
theorem ok_err {n e b : Int} {up f t code : Nat} {s0 s : St} (l : List Tk) (h : Ok n up s0 e b s) (he : e ≤ f) (hft : f ≤ t) (htn : (t : Int) ≤ n) (hc : code ≠ 9) :
    Ok n up s0 t (max b t) (err l s up f t code) ∧ (addN s.t up 11 f t).2 = (s.t.length : Int) := by
  obtain ⟨r, h1, h2, h3, h4, h5, h6, _, h9⟩ := ok_put (kind := 11) h he hft htn (by omega) (by omega)
  have h1 : addN s.t up 11 f t = (r, (s.t.length : Int)) := h1
  refine ⟨?_, by rw [h1]⟩
  unfold err
  rw [h1]
  refine ⟨h2, h3, h.keep.trans h5, ?_⟩
  show errs r + told s0.d = errs s0.t + told (s.d ++ [_])
  unfold told
  rw [List.countP_append, List.countP_cons, List.countP_nil, if_pos (by simpa using hc), h6, if_pos rfl]
  have := h.tells
  unfold told at this
  omega
theorem ok_grow {n e b : Int} {up t : Nat} {s0 s : St} (h : Ok n up s0 e b s) (he : e ≤ t) (hb : b ≤ t) (htn : (t : Int) ≤ n) : Ok n up s0 t t ⟨growN s.t up t, s.d⟩ := by
  obtain ⟨h1, h2, h3, h4⟩ := ck_grow h.ck h.fits he hb htn
  have hk : Keep s.t (growN s.t up t) := ⟨by omega, fun i x hx => by obtain ⟨x', g1, g2, g3, g4, _⟩ := h4 i x hx; exact ⟨x', g1, g2, g3, g4⟩⟩
  refine ⟨h1, h2, h.keep.trans hk, ?_⟩
  show errs (growN s.t up t) + _ = _ + told s.d
  rw [errs_same h3 (fun i x hx => by obtain ⟨x', g1, g2, _⟩ := hk.2 i x hx; exact ⟨x', g1, g2⟩)]
  exact h.tells
theorem ok_open {n e b : Int} {up f t : Nat} {s0 s : St} (h : Ok n up s0 e b s) : Ok n up s0 e b ⟨s.t, s.d ++ [⟨9, f, t⟩]⟩ := by
  refine ⟨h.ck, h.fits, h.keep, ?_⟩
  show errs s.t + told s0.d = errs s0.t + told (s.d ++ [_])
  have := h.tells
  unfold told at this ⊢
  rw [List.countP_append, List.countP_cons, List.countP_nil, if_neg (by simp)]
  omega
/-- A node is said to have a key: nothing else turns. -/
theorem keyed_get (l : List Nd) (i : Int) : (keyed l i).length = l.length ∧ ∀ (j : Nat) (x : Nd), l[j]? = some x → ∃ x', (keyed l i)[j]? = some x' ∧ x'.k = x.k ∧ x'.f = x.f ∧ x'.t = x.t ∧ x'.u = x.u ∧ x'.ks = x.ks := by
  unfold keyed
  cases hx : l[i.toNat]? with
  | none => exact ⟨rfl, fun j x h => ⟨x, h, rfl, rfl, rfl, rfl, rfl⟩⟩
  | some y =>
    have hi := (List.getElem?_eq_some_iff.1 hx).1
    refine ⟨by simp, fun j x h => ?_⟩
    dsimp only
    by_cases e : i.toNat = j
    · subst e
      rw [hx] at h; injection h with h; subst h
      exact ⟨_, List.getElem?_set_self hi, rfl, rfl, rfl, rfl, rfl⟩
    · exact ⟨x, by rw [List.getElem?_set_ne e]; exact h, rfl, rfl, rfl, rfl, rfl⟩
theorem ck_same {l r : List Nd} {n e b : Int} {c : Nat} (hl : r.length = l.length) (G : ∀ (j : Nat) (x : Nd), l[j]? = some x → ∃ x', r[j]? = some x' ∧ x'.k = x.k ∧ x'.f = x.f ∧ x'.t = x.t ∧ x'.u = x.u ∧ x'.ks = x.ks)
    (h : Ck l n) (hf : Fits l e b c) : Ck r n ∧ Fits r e b c := by
  have B : ∀ (i : Nat) (x' : Nd), r[i]? = some x' → ∃ x, l[i]? = some x ∧ x'.k = x.k ∧ x'.f = x.f ∧ x'.t = x.t ∧ x'.u = x.u ∧ x'.ks = x.ks := by
    intro i x' hx'
    have hi := (List.getElem?_eq_some_iff.1 hx').1
    obtain ⟨x, hx⟩ : ∃ x, l[i]? = some x := ⟨_, List.getElem?_eq_getElem (by omega)⟩
    obtain ⟨y, h1, h2⟩ := G i x hx
    rw [hx'] at h1; injection h1 with h1; subst h1
    exact ⟨x, hx, h2⟩
  refine ⟨⟨?_, ?_, ?_, ?_, ?_⟩, ⟨by have := hf.lt; omega, ?_, ?_⟩⟩
  · obtain ⟨x, q, rfl, h1, h2, h3, h4, h5⟩ := h.first
    obtain ⟨x', g1, e1, e2, e3, e4, e5⟩ := G 0 x rfl
    cases r with
    | nil => simp at g1
    | cons y q' => simp at g1; subst g1; exact ⟨_, _, rfl, by omega, by omega, by omega, by omega, h5⟩
  · intro i x' hi hx'
    obtain ⟨x, hx, _, _, _, e4, _⟩ := B i x' hx'
    rw [e4]; exact h.up i x hi hx
  · intro i x' hx' z hz
    obtain ⟨x, hx, _, e2, e3, e4, e5⟩ := B i x' hx'
    rw [e5] at hz
    obtain ⟨j, y, rfl, j0, hy, k1, k2, k3, k4⟩ := h.kid i x hx z hz
    obtain ⟨y', g1, _, g3, g4, g5, _⟩ := G j y hy
    exact ⟨j, y', rfl, j0, g1, by omega, by omega, by omega, .inl (by have := k4.elim id False.elim; omega)⟩
  · intro i x' hx'
    obtain ⟨x, hx, _, e2, e3, e4, e5⟩ := B i x' hx'
    rw [e5]
    refine (h.ord i x hx).imp (fun {a b} hab => ⟨hab.1, fun xa yb hxa hyb => ?_⟩)
    obtain ⟨xa0, q1, _, _, q2, _⟩ := B _ xa hxa
    obtain ⟨yb0, r1, _, r2, _⟩ := B _ yb hyb
    have := hab.2 xa0 yb0 q1 r1
    omega
  · intro i hi hil
    have hm : r.map (·.ks) = l.map (·.ks) := by
      refine List.ext_getElem? (fun i => ?_)
      rw [List.getElem?_map, List.getElem?_map]
      cases hx : l[i]? with
      | none =>
        have : r[i]? = none := by rw [List.getElem?_eq_none_iff] at hx ⊢; omega
        rw [this]
      | some x =>
        obtain ⟨x', g1, _, _, _, _, e5⟩ := G i x hx
        rw [g1]; simp [e5]
    rw [List.flatMap_def, hm, ← List.flatMap_def]
    exact h.seen i hi (by omega)
  · have hs := hf.sp
    clear hf
    induction hs with
    | root => exact .root
    | up d p x y h0 hx hy hu hla ht hsp ih =>
      obtain ⟨x', g1, _, _, g3, g4, _⟩ := G d x hx
      obtain ⟨y', k1, _, _, _, _, k5⟩ := G p y hy
      exact .up d p x' y' h0 g1 k1 (by omega) (by rw [k5]; exact hla) (by omega) ih
  · intro x' hx'
    obtain ⟨x, hx, _, e2, _, _, e5⟩ := B c x' hx'
    refine ⟨by have := (hf.here x hx).1; omega, fun z hz y' hy' => ?_⟩
    rw [e5] at hz
    obtain ⟨y, hy, _, _, q3, _⟩ := B _ y' hy'
    have := (hf.here x hx).2 z hz y hy
    omega
theorem ok_keyed {n e b : Int} {up : Nat} {s0 s : St} (i : Int) (h : Ok n up s0 e b s) : Ok n up s0 e b ⟨keyed s.t i, s.d⟩ := by
  obtain ⟨k1, k2⟩ := keyed_get s.t i
  obtain ⟨h1, h2⟩ := ck_same k1 k2 h.ck h.fits
  have hk : Keep s.t (keyed s.t i) := ⟨by omega, fun j x hx => by obtain ⟨x', g1, g2, g3, _, g5, _⟩ := k2 j x hx; exact ⟨x', g1, g2, g3, g5⟩⟩
  refine ⟨h1, h2, h.keep.trans hk, ?_⟩
  show errs (keyed s.t i) + _ = _ + told s.d
  rw [errs_same k1 (fun j x hx => by obtain ⟨x', g1, g2, _⟩ := k2 j x hx; exact ⟨x', g1, g2⟩)]
  exact h.tells
end Go.Proofs.Ytmlpaafclobgcaa.Fl

/- Brackets, plainly (P1103): the values themselves; no program text. -/
namespace Go.Proofs.Ytmlpaafclobgcaa.Fl
open Go.Proofs.Ytmlpaafclobgcaa.Ar

/-- What is true of a value that is read at p, into a node. -/
def VC (l : List Tk) (e : Nat) (n : Int) (val : Int → Nat → St → Int × Nat × St) : Prop :=
  ∀ (up p : Nat) (s : St) (b : Int), Ck s.t n → Fits s.t p b up → b ≤ p + 1 → p ≤ e →
    (val up p s = (-1, p, s) ∧ begins (kd l e p) = false) ∨
    (∃ (next : Nat) (s' : St), val up p s = ((s.t.length : Int), next, s') ∧ p < next ∧ next ≤ e ∧ cnt (raw l (next - 1)) = true ∧ Ok n up s next next s')
theorem val_of (l : List Tk) (e : Nat) (n : Int) (hn : (e : Int) ≤ n) (col : Option (Int → Nat → St → Nat × St)) :
    (∀ k, col = some k → ∀ (c op : Nat) (s : St) (b : Int), op < e → cnt (raw l op) = true → Ck s.t n → Fits s.t (op + 1 : Nat) b c → b ≤ (op + 1 : Nat) →
      ∃ (next : Nat) (s' : St), k c op s = (next, s') ∧ op < next ∧ next ≤ e ∧ cnt (raw l (next - 1)) = true ∧ Ok n c s next next s') → VC l e n (valF l e col) := by
  intro hk up p s b hck hf hb hpe
  have h0 := blanks_in (l := l) hpe
  obtain ⟨i0, hi0⟩ : ∃ i0, blanks l e p = i0 := ⟨_, rfl⟩
  have hl := lead_in l e i0 (e - i0) none i0 (Nat.le_refl _) (by omega) (fun a z h => by simp at h)
  obtain ⟨o, ho⟩ : ∃ o, (lead l e (e - i0) none i0).1 = o := ⟨_, rfl⟩
  obtain ⟨i, hi⟩ : ∃ i, (lead l e (e - i0) none i0).2 = i := ⟨_, rfl⟩
  rw [hi0] at h0
  rw [ho, hi] at hl
  obtain ⟨l1, l2, l3, l4⟩ := hl
  obtain ⟨fr, hfr⟩ : ∃ fr, firstOf o i = fr := ⟨_, rfl⟩
  have hfr1 : p ≤ fr ∧ fr ≤ i := by
    rw [← hfr]
    cases o with
    | none => exact ⟨by show p ≤ i; omega, Nat.le_refl _⟩
    | some x => obtain ⟨a, z⟩ := x; have := l3 a z rfl; show p ≤ a ∧ a ≤ i; omega
  have hs : Ok n up s p b s := .start hck hf
  obtain ⟨k, hkd⟩ : ∃ k, kd l e i = k := ⟨_, rfl⟩
  have put : ∀ (kind t : Nat), fr < t → t ≤ e → cnt (raw l (t - 1)) = true → 1 ≤ kind → kind ≤ 10 →
      ∃ (next : Nat) (s' : St), ((add s up kind fr t).2, t, (add s up kind fr t).1) = ((s.t.length : Int), next, s') ∧ p < next ∧ next ≤ e ∧ cnt (raw l (next - 1)) = true ∧ Ok n up s next next s' := by
    intro kind t h1 h2 h3 h4 h5
    obtain ⟨s', a1, a2, _⟩ := ok_add (kind := kind) hs (f := fr) (t := t) (by omega) (by omega) (by omega) h4 h5
    exact ⟨t, s', by rw [a1], by omega, h2, h3, a2.le (Int.le_refl _) (by omega)⟩
  unfold valF
  dsimp only
  rw [hi0, ho, hi, hfr, hkd]
  have kin : k ≠ 0 → i < e ∧ raw l i = k := fun h => by have := kd_lt (l := l) (e := e) (i := i) (by omega); omega
  by_cases c1 : k = 13
  · rw [if_pos c1]
    have hi2 := kin (by omega)
    exact .inr (put 8 (i + 1) (by omega) (by omega) (by rw [Nat.add_sub_cancel, hi2.2, c1]; rfl) (by omega) (by omega))
  rw [if_neg c1]
  by_cases c2 : isScal k = true
  · rw [if_pos c2]
    have hi2 := kin (fun h => by rw [h] at c2; exact absurd c2 (by decide))
    exact .inr (put 7 (i + 1) (by omega) (by omega) (by rw [Nat.add_sub_cancel, hi2.2]; exact cnt_scal c2) (by omega) (by omega))
  rw [if_neg c2]
  by_cases c3 : k = 18
  · rw [if_pos c3]
    have ht := text_in (l := l) (e := e) (i := i) (by omega)
    exact .inr (put 7 (text l e i) (by omega) ht.2.1 ht.2.2 (by omega) (by omega))
  rw [if_neg c3]
  by_cases c4 : opens k = true
  · rw [if_pos c4]
    have hi2 := kin (fun h => by rw [h] at c4; exact absurd c4 (by decide))
    cases hcol : col with
    | none =>
      have ht := balanced_in (l := l) (e := e) (i := i) (by rw [hkd]; exact c4)
      obtain ⟨e1, e2⟩ := ok_err l hs (f := fr) (t := balanced l e i) (code := 10) (by omega) (by omega) (by omega) (by omega)
      exact .inr ⟨balanced l e i, _, by dsimp only; rw [e2], by omega, ht.2.1, ht.2.2, e1.le (Int.le_refl _) (by omega)⟩
    | some q =>
      dsimp only
      obtain ⟨kind, hkind⟩ : ∃ kind : Nat, kind = (if k = 9 then 10 else 9) := ⟨_, rfl⟩
      rw [← hkind]
      have hk1 : 1 ≤ kind ∧ kind ≤ 10 := by rw [hkind]; split <;> omega
      obtain ⟨s', a1, a2, a3, ⟨x, a4, a5⟩, a6⟩ := ok_add (kind := kind) hs (f := fr) (t := i + 1) (by omega) (by omega) (by omega) hk1.1 hk1.2
      rw [a1]
      dsimp only
      obtain ⟨next, s2, k1, k2, k3, k4, k5⟩ := hk q hcol s.t.length i s' (i + 1 : Nat) hi2.1 (by rw [hi2.2]; exact cnt_open c4) a3.ck (a3.fits.le (by omega) (by omega)) (Int.le_refl _)
      rw [k1]
      obtain ⟨x', b1, _, _, b2⟩ := k5.keep.2 _ x a4
      exact .inr ⟨next, s2, rfl, by omega, k3, k4, (a2.trans k5).out b1 (by omega) a6⟩
  rw [if_neg c4]
  cases o with
  | some x =>
    obtain ⟨a, z⟩ := x
    have := l3 a z rfl
    have hfa : fr = a := by rw [← hfr]; rfl
    exact .inr (put 7 (z + 1) (by omega) (by omega) (by rw [Nat.add_sub_cancel]; exact cnt_prop this.2.2.2) (by omega) (by omega))
  | none =>
    refine .inl ⟨rfl, ?_⟩
    obtain ⟨_, m2, m3⟩ := l4 rfl
    have hnp : isProp' k = false := by
      by_cases h : i0 < e
      · rw [← hkd, m2]; exact m3 (by omega)
      · have : k = 0 := by rw [← hkd]; unfold kd; rw [if_pos (.inl (by omega))]
        rw [this]; rfl
    have hbk : begins k = false := by
      unfold begins
      rw [hnp, show isScal k = false by simpa using c2, show opens k = false by simpa using c4, show (k == 18) = false by simpa using c3]; rfl
    by_cases hp : i0 = p
    · rw [← hp, ← m2, hkd]; exact hbk
    · have := goW_on (fun j => raw l j == 3) (e - p) p (by rw [← hi0] at hp; exact hp)
      have h3 : raw l p = 3 := by simpa using this
      unfold kd
      split
      · rfl
      · rw [h3]; rfl
theorem pair_of (l : List Tk) (e : Nat) (n : Int) (hn : (e : Int) ≤ n) {c j q : Nat} {s : St} {b : Int} (hck : Ck s.t n) (hf : Fits s.t j b c) (hb : b ≤ j) (hjq : j < q) (hqe : q ≤ e) :
    ∃ s', pair l s c j q = (s', (s.t.length : Int)) ∧ Ok n s.t.length s q q s' ∧ (∃ x, s'.t[s.t.length]? = some x ∧ x.u = (c : Int)) ∧ 0 < s.t.length := by
  obtain ⟨s1, a1, _, a3, ⟨x, a4, a5⟩, a6⟩ := ok_add (kind := 6) (Ok.start hck hf) (f := j) (t := q) (by omega) (by omega) (by omega) (by omega) (by omega)
  have a1 : add s c 6 j q = (s1, (s.t.length : Int)) := a1
  unfold pair
  dsimp only
  rw [a1]
  dsimp only
  by_cases h : q - j < 2
  · rw [if_pos h]
    exact ⟨s1, rfl, a3.le (by omega) (by omega), ⟨x, a4, a5⟩, a6⟩
  · rw [if_neg h]
    obtain ⟨kind, hkind⟩ : ∃ kind : Nat, kind = (if (List.range (q - j)).any (fun x => raw l (j + x) == 13) = true then 8 else 7) := ⟨_, rfl⟩
    rw [← hkind]
    have hk1 : 1 ≤ kind ∧ kind ≤ 10 := by rw [hkind]; split <;> omega
    have b1 := back_le l (q - 1) (j + 1)
    have b2 := back_ge l (q - 1) (j + 1) (by omega)
    obtain ⟨s2, d1, d2, _⟩ := ok_add (kind := kind) (Ok.start a3.ck a3.fits) (f := j) (t := back l (q - 1) (j + 1)) (by omega) (by omega) (by omega) hk1.1 hk1.2
    rw [d1]
    dsimp only
    have d3 := ok_keyed (s.t.length : Int) d2
    obtain ⟨x', g1, _, _, g2⟩ := d3.keep.2 _ x a4
    exact ⟨_, rfl, (a3.trans d3).le (by omega) (by omega), ⟨x', g1, by omega⟩, a6⟩
theorem item_of (l : List Tk) (e : Nat) (n : Int) (hn : (e : Int) ≤ n) (val : Int → Nat → St → Int × Nat × St) (hv : VC l e n val) (dict : Bool) {c j : Nat} {s : St} {b : Int}
    (hck : Ck s.t n) (hf : Fits s.t j b c) (hb : b ≤ j) (hj : kd l e j ≠ 0) (hbeg : 0 < key l e j ∨ begins (kd l e j) = true) :
    ∃ (next : Nat) (s' : St), item l e val dict c j s = (next, s') ∧ j < next ∧ next ≤ e ∧ cnt (raw l (next - 1)) = true ∧ Ok n c s next next s' := by
  have hje := (kd_lt hj).1
  unfold item
  dsimp only
  by_cases hq : 0 < key l e j
  · rw [if_pos hq]
    obtain ⟨q1, q2, q3⟩ := key_in (by omega) hq
    obtain ⟨q, hqd⟩ : ∃ q, key l e j = q := ⟨_, rfl⟩
    rw [hqd] at q1 q2 q3 ⊢
    obtain ⟨s1, a1, a2, ⟨x, a3, a4⟩, a5⟩ := pair_of l e n hn hck hf hb q1 q2
    rw [a1]
    dsimp only
    have hcq : cnt (raw l (q - 1)) = true := by rw [q3]; rfl
    split
    · exact ⟨q, s1, rfl, q1, q2, hcq, a2.out a3 a4 a5⟩
    · have ht := trivia_in (l := l) (e := e) (i := q) q2
      rcases hv s.t.length (trivia l e q) s1 q a2.ck (a2.fits.le (by omega) (Int.le_refl _)) (by omega) ht.2 with ⟨v1, _⟩ | ⟨next, s2, v1, v2, v3, v4, v5⟩
      · rw [v1]
        exact ⟨q, s1, rfl, q1, q2, hcq, a2.out a3 a4 a5⟩
      · rw [v1]
        dsimp only
        rw [if_neg (by omega)]
        obtain ⟨x', g1, _, _, g2⟩ := v5.keep.2 _ x a3
        exact ⟨next, s2, rfl, by omega, v3, v4, (a2.trans v5).out g1 (by omega) a5⟩
  · rw [if_neg hq]
    have hbg : begins (kd l e j) = true := hbeg.resolve_left hq
    cases dict with
    | true =>
      rw [if_pos rfl]
      obtain ⟨s1, a1, _, a3, ⟨x, a4, a5⟩, a6⟩ := ok_add (kind := 6) (Ok.start hck hf) (f := j) (t := j + 1) (by omega) (by omega) (by omega) (by omega) (by omega)
      have a1 : add s c 6 j (j + 1) = (s1, (s.t.length : Int)) := a1
      rw [a1]
      dsimp only
      have d3 := ok_keyed (s.t.length : Int) a3
      obtain ⟨x1, g1, _, _, g2⟩ := (ok_keyed (s.t.length : Int) (Ok.start a3.ck a3.fits)).keep.2 _ x a4
      rcases hv s.t.length j _ (j + 1 : Nat) d3.ck (d3.fits.le (Int.le_refl _) (by omega)) (by omega) (by omega) with ⟨_, v2⟩ | ⟨next, s2, v1, v2, v3, v4, v5⟩
      · rw [hbg] at v2; exact absurd v2 (by decide)
      · rw [v1]
        dsimp only
        obtain ⟨x2, k1, _, _, k2⟩ := v5.keep.2 _ x1 g1
        exact ⟨next, s2, rfl, v2, v3, v4, (d3.trans v5).out k1 (by omega) a6⟩
    | false =>
      rw [if_neg (by decide)]
      rcases hv c j s b hck hf (by omega) (by omega) with ⟨_, v2⟩ | ⟨next, s2, v1, v2, v3, v4, v5⟩
      · rw [hbg] at v2; exact absurd v2 (by decide)
      · rw [v1]
        exact ⟨next, s2, rfl, v2, v3, v4, v5⟩
theorem col_of (l : List Tk) (e : Nat) (n : Int) (hn : (e : Int) ≤ n) (val : Int → Nat → St → Int × Nat × St) (hv : VC l e n val) (c op : Nat) :
    ∀ (g p : Nat) (have' : Bool) (s : St) (b : Int), Ck s.t n → Fits s.t p b c → b ≤ p → op < p → p ≤ e → cnt (raw l (p - 1)) = true →
    ∃ (next : Nat) (s' : St), colF l e val c op g p have' s = (next, s') ∧ op < next ∧ next ≤ e ∧ cnt (raw l (next - 1)) = true ∧ Ok n c s next next s'
  | 0, p, have', s, b => fun hck hf hb hop hpe hcp => ⟨p, s, rfl, hop, hpe, hcp, (Ok.start hck hf).le (Int.le_refl _) hb⟩
  | g + 1, p, have', s, b => fun hck hf hb hop hpe hcp => by
    have ht := trivia_in (l := l) (e := e) (i := p) hpe
    have hs : Ok n c s p b s := .start hck hf
    rw [colF]
    obtain ⟨j, hj⟩ : ∃ j, trivia l e p = j := ⟨_, rfl⟩
    rw [hj] at ht ⊢
    obtain ⟨k, hk⟩ : ∃ k, kd l e j = k := ⟨_, rfl⟩
    rw [hk]
    by_cases k0 : k = 0
    · rw [if_pos k0, back_self l p (op + 1) (by omega) hcp]
      exact ⟨p, _, rfl, hop, hpe, hcp, ok_open (hs.le (Int.le_refl _) hb)⟩
    rw [if_neg k0]
    have hjk := kd_lt (l := l) (e := e) (i := j) (by omega)
    rw [hk] at hjk
    -- on, behind something
    have on : ∀ (p' : Nat) (h' : Bool) (s1 : St), Ok n c s p' p' s1 → j < p' → p' ≤ e → cnt (raw l (p' - 1)) = true →
        ∃ (next : Nat) (s' : St), colF l e val c op g p' h' s1 = (next, s') ∧ op < next ∧ next ≤ e ∧ cnt (raw l (next - 1)) = true ∧ Ok n c s next next s' := by
      intro p' h' s1 h1 h2 h3 h4
      obtain ⟨next, s', g1, g2, g3, g4, g5⟩ := col_of l e n hn val hv c op g p' h' s1 p' h1.ck h1.fits (Int.le_refl _) (by omega) h3 h4
      exact ⟨next, s', g1, g2, g3, g4, h1.trans g5⟩
    have er : ∀ (t code : Nat), code ≠ 9 → j < t → t ≤ e → Ok n c s t t (err l s c j t code) := by
      intro t code h1 h2 h3
      exact (ok_err l hs (f := j) (t := t) (code := code) (by omega) (by omega) (by omega) h1).1.le (Int.le_refl _) (by omega)
    have gr : Ok n c s (j + 1 : Nat) (j + 1 : Nat) ⟨growN s.t c ((j + 1 : Nat) : Int), s.d⟩ := ok_grow hs (by omega) (by omega) (by omega)
    have c1 : cnt k = true → cnt (raw l (j + 1 - 1)) = true := fun h => by rw [Nat.add_sub_cancel, hjk.2]; exact h
    by_cases k1 : k = (if raw l op = 9 then 11 else 10)
    · rw [if_pos k1]
      exact ⟨j + 1, _, rfl, by omega, by omega, c1 (by rw [k1]; split <;> rfl), gr⟩
    rw [if_neg k1]
    by_cases k2 : ends k = true
    · rw [if_pos k2]
      exact on (j + 1) have' _ (er (j + 1) 8 (by omega) (by omega) (by omega)) (by omega) (by omega) (c1 (cnt_end k2))
    rw [if_neg k2]
    by_cases k3 : k = 7
    · rw [if_pos k3]
      have c7 := c1 (by rw [k3]; rfl)
      split
      · exact on (j + 1) false _ gr (by omega) (by omega) c7
      · exact on (j + 1) have' _ (er (j + 1) 8 (by omega) (by omega) (by omega)) (by omega) (by omega) c7
    rw [if_neg k3]
    have hcj : cnt (raw l j) = true := by
      have hnt : j = e ∨ (fun j => !cnt (raw l j)) j = false := by
        have := goW_stop (fun j => !cnt (raw l j)) (e - p) p
        unfold trivia at hj
        rw [hj] at this
        rcases this with h | h
        · exact .inl (by omega)
        · exact .inr h
      rcases hnt with h | h
      · omega
      · simpa using h
    by_cases k4 : have' = true
    · rw [if_pos k4]
      obtain ⟨t1, t2, t3⟩ := stray_in (l := l) (e := e) (j := j) (by omega) hcj (by omega) (by rw [hk]; simpa using k2)
      exact on _ have' _ (er _ 8 (by omega) t1 t2) t1 t2 t3
    rw [if_neg k4]
    by_cases k5 : 0 < key l e j ∨ begins k = true
    · rw [if_pos k5]
      obtain ⟨next, s', i1, i2, i3, i4, i5⟩ := item_of l e n hn val hv (raw l op == 9) (c := c) (j := j) hck (hf.le (by omega) (Int.le_refl _)) (by omega) (by omega) (by rw [hk]; exact k5)
      rw [i1]
      exact on next true s' i5 i2 i3 i4
    · rw [if_neg k5]
      exact on (j + 1) have' _ (er (j + 1) 8 (by omega) (by omega) (by omega)) (by omega) (by omega) (c1 (by rw [← hjk.2]; exact hcj))
/-- P1103, at every depth. -/
theorem val_all (l : List Tk) (e : Nat) (n : Int) (hn : (e : Int) ≤ n) : ∀ d : Nat, VC l e n (valN l e d)
  | 0 => val_of l e n hn none (fun k h => by simp at h)
  | d + 1 => val_of l e n hn _ (fun k h c op s b ho hc hck hf hb => by
    injection h with h
    subst h
    exact col_of l e n hn _ (val_all l e n hn d) c op (e - op) (op + 1) false s b hck hf hb (by omega) (by omega) (by rw [Nat.add_sub_cancel]; exact hc))
end Go.Proofs.Ytmlpaafclobgcaa.Fl

/- Brackets, plainly (P1103): a value that is read of a new tree; no program text. -/
namespace Go.Proofs.Ytmlpaafclobgcaa.Fl
open Go.Proofs.Ytmlpaafclobgcaa.Ar

theorem fits_new (n : Int) (p : Int) (h0 : 0 ≤ n) (h1 : n ≤ 32768) (hp : 0 ≤ p) : Fits (newN n) p 0 0 := by
  have hn : newN n = [⟨1, 0, n, -1, [], false⟩] := by unfold newN; rw [if_neg (by omega)]
  rw [hn]
  refine ⟨by simp, .root, fun x hx => ?_⟩
  have hx : (⟨1, 0, n, -1, [], false⟩ : Nd) = x := by simpa using hx
  subst hx
  exact ⟨hp, fun z hz => by simp at hz⟩
/-- What is asked of a value: the tree is checked, and so on. -/
theorem ends_all (l : List Tk) (d p : Nat) (h : l.length ≤ 32768) (hp : p ≤ l.length) :
    ∃ (node : Int) (next : Nat) (s : St), valN l l.length d 0 p ⟨newN l.length, []⟩ = (node, next, s) ∧ checkN s.t l.length = true ∧ Good s.t ∧ errs s.t = told s.d ∧
      ((node = -1 ∧ next = p ∧ s.t.length = 1 ∧ s.d = []) ∨ (node = 1 ∧ p < next ∧ next ≤ l.length)) := by
  have hck := ck_new (l.length : Int) (by omega) (by omega)
  have hlen : (newN (l.length : Int)).length = 1 := rfl
  have hz : errs (newN (l.length : Int)) = 0 := rfl
  rcases val_all l l.length (l.length : Int) (Int.le_refl _) d 0 p ⟨newN l.length, []⟩ 0 hck (fits_new _ _ (by omega) (by omega) (by omega)) (by omega) hp with ⟨v1, _⟩ | ⟨next, s', v1, v2, v3, _, v5⟩
  · refine ⟨-1, p, _, v1, hck.check, hck.good, ?_, .inl ⟨rfl, rfl, hlen, rfl⟩⟩
    show errs (newN (l.length : Int)) = 0
    exact hz
  · refine ⟨_, next, s', v1, v5.ck.check, v5.ck.good, ?_, .inr ⟨by show ((newN (l.length : Int)).length : Int) = 1; rw [hlen]; rfl, v2, v3⟩⟩
    have := v5.tells
    have h0 : told ([] : List Dg) = 0 := rfl
    have h1 : errs s'.t + told ([] : List Dg) = errs (newN (l.length : Int)) + told s'.d := this
    omega
end Go.Proofs.Ytmlpaafclobgcaa.Fl
