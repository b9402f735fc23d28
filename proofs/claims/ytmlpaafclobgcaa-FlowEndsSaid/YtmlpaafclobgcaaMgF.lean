/- Several texts in one: Pfm Pfn Pfp. -/
import Derived.Test.YtmlpaafclobgcaaMgD
/- Brackets as the program reads them (its nodes numbered from its value on, put into the tree at the end), plainly, and how they lie beside chapter 11's own; no program text. -/
namespace Go.Proofs.Ytmlpaafclobgcaa.Fl
open Go.Proofs.Ytmlpaafclobgcaa.Ar

structure PSt where
  q : List Nd
  d : List Dg
def qPut (q : List Nd) (up : Int) (k f : Nat) : List Nd :=
  if up < 0 then q ++ [(⟨k, f, 0, up, [], false⟩ : Nd)] else match q[up.toNat]? with
    | none => q ++ [(⟨k, f, 0, up, [], false⟩ : Nd)]
    | some p => (q ++ [(⟨k, f, 0, up, [], false⟩ : Nd)]).set up.toNat { p with ks := p.ks ++ [(q.length : Int)] }
def qEnd (q : List Nd) (i t : Nat) : List Nd := match q[i]? with
  | none => q
  | some x => q.set i { x with t := t }
def qLeaf (q : List Nd) (up : Int) (k f t : Nat) : List Nd := qEnd (qPut q up k f) q.length t
def pErr (l : List Tk) (s : PSt) (up : Int) (f t code : Nat) : PSt := ⟨qLeaf s.q up 11 f t, s.d ++ [⟨code, frm l f, too l (t - 1)⟩]⟩
def pvalF (l : List Tk) (e : Nat) (col : Option (Nat → Nat → PSt → Nat × PSt)) (up : Int) (p : Nat) (s : PSt) : Nat × PSt :=
  let o := (lead l e (e - blanks l e p) none (blanks l e p)).1
  let i := (lead l e (e - blanks l e p) none (blanks l e p)).2
  let fr := firstOf o i
  let k := kd l e i
  if k = 13 then (i + 1, ⟨qLeaf s.q up 8 fr (i + 1), s.d⟩)
  else if isScal k = true then (i + 1, ⟨qLeaf s.q up 7 fr (i + 1), s.d⟩)
  else if k = 18 then (text l e i, ⟨qLeaf s.q up 7 fr (text l e i), s.d⟩)
  else if opens k = true then match col with
    | none => (balanced l e i, pErr l s up fr (balanced l e i) 10)
    | some col => col s.q.length i ⟨qPut s.q up (if k = 9 then 10 else 9) fr, s.d⟩
  else match o with
    | some x => (x.2 + 1, ⟨qLeaf s.q up 7 fr (x.2 + 1), s.d⟩)
    | none => (p, s)
def ppair (l : List Tk) (s : PSt) (c : Nat) (j q : Nat) : PSt :=
  if q - j < 2 then ⟨qPut s.q c 6 j, s.d⟩
  else ⟨qLeaf (keyed (qPut s.q c 6 j) s.q.length) s.q.length (if (List.range (q - j)).any (fun x => raw l (j + x) == 13) = true then 8 else 7) j (back l (q - 1) (j + 1)), s.d⟩
def pitem (l : List Tk) (e : Nat) (val : Int → Nat → PSt → Nat × PSt) (dict : Bool) (c : Nat) (j : Nat) (s : PSt) : Nat × PSt :=
  let q := key l e j
  let n := s.q.length
  if 0 < q then
    let x := trivia l e q
    let r := val n x (ppair l s c j q)
    let to' := if r.1 = x then q else r.1
    (to', ⟨qEnd r.2.q n to', r.2.d⟩)
  else if dict = true then
    let r := val n j ⟨keyed (qPut s.q c 6 j) n, s.d⟩
    (r.1, ⟨qEnd r.2.q n r.1, r.2.d⟩)
  else val c j s
def pcolF (l : List Tk) (e : Nat) (val : Int → Nat → PSt → Nat × PSt) (c : Nat) (op : Nat) : Nat → Nat → Bool → PSt → Nat × PSt
  | 0, p, _, s => (p, s)
  | g + 1, p, have', s =>
    let j := trivia l e p
    let k := kd l e j
    if k = 0 then (back l p (op + 1), ⟨qEnd s.q c (back l p (op + 1)), s.d ++ [⟨9, frm l op, too l op⟩]⟩)
    else if k = (if raw l op = 9 then 11 else 10) then (j + 1, ⟨qEnd s.q c (j + 1), s.d⟩)
    else if ends k = true then pcolF l e val c op g (j + 1) have' (pErr l s c j (j + 1) 8)
    else if k = 7 then
      if have' = true then pcolF l e val c op g (j + 1) false s
      else pcolF l e val c op g (j + 1) have' (pErr l s c j (j + 1) 8)
    else if have' = true then pcolF l e val c op g (stray l e j) have' (pErr l s c j (stray l e j) 8)
    else if 0 < key l e j ∨ begins k = true then pcolF l e val c op g (pitem l e val (raw l op == 9) c j s).1 true (pitem l e val (raw l op == 9) c j s).2
    else pcolF l e val c op g (j + 1) have' (pErr l s c j (j + 1) 8)
def pvalN (l : List Tk) (e : Nat) : Nat → Int → Nat → PSt → Nat × PSt
  | 0 => pvalF l e none
  | d + 1 => pvalF l e (some (fun c op s => pcolF l e (pvalN l e d) c op (e - op) (op + 1) false s))

theorem qPut_len (q : List Nd) (up : Int) (k f : Nat) : (qPut q up k f).length = q.length + 1 := by
  unfold qPut; split
  · simp
  · split <;> simp
theorem qPut_new (q : List Nd) (up : Int) (k f : Nat) (hu : up < q.length) : (qPut q up k f)[q.length]? = some ⟨k, f, 0, up, [], false⟩ := by
  unfold qPut; split
  · simp
  · split
    · simp
    · rw [List.getElem?_set_ne (by omega)]; simp
theorem qPut_old (q : List Nd) (up : Int) (k f : Nat) (i : Nat) (x : Nd) (hx : q[i]? = some x) : (qPut q up k f)[i]? = some { x with ks := if (i : Int) = up then x.ks ++ [(q.length : Int)] else x.ks } := by
  have hi := (List.getElem?_eq_some_iff.1 hx).1
  unfold qPut; split
  · rw [List.getElem?_append_left hi, hx, if_neg (by omega)]
  · split
    · rename_i h0 h1
      rw [List.getElem?_append_left hi, hx, if_neg (fun e => by rw [← e, Int.toNat_natCast, hx] at h1; cases h1)]
    · rename_i h0 p hp
      by_cases e : (i : Int) = up
      · subst e
        rw [Int.toNat_natCast, hx] at hp
        injection hp with hp; subst hp
        rw [if_pos rfl, Int.toNat_natCast, List.getElem?_set_self (by simp; omega)]
      · rw [if_neg e, List.getElem?_set_ne (by omega), List.getElem?_append_left hi, hx]
theorem qEnd_len (q : List Nd) (i t : Nat) : (qEnd q i t).length = q.length := by
  unfold qEnd; split <;> simp
theorem qEnd_at (q : List Nd) (i t j : Nat) (x : Nd) (hx : q[j]? = some x) : (qEnd q i t)[j]? = some { x with t := if j = i then (t : Int) else x.t } := by
  have hj := (List.getElem?_eq_some_iff.1 hx).1
  unfold qEnd; split
  · rename_i h1
    rw [hx, if_neg (fun e => by rw [← e, hx] at h1; cases h1)]
  · rename_i y hy
    by_cases e : j = i
    · subst e
      rw [hx] at hy; injection hy with hy; subst hy
      rw [List.getElem?_set_self hj, if_pos rfl]
    · rw [List.getElem?_set_ne (fun h => e h.symm), hx, if_neg e]
theorem keyed_len (q : List Nd) (i : Int) : (keyed q i).length = q.length := (keyed_get q i).1
theorem keyed_at (q : List Nd) (i j : Nat) (x : Nd) (hx : q[j]? = some x) : (keyed q i)[j]? = some { x with y := if j = i then true else x.y } := by
  have hj := (List.getElem?_eq_some_iff.1 hx).1
  unfold keyed
  rw [Int.toNat_natCast]
  cases hy : q[i]? with
  | none =>
    dsimp only
    rw [hx, if_neg (fun e => by rw [← e, hx] at hy; cases hy)]
  | some y =>
    dsimp only
    by_cases e : j = i
    · subst e
      rw [hx] at hy; injection hy with hy; subst hy
      rw [List.getElem?_set_self hj, if_pos rfl]
    · rw [List.getElem?_set_ne (fun h => e h.symm), hx, if_neg e]
theorem back_of {l l' : List Nd} (hl : l'.length = l.length) {i : Nat} {x' : Nd} (h : l'[i]? = some x') : ∃ x, l[i]? = some x := by
  have := (List.getElem?_eq_some_iff.1 h).1
  exact ⟨_, List.getElem?_eq_getElem (by omega)⟩

theorem on_more {l l' : List Nd} {c i : Nat} (hg : Good l) (hc : c < l.length) (h : ∀ (d : Nat) (x : Nd), l[d]? = some x → ∃ x', l'[d]? = some x' ∧ x'.u = x.u) : On l' c i ↔ On l c i := by
  refine ⟨fun ho => ?_, On.mono h⟩
  induction ho with
  | self c => exact .self c
  | out c p' i x hx hu h00 ho ih =>
    obtain ⟨y, hy⟩ : ∃ y, l[c]? = some y := ⟨_, List.getElem?_eq_getElem hc⟩
    obtain ⟨x', h1, h2⟩ := h c y hy
    rw [hx] at h1; injection h1 with h1; subst h1
    have := (hg.up c y hy).2
    exact .out c p' i y hy (by omega) h00 (ih (by omega))
theorem on_out {l : List Nd} {c i p : Nat} {x : Nd} (hx : l[c]? = some x) (hu : x.u = (p : Int)) (h0 : 0 < c) (hi : i ≠ c) : On l c i ↔ On l p i := by
  constructor
  · intro ho
    cases ho with
    | self => exact absurd rfl hi
    | out _ p' _ y hy hp _ ho =>
      rw [hx] at hy; injection hy with hy; subst hy
      obtain rfl : p' = p := by omega
      exact ho
  · exact fun ho => .out _ _ i x hx hu h0 ho
/-- What a node that is put into one does to all others. -/
theorem add_at {l : List Nd} {up k f t : Nat} (hg : Good l) (hm : mayAdd l up k f t = true) :
    ∃ r, addN l up k f t = (r, (l.length : Int)) ∧ r.length = l.length + 1 ∧ r[l.length]? = some ⟨k, f, t, up, [], false⟩ ∧
      ∀ (i : Nat) (x : Nd), l[i]? = some x → ∃ z, r[i]? = some z ∧ z.k = x.k ∧ z.f = x.f ∧ z.u = x.u ∧ z.y = x.y ∧ z.ks = (if i = up then x.ks ++ [(l.length : Int)] else x.ks) ∧ ((On l up i ∧ z.t = max x.t t) ∨ (¬ On l up i ∧ z.t = x.t)) := by
  obtain ⟨h0, h1, p, hp⟩ := may_up hm
  have hpf := (may_le hm hp).1
  have hgp := good_put hg up k f t p h0 hp hpf
  rw [Int.toNat_natCast] at hp hgp
  obtain ⟨m, hmd⟩ : ∃ m, (l ++ [(⟨k, f, t, up, [], false⟩ : Nd)]).set up { p with ks := p.ks ++ [(l.length : Int)] } = m := ⟨_, rfl⟩
  have hadd : addN l up k f t = (reachN m up t, (l.length : Int)) := by
    unfold addN
    rw [if_pos hm, Int.toNat_natCast, hp]
    dsimp only
    rw [hmd]
  rw [hmd] at hgp
  have hml : m.length = l.length + 1 := by rw [← hmd]; simp
  have mn : m[l.length]? = some ⟨k, f, t, up, [], false⟩ := by
    rw [← hmd, List.getElem?_set_ne (by omega), List.getElem?_append_right (Nat.le_refl _)]; simp
  have mo : ∀ (i : Nat) (x : Nd), l[i]? = some x → m[i]? = some { x with ks := if i = up then x.ks ++ [(l.length : Int)] else x.ks } := by
    intro i x hx
    have hi := (List.getElem?_eq_some_iff.1 hx).1
    by_cases e : i = up
    · subst e
      rw [hp] at hx; injection hx with hx; subst hx
      rw [← hmd, List.getElem?_set_self (by simp; omega), if_pos rfl]
    · rw [← hmd, List.getElem?_set_ne (fun h => e h.symm), List.getElem?_append_left hi, hx, if_neg e]
  have hon : ∀ i, i < l.length → (On m up i ↔ On l up i) := by
    intro i hi
    exact on_more hg (by omega) (fun d x hd => ⟨_, mo d x hd, rfl⟩)
  have H := reach_on up m t hgp (by omega)
  refine ⟨reachN m up t, hadd, by rw [len_reachN _ _ hgp, hml], ?_, fun i x hx => ?_⟩
  · obtain ⟨z, h2, h3⟩ := H l.length _ mn
    rcases h3 with ⟨h3, _⟩ | ⟨_, rfl⟩
    · have := h3.low hgp; omega
    · exact h2
  · have hi := (List.getElem?_eq_some_iff.1 hx).1
    obtain ⟨z, h2, h3⟩ := H i _ (mo i x hx)
    rcases h3 with ⟨h3, rfl⟩ | ⟨h3, rfl⟩
    · exact ⟨_, h2, rfl, rfl, rfl, rfl, rfl, .inl ⟨(hon i hi).1 h3, rfl⟩⟩
    · exact ⟨_, h2, rfl, rfl, rfl, rfl, rfl, .inr ⟨fun h => h3 ((hon i hi).2 h), rfl⟩⟩

def cT (B up0 : Nat) (c : Int) : Nat := if c < 0 then up0 else B + c.toNat
/-- The program's nodes beside the chapter's tree: all but how far those reach that are read in just now. -/
structure Rel (B up0 : Nat) (T0 q t : List Nd) (c : Int) (p : Nat) : Prop where
  len : t.length = B + q.length
  lo : B = T0.length ∧ up0 < B
  cur : -1 ≤ c ∧ c < q.length
  nd : ∀ (i : Nat) (x : Nd), q[i]? = some x → ∃ z, t[B + i]? = some z ∧ z.k = x.k ∧ z.f = x.f ∧ z.u = (cT B up0 x.u : Int) ∧ z.ks = x.ks.map (· + (B : Int)) ∧ z.y = x.y ∧
    ((On t (cT B up0 c) (B + i) ∧ z.t = p) ∨ (¬ On t (cT B up0 c) (B + i) ∧ z.t = x.t))
  ups : ∀ (i : Nat) (x : Nd), q[i]? = some x → -1 ≤ x.u ∧ (0 < i → 0 ≤ x.u)
  old : ∀ (i : Nat) (x : Nd), T0[i]? = some x → ∃ z, t[i]? = some z ∧ z.k = x.k ∧ z.f = x.f ∧ z.u = x.u ∧ z.y = x.y ∧ z.ks = (if i = up0 ∧ 0 < q.length then x.ks ++ [(B : Int)] else x.ks) ∧
    ((On t up0 i ∧ 0 < q.length ∧ z.t = max x.t p) ∨ ((¬ On t up0 i ∨ q.length = 0) ∧ z.t = x.t))
section
variable {B up0 : Nat} {T0 q t : List Nd} {c : Int} {p : Nat}
theorem cT_nat (B up0 c : Nat) : cT B up0 (c : Int) = B + c := by unfold cT; rw [if_neg (by omega), Int.toNat_natCast]
theorem cT_none (B up0 : Nat) {c : Int} (h : c < 0) : cT B up0 c = up0 := by unfold cT; rw [if_pos h]
theorem Rel.lt (h : Rel B up0 T0 q t c p) : cT B up0 c < t.length := by
  have := h.len; have := h.lo; have := h.cur
  unfold cT; split <;> omega
/-- Where a node's way out leads. -/
theorem Rel.on_up (h : Rel B up0 T0 q t c p) {a : Nat} {x : Nd} (hx : q[a]? = some x) (i : Nat) (hi : i ≠ B + a) : On t (B + a) i ↔ On t (cT B up0 x.u) i := by
  obtain ⟨z, hz, _, _, hu, _⟩ := h.nd a x hx
  have := h.lo
  exact on_out hz hu (by omega) hi
theorem Rel.on_old (h : Rel B up0 T0 q t c p) (hg : Good t) : ∀ a : Nat, a < q.length → ∀ i, i < B → (On t (B + a) i ↔ On t up0 i) := by
  intro a
  induction a using Nat.strongRecOn with
  | ind a ih =>
    intro ha i hi
    obtain ⟨x, hx⟩ : ∃ x, q[a]? = some x := ⟨_, List.getElem?_eq_getElem ha⟩
    rw [h.on_up hx i (by omega)]
    obtain ⟨z, hz, _, _, hu, _⟩ := h.nd a x hx
    have h1 := (hg.up _ z hz).2
    by_cases hc : x.u < 0
    · rw [cT_none B up0 hc]
    · obtain ⟨u, hu2⟩ : ∃ u : Nat, x.u = (u : Int) := ⟨x.u.toNat, by omega⟩
      rw [hu2, cT_nat] at hu ⊢
      exact ih u (by omega) (by omega) i hi
theorem Rel.on_cur (h : Rel B up0 T0 q t c p) (hg : Good t) {i : Nat} (hi : i < B) : On t (cT B up0 c) i ↔ On t up0 i := by
  have hcur := h.cur
  by_cases hc : c < 0
  · rw [cT_none B up0 hc]
  · obtain ⟨u, rfl⟩ : ∃ u : Nat, c = (u : Int) := ⟨c.toNat, by omega⟩
    rw [cT_nat]; exact h.on_old hg u (by omega) i hi
/-- The core of putting a node into the one that is read in. -/
theorem Rel.put (h : Rel B up0 T0 q t c p) (hg : Good t) {k f to' : Nat} (hm : mayAdd t (cT B up0 c) k f to' = true) (hq : c < 0 → q.length = 0 ∧ p ≤ to') :
    ∃ r, addN t (cT B up0 c) k f to' = (r, (t.length : Int)) ∧
      Rel B up0 T0 (qLeaf q c k f to') r c (max p to') ∧
      (p ≤ to' → Rel B up0 T0 (qPut q c k f) r q.length to') := by
  obtain ⟨r, h1, h2, h3, h4⟩ := add_at hg hm
  have hlen := h.len
  have hlo := h.lo
  have hcur := h.cur
  have hlt := h.lt
  have hon : ∀ i, On r (cT B up0 c) i ↔ On t (cT B up0 c) i := fun i => on_more hg hlt (fun d x hd => by obtain ⟨z, a, _, _, b, _⟩ := h4 d x hd; exact ⟨z, a, b⟩)
  have hon0 : ∀ i, On r up0 i ↔ On t up0 i := fun i => on_more hg (by omega) (fun d x hd => by obtain ⟨z, a, _, _, b, _⟩ := h4 d x hd; exact ⟨z, a, b⟩)
  -- the elder ones
  have elder : ∀ (i : Nat) (x : Nd), q[i]? = some x → ∃ z, r[B + i]? = some z ∧ z.k = x.k ∧ z.f = x.f ∧ z.u = (cT B up0 x.u : Int) ∧ z.ks = (if (i : Int) = c then x.ks ++ [(q.length : Int)] else x.ks).map (· + (B : Int)) ∧ z.y = x.y ∧
      ((On r (cT B up0 c) (B + i) ∧ z.t = (max p to' : Nat)) ∨ (¬ On r (cT B up0 c) (B + i) ∧ z.t = x.t)) := by
    intro i x hx
    have hi := (List.getElem?_eq_some_iff.1 hx).1
    obtain ⟨z, a1, a2, a3, a4, a5, a6, a7⟩ := h.nd i x hx
    obtain ⟨z', b1, b2, b3, b4, b5, b6, b7⟩ := h4 (B + i) z a1
    refine ⟨z', b1, by omega, by omega, by omega, ?_, by rw [b5, a6], ?_⟩
    · rw [b6, a5, hlen]
      by_cases e : (i : Int) = c
      · subst e
        rw [cT_nat, if_pos rfl, if_pos rfl, List.map_append]
        simp
        omega
      · rw [if_neg e, if_neg]
        unfold cT
        split <;> omega
    · rw [hon]
      rcases b7 with ⟨b7, b8⟩ | ⟨b7, b8⟩
      · rcases a7 with ⟨_, a8⟩ | ⟨a7, _⟩
        · exact .inl ⟨b7, by omega⟩
        · exact absurd b7 a7
      · rcases a7 with ⟨a7, _⟩ | ⟨_, a8⟩
        · exact absurd a7 b7
        · exact .inr ⟨b7, by omega⟩
  have older : ∀ (i : Nat) (x : Nd), T0[i]? = some x → ∃ z, r[i]? = some z ∧ z.k = x.k ∧ z.f = x.f ∧ z.u = x.u ∧ z.y = x.y ∧ z.ks = (if i = up0 ∧ 0 < q.length + 1 then x.ks ++ [(B : Int)] else x.ks) ∧
      ((On r up0 i ∧ 0 < q.length + 1 ∧ z.t = max x.t (max p to' : Nat)) ∨ ((¬ On r up0 i ∨ q.length + 1 = 0) ∧ z.t = x.t)) := by
    intro i x hx
    have hi := (List.getElem?_eq_some_iff.1 hx).1
    obtain ⟨z, a1, a2, a3, a4, a5, a6, a7⟩ := h.old i x hx
    obtain ⟨z', b1, b2, b3, b4, b5, b6, b7⟩ := h4 i z a1
    rw [h.on_cur hg (by omega)] at b7
    refine ⟨z', b1, by omega, by omega, by omega, by rw [b5, a5], ?_, ?_⟩
    · rw [b6, a6]
      by_cases hc : c < 0
      · have := (hq hc).1
        rw [cT_none B up0 hc]
        by_cases e : i = up0
        · rw [if_pos e, if_neg (by omega), if_pos (by omega), hlen, this, Nat.add_zero]
        · rw [if_neg e, if_neg (by omega), if_neg (by omega)]
      · rw [if_neg (by unfold cT; rw [if_neg hc]; omega)]
        by_cases e : i = up0
        · rw [if_pos (by omega), if_pos (by omega)]
        · rw [if_neg (by omega), if_neg (by omega)]
    · rw [hon0]
      rcases b7 with ⟨b7, b8⟩ | ⟨b7, b8⟩
      · refine .inl ⟨b7, by omega, ?_⟩
        rcases a7 with ⟨_, _, a8⟩ | ⟨a7, a8⟩
        · omega
        · have hq0 : q.length = 0 := a7.resolve_left (fun h => h b7)
          have := (hq (by omega)).2
          omega
      · refine .inr ⟨.inl b7, ?_⟩
        rcases a7 with ⟨a7, _⟩ | ⟨_, a8⟩
        · exact absurd a7 b7
        · omega
  have hnew := qPut_new q c k f hcur.2
  have hplen := qPut_len q c k f
  have new : ∀ (i : Nat) (x : Nd), (qPut q c k f)[i]? = some x → (i = q.length ∧ x = ⟨k, f, 0, c, [], false⟩) ∨ (i < q.length ∧ ∃ y, q[i]? = some y ∧ x = { y with ks := if (i : Int) = c then y.ks ++ [(q.length : Int)] else y.ks }) := by
    intro i x hx
    have hi := (List.getElem?_eq_some_iff.1 hx).1
    by_cases e : i = q.length
    · subst e; rw [hnew] at hx; injection hx with hx; exact .inl ⟨rfl, hx.symm⟩
    · obtain ⟨y, hy⟩ : ∃ y, q[i]? = some y := ⟨_, List.getElem?_eq_getElem (by omega)⟩
      rw [qPut_old q c k f i y hy] at hx
      injection hx with hx
      exact .inr ⟨by omega, y, hy, hx.symm⟩
  have hrn : r[B + q.length]? = some ⟨k, f, to', cT B up0 c, [], false⟩ := by rw [← hlen]; exact h3
  have hnot : ¬ On r (cT B up0 c) (B + q.length) := fun ho => by have := ((hon _).1 ho).low hg; omega
  refine ⟨r, h1, ⟨by rw [h2, qLeaf, qEnd_len, hplen]; omega, hlo, by rw [qLeaf, qEnd_len, hplen]; omega, fun i x hx => ?_, fun i x hx => ?_, by rw [qLeaf, qEnd_len, hplen]; exact older⟩, fun hp => ⟨by rw [h2, hplen]; omega, hlo, by rw [hplen]; omega, fun i x hx => ?_, fun i x hx => ?_, ?_⟩⟩
  · obtain ⟨y, hy⟩ := back_of (qEnd_len _ _ _) hx
    have hx2 := qEnd_at (qPut q c k f) q.length to' i y hy
    rw [qLeaf, hx2] at hx
    injection hx with hx
    rcases new i y hy with ⟨rfl, rfl⟩ | ⟨hi, y', hy', rfl⟩
    · subst hx
      refine ⟨_, hrn, rfl, rfl, rfl, rfl, rfl, .inr ⟨hnot, ?_⟩⟩
      rw [if_pos rfl]
    · subst hx
      obtain ⟨z, e1, e2, e3, e4, e5, e6, e7⟩ := elder i y' hy'
      refine ⟨z, e1, e2, e3, e4, e5, e6, ?_⟩
      rw [if_neg (show ¬ i = q.length by omega)]
      exact e7
  · obtain ⟨y, hy⟩ := back_of (qEnd_len _ _ _) hx
    have hx2 := qEnd_at (qPut q c k f) q.length to' i y hy
    rw [qLeaf, hx2] at hx
    injection hx with hx
    subst hx
    rcases new i y hy with ⟨rfl, rfl⟩ | ⟨hi, y', hy', rfl⟩
    · exact ⟨hcur.1, fun h0 => by
      by_cases hc : c < 0
      · have := (hq hc).1; omega
      · show 0 ≤ c; omega⟩
    · exact h.ups i y' hy'
  · rw [cT_nat]
    rcases new i x hx with ⟨rfl, rfl⟩ | ⟨hi, y', hy', rfl⟩
    · exact ⟨_, hrn, rfl, rfl, rfl, rfl, rfl, .inl ⟨.self _, rfl⟩⟩
    · obtain ⟨z, e1, e2, e3, e4, e5, e6, e7⟩ := elder i y' hy'
      refine ⟨z, e1, e2, e3, e4, e5, e6, ?_⟩
      have hup : On r (B + q.length) (B + i) ↔ On r (cT B up0 c) (B + i) := on_out hrn rfl (by omega) (by omega)
      rw [hup]
      rcases e7 with ⟨e7, e8⟩ | e7
      · exact .inl ⟨e7, by omega⟩
      · exact .inr e7
  · rcases new i x hx with ⟨rfl, rfl⟩ | ⟨hi, y', hy', rfl⟩
    · exact ⟨hcur.1, fun h0 => by
      by_cases hc : c < 0
      · have := (hq hc).1; omega
      · show 0 ≤ c; omega⟩
    · exact h.ups i y' hy'
  · rw [hplen]
    intro i x hx
    obtain ⟨z, e1, e2, e3, e4, e5, e6, e7⟩ := older i x hx
    refine ⟨z, e1, e2, e3, e4, e5, e6, ?_⟩
    rw [show max p to' = to' by omega] at e7
    exact e7
/-- All is read in a node: it ends here. -/
theorem Rel.close {a : Nat} {x : Nd} (h : Rel B up0 T0 q t (a : Int) p) (hg : Good t) (hx : q[a]? = some x) : Rel B up0 T0 (qEnd q a p) t x.u p := by
  have hlo := h.lo
  have ha := (List.getElem?_eq_some_iff.1 hx).1
  have hlen := h.len
  obtain ⟨z0, hz0, _, _, hu0, _⟩ := h.nd a x hx
  have hup0 := (hg.up _ z0 hz0).2
  have hxu := (h.ups a x hx).1
  have hcl : cT B up0 x.u < B + a := by omega
  refine ⟨by rw [qEnd_len]; exact h.len, hlo, ⟨hxu, ?_⟩, fun i y hy => ?_, fun i y hy => ?_, by rw [qEnd_len]; exact h.old⟩
  · rw [qEnd_len]
    unfold cT at hcl
    split at hcl <;> omega
  · obtain ⟨y', hy'⟩ := back_of (qEnd_len _ _ _) hy
    rw [qEnd_at q a p i y' hy'] at hy
    injection hy with hy
    subst hy
    obtain ⟨z, e1, e2, e3, e4, e5, e6, e7⟩ := h.nd i y' hy'
    refine ⟨z, e1, e2, e3, e4, e5, e6, ?_⟩
    rw [cT_nat] at e7
    by_cases e : i = a
    · subst e
      rw [if_pos rfl]
      refine .inr ⟨fun ho => by have := ho.low hg; omega, ?_⟩
      rcases e7 with ⟨_, e7⟩ | ⟨e7, _⟩
      · exact e7
      · exact absurd (.self _) e7
    · rw [if_neg e, ← h.on_up hx (B + i) (by omega)]
      exact e7
  · obtain ⟨y', hy'⟩ := back_of (qEnd_len _ _ _) hy
    rw [qEnd_at q a p i y' hy'] at hy
    injection hy with hy
    subst hy
    exact h.ups i y' hy'
/-- A node is grown, with all that it is in. -/
theorem Rel.grow (h : Rel B up0 T0 q t c p) (hg : Good t) (hc : 0 ≤ c) (to' : Nat) : Rel B up0 T0 q (reachN t (cT B up0 c) to') c (max p to') := by
  have H := reach_on (cT B up0 c) t to' hg h.lt
  have hl := len_reachN (l := t) (cT B up0 c) (to' : Int) hg
  obtain ⟨r, hr⟩ : ∃ r, reachN t (cT B up0 c) to' = r := ⟨_, rfl⟩
  rw [hr] at H hl ⊢
  have hlo := h.lo
  have hcur := h.cur
  have hU : ∀ (d : Nat) (x : Nd), t[d]? = some x → ∃ x', r[d]? = some x' ∧ x'.u = x.u := fun d x hd => by
    obtain ⟨z, a1, a2⟩ := H d x hd
    rcases a2 with ⟨_, rfl⟩ | ⟨_, rfl⟩ <;> exact ⟨_, a1, rfl⟩
  have hon : ∀ i, On r (cT B up0 c) i ↔ On t (cT B up0 c) i := fun i => on_more hg h.lt hU
  have hon0 : ∀ i, On r up0 i ↔ On t up0 i := fun i => on_more hg (by have := h.len; omega) hU
  refine ⟨by rw [hl]; exact h.len, hlo, hcur, fun i x hx => ?_, h.ups, fun i x hx => ?_⟩
  · obtain ⟨z, e1, e2, e3, e4, e5, e6, e7⟩ := h.nd i x hx
    obtain ⟨z', a1, a2⟩ := H _ z e1
    rw [hon]
    rcases a2 with ⟨a2, rfl⟩ | ⟨a2, rfl⟩
    · refine ⟨_, a1, e2, e3, e4, e5, e6, .inl ⟨a2, ?_⟩⟩
      rcases e7 with ⟨_, e7⟩ | ⟨e7, _⟩
      · show max z.t (to' : Int) = _; omega
      · exact absurd a2 e7
    · refine ⟨_, a1, e2, e3, e4, e5, e6, .inr ⟨a2, ?_⟩⟩
      rcases e7 with ⟨e7, _⟩ | ⟨_, e7⟩
      · exact absurd e7 a2
      · exact e7
  · have hi := (List.getElem?_eq_some_iff.1 hx).1
    obtain ⟨z, e1, e2, e3, e4, e5, e6, e7⟩ := h.old i x hx
    obtain ⟨z', a1, a2⟩ := H _ z e1
    rw [hon0]
    rw [h.on_cur hg (by omega)] at a2
    rcases a2 with ⟨a2, rfl⟩ | ⟨a2, rfl⟩
    · refine ⟨_, a1, e2, e3, e4, e5, e6, .inl ⟨a2, by omega, ?_⟩⟩
      rcases e7 with ⟨_, _, e7⟩ | ⟨e7, _⟩
      · show max z.t (to' : Int) = _; omega
      · rcases e7 with e7 | e7
        · exact absurd a2 e7
        · omega
    · refine ⟨_, a1, e2, e3, e4, e5, e6, .inr ⟨.inl a2, ?_⟩⟩
      rcases e7 with ⟨e7, _⟩ | ⟨_, e7⟩
      · exact absurd e7 a2
      · exact e7
/-- A node is said to have a key. -/
theorem Rel.key (h : Rel B up0 T0 q t c p) (hg : Good t) (a : Nat) (ha : a < q.length) : Rel B up0 T0 (keyed q a) (keyed t ((B + a : Nat) : Int)) c p := by
  have hlo := h.lo
  have hlen := h.len
  have K : ∀ (d : Nat) (x : Nd), t[d]? = some x → (keyed t ((B + a : Nat) : Int))[d]? = some { x with y := if d = B + a then true else x.y } := fun d x hd => keyed_at t (B + a) d x hd
  have hU : ∀ (d : Nat) (x : Nd), t[d]? = some x → ∃ x', (keyed t ((B + a : Nat) : Int))[d]? = some x' ∧ x'.u = x.u := fun d x hd => ⟨_, K d x hd, rfl⟩
  have hon : ∀ i, On (keyed t ((B + a : Nat) : Int)) (cT B up0 c) i ↔ On t (cT B up0 c) i := fun i => on_more hg h.lt hU
  have hon0 : ∀ i, On (keyed t ((B + a : Nat) : Int)) up0 i ↔ On t up0 i := fun i => on_more hg (by omega) hU
  refine ⟨by rw [keyed_len, keyed_len]; exact hlen, hlo, by rw [keyed_len]; exact h.cur, fun i x hx => ?_, fun i x hx => ?_, fun i x hx => ?_⟩
  · obtain ⟨y, hy⟩ := back_of (keyed_len _ _) hx
    rw [keyed_at q a i y hy] at hx
    injection hx with hx; subst hx
    obtain ⟨z, e1, e2, e3, e4, e5, e6, e7⟩ := h.nd i y hy
    refine ⟨_, K _ z e1, e2, e3, e4, e5, ?_, by rw [hon]; exact e7⟩
    by_cases e : i = a
    · rw [if_pos e, if_pos (by omega)]
    · rw [if_neg e, if_neg (by omega)]; exact e6
  · obtain ⟨y, hy⟩ := back_of (keyed_len _ _) hx
    rw [keyed_at q a i y hy] at hx
    injection hx with hx; subst hx
    exact h.ups i y hy
  · have hi := (List.getElem?_eq_some_iff.1 hx).1
    obtain ⟨z, e1, e2, e3, e4, e5, e6, e7⟩ := h.old i x hx
    refine ⟨_, K _ z e1, e2, e3, e4, ?_, by rw [keyed_len]; exact e6, by rw [hon0, keyed_len]; exact e7⟩
    rw [if_neg (by omega)]; exact e5
end
end Go.Proofs.Ytmlpaafclobgcaa.Fl

/- Brackets as the program reads them: its nodes are the chapter's, at every depth; no program text. -/
namespace Go.Proofs.Ytmlpaafclobgcaa.Fl
open Go.Proofs.Ytmlpaafclobgcaa.Ar
set_option linter.unusedVariables false

theorem list_same {q q' : List Nd} (hl : q.length = q'.length) (h : ∀ (i : Nat) (x : Nd), q[i]? = some x → q'[i]? = some x) : q = q' := by
  refine List.ext_getElem? (fun i => ?_)
  cases hx : q[i]? with
  | none =>
    have : q'[i]? = none := by rw [List.getElem?_eq_none_iff] at hx ⊢; omega
    rw [this]
  | some x => exact (h i x hx).symm
theorem qLeaf_new (q : List Nd) (up : Int) (k f t : Nat) (hu : up < q.length) : (qLeaf q up k f t)[q.length]? = some ⟨k, f, t, up, [], false⟩ := by
  rw [qLeaf, qEnd_at _ _ _ _ _ (qPut_new q up k f hu), if_pos rfl]
theorem qLeaf_len (q : List Nd) (up : Int) (k f t : Nat) : (qLeaf q up k f t).length = q.length + 1 := by rw [qLeaf, qEnd_len, qPut_len]
theorem qLeaf_old (q : List Nd) (up : Int) (k f t : Nat) (i : Nat) (x : Nd) (hx : q[i]? = some x) : (qLeaf q up k f t)[i]? = some { x with ks := if (i : Int) = up then x.ks ++ [(q.length : Int)] else x.ks } := by
  have hi := (List.getElem?_eq_some_iff.1 hx).1
  rw [qLeaf, qEnd_at _ _ _ _ _ (qPut_old q up k f i x hx), if_neg (show ¬ i = q.length by omega)]
/-- It does not count whether the key is said ahead of the leaf or behind. -/
theorem keyed_leaf (q : List Nd) (n k f t : Nat) (up : Int) (hn : n < q.length) (hu : up < q.length) : keyed (qLeaf q up k f t) n = qLeaf (keyed q n) up k f t := by
  refine list_same (by rw [keyed_len, qLeaf_len, qLeaf_len, keyed_len]) (fun i x hx => ?_)
  obtain ⟨y, hy⟩ := back_of (keyed_len _ _) hx
  rw [keyed_at _ n i y hy] at hx
  injection hx with hx
  subst hx
  have hi := (List.getElem?_eq_some_iff.1 hy).1
  rw [qLeaf_len] at hi
  by_cases e : i = q.length
  · subst e
    rw [qLeaf_new q up k f t hu] at hy
    injection hy with hy
    subst hy
    have := qLeaf_new (keyed q n) up k f t (by rw [keyed_len]; exact hu)
    rw [keyed_len] at this
    rw [this, if_neg (by omega)]
  · obtain ⟨z, hz⟩ : ∃ z, q[i]? = some z := ⟨_, List.getElem?_eq_getElem (by omega)⟩
    rw [qLeaf_old q up k f t i z hz] at hy
    injection hy with hy
    subst hy
    rw [qLeaf_old (keyed q n) up k f t i _ (keyed_at q n i z hz), keyed_len]
section
variable {l : List Tk} {e : Nat} {n : Int} {B up0 : Nat} {T0 : List Nd}
theorem Rel.same {q t q' t' : List Nd} {c c' : Int} {p p' : Nat} (h : Rel B up0 T0 q t c p) (h' : Rel B up0 T0 q' t' c' p') (hk : Keep t t') {i : Nat} {x : Nd} (hx : q[i]? = some x) :
    ∃ x', q'[i]? = some x' ∧ x'.u = x.u ∧ x'.k = x.k ∧ x'.f = x.f := by
  have hi := (List.getElem?_eq_some_iff.1 hx).1
  obtain ⟨z, a1, a2, a3, a4, _⟩ := h.nd i x hx
  obtain ⟨z', b1, b2, b3, b4⟩ := hk.2 _ z a1
  have hlt := (List.getElem?_eq_some_iff.1 b1).1
  obtain ⟨x', hx'⟩ : ∃ x', q'[i]? = some x' := ⟨_, List.getElem?_eq_getElem (by have := h'.len; omega)⟩
  obtain ⟨z2, c1, c2, c3, c4, _⟩ := h'.nd i x' hx'
  rw [b1] at c1; injection c1 with c1; subst c1
  have u1 := (h.ups i x hx).1
  have u2 := (h'.ups i x' hx').1
  have hlo := h.lo
  have hu : (cT B up0 x'.u : Int) = (cT B up0 x.u : Int) := by omega
  refine ⟨x', hx', ?_, by omega, by omega⟩
  unfold cT at hu
  split at hu <;> split at hu <;> omega
theorem sim_put {s : St} {ps : PSt} {c : Int} {P f t kind : Nat} {e0 b : Int} (hck : Ck s.t n) (hf : Fits s.t e0 b (cT B up0 c)) (he : e0 ≤ (f : Int)) (hft : f ≤ t) (htn : (t : Int) ≤ n) (hk1 : 1 ≤ kind) (hk2 : kind ≤ 11)
    (hr : Rel B up0 T0 ps.q s.t c P) (hq : c < 0 → ps.q.length = 0 ∧ P ≤ t) :
    ∃ r, addN s.t (cT B up0 c) kind f t = (r, (s.t.length : Int)) ∧ r.length = s.t.length + 1 ∧ Rel B up0 T0 (qLeaf ps.q c kind f t) r c (max P t) ∧ (P ≤ t → Rel B up0 T0 (qPut ps.q c kind f) r ps.q.length t) := by
  obtain ⟨y, hy⟩ : ∃ y, s.t[cT B up0 c]? = some y := ⟨_, List.getElem?_eq_getElem hf.lt⟩
  have hm := may_put (kind := (kind : Int)) hck hf hy he (by omega) htn (by omega) (by omega)
  obtain ⟨r, h1, h2, h3⟩ := hr.put hck.good hm hq
  have := h2.len
  rw [qLeaf_len] at this
  have h4 := hr.len
  exact ⟨r, h1, by omega, h2, h3⟩
/-- What is true of a value that is read at p into a node, by both. -/
def SV (l : List Tk) (e : Nat) (n : Int) (B up0 : Nat) (T0 : List Nd) (val : Int → Nat → St → Int × Nat × St) (pval : Int → Nat → PSt → Nat × PSt) : Prop :=
  ∀ (c : Int) (p P : Nat) (s : St) (ps : PSt) (b : Int), Ck s.t n → Fits s.t p b (cT B up0 c) → b ≤ p + 1 → p ≤ e → Rel B up0 T0 ps.q s.t c P → P ≤ p + 1 → (c < 0 → ps.q.length = 0) → s.d = ps.d →
    (val (cT B up0 c) p s = (-1, p, s) ∧ pval c p ps = (p, ps) ∧ begins (kd l e p) = false) ∨
    (∃ (next : Nat) (s' : St) (ps' : PSt), val (cT B up0 c) p s = ((s.t.length : Int), next, s') ∧ pval c p ps = (next, ps') ∧ p < next ∧ next ≤ e ∧ cnt (raw l (next - 1)) = true ∧ Ok n (cT B up0 c) s next next s' ∧
      Rel B up0 T0 ps'.q s'.t c next ∧ s'.d = ps'.d ∧ (∃ x, ps'.q[ps.q.length]? = some x ∧ x.t = (next : Int) ∧ (p : Int) ≤ x.f ∧ x.f ≤ (next : Int) ∧ 1 ≤ x.k ∧ x.k ≤ 11) ∧ s'.t.length + 1 ≤ s.t.length + 2 * (next - p) ∧ (begins (kd l e p) = true ∨ raw l p = 3))
/-- And of a collection, from behind its bracket on. -/
def SC (l : List Tk) (e : Nat) (n : Int) (B up0 : Nat) (T0 : List Nd) (col : Int → Nat → St → Nat × St) (pcol : Nat → Nat → PSt → Nat × PSt) : Prop :=
  ∀ (c op : Nat) (s : St) (ps : PSt) (b : Int) (x : Nd), op < e → cnt (raw l op) = true → Ck s.t n → Fits s.t (op + 1 : Nat) b (B + c) → b ≤ (op + 1 : Nat) → Rel B up0 T0 ps.q s.t c (op + 1) → s.d = ps.d → ps.q[c]? = some x →
    ∃ (next : Nat) (s' : St) (ps' : PSt), col ((B + c : Nat) : Int) op s = (next, s') ∧ pcol c op ps = (next, ps') ∧ op < next ∧ next ≤ e ∧ cnt (raw l (next - 1)) = true ∧ Ok n (B + c) s next next s' ∧
      Rel B up0 T0 ps'.q s'.t x.u next ∧ s'.d = ps'.d ∧ (∃ y, ps'.q[c]? = some y ∧ y.t = (next : Int)) ∧ s'.t.length + 2 ≤ s.t.length + 2 * (next - op)
theorem lead_noP {i f : Nat} (h : isProp' (kd l e i) = false) : lead l e f none i = (none, i) := by
  cases f with
  | zero => rfl
  | succ f => rw [lead, if_neg (by simp [h])]
theorem sim_val (hn : (e : Int) ≤ n) (col : Option (Int → Nat → St → Nat × St)) (pcol : Option (Nat → Nat → PSt → Nat × PSt))
    (hk : (col = none ∧ pcol = none) ∨ ∃ k pk, col = some k ∧ pcol = some pk ∧ SC l e n B up0 T0 k pk) : SV l e n B up0 T0 (valF l e col) (pvalF l e pcol) := by
  intro c p P s ps b hck hf hb hpe hr hP hq hd
  have h0 := blanks_in (l := l) hpe
  obtain ⟨i0, hi0⟩ : ∃ i0, blanks l e p = i0 := ⟨_, rfl⟩
  have hl := lead_in l e i0 (e - i0) none i0 (Nat.le_refl _) (by omega) (fun a z h => by simp at h)
  have hlead : i0 = p → isProp' (kd l e p) = false → 0 < e - i0 → lead l e (e - i0) none i0 = (none, p) := fun h1 h2 h3 => by subst h1; exact lead_noP h2
  obtain ⟨o, ho⟩ : ∃ o, (lead l e (e - i0) none i0).1 = o := ⟨_, rfl⟩
  obtain ⟨i, hi⟩ : ∃ i, (lead l e (e - i0) none i0).2 = i := ⟨_, rfl⟩
  rw [hi0] at h0
  rw [ho, hi] at hl
  obtain ⟨l1, l2, l3, l4⟩ := hl
  obtain ⟨fr, hfr⟩ : ∃ fr, firstOf o i = fr := ⟨_, rfl⟩
  have hfr1 : p ≤ fr ∧ fr ≤ i := by
    rw [← hfr]
    cases o with
    | none => exact ⟨by show p ≤ i; omega, Nat.le_refl _⟩
    | some x => obtain ⟨a, z⟩ := x; have := l3 a z rfl; show p ≤ a ∧ a ≤ i; omega
  have hs : Ok n (cT B up0 c) s p b s := .start hck hf
  obtain ⟨k, hkd⟩ : ∃ k, kd l e i = k := ⟨_, rfl⟩
  -- what begins here
  have hbeg : (k ≠ 0 ∧ (k = 13 ∨ isScal k = true ∨ k = 18 ∨ opens k = true)) ∨ o ≠ none → begins (kd l e p) = true ∨ raw l p = 3 := by
    intro h
    by_cases hp : i0 = p
    · refine .inl ?_
      by_cases h2 : isProp' (kd l e p) = true
      · unfold begins; rw [h2]; rfl
      · have h2 : isProp' (kd l e p) = false := by simpa using h2
        have he0 : 0 < e - i0 := by
          rcases h with ⟨h, _⟩ | h
          · have := (kd_lt (l := l) (e := e) (i := i) (by omega)).1; omega
          · cases o with
            | none => exact absurd rfl h
            | some x => obtain ⟨a, z⟩ := x; have := l3 a z rfl; omega
        have h3 := hlead hp h2 he0
        rw [h3] at ho hi
        have ho : none = o := ho
        have hi : p = i := hi
        subst ho hi
        rcases h with ⟨_, h⟩ | h
        · rw [hkd]
          unfold begins
          rcases h with h | h | h | h
          · rw [h]; rfl
          · rw [h]; simp
          · rw [h]; rfl
          · rw [h]; simp
        · exact absurd rfl h
    · have := goW_on (fun j => raw l j == 3) (e - p) p (by unfold blanks at hi0; rw [← hi0] at hp; exact hp)
      exact .inr (by simpa using this)
  have put : ∀ (kind t : Nat), fr < t → t ≤ e → cnt (raw l (t - 1)) = true → 1 ≤ kind → kind ≤ 10 → (begins (kd l e p) = true ∨ raw l p = 3) →
      ∃ (next : Nat) (s' : St) (ps' : PSt), ((add s (cT B up0 c) kind fr t).2, t, (add s (cT B up0 c) kind fr t).1) = ((s.t.length : Int), next, s') ∧ (t, (⟨qLeaf ps.q c kind fr t, ps.d⟩ : PSt)) = (next, ps') ∧ p < next ∧ next ≤ e ∧ cnt (raw l (next - 1)) = true ∧ Ok n (cT B up0 c) s next next s' ∧
        Rel B up0 T0 ps'.q s'.t c next ∧ s'.d = ps'.d ∧ (∃ x, ps'.q[ps.q.length]? = some x ∧ x.t = (next : Int) ∧ (p : Int) ≤ x.f ∧ x.f ≤ (next : Int) ∧ 1 ≤ x.k ∧ x.k ≤ 11) ∧ s'.t.length + 1 ≤ s.t.length + 2 * (next - p) ∧ (begins (kd l e p) = true ∨ raw l p = 3) := by
    intro kind t h1 h2 h3 h4 h5 h6
    obtain ⟨s', a1, a2, _⟩ := ok_add (kind := kind) hs (f := fr) (t := t) (by omega) (by omega) (by omega) h4 h5
    obtain ⟨r, b1, b2, b3, _⟩ := sim_put (ps := ps) (kind := kind) (f := fr) (t := t) hck hf (by omega) (by omega) (by omega) h4 (by omega) hr (fun h => ⟨hq h, by omega⟩)
    have hs' : s' = ⟨r, s.d⟩ := by unfold add at a1; rw [b1] at a1; exact (congrArg Prod.fst a1).symm
    rw [show max P t = t by omega] at b3
    have hcur := hr.cur
    refine ⟨t, s', ⟨qLeaf ps.q c kind fr t, ps.d⟩, by rw [a1], rfl, by omega, h2, h3, a2.le (Int.le_refl _) (by omega), ?_, ?_, ⟨_, qLeaf_new ps.q c kind fr t hcur.2, rfl, by show (p : Int) ≤ (fr : Int); omega, by show (fr : Int) ≤ (t : Int); omega, by show 1 ≤ (kind : Int); omega, by show (kind : Int) ≤ 11; omega⟩, ?_, h6⟩
    · rw [hs']; exact b3
    · rw [hs']; exact hd
    · rw [hs']; show r.length + 1 ≤ _; omega
  unfold valF pvalF
  dsimp only
  rw [hi0, ho, hi, hfr, hkd]
  have kin : k ≠ 0 → i < e ∧ raw l i = k := fun h => by have := kd_lt (l := l) (e := e) (i := i) (by omega); omega
  by_cases c1 : k = 13
  · rw [if_pos c1, if_pos c1]
    have hi2 := kin (by omega)
    exact .inr (put 8 (i + 1) (by omega) (by omega) (by rw [Nat.add_sub_cancel, hi2.2, c1]; rfl) (by omega) (by omega) (hbeg (.inl ⟨by omega, .inl c1⟩)))
  rw [if_neg c1, if_neg c1]
  by_cases c2 : isScal k = true
  · rw [if_pos c2, if_pos c2]
    have hk0 : k ≠ 0 := fun h => by rw [h] at c2; exact absurd c2 (by decide)
    have hi2 := kin hk0
    exact .inr (put 7 (i + 1) (by omega) (by omega) (by rw [Nat.add_sub_cancel, hi2.2]; exact cnt_scal c2) (by omega) (by omega) (hbeg (.inl ⟨hk0, .inr (.inl c2)⟩)))
  rw [if_neg c2, if_neg c2]
  by_cases c3 : k = 18
  · rw [if_pos c3, if_pos c3]
    have ht := text_in (l := l) (e := e) (i := i) (by omega)
    exact .inr (put 7 (text l e i) (by omega) ht.2.1 ht.2.2 (by omega) (by omega) (hbeg (.inl ⟨by omega, .inr (.inr (.inl c3))⟩)))
  rw [if_neg c3, if_neg c3]
  by_cases c4 : opens k = true
  · rw [if_pos c4, if_pos c4]
    have hk0 : k ≠ 0 := fun h => by rw [h] at c4; exact absurd c4 (by decide)
    have hi2 := kin hk0
    have hb6 := hbeg (.inl ⟨hk0, .inr (.inr (.inr c4))⟩)
    rcases hk with ⟨rfl, rfl⟩ | ⟨q, pq, rfl, rfl, hsc⟩
    · have ht := balanced_in (l := l) (e := e) (i := i) (by rw [hkd]; exact c4)
      obtain ⟨e1, e2⟩ := ok_err l hs (f := fr) (t := balanced l e i) (code := 10) (by omega) (by omega) (by omega) (by omega)
      obtain ⟨r, b1, b2, b3, _⟩ := sim_put (ps := ps) (kind := 11) (f := fr) (t := balanced l e i) hck hf (by omega) (by omega) (by omega) (by omega) (by omega) hr (fun h => ⟨hq h, by omega⟩)
      rw [show max P (balanced l e i) = balanced l e i by omega] at b3
      have hcur := hr.cur
      refine .inr ⟨balanced l e i, _, _, by dsimp only; rw [e2], rfl, by omega, ht.2.1, ht.2.2, e1.le (Int.le_refl _) (by omega), ?_, ?_, ⟨_, qLeaf_new ps.q c 11 fr _ hcur.2, rfl, by show (p : Int) ≤ (fr : Int); omega, by show (fr : Int) ≤ (balanced l e i : Int); omega, by show 1 ≤ (11 : Int); omega, by show (11 : Int) ≤ 11; omega⟩, ?_, hb6⟩
      · show Rel B up0 T0 _ (addN s.t (cT B up0 c) 11 fr (balanced l e i)).1 c _
        rw [show (11 : Int) = ((11 : Nat) : Int) from rfl, b1]; exact b3
      · show s.d ++ _ = ps.d ++ _; rw [hd]
      · show (addN s.t (cT B up0 c) 11 fr (balanced l e i)).1.length + 1 ≤ _
        rw [show (11 : Int) = ((11 : Nat) : Int) from rfl, b1]; show r.length + 1 ≤ _; omega
    · dsimp only
      obtain ⟨kind, hkind⟩ : ∃ kind : Nat, kind = (if k = 9 then 10 else 9) := ⟨_, rfl⟩
      rw [← hkind]
      have hk1 : 1 ≤ kind ∧ kind ≤ 10 := by rw [hkind]; split <;> omega
      obtain ⟨s', a1, a2, a3, ⟨x, a4, a5⟩, a6⟩ := ok_add (kind := kind) hs (f := fr) (t := i + 1) (by omega) (by omega) (by omega) hk1.1 hk1.2
      obtain ⟨r, b1, b2, _, b4⟩ := sim_put (ps := ps) (kind := kind) (f := fr) (t := i + 1) hck hf (by omega) (by omega) (by omega) hk1.1 (by omega) hr (fun h => ⟨hq h, by omega⟩)
      have b4 := b4 (by omega)
      have hs' : s' = ⟨r, s.d⟩ := by unfold add at a1; rw [b1] at a1; exact (congrArg Prod.fst a1).symm
      rw [a1]
      dsimp only
      have hcur := hr.cur
      have hlen := hr.len
      have hBn : B + ps.q.length = s.t.length := by omega
      have a3' : Ok n (B + ps.q.length) s fr (max b (i + 1 : Nat)) s' := by rw [hBn]; exact a3
      obtain ⟨next, s2, ps2, k1, k2, k3, k4, k5, k6, k7, k8, k9, k10⟩ := hsc ps.q.length i s' ⟨qPut ps.q c kind fr, ps.d⟩ (i + 1 : Nat) _ hi2.1 (by rw [hi2.2]; exact cnt_open c4) a3'.ck (a3'.fits.le (by omega) (by omega)) (Int.le_refl _)
        (by rw [hs']; exact b4) (by rw [hs']; exact hd) (qPut_new ps.q c kind fr hcur.2)
      rw [hBn] at k1
      rw [k1, k2]
      obtain ⟨x', g1, _, _, g2⟩ := k6.keep.2 _ x a4
      have hb4' : Rel B up0 T0 (qPut ps.q c kind fr) s'.t ps.q.length (i + 1) := by rw [hs']; exact b4
      obtain ⟨yy, w1, _, w2, w3⟩ := hb4'.same k7 k6.keep (qPut_new ps.q c kind fr hcur.2)
      obtain ⟨y9, w4, w5⟩ := k9
      rw [w1] at w4; injection w4 with w4; subst w4
      have w2 : yy.k = (kind : Int) := w2
      have w3 : yy.f = (fr : Int) := w3
      have hsl : s'.t.length = s.t.length + 1 := by rw [hs']; exact b2
      have k6' : Ok n s.t.length s' next next s2 := by rw [← hBn]; exact k6
      exact .inr ⟨next, s2, ps2, rfl, rfl, by omega, k4, k5, (a2.trans k6').out g1 (by omega) a6, k7, k8, ⟨yy, w1, w5, by omega, by omega, by omega, by omega⟩, by omega, hb6⟩
  rw [if_neg c4, if_neg c4]
  cases o with
  | some x =>
    obtain ⟨a, z⟩ := x
    have := l3 a z rfl
    have hfa : fr = a := by rw [← hfr]; rfl
    exact .inr (put 7 (z + 1) (by omega) (by omega) (by rw [Nat.add_sub_cancel]; exact cnt_prop this.2.2.2) (by omega) (by omega) (hbeg (.inr (by simp))))
  | none =>
    refine .inl ⟨rfl, rfl, ?_⟩
    obtain ⟨_, m2, m3⟩ := l4 rfl
    have hnp : isProp' k = false := by
      by_cases h : i0 < e
      · rw [← hkd, m2]; exact m3 (by omega)
      · have : k = 0 := by rw [← hkd]; unfold kd; rw [if_pos (.inl (by omega))]
        rw [this]; rfl
    have hbk : begins k = false := by
      unfold begins
      rw [hnp, show isScal k = false by simpa using c2, show opens k = false by simpa using c4, show (k == 18) = false by simpa using c3]; rfl
    by_cases hp : i0 = p
    · rw [← hp, ← m2, hkd]; exact hbk
    · have := goW_on (fun j => raw l j == 3) (e - p) p (by rw [← hi0] at hp; exact hp)
      have h3 : raw l p = 3 := by simpa using this
      unfold kd
      split
      · rfl
      · rw [h3]; rfl
theorem sim_pair (hn : (e : Int) ≤ n) {c j q P : Nat} {s : St} {ps : PSt} {b : Int} (hck : Ck s.t n) (hf : Fits s.t j b (B + c)) (hb : b ≤ j) (hjq : j < q) (hqe : q ≤ e) (hr : Rel B up0 T0 ps.q s.t c P) (hP : P ≤ j) (hd : s.d = ps.d) :
    ∃ s', pair l s ((B + c : Nat) : Int) j q = (s', (s.t.length : Int)) ∧ Ok n s.t.length s q q s' ∧ (∃ x, s'.t[s.t.length]? = some x ∧ x.u = ((B + c : Nat) : Int)) ∧ 0 < s.t.length ∧
      Rel B up0 T0 (ppair l ps c j q).q s'.t ps.q.length q ∧ s'.d = (ppair l ps c j q).d ∧ (∃ y, (ppair l ps c j q).q[ps.q.length]? = some y ∧ y.u = (c : Int)) ∧ s'.t.length ≤ s.t.length + (if q - j < 2 then 1 else 2) := by
  have hcur := hr.cur
  have hlen := hr.len
  have hBn : B + ps.q.length = s.t.length := by omega
  have hcT : cT B up0 (c : Int) = B + c := cT_nat B up0 c
  have hf' : Fits s.t j b (cT B up0 (c : Int)) := by rw [hcT]; exact hf
  obtain ⟨s1, a1, _, a3, ⟨x, a4, a5⟩, a6⟩ := ok_add (kind := 6) (Ok.start hck hf) (f := j) (t := q) (by omega) (by omega) (by omega) (by omega) (by omega)
  have a1 : add s ((B + c : Nat) : Int) 6 j q = (s1, (s.t.length : Int)) := a1
  obtain ⟨r, b1, b2, _, b4⟩ := sim_put (ps := ps) (kind := 6) (f := j) (t := q) hck hf' (by omega) (by omega) (by omega) (by omega) (by omega) hr (fun h => by omega)
  have b4 := b4 (by omega)
  rw [hcT] at b1
  have hs1 : s1 = ⟨r, s.d⟩ := by unfold add at a1; rw [b1] at a1; exact (congrArg Prod.fst a1).symm
  have hnew := qPut_new ps.q c 6 j hcur.2
  unfold pair ppair
  dsimp only
  rw [a1]
  dsimp only
  by_cases h : q - j < 2
  · rw [if_pos h, if_pos h, if_pos h]
    exact ⟨s1, rfl, a3.le (by omega) (by omega), ⟨x, a4, a5⟩, a6, by rw [hs1]; exact b4, by rw [hs1]; exact hd, ⟨_, hnew, rfl⟩, by rw [hs1]; show r.length ≤ _; omega⟩
  · rw [if_neg h, if_neg h, if_neg h]
    obtain ⟨kind, hkind⟩ : ∃ kind : Nat, kind = (if (List.range (q - j)).any (fun x => raw l (j + x) == 13) = true then 8 else 7) := ⟨_, rfl⟩
    rw [← hkind]
    have hk1 : 1 ≤ kind ∧ kind ≤ 10 := by rw [hkind]; split <;> omega
    have b1' := back_le l (q - 1) (j + 1)
    have b2' := back_ge l (q - 1) (j + 1) (by omega)
    obtain ⟨kt, hkt⟩ : ∃ kt, back l (q - 1) (j + 1) = kt := ⟨_, rfl⟩
    rw [hkt] at b1' b2' ⊢
    obtain ⟨s2, d1, d2, _⟩ := ok_add (kind := kind) (Ok.start a3.ck a3.fits) (f := j) (t := kt) (by omega) (by omega) (by omega) hk1.1 hk1.2
    have hcT2 : cT B up0 ((ps.q.length : Nat) : Int) = s.t.length := by rw [cT_nat]; exact hBn
    have hr1 : Rel B up0 T0 (⟨qPut ps.q c 6 j, ps.d⟩ : PSt).q s1.t (ps.q.length : Int) q := by rw [hs1]; exact b4
    obtain ⟨r2, e1, e2, e3, _⟩ := sim_put (s := s1) (ps := ⟨qPut ps.q c 6 j, ps.d⟩) (c := (ps.q.length : Int)) (kind := kind) (f := j) (t := kt) a3.ck (by rw [hcT2]; exact a3.fits) (by omega) (by omega) (by omega) hk1.1 (by omega) hr1 (fun h => by omega)
    rw [hcT2] at e1
    have hs2 : s2 = ⟨r2, s1.d⟩ := by unfold add at d1; rw [e1] at d1; exact (congrArg Prod.fst d1).symm
    rw [show max q kt = q by omega] at e3
    rw [d1]
    dsimp only
    have d3 := ok_keyed (s.t.length : Int) d2
    obtain ⟨x', g1, _, _, g2⟩ := d3.keep.2 _ x a4
    have hkl := keyed_leaf (qPut ps.q c 6 j) ps.q.length kind j kt (ps.q.length : Int) (by rw [qPut_len]; omega) (by rw [qPut_len]; omega)
    have hck2 : Ck r2 n := by have := d2.ck; rw [hs2] at this; exact this
    have hkey := e3.key hck2.good ps.q.length (by rw [qLeaf_len]; rw [qPut_len]; omega)
    have hk0 : (⟨qPut ps.q c 6 j, ps.d⟩ : PSt).q = qPut ps.q c 6 j := rfl
    rw [hk0, hkl, hBn] at hkey
    have hold := keyed_at _ ps.q.length ps.q.length _ (qLeaf_old (qPut ps.q c 6 j) (ps.q.length : Int) kind j kt ps.q.length _ hnew)
    rw [hkl] at hold
    exact ⟨_, rfl, (a3.trans d3).le (by omega) (by omega), ⟨x', g1, by omega⟩, a6, by rw [hs2]; exact hkey, by rw [hs2, hs1]; exact hd, ⟨_, hold, rfl⟩, by
      show (keyed s2.t _).length ≤ _
      rw [keyed_len, hs2]
      show r2.length ≤ _
      have : s1.t.length = r.length := by rw [hs1]
      omega⟩
theorem sim_item (hn : (e : Int) ≤ n) (val : Int → Nat → St → Int × Nat × St) (pval : Int → Nat → PSt → Nat × PSt) (hv : SV l e n B up0 T0 val pval) (dict : Bool) {c j P : Nat} {s : St} {ps : PSt} {b : Int}
    (hck : Ck s.t n) (hf : Fits s.t j b (B + c)) (hb : b ≤ j) (hr : Rel B up0 T0 ps.q s.t c P) (hP : P ≤ j) (hd : s.d = ps.d) (hj : kd l e j ≠ 0) (hcj : cnt (raw l j) = true) (hbeg : 0 < key l e j ∨ begins (kd l e j) = true) :
    ∃ (next : Nat) (s' : St) (ps' : PSt), item l e val dict ((B + c : Nat) : Int) j s = (next, s') ∧ pitem l e pval dict c j ps = (next, ps') ∧ j < next ∧ next ≤ e ∧ cnt (raw l (next - 1)) = true ∧ Ok n (B + c) s next next s' ∧
      Rel B up0 T0 ps'.q s'.t c next ∧ s'.d = ps'.d ∧ s'.t.length ≤ s.t.length + 2 * (next - j) := by
  have hje := (kd_lt hj).1
  have hlen := hr.len
  have hcur := hr.cur
  have hBn : B + ps.q.length = s.t.length := by omega
  have hcT2 : cT B up0 ((ps.q.length : Nat) : Int) = s.t.length := by rw [cT_nat]; exact hBn
  unfold item pitem
  dsimp only
  by_cases hq : 0 < key l e j
  · rw [if_pos hq, if_pos hq]
    obtain ⟨q1, q2, q3⟩ := key_in (by omega) hq
    obtain ⟨q, hqd⟩ : ∃ q, key l e j = q := ⟨_, rfl⟩
    rw [hqd] at q1 q2 q3 ⊢
    obtain ⟨s1, a1, a2, ⟨x, a3, a4⟩, a5, a6, a7, ⟨y, a8, a9⟩, a10⟩ := sim_pair (l := l) (e := e) hn hck hf hb q1 q2 hr hP hd
    rw [a1]
    dsimp only
    have hcq : cnt (raw l (q - 1)) = true := by rw [q3]; rfl
    have ht := trivia_in (l := l) (e := e) (i := q) q2
    obtain ⟨xx, hxx⟩ : ∃ xx, trivia l e q = xx := ⟨_, rfl⟩
    rw [hxx] at ht ⊢
    have hxc : xx = e ∨ cnt (raw l xx) = true := by
      have := goW_stop (fun j => !cnt (raw l j)) (e - q) q
      unfold trivia at hxx
      rw [hxx] at this
      rcases this with h | h
      · exact .inl (by omega)
      · exact .inr (by simpa using h)
    obtain ⟨pp, hpp⟩ : ∃ pp, ppair l ps c j q = pp := ⟨_, rfl⟩
    rw [hpp] at a6 a7 a8 ⊢
    -- nothing behind the colon: the pair ends with it
    have stop : val (s.t.length : Int) xx s1 = (-1, xx, s1) ∧ pval (ps.q.length : Int) xx pp = (xx, pp) →
        ∃ ps', ((if (pval (ps.q.length : Int) xx pp).1 = xx then q else (pval (ps.q.length : Int) xx pp).1), (⟨qEnd (pval (ps.q.length : Int) xx pp).2.q ps.q.length (if (pval (ps.q.length : Int) xx pp).1 = xx then q else (pval (ps.q.length : Int) xx pp).1), (pval (ps.q.length : Int) xx pp).2.d⟩ : PSt)) = (q, ps') ∧
          Rel B up0 T0 ps'.q s1.t c q ∧ s1.d = ps'.d := by
      intro h
      rw [h.2]
      dsimp only
      rw [if_pos rfl]
      refine ⟨_, rfl, ?_, a7⟩
      have := a6.close a2.ck.good a8
      rw [a9] at this
      exact this
    have hvv := hv ps.q.length xx q s1 pp q a2.ck (by rw [hcT2]; exact a2.fits.le (by omega) (Int.le_refl _)) (by omega) ht.2 a6 (by omega) (fun h => by omega) a7
    rw [hcT2] at hvv
    have hbk : q - j < 2 ∨ 2 ≤ q - j := by omega
    have hlq : s1.t.length ≤ s.t.length + 2 * (q - j) := by split at a10 <;> omega
    split
    · rename_i hst
      rcases hvv with ⟨v1, v2, _⟩ | ⟨next, s2, ps2, v1, v2, v3, v4, v5, v6, v7, v8, v9, v10, v11⟩
      · obtain ⟨ps', w1, w2, w3⟩ := stop ⟨v1, v2⟩
        exact ⟨q, s1, ps', rfl, w1, q1, q2, hcq, a2.out a3 a4 a5, w2, w3, hlq⟩
      · exfalso
        have hb2 : begins (kd l e xx) = false := by
          rcases hst with h | h | h
          · rw [h]; rfl
          · rw [h]; rfl
          · unfold ends at h; simp at h; rcases h with h | h <;> rw [h] <;> rfl
        rcases v11 with h | h
        · rw [hb2] at h; cases h
        · rcases hxc with h2 | h2
          · omega
          · rw [h] at h2; exact absurd h2 (by decide)
    · rcases hvv with ⟨v1, v2, _⟩ | ⟨next, s2, ps2, v1, v2, v3, v4, v5, v6, v7, v8, v9, v10, v11⟩
      · obtain ⟨ps', w1, w2, w3⟩ := stop ⟨v1, v2⟩
        rw [v1]
        exact ⟨q, s1, ps', rfl, w1, q1, q2, hcq, a2.out a3 a4 a5, w2, w3, hlq⟩
      · rw [v1, v2]
        dsimp only
        rw [if_neg (by omega), if_neg (by omega)]
        obtain ⟨x', g1, _, _, g2⟩ := v6.keep.2 _ x a3
        obtain ⟨y', y1, y2, _⟩ := a6.same v7 v6.keep a8
        have hcl := v7.close v6.ck.good y1
        rw [y2, a9] at hcl
        refine ⟨next, s2, _, rfl, rfl, by omega, v4, v5, (a2.trans v6).out g1 (by omega) a5, hcl, v8, ?_⟩
        split at a10 <;> omega
  · rw [if_neg hq, if_neg hq]
    have hbg : begins (kd l e j) = true := hbeg.resolve_left hq
    cases dict with
    | true =>
      rw [if_pos rfl, if_pos rfl]
      have hcT : cT B up0 (c : Int) = B + c := cT_nat B up0 c
      obtain ⟨s1, a1, _, a3, ⟨x, a4, a5⟩, a6⟩ := ok_add (kind := 6) (Ok.start hck hf) (f := j) (t := j + 1) (by omega) (by omega) (by omega) (by omega) (by omega)
      have a1 : add s ((B + c : Nat) : Int) 6 j (j + 1) = (s1, (s.t.length : Int)) := a1
      obtain ⟨r, b1, b2, _, b4⟩ := sim_put (ps := ps) (kind := 6) (f := j) (t := j + 1) hck (by rw [hcT]; exact hf) (by omega) (by omega) (by omega) (by omega) (by omega) hr (fun h => by omega)
      have b4 := b4 (by omega)
      rw [hcT] at b1
      have hs1 : s1 = ⟨r, s.d⟩ := by unfold add at a1; rw [b1] at a1; exact (congrArg Prod.fst a1).symm
      have hnew := qPut_new ps.q c 6 j hcur.2
      rw [a1]
      dsimp only
      have d3 := ok_keyed (s.t.length : Int) a3
      obtain ⟨x1, g1, _, _, g2⟩ := (ok_keyed (s.t.length : Int) (Ok.start a3.ck a3.fits)).keep.2 _ x a4
      have hckr : Ck r n := by have := a3.ck; rw [hs1] at this; exact this
      have hkey := b4.key hckr.good ps.q.length (by rw [qPut_len]; omega)
      rw [hBn] at hkey
      have hrk : Rel B up0 T0 (keyed (qPut ps.q c 6 j) (ps.q.length : Int)) (keyed s1.t (s.t.length : Int)) (ps.q.length : Int) (j + 1) := by rw [hs1]; exact hkey
      have hvv := hv ps.q.length j (j + 1) ⟨keyed s1.t (s.t.length : Int), s1.d⟩ ⟨keyed (qPut ps.q c 6 j) ps.q.length, ps.d⟩ (j + 1 : Nat) d3.ck (by rw [hcT2]; exact d3.fits.le (Int.le_refl _) (by omega)) (by omega) (by omega) hrk (by omega) (fun h => by omega) (by rw [hs1]; exact hd)
      rw [hcT2] at hvv
      rcases hvv with ⟨_, _, v2⟩ | ⟨next, s2, ps2, v1, v2, v3, v4, v5, v6, v7, v8, v9, v10, v11⟩
      · rw [hbg] at v2; exact absurd v2 (by decide)
      · rw [v1, v2]
        dsimp only
        obtain ⟨x2, k1, _, _, k2⟩ := v6.keep.2 _ x1 g1
        obtain ⟨y', y1, y2, _⟩ := hrk.same v7 v6.keep (keyed_at _ ps.q.length ps.q.length _ hnew)
        have hcl := v7.close v6.ck.good y1
        rw [y2] at hcl
        refine ⟨next, s2, _, rfl, rfl, v3, v4, v5, (d3.trans v6).out k1 (by omega) a6, hcl, v8, ?_⟩
        have h1 : (keyed s1.t (s.t.length : Int)).length = s.t.length + 1 := by rw [keyed_len, hs1]; exact b2
        have v10 : s2.t.length + 1 ≤ (keyed s1.t (s.t.length : Int)).length + 2 * (next - j) := v10
        omega
    | false =>
      rw [if_neg (by decide), if_neg (by decide)]
      have hvv := hv c j P s ps b hck (by rw [cT_nat]; exact hf) (by omega) (by omega) hr (by omega) (fun h => by omega) hd
      rw [cT_nat] at hvv
      rcases hvv with ⟨_, _, v2⟩ | ⟨next, s2, ps2, v1, v2, v3, v4, v5, v6, v7, v8, v9, v10, v11⟩
      · rw [hbg] at v2; exact absurd v2 (by decide)
      · rw [v1, v2]
        exact ⟨next, s2, ps2, rfl, rfl, v3, v4, v5, v6, v7, v8, by omega⟩
theorem sim_col (hn : (e : Int) ≤ n) (val : Int → Nat → St → Int × Nat × St) (pval : Int → Nat → PSt → Nat × PSt) (hv : SV l e n B up0 T0 val pval) (c op : Nat) (u : Int) :
    ∀ (g p : Nat) (have' : Bool) (s : St) (ps : PSt) (b : Int), e - p < g → Ck s.t n → Fits s.t p b (B + c) → b ≤ p → op < p → p ≤ e → cnt (raw l (p - 1)) = true → Rel B up0 T0 ps.q s.t c p → s.d = ps.d → (∃ x, ps.q[c]? = some x ∧ x.u = u) →
    ∃ (next : Nat) (s' : St) (ps' : PSt), colF l e val ((B + c : Nat) : Int) op g p have' s = (next, s') ∧ pcolF l e pval c op g p have' ps = (next, ps') ∧ op < next ∧ p ≤ next ∧ next ≤ e ∧ cnt (raw l (next - 1)) = true ∧ Ok n (B + c) s next next s' ∧
      Rel B up0 T0 ps'.q s'.t u next ∧ s'.d = ps'.d ∧ (∃ y, ps'.q[c]? = some y ∧ y.t = (next : Int)) ∧ s'.t.length ≤ s.t.length + 2 * (next - p)
  | 0, p, have', s, ps, b => fun hg => by omega
  | g + 1, p, have', s, ps, b => fun hg hck hf hb hop hpe hcp hr hd hx => by
    have ht := trivia_in (l := l) (e := e) (i := p) hpe
    have hs : Ok n (B + c) s p b s := .start hck hf
    have hcT : cT B up0 (c : Int) = B + c := cT_nat B up0 c
    have hf' : Fits s.t p b (cT B up0 (c : Int)) := by rw [hcT]; exact hf
    rw [colF, pcolF]
    obtain ⟨j, hj⟩ : ∃ j, trivia l e p = j := ⟨_, rfl⟩
    rw [hj] at ht ⊢
    obtain ⟨k, hk⟩ : ∃ k, kd l e j = k := ⟨_, rfl⟩
    rw [hk]
    obtain ⟨x, hx1, hxu⟩ := hx
    by_cases k0 : k = 0
    · rw [if_pos k0, if_pos k0, back_self l p (op + 1) (by omega) hcp]
      have hcl := hr.close hck.good hx1
      rw [hxu] at hcl
      exact ⟨p, _, _, rfl, rfl, hop, Nat.le_refl _, hpe, hcp, ok_open (hs.le (Int.le_refl _) hb), hcl, by show s.d ++ _ = ps.d ++ _; rw [hd], ⟨_, qEnd_at _ c p c x hx1, by rw [if_pos rfl]⟩, by show s.t.length ≤ _; omega⟩
    rw [if_neg k0, if_neg k0]
    have hjk := kd_lt (l := l) (e := e) (i := j) (by omega)
    rw [hk] at hjk
    -- on, behind something
    have on : ∀ (p' : Nat) (h' : Bool) (s1 : St) (ps1 : PSt), Ok n (B + c) s p' p' s1 → j < p' → p' ≤ e → cnt (raw l (p' - 1)) = true → Rel B up0 T0 ps1.q s1.t c p' → s1.d = ps1.d → s1.t.length ≤ s.t.length + 2 * (p' - p) →
        ∃ (next : Nat) (s' : St) (ps' : PSt), colF l e val ((B + c : Nat) : Int) op g p' h' s1 = (next, s') ∧ pcolF l e pval c op g p' h' ps1 = (next, ps') ∧ op < next ∧ p ≤ next ∧ next ≤ e ∧ cnt (raw l (next - 1)) = true ∧ Ok n (B + c) s next next s' ∧
          Rel B up0 T0 ps'.q s'.t u next ∧ s'.d = ps'.d ∧ (∃ y, ps'.q[c]? = some y ∧ y.t = (next : Int)) ∧ s'.t.length ≤ s.t.length + 2 * (next - p) := by
      intro p' h' s1 ps1 h1 h2 h3 h4 h5 h6 h7
      obtain ⟨y, y1, y2, _⟩ := hr.same h5 h1.keep hx1
      obtain ⟨next, s', ps', g1, g2, g3, g4, g5, g6, g7, g8, g9, g10, g11⟩ := sim_col hn val pval hv c op u g p' h' s1 ps1 p' (by omega) h1.ck h1.fits (Int.le_refl _) (by omega) h3 h4 h5 h6 ⟨y, y1, by omega⟩
      exact ⟨next, s', ps', g1, g2, g3, by omega, g5, g6, h1.trans g7, g8, g9, g10, by omega⟩
    have er : ∀ (t code : Nat), code ≠ 9 → j < t → t ≤ e → Ok n (B + c) s t t (err l s ((B + c : Nat) : Int) j t code) ∧ Rel B up0 T0 (pErr l ps c j t code).q (err l s ((B + c : Nat) : Int) j t code).t c t ∧ (err l s ((B + c : Nat) : Int) j t code).d = (pErr l ps c j t code).d ∧ (err l s ((B + c : Nat) : Int) j t code).t.length ≤ s.t.length + 1 := by
      intro t code h1 h2 h3
      obtain ⟨r, b1, b2, b3, _⟩ := sim_put (ps := ps) (kind := 11) (f := j) (t := t) hck hf' (by omega) (by omega) (by omega) (by omega) (by omega) hr (fun h => by omega)
      rw [hcT] at b1
      rw [show max p t = t by omega] at b3
      have hs1 : err l s ((B + c : Nat) : Int) j t code = ⟨r, s.d ++ [⟨code, frm l j, too l (t - 1)⟩]⟩ := by unfold err; rw [show (11 : Int) = ((11 : Nat) : Int) from rfl, b1]
      refine ⟨(ok_err l hs (f := j) (t := t) (code := code) (by omega) (by omega) (by omega) h1).1.le (Int.le_refl _) (by omega), ?_, ?_, ?_⟩
      · rw [hs1]; exact b3
      · rw [hs1]; show s.d ++ _ = ps.d ++ _; rw [hd]
      · rw [hs1]; show r.length ≤ _; omega
    have gr : Ok n (B + c) s (j + 1 : Nat) (j + 1 : Nat) ⟨growN s.t (B + c : Nat) ((j + 1 : Nat) : Int), s.d⟩ := ok_grow hs (by omega) (by omega) (by omega)
    have grt : growN s.t (B + c : Nat) ((j + 1 : Nat) : Int) = reachN s.t (cT B up0 (c : Int) : Nat) ((j + 1 : Nat) : Int) := by
      unfold growN mayGrow
      have hl := hf.lt
      rw [hck.firstT, hcT, show decide (((B + c : Nat) : Int) < 0) = false from decide_eq_false (by omega), show decide ((s.t.length : Int) ≤ ((B + c : Nat) : Int)) = false from decide_eq_false (by omega), show decide (n < ((j + 1 : Nat) : Int)) = false from decide_eq_false (by omega)]
      rfl
    have grr : Rel B up0 T0 ps.q (growN s.t (B + c : Nat) ((j + 1 : Nat) : Int)) c (j + 1) := by
      have := hr.grow hck.good (by omega) (j + 1)
      rw [show max p (j + 1) = j + 1 by omega] at this
      rw [grt]; exact this
    have grl : (growN s.t (B + c : Nat) ((j + 1 : Nat) : Int)).length = s.t.length := len_grow hck.good _ _
    have c1 : cnt k = true → cnt (raw l (j + 1 - 1)) = true := fun h => by rw [Nat.add_sub_cancel, hjk.2]; exact h
    by_cases k1 : k = (if raw l op = 9 then 11 else 10)
    · rw [if_pos k1, if_pos k1]
      have hcl := grr.close gr.ck.good hx1
      rw [hxu] at hcl
      exact ⟨j + 1, _, _, rfl, rfl, by omega, by omega, by omega, c1 (by rw [k1]; split <;> rfl), gr, hcl, hd, ⟨_, qEnd_at _ c (j + 1) c x hx1, by rw [if_pos rfl]⟩, by show (growN s.t (B + c : Nat) ((j + 1 : Nat) : Int)).length ≤ _; omega⟩
    rw [if_neg k1, if_neg k1]
    by_cases k2 : ends k = true
    · rw [if_pos k2, if_pos k2]
      obtain ⟨e1, e2, e3, e4⟩ := er (j + 1) 8 (by omega) (by omega) (by omega)
      exact on (j + 1) have' _ _ e1 (by omega) (by omega) (c1 (cnt_end k2)) e2 e3 (by omega)
    rw [if_neg k2, if_neg k2]
    by_cases k3 : k = 7
    · rw [if_pos k3, if_pos k3]
      have c7 := c1 (by rw [k3]; rfl)
      split
      · exact on (j + 1) false _ _ gr (by omega) (by omega) c7 grr hd (by show (growN s.t (B + c : Nat) ((j + 1 : Nat) : Int)).length ≤ _; omega)
      · obtain ⟨e1, e2, e3, e4⟩ := er (j + 1) 8 (by omega) (by omega) (by omega)
        exact on (j + 1) have' _ _ e1 (by omega) (by omega) c7 e2 e3 (by omega)
    rw [if_neg k3, if_neg k3]
    have hcj : cnt (raw l j) = true := by
      have hnt : j = e ∨ (fun j => !cnt (raw l j)) j = false := by
        have := goW_stop (fun j => !cnt (raw l j)) (e - p) p
        unfold trivia at hj
        rw [hj] at this
        rcases this with h | h
        · exact .inl (by omega)
        · exact .inr h
      rcases hnt with h | h
      · omega
      · simpa using h
    by_cases k4 : have' = true
    · rw [if_pos k4, if_pos k4]
      obtain ⟨t1, t2, t3⟩ := stray_in (l := l) (e := e) (j := j) (by omega) hcj (by omega) (by rw [hk]; simpa using k2)
      obtain ⟨e1, e2, e3, e4⟩ := er (stray l e j) 8 (by omega) t1 t2
      exact on _ have' _ _ e1 t1 t2 t3 e2 e3 (by omega)
    rw [if_neg k4, if_neg k4]
    by_cases k5 : 0 < key l e j ∨ begins k = true
    · rw [if_pos k5, if_pos k5]
      obtain ⟨next, s', ps', i1, i2, i3, i4, i5, i6, i7, i8, i9⟩ := sim_item hn val pval hv (raw l op == 9) (c := c) (j := j) hck (hf.le (by omega) (Int.le_refl _)) (by omega) hr (by omega) hd (by omega) hcj (by rw [hk]; exact k5)
      rw [i1, i2]
      exact on next true s' ps' i6 i3 i4 i5 i7 i8 (by omega)
    · rw [if_neg k5, if_neg k5]
      obtain ⟨e1, e2, e3, e4⟩ := er (j + 1) 8 (by omega) (by omega) (by omega)
      exact on (j + 1) have' _ _ e1 (by omega) (by omega) (c1 (by rw [← hjk.2]; exact hcj)) e2 e3 (by omega)
/-- At every depth. -/
theorem sim_all (hn : (e : Int) ≤ n) : ∀ d : Nat, SV l e n B up0 T0 (valN l e d) (pvalN l e d)
  | 0 => sim_val hn none none (.inl ⟨rfl, rfl⟩)
  | d + 1 => sim_val hn _ _ (.inr ⟨_, _, rfl, rfl, fun c op s ps b x ho hc hck hf hb hr hd hx => by
    obtain ⟨next, s', ps', g1, g2, g3, g4, g5, g6, g7, g8, g9, g10, g11⟩ := sim_col hn _ _ (sim_all hn d) c op x.u (e - op) (op + 1) false s ps b (by omega) hck hf hb (by omega) (by omega) (by rw [Nat.add_sub_cancel]; exact hc) hr hd ⟨x, hx, rfl⟩
    exact ⟨next, s', ps', g1, g2, g3, g5, g6, g7, g8, g9, g10, by omega⟩⟩)
end
end Go.Proofs.Ytmlpaafclobgcaa.Fl

/- Brackets as the program reads them: how far each goes, how much is laid, what stays; no program text. -/
namespace Go.Proofs.Ytmlpaafclobgcaa.Fl
open Go.Proofs.Ytmlpaafclobgcaa.Ar
set_option linter.unusedVariables false

/-- No node has more kids than there are nodes. -/
def KB (q : List Nd) : Prop := ∀ (i : Nat) (x : Nd), q[i]? = some x → x.ks.length ≤ q.length
/-- How a step, over so many tokens, changes what is read. -/
structure Gr (s s' : PSt) (n : Nat) : Prop where
  le : s.q.length ≤ s'.q.length
  len : s'.q.length ≤ s.q.length + 2 * n
  dl : s'.d.length ≤ s.d.length + n
  kinds : ∀ (i : Nat) (x : Nd), s.q[i]? = some x → ∃ x', s'.q[i]? = some x' ∧ x'.k = x.k
  kids : KB s.q → KB s'.q
theorem Gr.refl (s : PSt) : Gr s s 0 := ⟨Nat.le_refl _, by omega, by omega, fun i x h => ⟨x, h, rfl⟩, id⟩
theorem Gr.trans {a b c : PSt} {n m : Nat} (h : Gr a b n) (g : Gr b c m) : Gr a c (n + m) :=
  ⟨Nat.le_trans h.le g.le, by have := h.len; have := g.len; omega, by have := h.dl; have := g.dl; omega, fun i x hx => by
    obtain ⟨y, h1, h2⟩ := h.kinds i x hx
    obtain ⟨z, g1, g2⟩ := g.kinds i y h1
    exact ⟨z, g1, g2.trans h2⟩, fun k => g.kids (h.kids k)⟩
theorem Gr.mono {a b : PSt} {n m : Nat} (h : Gr a b n) (hm : n ≤ m) : Gr a b m := ⟨h.le, by have := h.len; omega, by have := h.dl; omega, h.kinds, h.kids⟩
theorem kb_put {q : List Nd} (h : KB q) (up : Int) (k f : Nat) (hu : up < q.length) : KB (qPut q up k f) := by
  intro i x hx
  rw [qPut_len]
  have hi := (List.getElem?_eq_some_iff.1 hx).1
  rw [qPut_len] at hi
  by_cases e : i = q.length
  · subst e
    rw [qPut_new q up k f hu] at hx
    injection hx with hx
    subst hx
    exact Nat.zero_le _
  · obtain ⟨y, hy⟩ : ∃ y, q[i]? = some y := ⟨_, List.getElem?_eq_getElem (by omega)⟩
    rw [qPut_old q up k f i y hy] at hx
    injection hx with hx
    subst hx
    have := h i y hy
    dsimp only
    split
    · rw [List.length_append]; simp; omega
    · omega
theorem kb_end {q : List Nd} (h : KB q) (j t : Nat) : KB (qEnd q j t) := by
  intro i x hx
  rw [qEnd_len]
  obtain ⟨y, hy⟩ := back_of (qEnd_len _ _ _) hx
  rw [qEnd_at q j t i y hy] at hx
  injection hx with hx
  subst hx
  exact h i y hy
theorem kb_key {q : List Nd} (h : KB q) (j : Nat) : KB (keyed q j) := by
  intro i x hx
  rw [keyed_len]
  obtain ⟨y, hy⟩ := back_of (keyed_len _ _) hx
  rw [keyed_at q j i y hy] at hx
  injection hx with hx
  subst hx
  exact h i y hy
theorem gr_end (s : PSt) (i t : Nat) : Gr s ⟨qEnd s.q i t, s.d⟩ 0 :=
  ⟨by show _ ≤ (qEnd s.q i t).length; rw [qEnd_len]; exact Nat.le_refl _, by show (qEnd s.q i t).length ≤ _; rw [qEnd_len]; omega, by show s.d.length ≤ _; omega, fun j x hx => ⟨_, qEnd_at s.q i t j x hx, rfl⟩, fun h => kb_end h i t⟩
theorem gr_key (s : PSt) (i : Nat) : Gr s ⟨keyed s.q i, s.d⟩ 0 :=
  ⟨by show _ ≤ (keyed s.q i).length; rw [keyed_len]; exact Nat.le_refl _, by show (keyed s.q i).length ≤ _; rw [keyed_len]; omega, by show s.d.length ≤ _; omega, fun j x hx => ⟨_, keyed_at s.q i j x hx, rfl⟩, fun h => kb_key h i⟩
/-- A node more, for half a token. -/
structure Gh (s s' : PSt) : Prop where
  le : s'.q.length = s.q.length + 1
  d : s'.d = s.d
  kinds : ∀ (i : Nat) (x : Nd), s.q[i]? = some x → ∃ x', s'.q[i]? = some x' ∧ x'.k = x.k
  kids : KB s.q → KB s'.q
theorem gh_put (s : PSt) (up : Int) (k f : Nat) (hu : up < s.q.length) : Gh s ⟨qPut s.q up k f, s.d⟩ :=
  ⟨qPut_len _ _ _ _, rfl, fun i x hx => ⟨_, qPut_old s.q up k f i x hx, rfl⟩, fun h => kb_put h up k f hu⟩
theorem gh_leaf (s : PSt) (up : Int) (k f t : Nat) (hu : up < s.q.length) : Gh s ⟨qLeaf s.q up k f t, s.d⟩ :=
  ⟨qLeaf_len _ _ _ _ _, rfl, fun i x hx => ⟨_, qLeaf_old s.q up k f t i x hx, rfl⟩, fun h => kb_end (kb_put h up k f hu) _ _⟩
theorem Gh.gr {s s' : PSt} (h : Gh s s') {n : Nat} (hn : 1 ≤ n) : Gr s s' n := ⟨by have := h.le; omega, by have := h.le; omega, by rw [h.d]; omega, h.kinds, h.kids⟩
theorem gr_err (l : List Tk) (s : PSt) (up : Int) (f t code : Nat) (hu : up < s.q.length) : Gr s (pErr l s up f t code) 1 := by
  have h := gh_leaf s up 11 f t hu
  refine ⟨by have := h.le; show _ ≤ (qLeaf s.q up 11 f t).length; exact Nat.le_of_lt (by rw [qLeaf_len]; omega), ?_, ?_, h.kinds, h.kids⟩
  · show (qLeaf s.q up 11 f t).length ≤ _; rw [qLeaf_len]; omega
  · show (s.d ++ _).length ≤ _; rw [List.length_append]; simp
section
variable {l : List Tk} {e : Nat}
/-- What is so of a value, read into a node. -/
def PV (l : List Tk) (e : Nat) (pval : Int → Nat → PSt → Nat × PSt) : Prop :=
  ∀ (c : Int) (p : Nat) (s : PSt), p ≤ e → -1 ≤ c → c < s.q.length →
    (pval c p s = (p, s) ∧ begins (kd l e p) = false) ∨
    (∃ (next : Nat) (s' : PSt), pval c p s = (next, s') ∧ p < next ∧ next ≤ e ∧ cnt (raw l (next - 1)) = true ∧ Gr s s' (next - p) ∧ s'.q.length + 1 ≤ s.q.length + 2 * (next - p) ∧ (begins (kd l e p) = true ∨ raw l p = 3))
def PC (l : List Tk) (e : Nat) (pcol : Nat → Nat → PSt → Nat × PSt) : Prop :=
  ∀ (c op : Nat) (s : PSt), op < e → cnt (raw l op) = true → c < s.q.length →
    ∃ (next : Nat) (s' : PSt), pcol c op s = (next, s') ∧ op < next ∧ next ≤ e ∧ cnt (raw l (next - 1)) = true ∧ Gr s s' (next - op) ∧ s'.q.length + 2 ≤ s.q.length + 2 * (next - op)
theorem pv_val (pcol : Option (Nat → Nat → PSt → Nat × PSt)) (hk : ∀ k, pcol = some k → PC l e k) : PV l e (pvalF l e pcol) := by
  intro c p s hpe hc1 hc2
  have h0 := blanks_in (l := l) hpe
  obtain ⟨i0, hi0⟩ : ∃ i0, blanks l e p = i0 := ⟨_, rfl⟩
  have hl := lead_in l e i0 (e - i0) none i0 (Nat.le_refl _) (by omega) (fun a z h => by simp at h)
  have hlead : i0 = p → isProp' (kd l e p) = false → lead l e (e - i0) none i0 = (none, p) := fun h1 h2 => by subst h1; exact lead_noP h2
  obtain ⟨o, ho⟩ : ∃ o, (lead l e (e - i0) none i0).1 = o := ⟨_, rfl⟩
  obtain ⟨i, hi⟩ : ∃ i, (lead l e (e - i0) none i0).2 = i := ⟨_, rfl⟩
  rw [hi0] at h0
  rw [ho, hi] at hl
  obtain ⟨l1, l2, l3, l4⟩ := hl
  obtain ⟨fr, hfr⟩ : ∃ fr, firstOf o i = fr := ⟨_, rfl⟩
  have hfr1 : p ≤ fr ∧ fr ≤ i := by
    rw [← hfr]
    cases o with
    | none => exact ⟨by show p ≤ i; omega, Nat.le_refl _⟩
    | some x => obtain ⟨a, z⟩ := x; have := l3 a z rfl; show p ≤ a ∧ a ≤ i; omega
  obtain ⟨k, hkd⟩ : ∃ k, kd l e i = k := ⟨_, rfl⟩
  have hbeg : (k ≠ 0 ∧ (k = 13 ∨ isScal k = true ∨ k = 18 ∨ opens k = true)) ∨ o ≠ none → begins (kd l e p) = true ∨ raw l p = 3 := by
    intro h
    by_cases hp : i0 = p
    · refine .inl ?_
      by_cases h2 : isProp' (kd l e p) = true
      · unfold begins; rw [h2]; rfl
      · have h2 : isProp' (kd l e p) = false := by simpa using h2
        have h3 := hlead hp h2
        rw [h3] at ho hi
        have ho : none = o := ho
        have hi : p = i := hi
        subst ho hi
        rcases h with ⟨_, h⟩ | h
        · rw [hkd]
          unfold begins
          rcases h with h | h | h | h
          · rw [h]; rfl
          · rw [h]; simp
          · rw [h]; rfl
          · rw [h]; simp
        · exact absurd rfl h
    · have := goW_on (fun j => raw l j == 3) (e - p) p (by unfold blanks at hi0; rw [← hi0] at hp; exact hp)
      exact .inr (by simpa using this)
  have put : ∀ (kind t : Nat), fr < t → t ≤ e → cnt (raw l (t - 1)) = true → (begins (kd l e p) = true ∨ raw l p = 3) →
      ∃ (next : Nat) (s' : PSt), (t, (⟨qLeaf s.q c kind fr t, s.d⟩ : PSt)) = (next, s') ∧ p < next ∧ next ≤ e ∧ cnt (raw l (next - 1)) = true ∧ Gr s s' (next - p) ∧ s'.q.length + 1 ≤ s.q.length + 2 * (next - p) ∧ (begins (kd l e p) = true ∨ raw l p = 3) := by
    intro kind t h1 h2 h3 h6
    have hg := gh_leaf s c kind fr t hc2
    exact ⟨t, _, rfl, by omega, h2, h3, hg.gr (by omega), by rw [hg.le]; omega, h6⟩
  unfold pvalF
  dsimp only
  rw [hi0, ho, hi, hfr, hkd]
  have kin : k ≠ 0 → i < e ∧ raw l i = k := fun h => by have := kd_lt (l := l) (e := e) (i := i) (by omega); omega
  by_cases c1 : k = 13
  · rw [if_pos c1]
    have hi2 := kin (by omega)
    exact .inr (put 8 (i + 1) (by omega) (by omega) (by rw [Nat.add_sub_cancel, hi2.2, c1]; rfl) (hbeg (.inl ⟨by omega, .inl c1⟩)))
  rw [if_neg c1]
  by_cases c2 : isScal k = true
  · rw [if_pos c2]
    have hk0 : k ≠ 0 := fun h => by rw [h] at c2; exact absurd c2 (by decide)
    have hi2 := kin hk0
    exact .inr (put 7 (i + 1) (by omega) (by omega) (by rw [Nat.add_sub_cancel, hi2.2]; exact cnt_scal c2) (hbeg (.inl ⟨hk0, .inr (.inl c2)⟩)))
  rw [if_neg c2]
  by_cases c3 : k = 18
  · rw [if_pos c3]
    have ht := text_in (l := l) (e := e) (i := i) (by omega)
    exact .inr (put 7 (text l e i) (by omega) ht.2.1 ht.2.2 (hbeg (.inl ⟨by omega, .inr (.inr (.inl c3))⟩)))
  rw [if_neg c3]
  by_cases c4 : opens k = true
  · rw [if_pos c4]
    have hk0 : k ≠ 0 := fun h => by rw [h] at c4; exact absurd c4 (by decide)
    have hi2 := kin hk0
    have hb6 := hbeg (.inl ⟨hk0, .inr (.inr (.inr c4))⟩)
    cases hcol : pcol with
    | none =>
      have ht := balanced_in (l := l) (e := e) (i := i) (by rw [hkd]; exact c4)
      have hg := gr_err l s c fr (balanced l e i) 10 hc2
      exact .inr ⟨balanced l e i, _, rfl, by omega, ht.2.1, ht.2.2, hg.mono (by omega), by show (qLeaf s.q c 11 fr (balanced l e i)).length + 1 ≤ _; rw [qLeaf_len]; omega, hb6⟩
    | some q =>
      dsimp only
      obtain ⟨kind, hkind⟩ : ∃ kind : Nat, kind = (if k = 9 then 10 else 9) := ⟨_, rfl⟩
      rw [← hkind]
      have hg := gh_put s c kind fr hc2
      obtain ⟨next, s2, k2, k3, k4, k5, k6, k7⟩ := hk q hcol s.q.length i ⟨qPut s.q c kind fr, s.d⟩ hi2.1 (by rw [hi2.2]; exact cnt_open c4) (by show s.q.length < (qPut s.q c kind fr).length; rw [qPut_len]; omega)
      have k7 : s2.q.length + 2 ≤ (qPut s.q c kind fr).length + 2 * (next - i) := k7
      rw [qPut_len] at k7
      rw [k2]
      refine .inr ⟨next, s2, rfl, by omega, k4, k5, ⟨?_, by omega, ?_, fun j x hx => ?_, fun h => k6.kids (hg.kids h)⟩, by omega, hb6⟩
      · have := k6.le; have := hg.le; omega
      · have := k6.dl
        have h2 : (⟨qPut s.q c kind fr, s.d⟩ : PSt).d = s.d := rfl
        rw [h2] at this; omega
      · obtain ⟨y, y1, y2⟩ := hg.kinds j x hx
        obtain ⟨z, z1, z2⟩ := k6.kinds j y y1
        exact ⟨z, z1, z2.trans y2⟩
  rw [if_neg c4]
  cases o with
  | some x =>
    obtain ⟨a, z⟩ := x
    have := l3 a z rfl
    have hfa : fr = a := by rw [← hfr]; rfl
    exact .inr (put 7 (z + 1) (by omega) (by omega) (by rw [Nat.add_sub_cancel]; exact cnt_prop this.2.2.2) (hbeg (.inr (by simp))))
  | none =>
    refine .inl ⟨rfl, ?_⟩
    obtain ⟨_, m2, m3⟩ := l4 rfl
    have hnp : isProp' k = false := by
      by_cases h : i0 < e
      · rw [← hkd, m2]; exact m3 (by omega)
      · have : k = 0 := by rw [← hkd]; unfold kd; rw [if_pos (.inl (by omega))]
        rw [this]; rfl
    have hbk : begins k = false := by
      unfold begins
      rw [hnp, show isScal k = false by simpa using c2, show opens k = false by simpa using c4, show (k == 18) = false by simpa using c3]; rfl
    by_cases hp : i0 = p
    · rw [← hp, ← m2, hkd]; exact hbk
    · have := goW_on (fun j => raw l j == 3) (e - p) p (by rw [← hi0] at hp; exact hp)
      have h3 : raw l p = 3 := by simpa using this
      unfold kd
      split
      · rfl
      · rw [h3]; rfl
theorem gr_pair (s : PSt) (c j q : Nat) (hc : c < s.q.length) : s.q.length + 1 ≤ (ppair l s c j q).q.length ∧ (ppair l s c j q).q.length ≤ s.q.length + (if q - j < 2 then 1 else 2) ∧ (ppair l s c j q).d = s.d ∧ (∀ (i : Nat) (x : Nd), s.q[i]? = some x → ∃ x', (ppair l s c j q).q[i]? = some x' ∧ x'.k = x.k) ∧ (KB s.q → KB (ppair l s c j q).q) := by
  have hg := gh_put s c 6 j (by omega)
  unfold ppair
  by_cases h : q - j < 2
  · rw [if_pos h, if_pos h]
    exact ⟨by rw [hg.le]; omega, by rw [hg.le]; omega, rfl, hg.kinds, hg.kids⟩
  · rw [if_neg h, if_neg h]
    have hl : (keyed (qPut s.q c 6 j) (s.q.length : Int)).length = s.q.length + 1 := by rw [keyed_len, qPut_len]
    refine ⟨?_, ?_, rfl, fun i x hx => ?_, fun hk => ?_⟩
    · show _ ≤ (qLeaf _ _ _ _ _).length
      rw [qLeaf_len, hl]; omega
    · show (qLeaf _ _ _ _ _).length ≤ _
      rw [qLeaf_len, hl]; omega
    · have h1 := keyed_at _ s.q.length i _ (qPut_old s.q c 6 j i x hx)
      exact ⟨_, qLeaf_old _ _ _ _ _ i _ h1, rfl⟩
    · exact kb_end (kb_put (kb_key (kb_put hk c 6 j (by omega)) s.q.length) _ _ _ (by rw [hl]; omega)) _ _
theorem pv_item (pval : Int → Nat → PSt → Nat × PSt) (hv : PV l e pval) (dict : Bool) {c j : Nat} {s : PSt} (hc : c < s.q.length) (hj : kd l e j ≠ 0) (hbeg : 0 < key l e j ∨ begins (kd l e j) = true) :
    ∃ (next : Nat) (s' : PSt), pitem l e pval dict c j s = (next, s') ∧ j < next ∧ next ≤ e ∧ cnt (raw l (next - 1)) = true ∧ Gr s s' (next - j) := by
  have hje := (kd_lt hj).1
  unfold pitem
  dsimp only
  by_cases hq : 0 < key l e j
  · rw [if_pos hq]
    obtain ⟨q1, q2, q3⟩ := key_in (by omega) hq
    obtain ⟨q, hqd⟩ : ∃ q, key l e j = q := ⟨_, rfl⟩
    rw [hqd] at q1 q2 q3 ⊢
    obtain ⟨a1, a2, a3, a4, a5⟩ := gr_pair (l := l) s c j q hc
    obtain ⟨pp, hpp⟩ : ∃ pp, ppair l s c j q = pp := ⟨_, rfl⟩
    rw [hpp] at a1 a2 a3 a4 a5 ⊢
    have hcq : cnt (raw l (q - 1)) = true := by rw [q3]; rfl
    have ht := trivia_in (l := l) (e := e) (i := q) q2
    obtain ⟨xx, hxx⟩ : ∃ xx, trivia l e q = xx := ⟨_, rfl⟩
    rw [hxx] at ht ⊢
    have hgp : Gr s pp (q - j) := ⟨by omega, by split at a2 <;> omega, by rw [a3]; omega, a4, a5⟩
    rcases hv s.q.length xx pp ht.2 (by omega) (by omega) with ⟨v1, _⟩ | ⟨next, s2, v1, v2, v3, v4, v5, v6, v7⟩
    · rw [v1]
      dsimp only
      rw [if_pos rfl]
      exact ⟨q, _, rfl, q1, q2, hcq, by have := hgp.trans (gr_end pp s.q.length q); rw [Nat.add_zero] at this; exact this⟩
    · rw [v1]
      dsimp only
      rw [if_neg (by omega)]
      have h1 := (hgp.trans v5).trans (gr_end s2 s.q.length next)
      exact ⟨next, _, rfl, by omega, v3, v4, h1.mono (by omega)⟩
  · rw [if_neg hq]
    have hbg : begins (kd l e j) = true := hbeg.resolve_left hq
    cases dict with
    | true =>
      rw [if_pos rfl]
      have hg := gh_put s c 6 j (by omega)
      rcases hv s.q.length j ⟨keyed (qPut s.q c 6 j) s.q.length, s.d⟩ (by omega) (by omega) (by show (s.q.length : Int) < ((keyed (qPut s.q c 6 j) (s.q.length : Int)).length : Int); rw [keyed_len, qPut_len]; omega) with ⟨_, v2⟩ | ⟨next, s2, v1, v2, v3, v4, v5, v6, v7⟩
      · rw [hbg] at v2; exact absurd v2 (by decide)
      · rw [v1]
        dsimp only
        have v6 : s2.q.length + 1 ≤ (keyed (qPut s.q c 6 j) (s.q.length : Int)).length + 2 * (next - j) := v6
        rw [keyed_len, qPut_len] at v6
        refine ⟨next, _, rfl, v2, v3, v4, ?_, ?_, ?_, fun i x hx => ?_, fun hk => ?_⟩
        · show _ ≤ (qEnd s2.q s.q.length next).length
          rw [qEnd_len]
          have h3 : (keyed (qPut s.q c 6 j) (s.q.length : Int)).length ≤ s2.q.length := v5.le
          rw [keyed_len, qPut_len] at h3; omega
        · show (qEnd s2.q s.q.length next).length ≤ _; rw [qEnd_len]; omega
        · exact v5.dl
        · obtain ⟨y, y1, y2⟩ := hg.kinds i x hx
          obtain ⟨z, z1, z2⟩ := v5.kinds i _ (keyed_at _ s.q.length i y y1)
          exact ⟨_, qEnd_at s2.q s.q.length next i z z1, z2.trans y2⟩
        · exact kb_end (v5.kids (kb_key (hg.kids hk) _)) _ _
    | false =>
      rw [if_neg (by decide)]
      rcases hv c j s (by omega) (by omega) (by omega) with ⟨_, v2⟩ | ⟨next, s2, v1, v2, v3, v4, v5, v6, v7⟩
      · rw [hbg] at v2; exact absurd v2 (by decide)
      · rw [v1]
        exact ⟨next, s2, rfl, v2, v3, v4, v5⟩
theorem pv_col (pval : Int → Nat → PSt → Nat × PSt) (hv : PV l e pval) (c op : Nat) :
    ∀ (g p : Nat) (have' : Bool) (s : PSt), e - p < g → op < p → p ≤ e → cnt (raw l (p - 1)) = true → c < s.q.length →
    ∃ (next : Nat) (s' : PSt), pcolF l e pval c op g p have' s = (next, s') ∧ p ≤ next ∧ next ≤ e ∧ cnt (raw l (next - 1)) = true ∧ s.q.length ≤ s'.q.length ∧ s'.q.length ≤ s.q.length + 2 * (next - p) ∧ s'.d.length ≤ s.d.length + (next - p) + 1 ∧
      (∀ (i : Nat) (x : Nd), s.q[i]? = some x → ∃ x', s'.q[i]? = some x' ∧ x'.k = x.k) ∧ (KB s.q → KB s'.q)
  | 0, p, have', s => fun hg => by omega
  | g + 1, p, have', s => fun hg hop hpe hcp hc => by
    have ht := trivia_in (l := l) (e := e) (i := p) hpe
    rw [pcolF]
    obtain ⟨j, hj⟩ : ∃ j, trivia l e p = j := ⟨_, rfl⟩
    rw [hj] at ht ⊢
    obtain ⟨k, hk⟩ : ∃ k, kd l e j = k := ⟨_, rfl⟩
    rw [hk]
    by_cases k0 : k = 0
    · rw [if_pos k0, back_self l p (op + 1) (by omega) hcp]
      have h1 := gr_end s c p
      exact ⟨p, _, rfl, Nat.le_refl _, hpe, hcp, h1.le, by have := h1.len; exact Nat.le_trans this (by omega), by show (s.d ++ _).length ≤ _; rw [List.length_append]; simp, h1.kinds, h1.kids⟩
    rw [if_neg k0]
    have hjk := kd_lt (l := l) (e := e) (i := j) (by omega)
    rw [hk] at hjk
    have on : ∀ (p' : Nat) (h' : Bool) (s1 : PSt), Gr s s1 (p' - p) → j < p' → p' ≤ e → cnt (raw l (p' - 1)) = true →
        ∃ (next : Nat) (s' : PSt), pcolF l e pval c op g p' h' s1 = (next, s') ∧ p ≤ next ∧ next ≤ e ∧ cnt (raw l (next - 1)) = true ∧ s.q.length ≤ s'.q.length ∧ s'.q.length ≤ s.q.length + 2 * (next - p) ∧ s'.d.length ≤ s.d.length + (next - p) + 1 ∧
          (∀ (i : Nat) (x : Nd), s.q[i]? = some x → ∃ x', s'.q[i]? = some x' ∧ x'.k = x.k) ∧ (KB s.q → KB s'.q) := by
      intro p' h' s1 h1 h2 h3 h4
      obtain ⟨next, s', g1, g2, g3, g4, g5, g6, g7, g8, g9⟩ := pv_col pval hv c op g p' h' s1 (by omega) (by omega) h3 h4 (by have := h1.le; omega)
      refine ⟨next, s', g1, by omega, g3, g4, ?_, ?_, ?_, fun i x hx => ?_, fun h => g9 (h1.kids h)⟩
      · have := h1.le; omega
      · have := h1.len; omega
      · have := h1.dl; omega
      · obtain ⟨y, y1, y2⟩ := h1.kinds i x hx
        obtain ⟨z, z1, z2⟩ := g8 i y y1
        exact ⟨z, z1, z2.trans y2⟩
    have er : ∀ (t code : Nat), j < t → Gr s (pErr l s c j t code) (t - p) := fun t code h => (gr_err l s c j t code (by omega)).mono (by omega)
    have c1 : cnt k = true → cnt (raw l (j + 1 - 1)) = true := fun h => by rw [Nat.add_sub_cancel, hjk.2]; exact h
    by_cases k1 : k = (if raw l op = 9 then 11 else 10)
    · rw [if_pos k1]
      have h1 := gr_end s c (j + 1)
      exact ⟨j + 1, _, rfl, by omega, by omega, c1 (by rw [k1]; split <;> rfl), h1.le, by have := h1.len; exact Nat.le_trans this (by omega), by show s.d.length ≤ _; omega, h1.kinds, h1.kids⟩
    rw [if_neg k1]
    by_cases k2 : ends k = true
    · rw [if_pos k2]
      exact on (j + 1) have' _ (er (j + 1) 8 (by omega)) (by omega) (by omega) (c1 (cnt_end k2))
    rw [if_neg k2]
    by_cases k3 : k = 7
    · rw [if_pos k3]
      have c7 := c1 (by rw [k3]; rfl)
      split
      · exact on (j + 1) false _ ((Gr.refl s).mono (by omega)) (by omega) (by omega) c7
      · exact on (j + 1) have' _ (er (j + 1) 8 (by omega)) (by omega) (by omega) c7
    rw [if_neg k3]
    have hcj : cnt (raw l j) = true := by
      have hnt : j = e ∨ (fun j => !cnt (raw l j)) j = false := by
        have := goW_stop (fun j => !cnt (raw l j)) (e - p) p
        unfold trivia at hj
        rw [hj] at this
        rcases this with h | h
        · exact .inl (by omega)
        · exact .inr h
      rcases hnt with h | h
      · omega
      · simpa using h
    by_cases k4 : have' = true
    · rw [if_pos k4]
      obtain ⟨t1, t2, t3⟩ := stray_in (l := l) (e := e) (j := j) (by omega) hcj (by omega) (by rw [hk]; simpa using k2)
      exact on _ have' _ (er (stray l e j) 8 t1) t1 t2 t3
    rw [if_neg k4]
    by_cases k5 : 0 < key l e j ∨ begins k = true
    · rw [if_pos k5]
      obtain ⟨next, s', i1, i2, i3, i4, i5⟩ := pv_item pval hv (raw l op == 9) (c := c) (j := j) hc (by omega) (by rw [hk]; exact k5)
      rw [i1]
      exact on next true s' (i5.mono (by omega)) i2 i3 i4
    · rw [if_neg k5]
      exact on (j + 1) have' _ (er (j + 1) 8 (by omega)) (by omega) (by omega) (c1 (by rw [← hjk.2]; exact hcj))
/-- At every depth. -/
theorem pv_all : ∀ d : Nat, PV l e (pvalN l e d)
  | 0 => pv_val none (fun k h => by simp at h)
  | d + 1 => pv_val _ (fun k h c op s ho hc hcl => by
    injection h with h
    subst h
    obtain ⟨next, s', g1, g2, g3, g4, g5, g6, g7, g8, g9⟩ := pv_col _ (pv_all d) c op (e - op) (op + 1) false s (by omega) (by omega) (by omega) (by rw [Nat.add_sub_cancel]; exact hc) hcl
    exact ⟨next, s', g1, by omega, g3, g4, ⟨g5, by omega, by omega, g8, g9⟩, by omega⟩)
end
end Go.Proofs.Ytmlpaafclobgcaa.Fl
