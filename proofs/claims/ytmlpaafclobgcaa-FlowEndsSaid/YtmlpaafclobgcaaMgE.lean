/- Several texts in one: Flu Flv Flw Flx. -/
import Derived.Test.YtmlpaafclobgcaaMgD
/- Brackets, plainly: what one step of a collection does, to the tree's kinds and to what is told; no program text. -/
namespace Go.Proofs.Ytmlpaafclobgcaa.Fl
open Go.Proofs.Ytmlpaafclobgcaa.Ar

/-- A tree's kinds, and whether a node has a key. -/
def sig (l : List Nd) : List (Int × Bool) := l.map (fun x => (x.k, x.y))
theorem sig_same {l r : List Nd} (hl : r.length = l.length) (h : ∀ (i : Nat) (x : Nd), l[i]? = some x → ∃ x', r[i]? = some x' ∧ x'.k = x.k ∧ x'.y = x.y) : sig r = sig l := by
  unfold sig
  refine List.ext_getElem? (fun i => ?_)
  rw [List.getElem?_map, List.getElem?_map]
  cases hx : l[i]? with
  | none =>
    have : r[i]? = none := by rw [List.getElem?_eq_none_iff] at hx ⊢; omega
    rw [this]
  | some x =>
    obtain ⟨x', h1, h2, h3⟩ := h i x hx
    rw [h1]; simp [h2, h3]
theorem sig_more {l r : List Nd} {z : Nd} (hl : r.length = l.length + 1) (h : ∀ (i : Nat) (x : Nd), l[i]? = some x → ∃ x', r[i]? = some x' ∧ x'.k = x.k ∧ x'.y = x.y) (hz : r[l.length]? = some z) : sig r = sig l ++ [(z.k, z.y)] := by
  unfold sig
  refine List.ext_getElem? (fun i => ?_)
  rw [List.getElem?_map]
  by_cases hi : i < l.length
  · obtain ⟨x, hx⟩ : ∃ x, l[i]? = some x := ⟨_, List.getElem?_eq_getElem hi⟩
    obtain ⟨x', h1, h2, h3⟩ := h i x hx
    rw [List.getElem?_append_left (by rw [List.length_map]; exact hi), List.getElem?_map, hx, h1]; simp [h2, h3]
  · by_cases e : i = l.length
    · subst e
      rw [hz, List.getElem?_append_right (by rw [List.length_map]; exact Nat.le_refl _), List.length_map, Nat.sub_self]; rfl
    · rw [List.getElem?_eq_none (by omega), List.getElem?_eq_none (by rw [List.length_append, List.length_map]; simp; omega)]; rfl
/-- What a step does: as Ok says; so many kinds more, so much told. -/
structure Res (n : Int) (up : Nat) (s : St) (e b : Int) (s' : St) (ks : List (Int × Bool)) (ds : List Dg) : Prop where
  ok : Ok n up s e b s'
  kinds : sig s'.t = sig s.t ++ ks
  says : s'.d = s.d ++ ds
theorem Res.trans {n e b e1 b1 : Int} {up c : Nat} {s s1 s2 : St} {ks ks1 : List (Int × Bool)} {ds ds1 : List Dg} (h : Res n up s e b s1 ks ds) (g : Res n c s1 e1 b1 s2 ks1 ds1) : Res n c s e1 b1 s2 (ks ++ ks1) (ds ++ ds1) :=
  ⟨h.ok.trans g.ok, by rw [g.kinds, h.kinds, List.append_assoc], by rw [g.says, h.says, List.append_assoc]⟩
theorem Res.le {n e b e' b' : Int} {up : Nat} {s s' : St} {ks : List (Int × Bool)} {ds : List Dg} (h : Res n up s e b s' ks ds) (he : e ≤ e') (hb : b ≤ b') : Res n up s e' b' s' ks ds := ⟨h.ok.le he hb, h.kinds, h.says⟩
theorem Res.start {n e b : Int} {up : Nat} {s : St} (h : Ck s.t n) (g : Fits s.t e b up) : Res n up s e b s [] [] := ⟨.start h g, by simp, by simp⟩
theorem Res.out {n e b : Int} {c p : Nat} {s s' : St} {ks : List (Int × Bool)} {ds : List Dg} (h : Res n c s e b s' ks ds) {x : Nd} (hx : s'.t[c]? = some x) (hu : x.u = (p : Int)) (h0 : 0 < c) : Res n p s b b s' ks ds :=
  ⟨h.ok.out hx hu h0, h.kinds, h.says⟩
theorem Res.len {n e b : Int} {up : Nat} {s s' : St} {ks : List (Int × Bool)} {ds : List Dg} (h : Res n up s e b s' ks ds) : s'.t.length = s.t.length + ks.length := by
  have := congrArg List.length h.kinds
  rw [List.length_append] at this
  unfold sig at this
  rw [List.length_map, List.length_map] at this
  exact this
theorem res_add {n e b : Int} {up f t kind : Nat} {s : St} (hck : Ck s.t n) (hf : Fits s.t e b up) (he : e ≤ f) (hft : f ≤ t) (htn : (t : Int) ≤ n) (hk1 : 1 ≤ kind) (hk2 : kind ≤ 10) :
    ∃ s', add s up kind f t = (s', (s.t.length : Int)) ∧ Res n up s t (max b t) s' [((kind : Int), false)] [] ∧ Res n s.t.length s f (max b t) s' [((kind : Int), false)] [] ∧ (∃ x, s'.t[s.t.length]? = some x ∧ x.u = (up : Int)) ∧ 0 < s.t.length := by
  obtain ⟨s', a1, a2, a3, a4, a5⟩ := ok_add (kind := kind) (Ok.start hck hf) he hft htn hk1 hk2
  obtain ⟨r, h1, h2, h3, h4, h5, h6, h7⟩ := ck_add (f := (f : Int)) (t := (t : Int)) (kind := (kind : Int)) hck hf he (by omega) htn (by omega) (by omega)
  have hs' : s' = ⟨r, s.d⟩ := by
    unfold add at a1
    rw [h1] at a1
    exact (congrArg Prod.fst a1).symm
  have hsig : sig s'.t = sig s.t ++ [((kind : Int), false)] := by
    rw [hs']
    exact sig_more h6 (fun i x hx => by obtain ⟨x', g1, g2, _, _, g5, _⟩ := h7 i x hx; exact ⟨x', g1, g2, g5⟩) h5
  have hd : s'.d = s.d ++ [] := by rw [hs']; simp
  exact ⟨s', a1, ⟨a2, hsig, hd⟩, ⟨a3, hsig, hd⟩, a4, a5⟩
theorem res_err {n e b : Int} {up f t code : Nat} {s : St} (l : List Tk) (hck : Ck s.t n) (hf : Fits s.t e b up) (he : e ≤ f) (hft : f ≤ t) (htn : (t : Int) ≤ n) (hc : code ≠ 9) :
    Res n up s t (max b t) (err l s up f t code) [(11, false)] [⟨code, frm l f, too l (t - 1)⟩] ∧ (addN s.t up 11 f t).2 = (s.t.length : Int) := by
  obtain ⟨a1, a2⟩ := ok_err l (Ok.start hck hf) he hft htn hc
  obtain ⟨r, h1, h2, h3, h4, h5, h6, h7⟩ := ck_add (f := (f : Int)) (t := (t : Int)) (kind := 11) hck hf he (by omega) htn (by omega) (by omega)
  refine ⟨⟨a1, ?_, rfl⟩, a2⟩
  show sig (addN s.t up 11 f t).1 = _
  rw [h1]
  exact sig_more h6 (fun i x hx => by obtain ⟨x', g1, g2, _, _, g5, _⟩ := h7 i x hx; exact ⟨x', g1, g2, g5⟩) h5
theorem res_grow {n e b : Int} {up t : Nat} {s : St} (hck : Ck s.t n) (hf : Fits s.t e b up) (he : e ≤ t) (hb : b ≤ t) (htn : (t : Int) ≤ n) : Res n up s t t ⟨growN s.t up t, s.d⟩ [] [] := by
  refine ⟨ok_grow (Ok.start hck hf) he hb htn, ?_, by simp⟩
  obtain ⟨h1, h2, h3, h4⟩ := ck_grow hck hf he hb htn
  show sig (growN s.t up t) = _
  rw [List.append_nil]
  exact sig_same h3 (fun i x hx => by obtain ⟨x', g1, g2, _, _, _, g6⟩ := h4 i x hx; exact ⟨x', g1, g2, g6⟩)
/-- A token that counts is not gone past. -/
theorem trivia_here {l : List Tk} {e i : Nat} (h : cnt (raw l i) = true) : trivia l e i = i := by
  unfold trivia
  cases hf : e - i with
  | zero => rfl
  | succ f => rw [goW, if_neg (by simp [h])]
theorem trivia_one {l : List Tk} {e i : Nat} (hi : i < e) (h : cnt (raw l i) = false) : trivia l e i = trivia l e (i + 1) := by
  unfold trivia
  rw [show e - i = (e - (i + 1)) + 1 by omega, goW, if_pos (by simp [h])]
theorem trivia_end {l : List Tk} {e : Nat} : trivia l e e = e := by
  unfold trivia; rw [Nat.sub_self]; rfl
theorem blanks_here {l : List Tk} {e i : Nat} (h : raw l i ≠ 3) : blanks l e i = i := by
  unfold blanks
  cases hf : e - i with
  | zero => rfl
  | succ f => rw [goW, if_neg (by simpa using h)]
theorem lead_none {l : List Tk} {e i : Nat} (f : Nat) (h : isProp' (kd l e i) = false) : lead l e f none i = (none, i) := by
  cases f with
  | zero => rfl
  | succ f => rw [lead, if_neg (by simp [h])]
theorem kd_raw {l : List Tk} {e i : Nat} (h : i < e) (h1 : raw l i ≠ 20) (h2 : raw l i ≠ 21) : kd l e i = raw l i := by
  unfold kd; rw [if_neg (by omega)]
theorem props_here {l : List Tk} {e i : Nat} (f : Nat) (h : isProp' (kd l e i) = false) : props l e f i = i := by
  cases f with
  | zero => rfl
  | succ f => rw [props, if_neg (by simp [h])]
/-- Neither a scalar nor a colon: no key; a scalar with no colon behind: none; one with a colon: it. -/
theorem key_none {l : List Tk} {e i : Nat} (hp : isProp' (kd l e i) = false) (hs : isScal (kd l e i) = false) (h6 : kd l e i ≠ 6) : key l e i = 0 := by
  unfold key
  dsimp only
  rw [props_here _ hp]
  have h : (if isScal (kd l e i) = true then trivia l e (i + 1) else i) = i := if_neg (by simp [hs])
  rw [h, if_neg h6]
theorem key_scal {l : List Tk} {e i j : Nat} (hp : isProp' (kd l e i) = false) (hs : isScal (kd l e i) = true) (hj : trivia l e (i + 1) = j) : key l e i = if kd l e j = 6 then j + 1 else 0 := by
  unfold key
  dsimp only
  rw [props_here _ hp]
  have h : (if isScal (kd l e i) = true then trivia l e (i + 1) else i) = j := by rw [if_pos hs]; exact hj
  rw [h]
theorem key_colon {l : List Tk} {e i : Nat} (h6 : kd l e i = 6) : key l e i = i + 1 := by
  unfold key
  dsimp only
  rw [props_here _ (by rw [h6]; rfl)]
  have h : (if isScal (kd l e i) = true then trivia l e (i + 1) else i) = i := if_neg (by rw [h6]; decide)
  rw [h, if_pos h6]
/-- A scalar without TAnchors and TTags. -/
theorem val_scal {l : List Tk} {e : Nat} {n : Int} (hn : (e : Int) ≤ n) (d : Nat) {up p : Nat} {s : St} {b : Int} (hck : Ck s.t n) (hf : Fits s.t p b up) (hb : b ≤ p + 1) (hp : p < e) (hk : raw l p = 15 ∨ raw l p = 16 ∨ raw l p = 17) :
    ∃ s', valN l e d up p s = ((s.t.length : Int), p + 1, s') ∧ Res n up s (p + 1 : Nat) (p + 1 : Nat) s' [(7, false)] [] := by
  have hkd := kd_raw (l := l) (e := e) (i := p) hp (by omega) (by omega)
  have hpr : isProp' (kd l e p) = false := by rw [hkd]; rcases hk with h | h | h <;> rw [h] <;> rfl
  have hsc : isScal (kd l e p) = true := by rw [hkd]; rcases hk with h | h | h <;> rw [h] <;> rfl
  have hval : ∀ col, valF l e col up p s = ((add s up 7 p (p + 1)).2, p + 1, (add s up 7 p (p + 1)).1) := by
    intro col
    unfold valF
    dsimp only
    rw [blanks_here (by omega), lead_none _ hpr]
    dsimp only
    rw [if_neg (by omega), if_pos hsc]
    rfl
  obtain ⟨s', a1, a2, _⟩ := res_add (kind := 7) hck hf (f := p) (t := p + 1) (by omega) (by omega) (by omega) (by omega) (by omega)
  refine ⟨s', ?_, a2.le (Int.le_refl _) (by omega)⟩
  have a1 : add s up 7 p (p + 1) = (s', (s.t.length : Int)) := a1
  cases d with
  | zero => rw [valN, hval, a1]
  | succ d => rw [valN, hval, a1]
/-- Brackets without TAnchors and TTags, deep enough. -/
theorem val_open {l : List Tk} {e : Nat} {n : Int} (hn : (e : Int) ≤ n) (d : Nat) {up p : Nat} {s : St} {b : Int} (hck : Ck s.t n) (hf : Fits s.t p b up) (hb : b ≤ p + 1) (hp : p < e) (hk : raw l p = 8 ∨ raw l p = 9)
    {next : Nat} {ks : List (Int × Bool)} {ds : List Dg}
    (hc : ∀ s1 : St, Ck s1.t n → Fits s1.t (p + 1 : Nat) (p + 1 : Nat) s.t.length → s1.t.length = s.t.length + 1 →
      ∃ s2, colF l e (valN l e d) (s.t.length : Int) p (e - p) (p + 1) false s1 = (next, s2) ∧ Res n s.t.length s1 next next s2 ks ds) :
    ∃ s', valN l e (d + 1) up p s = ((s.t.length : Int), next, s') ∧ Res n up s next next s' ((((if raw l p = 9 then 10 else 9 : Nat) : Int), false) :: ks) ds := by
  have hkd := kd_raw (l := l) (e := e) (i := p) hp (by omega) (by omega)
  have hpr : isProp' (kd l e p) = false := by rw [hkd]; rcases hk with h | h <;> rw [h] <;> rfl
  have hsc : ¬ isScal (kd l e p) = true := by rw [hkd]; rcases hk with h | h <;> rw [h] <;> decide
  have hop : opens (kd l e p) = true := by rw [hkd]; rcases hk with h | h <;> rw [h] <;> rfl
  obtain ⟨kind, hkind⟩ : ∃ kind : Nat, kind = (if raw l p = 9 then 10 else 9) := ⟨_, rfl⟩
  rw [← hkind]
  have hk1 : 1 ≤ kind ∧ kind ≤ 10 := by rw [hkind]; split <;> omega
  obtain ⟨s1, a1, a2, a3, ⟨x, a4, a5⟩, a6⟩ := res_add (kind := kind) hck hf (f := p) (t := p + 1) (by omega) (by omega) (by omega) hk1.1 hk1.2
  obtain ⟨s2, c1, c2⟩ := hc s1 a3.ok.ck (a3.ok.fits.le (by omega) (by omega)) a3.len
  obtain ⟨x', b1, _, _, b2⟩ := c2.ok.keep.2 _ x a4
  refine ⟨s2, ?_, (a2.trans c2).out b1 (by omega) a6⟩
  rw [valN]
  unfold valF
  dsimp only
  rw [blanks_here (by omega), lead_none _ hpr]
  dsimp only
  rw [if_neg (by omega), if_neg hsc, if_neg (by omega), if_pos hop, hkd, ← hkind]
  show ((add s up kind p (p + 1)).2, (colF l e (valN l e d) (add s up kind p (p + 1)).2 p (e - p) (p + 1) false (add s up kind p (p + 1)).1).1, (colF l e (valN l e d) (add s up kind p (p + 1)).2 p (e - p) (p + 1) false (add s up kind p (p + 1)).1).2) = _
  rw [a1]
  dsimp only
  rw [c1]
/-- Brackets that are too deep. -/
theorem val_deep {l : List Tk} {e : Nat} {n : Int} (hn : (e : Int) ≤ n) {up p : Nat} {s : St} {b : Int} (hck : Ck s.t n) (hf : Fits s.t p b up) (hb : b ≤ p + 1) (hp : p < e) (hk : raw l p = 8 ∨ raw l p = 9) :
    ∃ s', valN l e 0 up p s = ((s.t.length : Int), balanced l e p, s') ∧ Res n up s (balanced l e p) (balanced l e p) s' [(11, false)] [⟨10, frm l p, too l (balanced l e p - 1)⟩] := by
  have hkd := kd_raw (l := l) (e := e) (i := p) hp (by omega) (by omega)
  have hpr : isProp' (kd l e p) = false := by rw [hkd]; rcases hk with h | h <;> rw [h] <;> rfl
  have hsc : ¬ isScal (kd l e p) = true := by rw [hkd]; rcases hk with h | h <;> rw [h] <;> decide
  have hop : opens (kd l e p) = true := by rw [hkd]; rcases hk with h | h <;> rw [h] <;> rfl
  have hbl := balanced_in hop
  obtain ⟨a1, a2⟩ := res_err l hck hf (f := p) (t := balanced l e p) (code := 10) (by omega) (by omega) (by omega) (by omega)
  refine ⟨_, ?_, a1.le (Int.le_refl _) (by omega)⟩
  rw [valN]
  unfold valF
  dsimp only
  rw [blanks_here (by omega), lead_none _ hpr]
  dsimp only
  rw [if_neg (by omega), if_neg hsc, if_neg (by omega), if_pos hop]
  show ((addN s.t up 11 p (balanced l e p)).2, _, err l s up p (balanced l e p) 10) = _
  rw [a2]
/-- One step of a collection. -/
theorem step_end {l : List Tk} {e : Nat} {n : Int} (hn : (e : Int) ≤ n) (val : Int → Nat → St → Int × Nat × St) {c op p j : Nat} (g : Nat) (h : Bool) {s : St} {b : Int} (hck : Ck s.t n) (hf : Fits s.t p b c) (hb : b ≤ p) (hpj : p ≤ j)
    (hj : trivia l e p = j) (hk : kd l e j = (if raw l op = 9 then 11 else 10)) :
    ∃ s', colF l e val c op (g + 1) p h s = (j + 1, s') ∧ Res n c s (j + 1 : Nat) (j + 1 : Nat) s' [] [] := by
  have hje := (kd_lt (l := l) (e := e) (i := j) (by rw [hk]; split <;> omega)).1
  refine ⟨_, ?_, res_grow hck hf (t := j + 1) (by omega) (by omega) (by omega)⟩
  rw [colF, hj, if_neg (by rw [hk]; split <;> omega), if_pos hk]
  rfl
theorem step_out {l : List Tk} {e : Nat} {n : Int} (val : Int → Nat → St → Int × Nat × St) {c op p j : Nat} (g : Nat) (h : Bool) {s : St} {b : Int} (hck : Ck s.t n) (hf : Fits s.t p b c) (hb : b ≤ p)
    (hj : trivia l e p = j) (hk : kd l e j = 0) (hp : 0 < p) (hc : cnt (raw l (p - 1)) = true) :
    ∃ s', colF l e val c op (g + 1) p h s = (p, s') ∧ Res n c s p p s' [] [⟨9, frm l op, too l op⟩] := by
  refine ⟨⟨s.t, s.d ++ [⟨9, frm l op, too l op⟩]⟩, ?_, (ok_open (Ok.start hck hf)).le (Int.le_refl _) hb, by simp, rfl⟩
  rw [colF, hj, if_pos hk, back_self l p (op + 1) hp hc]
theorem step_comma {l : List Tk} {e : Nat} {n : Int} (hn : (e : Int) ≤ n) (val : Int → Nat → St → Int × Nat × St) {c op p j : Nat} (g : Nat) {s : St} {b : Int} (hck : Ck s.t n) (hf : Fits s.t p b c) (hb : b ≤ p) (hpj : p ≤ j)
    (hj : trivia l e p = j) (hk : kd l e j = 7) :
    ∃ s', colF l e val c op (g + 1) p true s = colF l e val c op g (j + 1) false s' ∧ Res n c s (j + 1 : Nat) (j + 1 : Nat) s' [] [] := by
  have hje := (kd_lt (l := l) (e := e) (i := j) (by omega)).1
  refine ⟨_, ?_, res_grow hck hf (t := j + 1) (by omega) (by omega) (by omega)⟩
  rw [colF, hj, if_neg (by omega), if_neg (by rw [hk]; split <;> omega), if_neg (by rw [hk]; decide), if_pos hk, if_pos rfl]
  rfl
theorem step_bad {l : List Tk} {e : Nat} {n : Int} (hn : (e : Int) ≤ n) (val : Int → Nat → St → Int × Nat × St) {c op p j : Nat} (g : Nat) {s : St} {b : Int} (hck : Ck s.t n) (hf : Fits s.t p b c) (hb : b ≤ p) (hpj : p ≤ j)
    (hj : trivia l e p = j) (hk : kd l e j = 7) :
    ∃ s', colF l e val c op (g + 1) p false s = colF l e val c op g (j + 1) false s' ∧ Res n c s (j + 1 : Nat) (j + 1 : Nat) s' [(11, false)] [⟨8, frm l j, too l j⟩] := by
  have hje := (kd_lt (l := l) (e := e) (i := j) (by omega)).1
  obtain ⟨a1, _⟩ := res_err l hck hf (f := j) (t := j + 1) (code := 8) (by omega) (by omega) (by omega) (by omega)
  rw [Nat.add_sub_cancel] at a1
  refine ⟨_, ?_, a1.le (Int.le_refl _) (by omega)⟩
  rw [colF, hj, if_neg (by omega), if_neg (by rw [hk]; split <;> omega), if_neg (by rw [hk]; decide), if_pos hk, if_neg (by decide)]
/-- An item that is no pair. -/
theorem step_item {l : List Tk} {e : Nat} (val : Int → Nat → St → Int × Nat × St) {c op p j : Nat} (g : Nat) {s : St}
    (hj : trivia l e p = j) (hk : begins (kd l e j) = true) (hq : key l e j = 0) (h9 : raw l op ≠ 9) :
    colF l e val c op (g + 1) p false s = colF l e val c op g (val c j s).2.1 true (val c j s).2.2 := by
  have hb : kd l e j = 8 ∨ kd l e j = 9 ∨ kd l e j = 12 ∨ kd l e j = 14 ∨ kd l e j = 13 ∨ kd l e j = 15 ∨ kd l e j = 16 ∨ kd l e j = 17 ∨ kd l e j = 18 := by
    unfold begins isProp' isScal opens at hk
    simp at hk
    omega
  have he : ends (kd l e j) = false := by rcases hb with h | h | h | h | h | h | h | h | h <;> rw [h] <;> rfl
  rw [colF, hj, if_neg (by omega), if_neg (by split <;> omega), if_neg (by rw [he]; decide), if_neg (by omega), if_neg (by decide), if_pos (.inr hk)]
  have hi : item l e val (raw l op == 9) c j s = ((val c j s).2.1, (val c j s).2.2) := by
    unfold item
    dsimp only
    rw [hq, if_neg (by omega), if_neg (by simpa using h9)]
  rw [hi]
end Go.Proofs.Ytmlpaafclobgcaa.Fl

/- Brackets in brackets, plainly (FlowDeep); no program text. -/
namespace Go.Proofs.Ytmlpaafclobgcaa.Fl
open Go.Proofs.Ytmlpaafclobgcaa.Ar

def deepK (n i : Nat) : Nat := if i < n then 8 else if i = n then 15 else 10
def deepL (n : Nat) : List Tk := (List.range (2 * n + 1)).map (fun i => (deepK n i, i, i + 1))
theorem deep_len (n : Nat) : (deepL n).length = 2 * n + 1 := by simp [deepL]
theorem deep_get (n i : Nat) (h : i < 2 * n + 1) : (deepL n)[i]? = some (deepK n i, i, i + 1) := by
  unfold deepL
  rw [List.getElem?_map, List.getElem?_range h]; rfl
theorem deep_raw (n i : Nat) (h : i < 2 * n + 1) : raw (deepL n) i = deepK n i := by unfold raw; rw [deep_get n i h]
theorem deepK_is (n i : Nat) : deepK n i = 8 ∨ deepK n i = 15 ∨ deepK n i = 10 := by
  unfold deepK; split
  · exact .inl rfl
  · split
    · exact .inr (.inl rfl)
    · exact .inr (.inr rfl)
theorem deep_kd (n i : Nat) (h : i < 2 * n + 1) : kd (deepL n) (2 * n + 1) i = deepK n i := by
  have := deepK_is n i
  rw [kd_raw h (by rw [deep_raw n i h]; omega) (by rw [deep_raw n i h]; omega), deep_raw n i h]
theorem deep_cnt (n i : Nat) (h : i < 2 * n + 1) : cnt (raw (deepL n) i) = true := by
  rw [deep_raw n i h]
  rcases deepK_is n i with e | e | e <;> rw [e] <;> rfl
theorem deep_key (n i : Nat) (h0 : 0 < n) (h : i ≤ n) : key (deepL n) (2 * n + 1) i = 0 := by
  have hk := deep_kd n i (by omega)
  by_cases e : i = n
  · subst e
    have h15 : deepK i i = 15 := by unfold deepK; rw [if_neg (by omega), if_pos rfl]
    rw [h15] at hk
    rw [key_scal (by rw [hk]; rfl) (by rw [hk]; rfl) (trivia_here (deep_cnt i (i + 1) (by omega))), if_neg]
    rw [deep_kd i (i + 1) (by omega)]
    unfold deepK
    rw [if_neg (by omega), if_neg (by omega)]; decide
  · have h8 : deepK n i = 8 := by unfold deepK; rw [if_pos (by omega)]
    rw [h8] at hk
    exact key_none (by rw [hk]; rfl) (by rw [hk]; rfl) (by rw [hk]; decide)
/-- One more bracket round it. -/
theorem deep_more (n d i : Nat) (hi : i < n) {up : Nat} {s : St} {b : Int} (hck : Ck s.t (2 * n + 1 : Nat)) (hf : Fits s.t i b up) (hb : b ≤ i + 1) (ks : List (Int × Bool)) (ds : List Dg)
    (h : ∀ (up : Nat) (s : St) (b : Int), Ck s.t (2 * n + 1 : Nat) → Fits s.t (i + 1 : Nat) b up → b ≤ (i + 1 : Nat) + 1 →
      ∃ s', valN (deepL n) (2 * n + 1) d up (i + 1) s = ((s.t.length : Int), 2 * n + 1 - (i + 1), s') ∧ Res (2 * n + 1 : Nat) up s (2 * n + 1 - (i + 1) : Nat) (2 * n + 1 - (i + 1) : Nat) s' ks ds) :
    ∃ s', valN (deepL n) (2 * n + 1) (d + 1) up i s = ((s.t.length : Int), 2 * n + 1 - i, s') ∧ Res (2 * n + 1 : Nat) up s (2 * n + 1 - i : Nat) (2 * n + 1 - i : Nat) s' ((9, false) :: ks) ds := by
  have h8 : raw (deepL n) i = 8 := by rw [deep_raw n i (by omega)]; unfold deepK; rw [if_pos hi]
  obtain ⟨s', v1, v2⟩ := val_open (l := deepL n) (e := 2 * n + 1) (n := (2 * n + 1 : Nat)) (Int.le_refl _) d hck hf hb (by omega) (.inl h8) (next := 2 * n + 1 - i) (ks := ks) (ds := ds) (fun s1 g1 g2 g3 => by
    obtain ⟨s2, w1, w2⟩ := h s.t.length s1 (i + 1 : Nat) g1 g2 (by omega)
    have hbg : begins (kd (deepL n) (2 * n + 1) (i + 1)) = true := by
      rw [deep_kd n _ (by omega)]
      unfold deepK
      split
      · rfl
      · rw [if_pos (by omega)]; rfl
    have st := step_item (l := deepL n) (e := 2 * n + 1) (valN (deepL n) (2 * n + 1) d) (c := s.t.length) (op := i) (p := i + 1) (j := i + 1) (2 * n + 1 - i - 1) (s := s1)
      (trivia_here (deep_cnt n (i + 1) (by omega))) hbg (deep_key n (i + 1) (by omega) (by omega)) (by omega)
    obtain ⟨s3, x1, x2⟩ := step_end (l := deepL n) (e := 2 * n + 1) (n := (2 * n + 1 : Nat)) (Int.le_refl _) (valN (deepL n) (2 * n + 1) d) (c := s.t.length) (op := i) (p := 2 * n + 1 - (i + 1)) (j := 2 * n + 1 - (i + 1)) (2 * n + 1 - i - 2) true
      w2.ok.ck w2.ok.fits (Int.le_refl _) (Nat.le_refl _) (trivia_here (deep_cnt n _ (by omega))) (by
        rw [h8, if_neg (by decide), deep_kd n _ (by omega)]
        unfold deepK
        rw [if_neg (by omega), if_neg (by omega)])
    have hf1 : 2 * n + 1 - i = (2 * n + 1 - i - 1) + 1 := by omega
    have hf2 : 2 * n + 1 - i - 1 = (2 * n + 1 - i - 2) + 1 := by omega
    have hn1 : 2 * n + 1 - (i + 1) + 1 = 2 * n + 1 - i := by omega
    refine ⟨s3, ?_, ?_⟩
    · rw [show colF (deepL n) (2 * n + 1) (valN (deepL n) (2 * n + 1) d) (s.t.length : Int) i (2 * n + 1 - i) (i + 1) false s1 = colF (deepL n) (2 * n + 1) (valN (deepL n) (2 * n + 1) d) (s.t.length : Int) i ((2 * n + 1 - i - 1) + 1) (i + 1) false s1 by rw [← hf1], st, w1]
      dsimp only
      rw [hf2, x1, hn1]
    · rw [hn1] at x2
      have := w2.trans x2
      rw [List.append_nil, List.append_nil] at this
      exact this)
  refine ⟨s', v1, ?_⟩
  rw [h8] at v2
  exact v2
theorem deep_in (n : Nat) : ∀ (d i : Nat), i ≤ n → n - i ≤ d → ∀ (up : Nat) (s : St) (b : Int), Ck s.t (2 * n + 1 : Nat) → Fits s.t i b up → b ≤ i + 1 →
    ∃ s', valN (deepL n) (2 * n + 1) d up i s = ((s.t.length : Int), 2 * n + 1 - i, s') ∧ Res (2 * n + 1 : Nat) up s (2 * n + 1 - i : Nat) (2 * n + 1 - i : Nat) s' (List.replicate (n - i) (9, false) ++ [(7, false)]) [] := by
  intro d
  induction d with
  | zero =>
    intro i hi hd up s b hck hf hb
    obtain rfl : i = n := by omega
    obtain ⟨s', h1, h2⟩ := val_scal (l := deepL i) (e := 2 * i + 1) (n := (2 * i + 1 : Nat)) (Int.le_refl _) 0 hck hf hb (by omega) (.inl (by rw [deep_raw i i (by omega)]; unfold deepK; rw [if_neg (by omega), if_pos rfl]))
    have e : 2 * i + 1 - i = i + 1 := by omega
    rw [e, Nat.sub_self]
    exact ⟨s', h1, h2⟩
  | succ d ih =>
    intro i hi hd up s b hck hf hb
    by_cases e : i = n
    · subst e
      obtain ⟨s', h1, h2⟩ := val_scal (l := deepL i) (e := 2 * i + 1) (n := (2 * i + 1 : Nat)) (Int.le_refl _) (d + 1) hck hf hb (by omega) (.inl (by rw [deep_raw i i (by omega)]; unfold deepK; rw [if_neg (by omega), if_pos rfl]))
      have e : 2 * i + 1 - i = i + 1 := by omega
      rw [e, Nat.sub_self]
      exact ⟨s', h1, h2⟩
    · obtain ⟨s', h1, h2⟩ := deep_more n d i (by omega) hck hf hb (List.replicate (n - (i + 1)) (9, false) ++ [(7, false)]) [] (fun up s b h1 h2 h3 => ih (i + 1) (by omega) (by omega) up s b h1 h2 (by omega))
      refine ⟨s', h1, ?_⟩
      rw [show n - i = (n - (i + 1)) + 1 by omega, List.replicate_succ]
      exact h2
theorem bal_down (n : Nat) : ∀ (k f j : Nat), n < j → j + k ≤ 2 * n + 1 → 0 < k → k ≤ f → balF (deepL n) (2 * n + 1) f j k = some (j + k)
  | k, 0, j => fun _ _ h3 h4 => by omega
  | k, f + 1, j => fun h1 h2 h3 h4 => by
    have hk : kd (deepL n) (2 * n + 1) j = 10 := by rw [deep_kd n j (by omega)]; unfold deepK; rw [if_neg (by omega), if_neg (by omega)]
    rw [balF, hk, if_neg (by decide), show step 10 k = k - 1 from rfl]
    by_cases e : k - 1 = 0
    · rw [if_pos e, show j + k = j + 1 by omega]
    · rw [if_neg e, bal_down n (k - 1) f (j + 1) (by omega) (by omega) (by omega) (by omega), show j + 1 + (k - 1) = j + k by omega]
theorem bal_up (n i : Nat) (hi : i < n) : ∀ (a j f : Nat), n - j = a → i ≤ j → j ≤ n → 2 * n + 1 - j ≤ f → balF (deepL n) (2 * n + 1) f j (j - i) = some (2 * n + 1 - i)
  | _, j, 0 => fun _ _ _ h4 => by omega
  | a, j, f + 1 => fun h1 h2 h3 h4 => by
    by_cases e : j = n
    · subst e
      have hk : kd (deepL j) (2 * j + 1) j = 15 := by rw [deep_kd j j (by omega)]; unfold deepK; rw [if_neg (by omega), if_pos rfl]
      rw [balF, hk, if_neg (by decide), show step 15 (j - i) = j - i from rfl, if_neg (by omega), bal_down j (j - i) f (j + 1) (by omega) (by omega) (by omega) (by omega), show j + 1 + (j - i) = 2 * j + 1 - i by omega]
    · have hk : kd (deepL n) (2 * n + 1) j = 8 := by rw [deep_kd n j (by omega)]; unfold deepK; rw [if_pos (by omega)]
      rw [balF, hk, if_neg (by decide), show step 8 (j - i) = j - i + 1 from rfl, if_neg (by omega), show j - i + 1 = j + 1 - i by omega]
      exact bal_up n i hi (n - (j + 1)) (j + 1) f rfl (by omega) (by omega) (by omega)
theorem deep_out (n : Nat) : ∀ (d i : Nat), i < n → d < n - i → ∀ (up : Nat) (s : St) (b : Int), Ck s.t (2 * n + 1 : Nat) → Fits s.t i b up → b ≤ i + 1 →
    ∃ s', valN (deepL n) (2 * n + 1) d up i s = ((s.t.length : Int), 2 * n + 1 - i, s') ∧ Res (2 * n + 1 : Nat) up s (2 * n + 1 - i : Nat) (2 * n + 1 - i : Nat) s' (List.replicate d (9, false) ++ [(11, false)]) [⟨10, i + d, 2 * n + 1 - i - d⟩] := by
  intro d
  induction d with
  | zero =>
    intro i hi hd up s b hck hf hb
    have h8 : raw (deepL n) i = 8 := by rw [deep_raw n i (by omega)]; unfold deepK; rw [if_pos hi]
    obtain ⟨s', h1, h2⟩ := val_deep (l := deepL n) (e := 2 * n + 1) (n := (2 * n + 1 : Nat)) (Int.le_refl _) hck hf hb (by omega) (.inl h8)
    have hbal : balanced (deepL n) (2 * n + 1) i = 2 * n + 1 - i := by
      unfold balanced
      have := bal_up n i hi (n - i) i (2 * n + 1 - i) rfl (Nat.le_refl _) (by omega) (Nat.le_refl _)
      rw [Nat.sub_self] at this
      rw [this]
    rw [hbal] at h1 h2
    refine ⟨s', h1, ?_⟩
    have e1 : frm (deepL n) i = i := by unfold frm; rw [deep_get n i (by omega)]
    have e2 : too (deepL n) (2 * n + 1 - i - 1) = 2 * n + 1 - i := by unfold too; rw [deep_get n _ (by omega)]; show 2 * n + 1 - i - 1 + 1 = _; omega
    rw [e1, e2] at h2
    exact h2
  | succ d ih =>
    intro i hi hd up s b hck hf hb
    obtain ⟨s', h1, h2⟩ := deep_more n d i hi hck hf hb (List.replicate d (9, false) ++ [(11, false)]) [⟨10, i + (d + 1), 2 * n + 1 - i - (d + 1)⟩] (fun up s b h1 h2 h3 => by
      obtain ⟨s', g1, g2⟩ := ih (i + 1) (by omega) (by omega) up s b h1 h2 (by omega)
      refine ⟨s', g1, ?_⟩
      rw [show i + 1 + d = i + (d + 1) by omega, show 2 * n + 1 - (i + 1) - d = 2 * n + 1 - i - (d + 1) by omega] at g2
      exact g2)
    exact ⟨s', h1, h2⟩
end Go.Proofs.Ytmlpaafclobgcaa.Fl

/- Brackets, plainly: tokens of a byte each; commas (FlowCommas); no program text. -/
namespace Go.Proofs.Ytmlpaafclobgcaa.Fl
open Go.Proofs.Ytmlpaafclobgcaa.Ar

/-- Tokens of a byte each, by their kinds. -/
def lets (K : List Nat) : List Tk := (List.range K.length).map (fun i => (K.getD i 0, i, i + 1))
theorem lets_len (K : List Nat) : (lets K).length = K.length := by simp [lets]
theorem lets_get {K : List Nat} {i k : Nat} (h : K[i]? = some k) : (lets K)[i]? = some (k, i, i + 1) := by
  have hi := (List.getElem?_eq_some_iff.1 h).1
  unfold lets
  rw [List.getElem?_map, List.getElem?_range hi]
  simp [h]
theorem lets_raw {K : List Nat} {i k : Nat} (h : K[i]? = some k) : raw (lets K) i = k := by unfold raw; rw [lets_get h]
theorem lets_kd {K : List Nat} {i k : Nat} (h : K[i]? = some k) (h1 : k ≠ 20) (h2 : k ≠ 21) : kd (lets K) K.length i = k := by
  rw [kd_raw (List.getElem?_eq_some_iff.1 h).1 (by rw [lets_raw h]; exact h1) (by rw [lets_raw h]; exact h2), lets_raw h]
theorem lets_here {K : List Nat} {i k : Nat} (e : Nat) (h : K[i]? = some k) (hc : cnt k = true) : trivia (lets K) e i = i := trivia_here (by rw [lets_raw h]; exact hc)

/-- What commas and letters lead to: kinds of nodes, and how many commas have nothing ahead. -/
def comK : Bool → List Nat → List (Int × Bool)
  | _, [] => []
  | h, k :: r => if k = 15 then (7, false) :: comK true r else if h = true then comK false r else (11, false) :: comK false r
def comD : Bool → Nat → List Nat → List Dg
  | _, _, [] => []
  | h, p, k :: r => if k = 15 then comD true (p + 1) r else if h = true then comD false (p + 1) r else ⟨8, p, p + 1⟩ :: comD false (p + 1) r
/-- Letters and commas, no two letters side by side. -/
def comOk : Bool → List Nat → Prop
  | _, [] => True
  | h, k :: r => (k = 15 ∧ h = false ∧ comOk true r) ∨ (k = 7 ∧ comOk false r)
theorem com_run (K : List Nat) (d c : Nat) (h0 : K[0]? = some 8) : ∀ (r : List Nat) (g p : Nat) (h : Bool) (s : St) (b : Int), K.drop p = r ++ [10] → r.length < g → comOk h r → 0 < p →
    Ck s.t K.length → Fits s.t p b c → b ≤ p →
    ∃ s', colF (lets K) K.length (valN (lets K) K.length d) c 0 g p h s = (p + r.length + 1, s') ∧ Res K.length c s (p + r.length + 1 : Nat) (p + r.length + 1 : Nat) s' (comK h r) (comD h p r)
  | [], 0, p, h, s, b => fun _ hg => absurd hg (Nat.lt_irrefl _)
  | [], g + 1, p, h, s, b => fun hd _ _ hp hck hf hb => by
    have h10 : K[p]? = some 10 := by
      have := congrArg (fun x => x[0]?) hd
      simpa using this
    obtain ⟨s', a1, a2⟩ := step_end (l := lets K) (e := K.length) (n := K.length) (Int.le_refl _) (valN (lets K) K.length d) (c := c) (op := 0) (p := p) (j := p) g h hck hf hb (Nat.le_refl _) (lets_here _ h10 rfl) (by rw [lets_kd h10 (by decide) (by decide), lets_raw h0]; rfl)
    exact ⟨s', a1, a2⟩
  | k :: r, 0, p, h, s, b => fun _ hg => absurd hg (Nat.not_lt_zero _)
  | k :: r, g + 1, p, h, s, b => fun hd hg hok hp hck hf hb => by
    have hk : K[p]? = some k := by
      have := congrArg (fun x => x[0]?) hd
      simpa using this
    have hd' : K.drop (p + 1) = r ++ [10] := by
      have := congrArg (List.drop 1) hd
      rw [List.drop_drop] at this
      simpa using this
    have hlen : p < K.length := (List.getElem?_eq_some_iff.1 hk).1
    simp only [List.length_cons] at hg ⊢
    rcases hok with ⟨rfl, rfl, hok⟩ | ⟨rfl, hok⟩
    · -- a letter
      have hkd := lets_kd hk (by decide) (by decide)
      have hnext : ∃ k', K[p + 1]? = some k' ∧ (k' = 7 ∨ k' = 10) := by
        cases r with
        | nil =>
          have := congrArg (fun x => x[0]?) hd'
          exact ⟨10, by simpa using this, .inr rfl⟩
        | cons k' r' =>
          have := congrArg (fun x => x[0]?) hd'
          rcases hok with ⟨_, h2, _⟩ | ⟨rfl, _⟩
          · exact absurd h2 (by decide)
          · exact ⟨7, by simpa using this, .inl rfl⟩
      obtain ⟨k', hk', hk7⟩ := hnext
      have hc' : cnt k' = true := by rcases hk7 with rfl | rfl <;> rfl
      have hkey : key (lets K) K.length p = 0 := by
        rw [key_scal (by rw [hkd]; rfl) (by rw [hkd]; rfl) (lets_here _ hk' hc'), lets_kd hk' (by omega) (by omega), if_neg (by omega)]
      obtain ⟨s1, v1, v2⟩ := val_scal (l := lets K) (e := K.length) (n := K.length) (Int.le_refl _) d hck hf (by omega) hlen (.inl (lets_raw hk))
      have st := step_item (l := lets K) (e := K.length) (valN (lets K) K.length d) (c := c) (op := 0) (p := p) (j := p) g (s := s) (lets_here _ hk rfl) (by rw [hkd]; rfl) hkey (by rw [lets_raw h0]; decide)
      obtain ⟨s2, w1, w2⟩ := com_run K d c h0 r g (p + 1) true s1 (p + 1 : Nat) hd' (by omega) hok (by omega) v2.ok.ck v2.ok.fits (Int.le_refl _)
      refine ⟨s2, by rw [st, v1]; dsimp only; rw [w1]; congr 1; omega, ?_⟩
      rw [show p + (r.length + 1) + 1 = p + 1 + r.length + 1 by omega]
      exact v2.trans w2
    · -- a comma
      have hkd := lets_kd hk (by decide) (by decide)
      cases h with
      | true =>
        obtain ⟨s1, v1, v2⟩ := step_comma (l := lets K) (e := K.length) (n := K.length) (Int.le_refl _) (valN (lets K) K.length d) (c := c) (op := 0) (p := p) (j := p) g hck hf hb (Nat.le_refl _) (lets_here _ hk rfl) hkd
        obtain ⟨s2, w1, w2⟩ := com_run K d c h0 r g (p + 1) false s1 (p + 1 : Nat) hd' (by omega) hok (by omega) v2.ok.ck v2.ok.fits (Int.le_refl _)
        refine ⟨s2, by rw [v1, w1]; congr 1; omega, ?_⟩
        rw [show p + (r.length + 1) + 1 = p + 1 + r.length + 1 by omega]
        exact v2.trans w2
      | false =>
        obtain ⟨s1, v1, v2⟩ := step_bad (l := lets K) (e := K.length) (n := K.length) (Int.le_refl _) (valN (lets K) K.length d) (c := c) (op := 0) (p := p) (j := p) g hck hf hb (Nat.le_refl _) (lets_here _ hk rfl) hkd
        obtain ⟨s2, w1, w2⟩ := com_run K d c h0 r g (p + 1) false s1 (p + 1 : Nat) hd' (by omega) hok (by omega) v2.ok.ck v2.ok.fits (Int.le_refl _)
        have e1 : frm (lets K) p = p := by unfold frm; rw [lets_get hk]
        have e2 : too (lets K) p = p + 1 := by unfold too; rw [lets_get hk]
        rw [e1, e2] at v2
        refine ⟨s2, by rw [v1, w1]; congr 1; omega, ?_⟩
        rw [show p + (r.length + 1) + 1 = p + 1 + r.length + 1 by omega]
        exact v2.trans w2
/-- FlowCommas, plainly. -/
theorem com_all (r : List Nat) (d : Nat) (hr : r.length ≤ 1000) (hok : comOk false r) :
    ∃ s', valN (lets (8 :: r ++ [10])) (r.length + 2) (d + 1) 0 0 ⟨newN (r.length + 2 : Nat), []⟩ = (1, r.length + 2, s') ∧
      sig s'.t = (1, false) :: (9, false) :: comK false r ∧ s'.d = comD false 1 r ∧ Good s'.t := by
  obtain ⟨K, hK⟩ : ∃ K, 8 :: r ++ [10] = K := ⟨_, rfl⟩
  have hl : K.length = r.length + 2 := by rw [← hK]; simp
  have h0 : K[0]? = some 8 := by rw [← hK]; rfl
  have hd : K.drop 1 = r ++ [10] := by rw [← hK]; rfl
  rw [hK, ← hl]
  have hck := ck_new (K.length : Int) (by omega) (by omega)
  obtain ⟨s', v1, v2⟩ := val_open (l := lets K) (e := K.length) (n := K.length) (Int.le_refl _) d (up := 0) (p := 0) (s := ⟨newN K.length, []⟩) (b := 0) hck (fits_new _ _ (by omega) (by omega) (by omega)) (by omega) (by omega) (.inl (lets_raw h0))
    (next := K.length) (ks := comK false r) (ds := comD false 1 r) (fun s1 g1 g2 g3 => by
      obtain ⟨s2, w1, w2⟩ := com_run K d 1 h0 r (K.length - 0) 1 false s1 (0 + 1 : Nat) hd (by omega) hok (by omega) g1 g2 (by omega)
      have e : 1 + r.length + 1 = K.length := by omega
      rw [e] at w1 w2
      exact ⟨s2, w1, w2⟩)
  rw [lets_raw h0] at v2
  exact ⟨s', v1, v2.kinds, v2.says, v2.ok.ck.good⟩
end Go.Proofs.Ytmlpaafclobgcaa.Fl

/- Brackets without an end, plainly (FlowOpen); no program text. -/
namespace Go.Proofs.Ytmlpaafclobgcaa.Fl
open Go.Proofs.Ytmlpaafclobgcaa.Ar

/-- "[a, " again and again. -/
def openK (i : Nat) : Nat := if i % 4 = 0 then 8 else if i % 4 = 1 then 15 else if i % 4 = 2 then 7 else 3
def openS : Nat → List (Int × Bool)
  | 0 => []
  | m + 1 => (9, false) :: (7, false) :: openS m
/-- m of them, the last one at n - 1: the innermost first. -/
def openD (n : Nat) : Nat → List Dg
  | 0 => []
  | m + 1 => openD n m ++ [⟨9, 4 * (n - (m + 1)), 4 * (n - (m + 1)) + 1⟩]
structure Opened (l : List Tk) (n : Nat) : Prop where
  get : ∀ i, i < 4 * n → l[i]? = some (openK i, i, i + 1)
  out : kd l l.length (trivia l l.length (4 * n - 1)) = 0
theorem Opened.raw {l : List Tk} {n i : Nat} (h : Opened l n) (hi : i < 4 * n) : raw l i = openK i := by unfold Fl.raw; rw [h.get i hi]
theorem openK_is (i : Nat) : openK i = 8 ∨ openK i = 15 ∨ openK i = 7 ∨ openK i = 3 := by
  unfold openK
  split
  · exact .inl rfl
  · split
    · exact .inr (.inl rfl)
    · split
      · exact .inr (.inr (.inl rfl))
      · exact .inr (.inr (.inr rfl))
theorem Opened.len {l : List Tk} {n : Nat} (h : Opened l n) (h0 : 0 < n) : 4 * n ≤ l.length := by
  have := (List.getElem?_eq_some_iff.1 (h.get (4 * n - 1) (by omega))).1
  omega
theorem Opened.kd {l : List Tk} {n i : Nat} (h : Opened l n) (hi : i < 4 * n) : kd l l.length i = openK i := by
  have h1 := (List.getElem?_eq_some_iff.1 (h.get i hi)).1
  have h2 := openK_is i
  rw [kd_raw h1 (by rw [h.raw hi]; omega) (by rw [h.raw hi]; omega), h.raw hi]
theorem open_run {l : List Tk} {n : Nat} (h : Opened l n) : ∀ (m d : Nat), m ≤ d → 0 < m → m ≤ n → ∀ (up : Nat) (s : St) (b : Int), Ck s.t l.length → Fits s.t (4 * (n - m) : Nat) b up → b ≤ (4 * (n - m) : Nat) + 1 →
    ∃ s', valN l l.length d up (4 * (n - m)) s = ((s.t.length : Int), 4 * n - 1, s') ∧ Res l.length up s (4 * n - 1 : Nat) (4 * n - 1 : Nat) s' (openS m) (openD n m)
  | 0, _ => fun _ h0 => absurd h0 (Nat.lt_irrefl _)
  | m + 1, 0 => fun hd => absurd hd (by omega)
  | m + 1, d + 1 => fun hd _ hmn up s b hck hf hb => by
    have hL := h.len (by omega)
    obtain ⟨p, hp⟩ : ∃ p, 4 * (n - (m + 1)) = p := ⟨_, rfl⟩
    have hp3 : p + 4 ≤ 4 * n := by omega
    have hm4 : p % 4 = 0 := by omega
    rw [hp] at hf hb ⊢
    have k0 : openK p = 8 := by unfold openK; rw [if_pos hm4]
    have k1 : openK (p + 1) = 15 := by unfold openK; rw [if_neg (by omega), if_pos (by omega)]
    have k2 : openK (p + 2) = 7 := by unfold openK; rw [if_neg (by omega), if_neg (by omega), if_pos (by omega)]
    have k3 : openK (p + 3) = 3 := by unfold openK; rw [if_neg (by omega), if_neg (by omega), if_neg (by omega)]
    have r0 := h.raw (i := p) (by omega)
    have r1 := h.raw (i := p + 1) (by omega)
    have r2 := h.raw (i := p + 2) (by omega)
    have r3 := h.raw (i := p + 3) (by omega)
    have d1 := h.kd (i := p + 1) (by omega)
    have d2 := h.kd (i := p + 2) (by omega)
    rw [k0] at r0
    rw [k1] at r1 d1
    rw [k2] at r2 d2
    rw [k3] at r3
    have t1 : trivia l l.length (p + 1) = p + 1 := trivia_here (by rw [r1]; rfl)
    have t2 : trivia l l.length (p + 2) = p + 2 := trivia_here (by rw [r2]; rfl)
    have eo : frm l p = p := by unfold frm; rw [h.get p (by omega)]
    have et : too l p = p + 1 := by unfold too; rw [h.get p (by omega)]
    obtain ⟨s', v1, v2⟩ := val_open (l := l) (e := l.length) (n := l.length) (Int.le_refl _) d hck hf hb (by omega) (.inl r0) (next := 4 * n - 1) (ks := (7, false) :: openS m) (ds := openD n m ++ [⟨9, p, p + 1⟩]) (fun s1 g1 g2 g3 => by
      obtain ⟨c, hc⟩ : ∃ c, s.t.length = c := ⟨_, rfl⟩
      rw [hc] at g2 g3 ⊢
      obtain ⟨g, hg⟩ : ∃ g, l.length - p = g + 4 := ⟨l.length - p - 4, by omega⟩
      rw [hg]
      have hkey : key l l.length (p + 1) = 0 := by rw [key_scal (by rw [d1]; rfl) (by rw [d1]; rfl) t2, d2]; rfl
      have i1 := step_item (l := l) (e := l.length) (valN l l.length d) (c := c) (op := p) (p := p + 1) (j := p + 1) (g + 3) (s := s1) t1 (by rw [d1]; rfl) hkey (by omega)
      obtain ⟨s2, x1, x2⟩ := val_scal (l := l) (e := l.length) (n := l.length) (Int.le_refl _) d (up := c) g1 g2 (by omega) (by omega) (.inl r1)
      obtain ⟨s3, y1, y2⟩ := step_comma (l := l) (e := l.length) (n := l.length) (Int.le_refl _) (valN l l.length d) (c := c) (op := p) (p := p + 2) (j := p + 2) (g + 2) x2.ok.ck x2.ok.fits (Int.le_refl _) (Nat.le_refl _) t2 d2
      have hx : colF l l.length (valN l l.length d) c p (g + 4) (p + 1) false s1 = colF l l.length (valN l l.length d) c p (g + 2) (p + 3) false s3 := by
        rw [i1, x1]; exact y1
      have q := x2.trans y2
      rcases Nat.eq_zero_or_pos m with rfl | hm
      · -- the innermost one
        have e1 : p + 3 = 4 * n - 1 := by omega
        obtain ⟨s4, z1, z2⟩ := step_out (l := l) (e := l.length) (n := l.length) (valN l l.length d) (c := c) (op := p) (p := p + 3) (j := trivia l l.length (4 * n - 1)) (g + 1) false y2.ok.ck y2.ok.fits (Int.le_refl _) (by rw [e1]) h.out (by omega) (by show cnt (raw l (p + 2)) = true; rw [r2]; rfl)
        rw [eo, et, e1] at z2
        refine ⟨s4, ?_, q.trans z2⟩
        rw [hx, z1, e1]
      · -- one more in it
        have e1 : p + 4 = 4 * (n - m) := by omega
        have r4 := h.raw (i := p + 4) (by omega)
        have d4 := h.kd (i := p + 4) (by omega)
        have k4 : openK (p + 4) = 8 := by unfold openK; rw [if_pos (by omega)]
        rw [k4] at r4 d4
        have t4 : trivia l l.length (p + 3) = p + 4 := by rw [trivia_one (by omega) (by rw [r3]; rfl)]; exact trivia_here (by rw [r4]; rfl)
        have i2 := step_item (l := l) (e := l.length) (valN l l.length d) (c := c) (op := p) (p := p + 3) (j := p + 4) (g + 1) (s := s3) t4 (by rw [d4]; rfl) (key_none (by rw [d4]; rfl) (by rw [d4]; rfl) (by rw [d4]; decide)) (by omega)
        obtain ⟨s4, w1, w2⟩ := open_run h m d (by omega) hm (by omega) c s3 (p + 3 : Nat) y2.ok.ck (y2.ok.fits.le (by omega) (Int.le_refl _)) (by omega)
        rw [← e1] at w1
        have hcl : cnt (raw l (4 * n - 1 - 1)) = true := by
          rw [h.raw (by omega)]; unfold openK; rw [if_neg (by omega), if_neg (by omega), if_pos (by omega)]; rfl
        obtain ⟨s5, z1, z2⟩ := step_out (l := l) (e := l.length) (n := l.length) (valN l l.length d) (c := c) (op := p) (p := 4 * n - 1) (j := trivia l l.length (4 * n - 1)) g true w2.ok.ck w2.ok.fits (Int.le_refl _) rfl h.out (by omega) hcl
        rw [eo, et] at z2
        refine ⟨s5, ?_, ?_⟩
        · rw [hx, i2, w1]; exact z1
        · have f := (q.trans w2).trans z2
          rw [List.append_nil] at f
          exact f)
    rw [r0] at v2
    refine ⟨s', v1, ?_⟩
    rw [openD, hp]
    exact v2
/-- FlowOpen, plainly. -/
theorem open_all {l : List Tk} {n : Nat} (h : Opened l n) (h0 : 0 < n) (d : Nat) (hd : n ≤ d) (hl : l.length ≤ 32768) :
    ∃ s', valN l l.length d 0 0 ⟨newN l.length, []⟩ = (1, 4 * n - 1, s') ∧ sig s'.t = (1, false) :: openS n ∧ s'.d = openD n n ∧ Good s'.t := by
  have hck := ck_new (l.length : Int) (by omega) (by omega)
  have hf := fits_new (l.length : Int) 0 (by omega) (by omega) (Int.le_refl _)
  obtain ⟨s', v1, v2⟩ := open_run h n d hd h0 (Nat.le_refl _) 0 ⟨newN l.length, []⟩ 0 hck (by rw [Nat.sub_self]; exact hf) (by omega)
  rw [Nat.sub_self] at v1
  exact ⟨s', v1, v2.kinds, v2.says, v2.ok.ck.good⟩
theorem openD_len (n : Nat) : ∀ m, (openD n m).length = m ∧ ∀ x ∈ openD n m, x.code = 9 ∧ x.t = x.f + 1
  | 0 => ⟨rfl, fun x hx => by simp [openD] at hx⟩
  | m + 1 => by
    have ih := openD_len n m
    refine ⟨by simp [openD, ih.1], fun x hx => ?_⟩
    rw [openD, List.mem_append] at hx
    rcases hx with hx | hx
    · exact ih.2 x hx
    · simp at hx; subst hx; exact ⟨rfl, rfl⟩
end Go.Proofs.Ytmlpaafclobgcaa.Fl
