/- Several texts in one: Fly Flz. -/
import Derived.Test.YtmlpaafclobgcaaMgE
/- Pairs in brackets, plainly (what FlowPairs asks of): pairs, items, and the tree's kinds; no program text. -/
namespace Go.Proofs.Ytmlpaafclobgcaa.Fl
open Go.Proofs.Ytmlpaafclobgcaa.Ar

theorem sig_keyed {l : List Nd} {i : Nat} {x : Nd} (h : l[i]? = some x) : sig (keyed l i) = (sig l).set i (x.k, true) := by
  unfold keyed
  rw [Int.toNat_natCast, h]
  unfold sig
  rw [List.map_set]
theorem sig_get {l : List Nd} {i : Nat} {x : Nd} (h : l[i]? = some x) : (sig l)[i]? = some (x.k, x.y) := by unfold sig; rw [List.getElem?_map, h]; rfl
theorem set_mid {α : Type} (a : List α) (x y : α) (r : List α) (n : Nat) (h : n = a.length) : (a ++ x :: r).set n y = a ++ y :: r := by
  subst h
  induction a with
  | nil => rfl
  | cons z a ih => exact congrArg (z :: ·) ih
/-- A pair over a key's tokens, none of which is an alias. -/
theorem res_pair (l : List Tk) (e : Nat) (n : Int) (hn : (e : Int) ≤ n) {c j q : Nat} {s : St} {b : Int} (hck : Ck s.t n) (hf : Fits s.t j b c) (hb : b ≤ j) (hjq : j < q) (hqe : q ≤ e)
    (ha : (List.range (q - j)).any (fun x => raw l (j + x) == 13) = false) :
    ∃ s', pair l s c j q = (s', (s.t.length : Int)) ∧ Res n s.t.length s q q s' (if q - j < 2 then [(6, false)] else [(6, true), (7, false)]) [] ∧ (∃ x, s'.t[s.t.length]? = some x ∧ x.u = (c : Int)) ∧ 0 < s.t.length := by
  obtain ⟨s1, a1, _, a3, ⟨x, a4, a5⟩, a6⟩ := res_add (kind := 6) hck hf (f := j) (t := q) (by omega) (by omega) (by omega) (by omega) (by omega)
  have a1 : add s c 6 j q = (s1, (s.t.length : Int)) := a1
  unfold pair
  dsimp only
  rw [a1]
  dsimp only
  by_cases h : q - j < 2
  · rw [if_pos h, if_pos h]
    exact ⟨s1, rfl, a3.le (by omega) (by omega), ⟨x, a4, a5⟩, a6⟩
  · rw [if_neg h, if_neg h, ha]
    have b1 := back_le l (q - 1) (j + 1)
    have b2 := back_ge l (q - 1) (j + 1) (by omega)
    obtain ⟨s2, d1, d2, _⟩ := res_add (kind := 7) a3.ok.ck a3.ok.fits (f := j) (t := back l (q - 1) (j + 1)) (by omega) (by omega) (by omega) (by omega) (by omega)
    have d1 : add s1 (s.t.length : Int) 7 j (back l (q - 1) (j + 1)) = (s2, (s1.t.length : Int)) := d1
    have d1' : add s1 (s.t.length : Int) (if false = true then 8 else 7) j (back l (q - 1) (j + 1)) = (s2, (s1.t.length : Int)) := d1
    rw [d1']
    dsimp only
    have f := a3.trans d2
    obtain ⟨x2, g1, _, _, g2⟩ := d2.ok.keep.2 _ x a4
    have hk := ok_keyed (s.t.length : Int) f.ok
    obtain ⟨_, kk⟩ := keyed_get s2.t (s.t.length : Int)
    obtain ⟨x3, k1, _, _, _, k2, _⟩ := kk _ x2 g1
    have hs : sig s2.t = sig s.t ++ [(6, false), (7, false)] := f.kinds
    have hx : x2.k = 6 := by
      have h1 := sig_get g1
      rw [hs, List.getElem?_append_right (by unfold sig; rw [List.length_map]; exact Nat.le_refl _)] at h1
      unfold sig at h1
      rw [List.length_map, Nat.sub_self] at h1
      injection h1 with h1
      exact (congrArg Prod.fst h1).symm
    refine ⟨_, rfl, ⟨hk.le (by omega) (by omega), ?_, f.says⟩, ⟨x3, k1, by omega⟩, a6⟩
    show sig (keyed s2.t (s.t.length : Int)) = _
    rw [sig_keyed g1, hs, hx]
    exact set_mid _ _ _ _ _ (by unfold sig; rw [List.length_map])
/-- One item: whatever it is. -/
theorem step_any {l : List Tk} {e : Nat} (val : Int → Nat → St → Int × Nat × St) {c : Int} {op p j : Nat} (g : Nat) {s : St}
    (hj : trivia l e p = j) (hk : kd l e j = 6 ∨ kd l e j = 15 ∨ kd l e j = 16) (hi : 0 < key l e j ∨ begins (kd l e j) = true) :
    colF l e val c op (g + 1) p false s = colF l e val c op g (item l e val (raw l op == 9) c j s).1 true (item l e val (raw l op == 9) c j s).2 := by
  have he : ends (kd l e j) = false := by rcases hk with h | h | h <;> rw [h] <;> rfl
  rw [colF, hj, if_neg (by omega), if_neg (by split <;> omega), if_neg (by rw [he]; decide), if_neg (by omega), if_neg (by decide), if_pos hi]
/-- A key and what is behind it: nothing. -/
theorem item_bare {l : List Tk} {e : Nat} {n : Int} (hn : (e : Int) ≤ n) (val : Int → Nat → St → Int × Nat × St) (dict : Bool) {c j q : Nat} {s : St} {b : Int} (hck : Ck s.t n) (hf : Fits s.t j b c) (hb : b ≤ j) (hje : j ≤ e)
    (hq : key l e j = q) (h0 : 0 < q) (ha : (List.range (q - j)).any (fun x => raw l (j + x) == 13) = false) (hx : kd l e (trivia l e q) = 0 ∨ kd l e (trivia l e q) = 7 ∨ ends (kd l e (trivia l e q)) = true) :
    ∃ s', item l e val dict c j s = (q, s') ∧ Res n c s q q s' (if q - j < 2 then [(6, false)] else [(6, true), (7, false)]) [] := by
  obtain ⟨q1, q2, _⟩ := key_in hje (by omega : 0 < key l e j)
  rw [hq] at q1 q2
  obtain ⟨s1, a1, a2, ⟨x, a3, a4⟩, a5⟩ := res_pair l e n hn hck hf hb q1 q2 ha
  refine ⟨s1, ?_, a2.out a3 a4 a5⟩
  unfold item
  dsimp only
  rw [hq, if_pos h0, a1]
  dsimp only
  rw [if_pos hx]
/-- A key and a scalar. -/
theorem item_pair {l : List Tk} {e : Nat} {n : Int} (hn : (e : Int) ≤ n) (d : Nat) (dict : Bool) {c j q z : Nat} {s : St} {b : Int} (hck : Ck s.t n) (hf : Fits s.t j b c) (hb : b ≤ j) (hje : j ≤ e)
    (hq : key l e j = q) (h0 : 0 < q) (ha : (List.range (q - j)).any (fun x => raw l (j + x) == 13) = false) (hz : trivia l e q = z) (hzk : kd l e z = 15) :
    ∃ s', item l e (valN l e d) dict c j s = (z + 1, s') ∧ Res n c s (z + 1 : Nat) (z + 1 : Nat) s' ((if q - j < 2 then [(6, false)] else [(6, true), (7, false)]) ++ [(7, false)]) [] := by
  obtain ⟨q1, q2, _⟩ := key_in hje (by omega : 0 < key l e j)
  rw [hq] at q1 q2
  have hzq : q ≤ z := by have := trivia_in (l := l) (e := e) (i := q) q2; omega
  have hze := kd_lt (l := l) (e := e) (i := z) (by omega)
  obtain ⟨s1, a1, a2, ⟨x, a3, a4⟩, a5⟩ := res_pair l e n hn hck hf hb q1 q2 ha
  obtain ⟨s2, v1, v2⟩ := val_scal (l := l) (e := e) (n := n) hn d (up := s.t.length) a2.ok.ck (a2.ok.fits.le (e' := z) (by omega) (Int.le_refl _)) (by omega) hze.1 (.inl (by omega))
  obtain ⟨x', g1, _, _, g2⟩ := v2.ok.keep.2 _ x a3
  refine ⟨s2, ?_, (a2.trans v2).out g1 (by omega) a5⟩
  unfold item
  dsimp only
  rw [hq, if_pos h0, a1]
  dsimp only
  rw [hz, hzk, if_neg (by decide), v1]
  dsimp only
  rw [if_neg (by omega)]
/-- A scalar without a colon: in braces a pair with a key, else itself. -/
theorem item_alone {l : List Tk} {e : Nat} {n : Int} (hn : (e : Int) ≤ n) (d : Nat) (dict : Bool) {c j : Nat} {s : St} {b : Int} (hck : Ck s.t n) (hf : Fits s.t j b c) (hb : b ≤ j) (hj : kd l e j = 15) (hq : key l e j = 0) :
    ∃ s', item l e (valN l e d) dict c j s = (j + 1, s') ∧ Res n c s (j + 1 : Nat) (j + 1 : Nat) s' (if dict = true then [(6, true), (7, false)] else [(7, false)]) [] := by
  have hje := kd_lt (l := l) (e := e) (i := j) (by omega)
  unfold item
  dsimp only
  rw [hq, if_neg (by omega)]
  cases dict with
  | false =>
    rw [if_neg (by decide), if_neg (by decide)]
    obtain ⟨s', v1, v2⟩ := val_scal (l := l) (e := e) (n := n) hn d hck hf (by omega) hje.1 (.inl (by omega))
    exact ⟨s', by rw [v1], v2⟩
  | true =>
    rw [if_pos rfl, if_pos rfl]
    obtain ⟨s1, a1, _, a3, ⟨x, a4, a5⟩, a6⟩ := res_add (kind := 6) hck hf (f := j) (t := j + 1) (by omega) (by omega) (by omega) (by omega) (by omega)
    have a1 : add s c 6 j (j + 1) = (s1, (s.t.length : Int)) := a1
    rw [a1]
    dsimp only
    have hs : sig s1.t = sig s.t ++ [(6, false)] := a3.kinds
    have hx : x.k = 6 := by
      have h1 := sig_get a4
      rw [hs, List.getElem?_append_right (by unfold sig; rw [List.length_map]; exact Nat.le_refl _)] at h1
      unfold sig at h1
      rw [List.length_map, Nat.sub_self] at h1
      injection h1 with h1
      exact (congrArg Prod.fst h1).symm
    have hk : Res n s.t.length s j (max b ((j + 1 : Nat) : Int)) ⟨keyed s1.t (s.t.length : Int), s1.d⟩ [(6, true)] [] := by
      refine ⟨ok_keyed _ a3.ok, ?_, a3.says⟩
      show sig (keyed s1.t (s.t.length : Int)) = _
      rw [sig_keyed a4, hs, hx]
      exact set_mid _ _ _ _ _ (by unfold sig; rw [List.length_map])
    obtain ⟨_, kk⟩ := keyed_get s1.t (s.t.length : Int)
    obtain ⟨x1, k1, _, _, _, k2, _⟩ := kk _ x a4
    obtain ⟨s2, v1, v2⟩ := val_scal (l := l) (e := e) (n := n) hn d (up := s.t.length) hk.ok.ck hk.ok.fits (by omega) hje.1 (.inl (by omega))
    obtain ⟨x', g1, _, _, g2⟩ := v2.ok.keep.2 _ x1 k1
    exact ⟨s2, by rw [v1], (hk.trans v2).out g1 (by omega) a6⟩
end Go.Proofs.Ytmlpaafclobgcaa.Fl

/- Pairs in brackets, plainly (FlowPairs); no program text. -/
namespace Go.Proofs.Ytmlpaafclobgcaa.Fl
open Go.Proofs.Ytmlpaafclobgcaa.Ar

def itK : Nat → List Nat
  | 0 => [15]
  | 1 => [15, 6, 3, 15]
  | 2 => [6, 3, 15]
  | _ => [16, 6, 3]
def tailK : List Nat → List Nat
  | [] => []
  | k :: r => 7 :: 3 :: (itK k ++ tailK r)
def allK' (op cl : Nat) (ks : List Nat) : List Nat := op :: ((match ks with
  | [] => []
  | k :: r => itK k ++ tailK r) ++ [cl])
def itS (dict : Bool) : Nat → List (Int × Bool)
  | 0 => if dict = true then [(6, true), (7, false)] else [(7, false)]
  | 1 => [(6, true), (7, false), (7, false)]
  | 2 => [(6, false), (7, false)]
  | _ => [(6, true), (7, false)]
theorem drop_is {K : List Nat} {p a : Nat} {r : List Nat} (h : K.drop p = a :: r) : K[p]? = some a ∧ K.drop (p + 1) = r := by
  have h1 := congrArg (fun x => x[0]?) h
  have h2 := congrArg (List.drop 1) h
  rw [List.drop_drop] at h2
  exact ⟨by simpa using h1, by simpa using h2⟩
theorem raw_of {l : List Tk} {K : List Nat} {i k : Nat} (hK : l.map (·.1) = K) (h : K[i]? = some k) : raw l i = k := by
  subst hK
  rw [List.getElem?_map] at h
  unfold raw
  cases hx : l[i]? with
  | none => rw [hx] at h; simp at h
  | some x => rw [hx] at h; simpa using h
theorem kd_of {l : List Tk} {K : List Nat} {i k : Nat} (hK : l.map (·.1) = K) (h : K[i]? = some k) (h1 : k ≠ 20) (h2 : k ≠ 21) : kd l l.length i = k := by
  have hi := (List.getElem?_eq_some_iff.1 h).1
  have hl : K.length = l.length := by rw [← hK]; simp
  have hr := raw_of hK h
  rw [kd_raw (by omega) (by omega) (by omega), hr]
theorem here_of {l : List Tk} {K : List Nat} {i k : Nat} (hK : l.map (·.1) = K) (h : K[i]? = some k) (hc : cnt k = true) : trivia l l.length i = i := trivia_here (by rw [raw_of hK h]; exact hc)
theorem past_of {l : List Tk} {K : List Nat} {i k : Nat} (hK : l.map (·.1) = K) (h : K[i]? = some 3) (h' : K[i + 1]? = some k) (hc : cnt k = true) : trivia l l.length i = i + 1 := by
  have hi := (List.getElem?_eq_some_iff.1 h).1
  have hl : K.length = l.length := by rw [← hK]; simp
  rw [trivia_one (by omega) (by rw [raw_of hK h]; rfl)]
  exact here_of hK h' hc
theorem item_run {l : List Tk} {K : List Nat} (hK : l.map (·.1) = K) (d : Nat) (dict : Bool) {c j k x : Nat} {r : List Nat} {s : St} {b : Int} (hk : k < 4) (hd : K.drop j = itK k ++ x :: r) (hx : x = 7 ∨ x = 10 ∨ x = 11)
    (hck : Ck s.t l.length) (hf : Fits s.t j b c) (hb : b ≤ j) :
    (kd l l.length j = 6 ∨ kd l l.length j = 15 ∨ kd l l.length j = 16) ∧ (0 < key l l.length j ∨ begins (kd l l.length j) = true) ∧ trivia l l.length j = j ∧
    ∃ s' p' q, item l l.length (valN l l.length d) dict c j s = (p', s') ∧ j < p' ∧ p' ≤ q ∧ trivia l l.length p' = q ∧ K.drop q = x :: r ∧ Res l.length c s p' p' s' (itS dict k) [] := by
  have hcx : cnt x = true := by rcases hx with rfl | rfl | rfl <;> rfl
  have hl : K.length = l.length := by rw [← hK]; simp
  have h4 : k = 0 ∨ k = 1 ∨ k = 2 ∨ k = 3 := by omega
  rcases h4 with rfl | rfl | rfl | rfl
  · -- a
    obtain ⟨g0, f1⟩ := drop_is hd
    obtain ⟨g1, _⟩ := drop_is f1
    have k0 := kd_of hK g0 (by decide) (by decide)
    have hq : key l l.length j = 0 := by
      rw [key_scal (by rw [k0]; rfl) (by rw [k0]; rfl) (here_of hK g1 hcx), kd_of hK g1 (by omega) (by omega), if_neg (by omega)]
    obtain ⟨s', v1, v2⟩ := item_alone (l := l) (e := l.length) (n := l.length) (Int.le_refl _) d dict hck hf hb k0 hq
    exact ⟨.inr (.inl k0), .inr (by rw [k0]; rfl), here_of hK g0 rfl, s', j + 1, j + 1, v1, by omega, Nat.le_refl _, here_of hK g1 hcx, f1, v2⟩
  · -- b: c
    obtain ⟨g0, f1⟩ := drop_is hd
    obtain ⟨g1, f2⟩ := drop_is f1
    obtain ⟨g2, f3⟩ := drop_is f2
    obtain ⟨g3, f4⟩ := drop_is f3
    obtain ⟨g4, _⟩ := drop_is f4
    have k0 := kd_of hK g0 (by decide) (by decide)
    have k1 := kd_of hK g1 (by decide) (by decide)
    have k3 := kd_of hK g3 (by decide) (by decide)
    have hi := (List.getElem?_eq_some_iff.1 g3).1
    have hq : key l l.length j = j + 2 := by
      rw [key_scal (by rw [k0]; rfl) (by rw [k0]; rfl) (here_of hK g1 rfl), k1, if_pos rfl]
    have ha : (List.range (j + 2 - j)).any (fun x => raw l (j + x) == 13) = false := by
      rw [show j + 2 - j = 2 by omega]
      show (raw l (j + 0) == 13 || (raw l (j + 1) == 13 || false)) = false
      rw [Nat.add_zero, raw_of hK g0, raw_of hK g1]; rfl
    obtain ⟨s', v1, v2⟩ := item_pair (l := l) (e := l.length) (n := l.length) (Int.le_refl _) d dict hck hf hb (by omega) hq (by omega) ha (past_of hK g2 g3 rfl) k3
    rw [if_neg (by omega)] at v2
    exact ⟨.inr (.inl k0), .inl (by omega), here_of hK g0 rfl, s', j + 1 + 1 + 1 + 1, j + 1 + 1 + 1 + 1, v1, by omega, Nat.le_refl _, here_of hK g4 hcx, f4, v2⟩
  · -- : d
    obtain ⟨g0, f1⟩ := drop_is hd
    obtain ⟨g1, f2⟩ := drop_is f1
    obtain ⟨g2, f3⟩ := drop_is f2
    obtain ⟨g3, _⟩ := drop_is f3
    have k0 := kd_of hK g0 (by decide) (by decide)
    have k2 := kd_of hK g2 (by decide) (by decide)
    have hi := (List.getElem?_eq_some_iff.1 g2).1
    have hq : key l l.length j = j + 1 := key_colon k0
    have ha : (List.range (j + 1 - j)).any (fun x => raw l (j + x) == 13) = false := by
      rw [show j + 1 - j = 1 by omega]
      show (raw l (j + 0) == 13 || false) = false
      rw [Nat.add_zero, raw_of hK g0]; rfl
    obtain ⟨s', v1, v2⟩ := item_pair (l := l) (e := l.length) (n := l.length) (Int.le_refl _) d dict hck hf hb (by omega) hq (by omega) ha (past_of hK g1 g2 rfl) k2
    rw [if_pos (by omega)] at v2
    exact ⟨.inl k0, .inl (by omega), here_of hK g0 rfl, s', j + 1 + 1 + 1, j + 1 + 1 + 1, v1, by omega, Nat.le_refl _, here_of hK g3 hcx, f3, v2⟩
  · -- 'e':
    obtain ⟨g0, f1⟩ := drop_is hd
    obtain ⟨g1, f2⟩ := drop_is f1
    obtain ⟨g2, f3⟩ := drop_is f2
    obtain ⟨g3, _⟩ := drop_is f3
    have k0 := kd_of hK g0 (by decide) (by decide)
    have k1 := kd_of hK g1 (by decide) (by decide)
    have k3 := kd_of hK g3 (by omega) (by omega)
    have hi := (List.getElem?_eq_some_iff.1 g2).1
    have hq : key l l.length j = j + 2 := by
      rw [key_scal (by rw [k0]; rfl) (by rw [k0]; rfl) (here_of hK g1 rfl), k1, if_pos rfl]
    have ha : (List.range (j + 2 - j)).any (fun x => raw l (j + x) == 13) = false := by
      rw [show j + 2 - j = 2 by omega]
      show (raw l (j + 0) == 13 || (raw l (j + 1) == 13 || false)) = false
      rw [Nat.add_zero, raw_of hK g0, raw_of hK g1]; rfl
    have ht : trivia l l.length (j + 2) = j + 1 + 1 + 1 := past_of hK g2 g3 hcx
    obtain ⟨s', v1, v2⟩ := item_bare (l := l) (e := l.length) (n := l.length) (Int.le_refl _) (valN l l.length d) dict hck hf hb (by omega) hq (by omega) ha (by
      rw [ht, k3]
      rcases hx with rfl | rfl | rfl
      · exact .inr (.inl rfl)
      · exact .inr (.inr rfl)
      · exact .inr (.inr rfl))
    rw [if_neg (by omega)] at v2
    exact ⟨.inr (.inr k0), .inl (by omega), here_of hK g0 rfl, s', j + 2, j + 1 + 1 + 1, v1, by omega, by omega, ht, f3, v2⟩
theorem pairs_run {l : List Tk} {K : List Nat} (hK : l.map (·.1) = K) (d c cl : Nat) (hcl : cl = if raw l 0 = 9 then 11 else 10) : ∀ (r : List Nat) (k g p j : Nat) (s : St) (b : Int),
    (∀ z ∈ k :: r, z < 4) → trivia l l.length p = j → p ≤ j → K.drop j = itK k ++ (tailK r ++ [cl]) → 2 * r.length + 2 ≤ g → Ck s.t l.length → Fits s.t p b c → b ≤ p →
    ∃ s', colF l l.length (valN l l.length d) c 0 g p false s = (l.length, s') ∧ Res l.length c s l.length l.length s' ((k :: r).flatMap (itS (raw l 0 == 9))) []
  | r, k, g, p, j, s, b => fun hz hj hpj hd hg hck hf hb => by
    have hl : K.length = l.length := by rw [← hK]; simp
    obtain ⟨x, r', hx, hxk⟩ : ∃ x r', tailK r ++ [cl] = x :: r' ∧ (x = 7 ∨ x = 10 ∨ x = 11) := by
      cases r with
      | nil => exact ⟨cl, [], rfl, by rw [hcl]; split <;> omega⟩
      | cons a q => exact ⟨7, _, rfl, .inl rfl⟩
    rw [hx] at hd
    obtain ⟨i1, i2, _, s1, p', q, i4, i5, i6, i7, i8, i9⟩ := item_run hK d (raw l 0 == 9) (hz k (by simp)) hd hxk hck (hf.le (e' := j) (by omega) (Int.le_refl _)) (by omega)
    have hgo := step_any (l := l) (e := l.length) (valN l l.length d) (c := c) (op := 0) (p := p) (j := j) (g - 1) (s := s) hj i1 i2
    rw [show g - 1 + 1 = g by omega, i4] at hgo
    dsimp only at hgo
    rw [hgo]
    have hfl : ∀ q : List Nat, (k :: q).flatMap (itS (raw l 0 == 9)) = itS (raw l 0 == 9) k ++ q.flatMap (itS (raw l 0 == 9)) := fun q => by simp
    obtain ⟨gx, fx⟩ := drop_is i8
    cases r with
    | nil =>
      have hx' : [cl] = x :: r' := hx
      injection hx' with h1 h2
      subst h1 h2
      have hq1 : q + 1 = l.length := by
        have h1 := (List.getElem?_eq_some_iff.1 gx).1
        have h2 := congrArg List.length fx
        rw [List.length_drop] at h2
        simp at h2
        omega
      have hc20 : cl ≠ 20 ∧ cl ≠ 21 := by rw [hcl]; split <;> omega
      obtain ⟨s2, w1, w2⟩ := step_end (l := l) (e := l.length) (n := l.length) (Int.le_refl _) (valN l l.length d) (c := c) (op := 0) (p := p') (j := q) (g - 2) true i9.ok.ck i9.ok.fits (Int.le_refl _) i6 i7 (by rw [kd_of hK gx hc20.1 hc20.2]; exact hcl)
      rw [show g - 2 + 1 = g - 1 by omega, hq1] at w1
      rw [hq1] at w2
      refine ⟨s2, w1, ?_⟩
      rw [hfl]
      exact i9.trans w2
    | cons k' q' =>
      have hx' : 7 :: 3 :: (itK k' ++ tailK q') ++ [cl] = x :: r' := hx
      injection hx' with h1 h2
      subst h1
      rw [← h2] at fx
      obtain ⟨g3, f3⟩ := drop_is fx
      have hf4 : K.drop (q + 1 + 1) = itK k' ++ (tailK q' ++ [cl]) := by rw [f3]; exact List.append_assoc _ _ _
      obtain ⟨y, hy, hyc⟩ : ∃ y, K[q + 1 + 1]? = some y ∧ cnt y = true := by
        have h4 : k' = 0 ∨ k' = 1 ∨ k' = 2 ∨ k' = 3 := by have := hz k' (by simp); omega
        rcases h4 with rfl | rfl | rfl | rfl
        · exact ⟨15, (drop_is hf4).1, rfl⟩
        · exact ⟨15, (drop_is hf4).1, rfl⟩
        · exact ⟨6, (drop_is hf4).1, rfl⟩
        · exact ⟨16, (drop_is hf4).1, rfl⟩
      obtain ⟨s2, w1, w2⟩ := step_comma (l := l) (e := l.length) (n := l.length) (Int.le_refl _) (valN l l.length d) (c := c) (op := 0) (p := p') (j := q) (g - 2) i9.ok.ck i9.ok.fits (Int.le_refl _) i6 i7 (kd_of hK gx (by decide) (by decide))
      rw [show g - 2 + 1 = g - 1 by omega] at w1
      simp only [List.length_cons] at hg
      obtain ⟨s3, z1, z2⟩ := pairs_run hK d c cl hcl q' k' (g - 2) (q + 1) (q + 1 + 1) s2 (q + 1 : Nat) (fun z h => hz z (by simp at h ⊢; exact .inr h)) (past_of hK g3 hy hyc) (by omega) hf4 (by omega) w2.ok.ck w2.ok.fits (Int.le_refl _)
      refine ⟨s3, by rw [w1]; exact z1, ?_⟩
      rw [hfl]
      have f := (i9.trans w2).trans z2
      rw [List.append_nil] at f
      exact f
/-- FlowPairs, plainly. -/
theorem pairs_all (l : List Tk) (op : Nat) (ks : List Nat) (hop : op = 8 ∨ op = 9) (hK : l.map (·.1) = allK' op (if op = 9 then 11 else 10) ks) (hk : ∀ z ∈ ks, z < 4) (hkl : ks.length ≤ 1000) (d : Nat) (hl : l.length ≤ 32768) :
    ∃ s', valN l l.length (d + 1) 0 0 ⟨newN l.length, []⟩ = (1, l.length, s') ∧ sig s'.t = (1, false) :: (((if op = 9 then 10 else 9 : Nat) : Int), false) :: ks.flatMap (itS (op == 9)) ∧ s'.d = [] ∧ Good s'.t := by
  obtain ⟨K, hKd⟩ : ∃ K, allK' op (if op = 9 then 11 else 10) ks = K := ⟨_, rfl⟩
  rw [hKd] at hK
  have hKl : K.length = l.length := by rw [← hK]; simp
  have hck := ck_new (l.length : Int) (by omega) (by omega)
  have h0 : K[0]? = some op := by rw [← hKd]; rfl
  have hr0 := raw_of hK h0
  have hlen : 1 < l.length := by
    rw [← hKl, ← hKd]
    unfold allK'
    rw [List.length_cons, List.length_append]; simp
  obtain ⟨s', v1, v2⟩ := val_open (l := l) (e := l.length) (n := l.length) (Int.le_refl _) d (up := 0) (p := 0) (s := ⟨newN l.length, []⟩) (b := 0) hck (fits_new _ _ (by omega) (by omega) (by omega)) (by omega) (by omega) (by rw [hr0]; exact hop)
    (next := l.length) (ks := ks.flatMap (itS (op == 9))) (ds := []) (fun s1 g1 g2 g3 => by
      cases ks with
      | nil =>
        have h1 : K[1]? = some (if op = 9 then 11 else 10) := by rw [← hKd]; rfl
        have h2 : l.length = 2 := by rw [← hKl, ← hKd]; rfl
        have hc20 : (if op = 9 then 11 else 10) ≠ 20 ∧ (if op = 9 then 11 else 10) ≠ 21 := by split <;> omega
        have hcc : cnt (if op = 9 then 11 else 10) = true := by split <;> rfl
        obtain ⟨s2, w1, w2⟩ := step_end (l := l) (e := l.length) (n := l.length) (Int.le_refl _) (valN l l.length d) (c := 1) (op := 0) (p := 1) (j := 1) (l.length - 1) false g1 g2 (by omega) (Nat.le_refl _) (here_of hK h1 hcc) (by rw [kd_of hK h1 hc20.1 hc20.2, hr0])
        rw [show l.length - 1 + 1 = l.length - 0 by omega, show 1 + 1 = l.length by omega] at w1
        rw [show 1 + 1 = l.length by omega] at w2
        exact ⟨s2, w1, w2⟩
      | cons k r =>
        have hd1 : K.drop 1 = itK k ++ (tailK r ++ [if op = 9 then 11 else 10]) := by rw [← hKd]; exact List.append_assoc _ _ _
        obtain ⟨y, hy, hyc⟩ : ∃ y, K[1]? = some y ∧ cnt y = true := by
          have h4 : k = 0 ∨ k = 1 ∨ k = 2 ∨ k = 3 := by have := hk k (by simp); omega
          rcases h4 with rfl | rfl | rfl | rfl
          · exact ⟨15, (drop_is hd1).1, rfl⟩
          · exact ⟨15, (drop_is hd1).1, rfl⟩
          · exact ⟨6, (drop_is hd1).1, rfl⟩
          · exact ⟨16, (drop_is hd1).1, rfl⟩
        have hfuel : 2 * r.length + 2 ≤ l.length - 0 := by
          have h5 : ∀ q : List Nat, 2 * q.length ≤ (tailK q).length := by
            intro q
            induction q with
            | nil => exact Nat.le_refl _
            | cons a q ih => rw [tailK, List.length_cons, List.length_cons, List.length_cons, List.length_append]; omega
          have h6 := h5 r
          rw [← hKl, ← hKd]
          show _ ≤ (op :: ((itK k ++ tailK r) ++ [_])).length - 0
          rw [List.length_cons, List.length_append, List.length_append]
          simp
          omega
        obtain ⟨s2, w1, w2⟩ := pairs_run hK d 1 _ (by rw [hr0]) r k (l.length - 0) 1 1 s1 (0 + 1 : Nat) hk (here_of hK hy hyc) (Nat.le_refl _) hd1 hfuel g1 g2 (by omega)
        rw [hr0] at w2
        exact ⟨s2, w1, w2⟩)
  rw [hr0] at v2
  exact ⟨s', v1, v2.kinds, v2.says, v2.ok.ck.good⟩
end Go.Proofs.Ytmlpaafclobgcaa.Fl
