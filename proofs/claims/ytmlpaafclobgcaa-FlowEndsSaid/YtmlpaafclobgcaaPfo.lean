/- Brackets as the program reads them: put into the tree they are the chapter's; no program text. -/
import Derived.Test.YtmlpaafclobgcaaMgF
namespace Go.Proofs.Ytmlpaafclobgcaa.Fl
open Go.Proofs.Ytmlpaafclobgcaa.Ar
set_option linter.unusedVariables false

/-- A value's nodes, numbered as in the tree. -/
def shift (up : Int) (B : Nat) (q : List Nd) : List Nd := q.mapIdx (fun i x => { x with u := if i = 0 then up else x.u + (B : Int), ks := x.ks.map (· + (B : Int)) })
theorem shift_len (up : Int) (B : Nat) (q : List Nd) : (shift up B q).length = q.length := by simp [shift]
theorem shift_at (up : Int) (B : Nat) (q : List Nd) (i : Nat) (x : Nd) (hx : q[i]? = some x) : (shift up B q)[i]? = some { x with u := if i = 0 then up else x.u + (B : Int), ks := x.ks.map (· + (B : Int)) } := by
  unfold shift
  rw [List.getElem?_mapIdx, hx]; rfl
/-- A tree like T with a value's nodes put into one of it. -/
def plantN (T : List Nd) (up : Int) (q : List Nd) : List Nd × Int := match q with
  | [] => (T, -1)
  | v :: r => if mayAdd T up v.k v.f v.t = true then ((addN T up v.k v.f v.t).1.take T.length ++ shift up T.length (v :: r), (T.length : Int)) else (T, -1)
section
variable {l : List Tk} {e : Nat} {n : Int} {T0 : List Nd} {up0 : Nat}
theorem rel_start (T0 : List Nd) (up0 p : Nat) (h : up0 < T0.length) : Rel T0.length up0 T0 [] T0 (-1) p :=
  ⟨by simp, ⟨rfl, h⟩, by simp, fun i x hx => by simp at hx, fun i x hx => by simp at hx, fun i x hx => ⟨x, hx, rfl, rfl, rfl, rfl, by simp, .inr ⟨.inr rfl, rfl⟩⟩⟩
theorem nd_same {x y : Nd} (h1 : x.k = y.k) (h2 : x.f = y.f) (h3 : x.t = y.t) (h4 : x.u = y.u) (h5 : x.ks = y.ks) (h6 : x.y = y.y) : x = y := by
  cases x; cases y
  dsimp only at h1 h2 h3 h4 h5 h6
  subst h1 h2 h3 h4 h5 h6
  rfl
/-- The value, as the program answers it. -/
theorem plant_is (hn : (e : Int) ≤ n) (d p : Nat) (b : Int) (hck : Ck T0 n) (hf : Fits T0 p b up0) (hb : b ≤ p + 1) (hpe : p ≤ e) :
    (valN l e d up0 p ⟨T0, []⟩ = (-1, p, ⟨T0, []⟩) ∧ pvalN l e d (-1) p ⟨[], []⟩ = (p, ⟨[], []⟩)) ∨
    (∃ (next : Nat) (s' : St) (ps' : PSt), valN l e d up0 p ⟨T0, []⟩ = ((T0.length : Int), next, s') ∧ pvalN l e d (-1) p ⟨[], []⟩ = (next, ps') ∧ p < next ∧ next ≤ e ∧ Ok n up0 ⟨T0, []⟩ next next s' ∧ s'.d = ps'.d ∧
      0 < ps'.q.length ∧ plantN T0 up0 ps'.q = (s'.t, (T0.length : Int)) ∧ s'.t.length = T0.length + ps'.q.length ∧ s'.t.length + 1 ≤ T0.length + 2 * (next - p) ∧
      (∀ (i : Nat) (x : Nd), ps'.q[i]? = some x → -1 ≤ x.u ∧ x.u ≤ i ∧ ∀ z ∈ x.ks, -(T0.length : Int) ≤ z ∧ z ≤ ps'.q.length) ∧ (∃ v, ps'.q[0]? = some v ∧ mayAdd T0 up0 v.k v.f v.t = true)) := by
  have hlt := hf.lt
  have hS := sim_all (l := l) (B := T0.length) (up0 := up0) (T0 := T0) hn d (-1) p p ⟨T0, []⟩ ⟨[], []⟩ b hck (by rw [cT_none _ _ (by omega)]; exact hf) hb hpe (rel_start T0 up0 p hlt) (by omega) (fun _ => rfl) rfl
  rw [cT_none _ _ (by omega)] at hS
  rcases hS with ⟨h1, h2, _⟩ | ⟨next, s', ps', h1, h2, h3, h4, h5, h6, h7, h8, ⟨x, h9, h10, h11, h12, h13, h14⟩, h15, _⟩
  · exact .inl ⟨h1, h2⟩
  · have hbd : ∀ (i : Nat) (x : Nd), ps'.q[i]? = some x → -1 ≤ x.u ∧ x.u ≤ i ∧ ∀ z ∈ x.ks, -(T0.length : Int) ≤ z ∧ z ≤ ps'.q.length := fun i x hx => by
      obtain ⟨z, a1, a2, a3, a4, a5, _⟩ := h7.nd i x hx
      have hgu := (h6.ck.good.up _ z a1).2
      have hup := (h7.ups i x hx).1
      refine ⟨hup, ?_, fun y hy => ?_⟩
      · rw [a4] at hgu
        unfold cT at hgu
        split at hgu <;> omega
      · have := h6.ck.good.kid _ z a1 (y + (T0.length : Int)) (by rw [a5]; exact List.mem_map_of_mem hy)
        have := h7.len
        omega
    refine .inr ⟨next, s', ps', h1, h2, h3, h4, h6, h8, (List.getElem?_eq_some_iff.1 h9).1, ?_, h7.len, h15, hbd, ⟨_, h9, ?_⟩⟩
    case refine_2 =>
      obtain ⟨k, hk⟩ : ∃ k : Nat, x.k = (k : Int) := ⟨x.k.toNat, by omega⟩
      obtain ⟨y, hy⟩ : ∃ y, T0[up0]? = some y := ⟨_, List.getElem?_eq_getElem hlt⟩
      exact may_put hck hf hy h11 (by omega) (by omega) h13 h14
    have h9 : ps'.q[0]? = some x := h9
    have hpos := (List.getElem?_eq_some_iff.1 h9).1
    obtain ⟨xk, xf, xt, xu, xks, xy⟩ := x
    dsimp only at h10 h11 h12 h13 h14
    obtain ⟨k, rfl⟩ : ∃ k : Nat, xk = (k : Int) := ⟨xk.toNat, by omega⟩
    obtain ⟨f, rfl⟩ : ∃ f : Nat, xf = (f : Int) := ⟨xf.toNat, by omega⟩
    subst h10
    obtain ⟨y, hy⟩ : ∃ y, T0[up0]? = some y := ⟨_, List.getElem?_eq_getElem hlt⟩
    have hm := may_put (kind := (k : Int)) (f := (f : Int)) (t := (next : Int)) hck hf hy h11 h12 (by omega) h13 h14
    obtain ⟨r, a1, a2, a3, a4⟩ := add_at hck.good hm
    have hlen := h7.len
    have hU : ∀ (i : Nat) (x : Nd), T0[i]? = some x → ∃ x', s'.t[i]? = some x' ∧ x'.u = x.u := fun i x hx => by obtain ⟨z, b1, _, _, b4, _⟩ := h7.old i x hx; exact ⟨z, b1, b4⟩
    have hon : ∀ i, On s'.t up0 i ↔ On T0 up0 i := fun i => on_more hck.good hlt hU
    have hpl : plantN T0 up0 ps'.q = (r.take T0.length ++ shift up0 T0.length ps'.q, (T0.length : Int)) := by
      unfold plantN
      cases hq : ps'.q with
      | nil => rw [hq] at hpos; simp at hpos
      | cons v w =>
        have hv : v = ⟨k, f, next, xu, xks, xy⟩ := by rw [hq] at h9; simpa using h9
        rw [hv]
        dsimp only
        rw [if_pos hm, a1]
    rw [hpl]
    refine Prod.ext ?_ rfl
    refine (list_same ?_ (fun i z hz => ?_)).symm
    · rw [List.length_append, List.length_take, a2, shift_len, hlen]
      show T0.length + _ = min T0.length (T0.length + 1) + _
      omega
    · have hi : i < s'.t.length := (List.getElem?_eq_some_iff.1 hz).1
      by_cases hlo : i < T0.length
      · obtain ⟨x0, hx0⟩ : ∃ x0, T0[i]? = some x0 := ⟨_, List.getElem?_eq_getElem hlo⟩
        rw [List.getElem?_append_left (by rw [List.length_take, a2]; show i < min T0.length (T0.length + 1); omega), List.getElem?_take_of_lt hlo]
        obtain ⟨z1, b1, b2, b3, b4, b5, b6, b7⟩ := h7.old i x0 hx0
        rw [hz] at b1; injection b1 with b1; subst b1
        obtain ⟨z2, c1, c2, c3, c4, c5, c6, c7⟩ := a4 i x0 hx0
        rw [c1]
        have ht : z2.t = z.t := by
          rw [hon] at b7
          rcases b7 with ⟨b7, _, b8⟩ | ⟨b7, b8⟩
          · rcases c7 with ⟨_, c8⟩ | ⟨c7, _⟩
            · omega
            · exact absurd b7 c7
          · rcases c7 with ⟨c7, _⟩ | ⟨_, c8⟩
            · rcases b7 with b7 | b7
              · exact absurd c7 b7
              · omega
            · omega
        refine congrArg some (nd_same (by omega) (by omega) ht (by omega) ?_ (by rw [c5, b5]))
        rw [c6, b6]
        by_cases e : i = up0
        · rw [if_pos e, if_pos ⟨e, hpos⟩]
        · rw [if_neg e, if_neg (fun h => e h.1)]
      · obtain ⟨j, rfl⟩ : ∃ j, i = T0.length + j := ⟨i - T0.length, by omega⟩
        obtain ⟨x0, hx0⟩ : ∃ x0, ps'.q[j]? = some x0 := ⟨_, List.getElem?_eq_getElem (by omega)⟩
        have htl : (r.take T0.length).length = T0.length := by rw [List.length_take, a2]; show min T0.length (T0.length + 1) = _; omega
        rw [List.getElem?_append_right (by omega), htl, Nat.add_sub_cancel_left, shift_at _ _ _ j x0 hx0]
        obtain ⟨z1, b1, b2, b3, b4, b5, b6, b7⟩ := h7.nd j x0 hx0
        rw [hz] at b1; injection b1 with b1; subst b1
        rw [cT_none _ _ (by omega)] at b7
        have ht : x0.t = z.t := by
          rcases b7 with ⟨b7, _⟩ | ⟨_, b7⟩
          · have := ((hon _).1 b7).low hck.good; omega
          · omega
        have hup := h7.ups j x0 hx0
        refine congrArg some (nd_same b2.symm b3.symm ht ?_ b5.symm b6.symm)
        show (if j = 0 then (up0 : Int) else x0.u + (T0.length : Int)) = z.u
        rw [b4]
        by_cases e : j = 0
        · subst e
          have h1 := h7.nd 0 x0 hx0
          have hu0 : x0.u < 0 := by
            have hc := (h6.ck.good.up _ z hz).2
            rw [b4] at hc
            unfold cT at hc
            by_cases h2 : x0.u < 0
            · exact h2
            · rw [if_neg h2] at hc; omega
          rw [if_pos rfl, cT_none _ _ hu0]
        · have h0 := hup.2 (by omega)
          rw [if_neg e]
          unfold cT
          rw [if_neg (by omega)]
          omega
end
end Go.Proofs.Ytmlpaafclobgcaa.Fl
