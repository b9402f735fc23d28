/- Regions that draw their order (no program text): what is asked of the world is asked until a store comes up; calls that leave the world alone may be taken first, as loads may. -/
import Derived.OrdersHeld
import Derived.Deep.RegionHeld
import Derived.Deep.RegionHeld3
namespace Go

section
variable {P : Program} {ops : Array Oper} {Q : Exit → Act → World → Prop} {md : Region.Mode} {C : World → Prop} {st : Nat}

/-- An operation that leaves the world as it is, and yields v: by itself, or by a call. -/
def QuietRun (P : Program) (m : Sem Next) (v : Value) (w : World) : Prop :=
  match m.run P w with
  | .ok (.value u) w' => u = v ∧ w' = w
  | .ok (.enter f args) w' => w' = w ∧ Calls P f args w (fun e w'' => e = .returned v ∧ w = w'')
  | _ => False
theorem QuietRun.of_run {m : Sem Next} {v : Value} {w : World} (h : m.run P w = .ok (.value v) w) : QuietRun P m v w := by
  unfold QuietRun
  rw [h]
  exact ⟨rfl, rfl⟩
theorem QuietRun.of_call {m : Sem Next} {v : Value} {w : World} {f : FuncId} {args : Array Value} (h : m.run P w = .ok (.enter f args) w) (hc : Calls P f args w (fun e w'' => e = .returned v ∧ w = w'')) : QuietRun P m v w := by
  unfold QuietRun
  rw [h]
  exact ⟨rfl, hc⟩
/-- In every world that meets C the operation yields v and does nothing else; or it is passed over. -/
def YieldsQ (P : Program) (ops : Array Oper) (C : World → Prop) (o : Oper) (v : Value) (a : Act) : Prop :=
  (Region.wanted o (yielded ops a.tmps) = true ∧ ∀ w, C w → QuietRun P (execOp a.eval o) v w) ∨
  (Region.wanted o (yielded ops a.tmps) = false ∧ v = undef)
theorem YieldsQ.of_same {o : Oper} {v : Value} {a a' : Act} (hy : YieldsQ P ops C o v a) (he : execOp a'.eval o = execOp a.eval o)
    (hw : Region.wanted o (yielded ops a'.tmps) = Region.wanted o (yielded ops a.tmps)) : YieldsQ P ops C o v a' := by
  unfold YieldsQ at *
  rw [he, hw]
  exact hy
theorem YieldsQ.wpOp {i : Nat} {o : Oper} {v : Value} {a : Act} (hi : ops[i]? = some o) (hy : YieldsQ P ops C o v a)
    {K : Act → World → Prop} {w : World} (hC : C w) (h : K (a.put o.dst v) w) : wpOp P ops Q i K a w := by
  unfold Go.wpOp
  simp only [hi]
  rcases hy with ⟨hw, hv⟩ | ⟨hw, rfl⟩
  · rw [if_pos hw]
    refine .inl ?_
    have hq := hv w hC
    unfold QuietRun at hq
    unfold Oper.wp
    revert hq
    generalize (execOp a.eval o).run P w = r
    intro hq
    cases r with
    | halt x w' => exact hq.elim
    | ok n w' =>
      cases n <;> simp only at hq
      case value u =>
        obtain ⟨rfl, rfl⟩ := hq
        exact h
      case enter f args =>
        obtain ⟨rfl, hc⟩ := hq
        simp only [Oper.upon]
        refine Calls.mono hc fun e w'' he => ?_
        obtain ⟨rfl, rfl⟩ := he
        exact h
  · rw [if_neg (by rw [hw]; decide)]
    exact h
/-- What is true of the slots stays true over an operation that does not touch them. -/
theorem wpOp_keepA {j : Nat} {oj : Oper} {R : Act → Prop} (hj : ops[j]? = some oj) (hp : ∀ a u, R a → R (a.put oj.dst u)) (hd : ∀ a d, R a → R { a with defers := d :: a.defers }) {K : Act → World → Prop} {a : Act} {w : World}
    (hR : R a) (h : wpOp P ops Q j K a w) : wpOp P ops Q j (fun a' w' => R a' ∧ K a' w') a w := by
  unfold wpOp at *
  simp only [hj] at *
  split
  · rename_i hw
    simp only [hw, if_true] at h
    rcases h with h | h
    · refine .inl ?_
      unfold Oper.wp at *
      generalize (execOp a.eval oj).run P w = r at *
      cases r with
      | ok n w' =>
        cases n <;> simp only [Oper.upon] at h ⊢
        case value u => exact ⟨hp _ _ hR, h⟩
        case skip => exact ⟨hp _ _ hR, h⟩
        case defer d => exact ⟨hp _ _ (hd _ _ hR), h⟩
        case enter f args =>
          refine Calls.mono h fun e w'' he => ?_
          cases e with
          | returned u => exact ⟨hp _ _ hR, he⟩
          | panicked c => exact he
          | outgrown => exact he
        case row row args => exact Rows.mono h fun u w'' he => ⟨hp _ _ hR, he⟩
      | halt x w' =>
        cases x <;> simp only [Oper.upon] at h ⊢
        case panic u => exact h
    · exact .inr h
  · rename_i hw
    simp only [hw] at h
    exact ⟨hp _ _ hR, h⟩
/-- Whatever order is picked from here on; behind every operation C holds, as long as number st has not come up. -/
def wpAnyT (P : Program) (md : Region.Mode) (ops : Array Oper) (Q : Exit → Act → World → Prop) (C : World → Prop) (st : Nat) : Nat → Array Bool → Act → World → Prop
  | 0, listed, a, w => Region.ready md ops listed = [] ∧ Q .normal a w
  | fuel + 1, listed, a, w =>
    (Region.ready md ops listed = [] → Q .normal a w) ∧
    ∀ i ∈ Region.ready md ops listed, wpOp P ops Q i (fun a' w' => ((listed.setIfInBounds i true).getD st true = false → C w') ∧ wpAnyT P md ops Q C st fuel (listed.setIfInBounds i true) a' w') a w
theorem wpAny_of_T : ∀ (fuel : Nat) (listed : Array Bool) (a : Act) (w : World), wpAnyT P md ops Q C st fuel listed a w → wpAny P md ops Q fuel listed a w
  | 0, _, _, _, h => h
  | fuel + 1, _, _, _, h => ⟨h.1, fun i hi => wpOp_mono (fun a' w' h' => wpAny_of_T fuel _ a' w' h'.2) (h.2 i hi)⟩
theorem wpAnyT_first {i : Nat} {oi ost : Oper} {v : Value} (hi : ops[i]? = some oi) (hsel : ∀ (j : Nat) (o : Oper) cs b, ops[j]? = some o → o.op ≠ .select cs b)
    (hQ : ∀ c a w, Q (.panic c) (a.put oi.dst v) w → Q (.panic c) a w) (hst : ops[st]? = some ost) (haf : ∃ e ∈ ost.after, Region.binds md e = true ∧ e.on = i) (hne : i ≠ st) :
    ∀ (fuel : Nat) (listed : Array Bool) (a : Act) (w : World),
      (∀ j oj, ops[j]? = some oj → j ≠ i → listed.getD j true = false → (∀ e ∈ oj.after, Region.binds md e = true → e.on ≠ i) → oi.apart ops oj = true) →
      i ∈ Region.ready md ops listed → listed.getD st true = false → YieldsQ P ops C oi v a → C w →
      wpAnyT P md ops Q C st fuel (listed.setIfInBounds i true) (a.put oi.dst v) w → wpAnyT P md ops Q C st (fuel + 1) listed a w := by
  have hus : ∀ (listed : Array Bool), (listed.setIfInBounds i true).getD st true = listed.getD st true := fun listed => getD_set_ne true hne
  intro fuel
  induction fuel with
  | zero =>
    intro listed a w _ hr hs hy hC H
    refine ⟨fun h => (by rw [h] at hr; cases hr), fun j hj => ?_⟩
    by_cases hji : j = i
    · subst hji
      exact hy.wpOp hi hC ⟨fun _ => hC, H⟩
    · have h1 := ready_mono hj hji
      rw [H.1] at h1
      cases h1
  | succ fuel ih =>
    intro listed a w hfree hr hs hy hC H
    refine ⟨fun h => (by rw [h] at hr; cases hr), fun j hj => ?_⟩
    by_cases hji : j = i
    · subst hji
      exact hy.wpOp hi hC ⟨fun _ => hC, H⟩
    · have h1 := H.2 j (ready_mono hj hji)
      obtain ⟨hjun, oj, hoj, hall⟩ := mem_ready.1 hj
      have hnot : ∀ e ∈ oj.after, Region.binds md e = true → e.on ≠ i := fun e he hb heq => by
        have h3 := hall e he hb
        have h0 := (mem_ready.1 hr).1
        rw [heq] at h3
        rcases Nat.lt_or_ge i listed.size with h' | h'
        · simp [h'] at h0 h3; rw [h0] at h3; cases h3
        · simp [Array.getElem?_eq_none h'] at h3
      have hjst : j ≠ st := fun e => by
        subst e
        rw [hoj] at hst
        obtain rfl := Option.some.inj hst
        obtain ⟨e, he, hb, heq⟩ := haf
        exact hnot e he hb heq
      have hap := hfree j oj hoj hji hjun hnot
      obtain ⟨_, _, h3⟩ := Oper.apart_spec hap
      have hw : YieldsIf P ops (fun _ => False) oi v a := hy.imp (fun h => ⟨h.1, fun _ h => h.elim⟩) id
      have h2 := wpOp_putIf (S := fun _ => False) hoj hap (fun cs b => hsel i oi cs b hi) (fun cs b => hsel j oj cs b hoj) hQ hw h1
      have h4 := wpOp_keepA (R := fun a' => YieldsQ P ops C oi v a') hoj
        (fun a' u hR => hR.of_same (execOp_put oi (fun cs b => hsel i oi cs b hi) a' oj.dst u h3) (wanted_put oi a' oj.dst u h3)) (fun a' d hR => hR.of_same rfl rfl) hy h2
      have hfree' : ∀ k ok, ops[k]? = some ok → k ≠ i → (listed.setIfInBounds j true).getD k true = false →
          (∀ e ∈ ok.after, Region.binds md e = true → e.on ≠ i) → oi.apart ops ok = true := fun k ok hk hki hun hno => by
        refine hfree k ok hk hki ?_ hno
        by_cases hjk : j = k
        · subst hjk; exact hjun
        · rw [getD_set_ne true hjk] at hun; exact hun
      have hs' : (listed.setIfInBounds j true).getD st true = false := by rw [getD_set_ne true hjst]; exact hs
      refine wpOp_mono (fun a' w' h5 => ?_) h4
      obtain ⟨h6, h7, h8, h9⟩ := h5
      have hC' : C w' := h8 (by rw [getD_set_ne true hjst, hus]; exact hs)
      refine ⟨fun _ => hC', ih (listed.setIfInBounds j true) a' w' hfree' (ready_mono hr (Ne.symm hji)) hs' h6 hC' ?_⟩
      rw [Array.setIfInBounds_comm _ _ hji]
      exact h9
/-- What is waited for by one that number st waits for. -/
theorem wpAnyT_first2 {i k : Nat} {oi ost ok : Oper} {v : Value} (hi : ops[i]? = some oi) (hsel : ∀ (j : Nat) (o : Oper) cs b, ops[j]? = some o → o.op ≠ .select cs b)
    (hQ : ∀ c a w, Q (.panic c) (a.put oi.dst v) w → Q (.panic c) a w) (hst : ops[st]? = some ost) (hok : ops[k]? = some ok) (hafk : ∃ e ∈ ost.after, Region.binds md e = true ∧ e.on = k) (haf : ∃ e ∈ ok.after, Region.binds md e = true ∧ e.on = i) (hne : i ≠ st) :
    ∀ (fuel : Nat) (listed : Array Bool) (a : Act) (w : World),
      (∀ j oj, ops[j]? = some oj → j ≠ i → listed.getD j true = false → (∀ e ∈ oj.after, Region.binds md e = true → e.on ≠ i) → oi.apart ops oj = true) →
      i ∈ Region.ready md ops listed → listed.getD st true = false → listed.getD k true = false → YieldsQ P ops C oi v a → C w →
      wpAnyT P md ops Q C st fuel (listed.setIfInBounds i true) (a.put oi.dst v) w → wpAnyT P md ops Q C st (fuel + 1) listed a w := by
  have hus : ∀ (listed : Array Bool), (listed.setIfInBounds i true).getD st true = listed.getD st true := fun listed => getD_set_ne true hne
  intro fuel
  induction fuel with
  | zero =>
    intro listed a w _ hr hs hk hy hC H
    refine ⟨fun h => (by rw [h] at hr; cases hr), fun j hj => ?_⟩
    by_cases hji : j = i
    · subst hji
      exact hy.wpOp hi hC ⟨fun _ => hC, H⟩
    · have h1 := ready_mono hj hji
      rw [H.1] at h1
      cases h1
  | succ fuel ih =>
    intro listed a w hfree hr hs hk hy hC H
    refine ⟨fun h => (by rw [h] at hr; cases hr), fun j hj => ?_⟩
    by_cases hji : j = i
    · subst hji
      exact hy.wpOp hi hC ⟨fun _ => hC, H⟩
    · have h1 := H.2 j (ready_mono hj hji)
      obtain ⟨hjun, oj, hoj, hall⟩ := mem_ready.1 hj
      have hnot : ∀ e ∈ oj.after, Region.binds md e = true → e.on ≠ i := fun e he hb heq => by
        have h3 := hall e he hb
        have h0 := (mem_ready.1 hr).1
        rw [heq] at h3
        rcases Nat.lt_or_ge i listed.size with h' | h'
        · simp [h'] at h0 h3; rw [h0] at h3; cases h3
        · simp [Array.getElem?_eq_none h'] at h3
      have hjk : j ≠ k := fun e => by
        subst e
        rw [hoj] at hok
        obtain rfl := Option.some.inj hok
        obtain ⟨e, he, hb, heq⟩ := haf
        exact hnot e he hb heq
      have hjst : j ≠ st := fun e => by
        subst e
        rw [hoj] at hst
        obtain rfl := Option.some.inj hst
        obtain ⟨e, he, hb, heq⟩ := hafk
        have h3 := hall e he hb
        rw [heq] at h3
        rcases Nat.lt_or_ge k listed.size with h' | h'
        · simp [h'] at hk h3; rw [hk] at h3; cases h3
        · simp [Array.getElem?_eq_none h'] at h3
      have hap := hfree j oj hoj hji hjun hnot
      obtain ⟨_, _, h3⟩ := Oper.apart_spec hap
      have hw : YieldsIf P ops (fun _ => False) oi v a := hy.imp (fun h => ⟨h.1, fun _ h => h.elim⟩) id
      have h2 := wpOp_putIf (S := fun _ => False) hoj hap (fun cs b => hsel i oi cs b hi) (fun cs b => hsel j oj cs b hoj) hQ hw h1
      have h4 := wpOp_keepA (R := fun a' => YieldsQ P ops C oi v a') hoj
        (fun a' u hR => hR.of_same (execOp_put oi (fun cs b => hsel i oi cs b hi) a' oj.dst u h3) (wanted_put oi a' oj.dst u h3)) (fun a' d hR => hR.of_same rfl rfl) hy h2
      have hfree' : ∀ k ok, ops[k]? = some ok → k ≠ i → (listed.setIfInBounds j true).getD k true = false →
          (∀ e ∈ ok.after, Region.binds md e = true → e.on ≠ i) → oi.apart ops ok = true := fun k ok hk hki hun hno => by
        refine hfree k ok hk hki ?_ hno
        by_cases hjk : j = k
        · subst hjk; exact hjun
        · rw [getD_set_ne true hjk] at hun; exact hun
      have hs' : (listed.setIfInBounds j true).getD st true = false := by rw [getD_set_ne true hjst]; exact hs
      have hk' : (listed.setIfInBounds j true).getD k true = false := by rw [getD_set_ne true hjk]; exact hk
      refine wpOp_mono (fun a' w' h5 => ?_) h4
      obtain ⟨h6, h7, h8, h9⟩ := h5
      have hC' : C w' := h8 (by rw [getD_set_ne true hjst, hus]; exact hs)
      refine ⟨fun _ => hC', ih (listed.setIfInBounds j true) a' w' hfree' (ready_mono hr (Ne.symm hji)) hs' hk' h6 hC' ?_⟩
      rw [Array.setIfInBounds_comm _ _ hji]
      exact h9
/-- And through two. -/
theorem wpAnyT_first3 {i k m : Nat} {oi ost ok om : Oper} {v : Value} (hi : ops[i]? = some oi) (hsel : ∀ (j : Nat) (o : Oper) cs b, ops[j]? = some o → o.op ≠ .select cs b)
    (hQ : ∀ c a w, Q (.panic c) (a.put oi.dst v) w → Q (.panic c) a w) (hst : ops[st]? = some ost) (hok : ops[k]? = some ok) (hom : ops[m]? = some om) (hafk : ∃ e ∈ ost.after, Region.binds md e = true ∧ e.on = k) (hafm : ∃ e ∈ ok.after, Region.binds md e = true ∧ e.on = m) (haf : ∃ e ∈ om.after, Region.binds md e = true ∧ e.on = i) (hne : i ≠ st) :
    ∀ (fuel : Nat) (listed : Array Bool) (a : Act) (w : World),
      (∀ j oj, ops[j]? = some oj → j ≠ i → listed.getD j true = false → (∀ e ∈ oj.after, Region.binds md e = true → e.on ≠ i) → oi.apart ops oj = true) →
      i ∈ Region.ready md ops listed → listed.getD st true = false → listed.getD k true = false → listed.getD m true = false → YieldsQ P ops C oi v a → C w →
      wpAnyT P md ops Q C st fuel (listed.setIfInBounds i true) (a.put oi.dst v) w → wpAnyT P md ops Q C st (fuel + 1) listed a w := by
  have hus : ∀ (listed : Array Bool), (listed.setIfInBounds i true).getD st true = listed.getD st true := fun listed => getD_set_ne true hne
  intro fuel
  induction fuel with
  | zero =>
    intro listed a w _ hr hs hk hm hy hC H
    refine ⟨fun h => (by rw [h] at hr; cases hr), fun j hj => ?_⟩
    by_cases hji : j = i
    · subst hji
      exact hy.wpOp hi hC ⟨fun _ => hC, H⟩
    · have h1 := ready_mono hj hji
      rw [H.1] at h1
      cases h1
  | succ fuel ih =>
    intro listed a w hfree hr hs hk hm hy hC H
    refine ⟨fun h => (by rw [h] at hr; cases hr), fun j hj => ?_⟩
    by_cases hji : j = i
    · subst hji
      exact hy.wpOp hi hC ⟨fun _ => hC, H⟩
    · have h1 := H.2 j (ready_mono hj hji)
      obtain ⟨hjun, oj, hoj, hall⟩ := mem_ready.1 hj
      have hnot : ∀ e ∈ oj.after, Region.binds md e = true → e.on ≠ i := fun e he hb heq => by
        have h3 := hall e he hb
        have h0 := (mem_ready.1 hr).1
        rw [heq] at h3
        rcases Nat.lt_or_ge i listed.size with h' | h'
        · simp [h'] at h0 h3; rw [h0] at h3; cases h3
        · simp [Array.getElem?_eq_none h'] at h3
      have hjm : j ≠ m := fun e => by
        subst e
        rw [hoj] at hom
        obtain rfl := Option.some.inj hom
        obtain ⟨e, he, hb, heq⟩ := haf
        exact hnot e he hb heq
      have hjk : j ≠ k := fun e => by
        subst e
        rw [hoj] at hok
        obtain rfl := Option.some.inj hok
        obtain ⟨e, he, hb, heq⟩ := hafm
        have h3 := hall e he hb
        rw [heq] at h3
        rcases Nat.lt_or_ge m listed.size with h' | h'
        · simp [h'] at hm h3; rw [hm] at h3; cases h3
        · simp [Array.getElem?_eq_none h'] at h3
      have hjst : j ≠ st := fun e => by
        subst e
        rw [hoj] at hst
        obtain rfl := Option.some.inj hst
        obtain ⟨e, he, hb, heq⟩ := hafk
        have h3 := hall e he hb
        rw [heq] at h3
        rcases Nat.lt_or_ge k listed.size with h' | h'
        · simp [h'] at hk h3; rw [hk] at h3; cases h3
        · simp [Array.getElem?_eq_none h'] at h3
      have hap := hfree j oj hoj hji hjun hnot
      obtain ⟨_, _, h3⟩ := Oper.apart_spec hap
      have hw : YieldsIf P ops (fun _ => False) oi v a := hy.imp (fun h => ⟨h.1, fun _ h => h.elim⟩) id
      have h2 := wpOp_putIf (S := fun _ => False) hoj hap (fun cs b => hsel i oi cs b hi) (fun cs b => hsel j oj cs b hoj) hQ hw h1
      have h4 := wpOp_keepA (R := fun a' => YieldsQ P ops C oi v a') hoj
        (fun a' u hR => hR.of_same (execOp_put oi (fun cs b => hsel i oi cs b hi) a' oj.dst u h3) (wanted_put oi a' oj.dst u h3)) (fun a' d hR => hR.of_same rfl rfl) hy h2
      have hfree' : ∀ k ok, ops[k]? = some ok → k ≠ i → (listed.setIfInBounds j true).getD k true = false →
          (∀ e ∈ ok.after, Region.binds md e = true → e.on ≠ i) → oi.apart ops ok = true := fun k ok hk hki hun hno => by
        refine hfree k ok hk hki ?_ hno
        by_cases hjk : j = k
        · subst hjk; exact hjun
        · rw [getD_set_ne true hjk] at hun; exact hun
      have hs' : (listed.setIfInBounds j true).getD st true = false := by rw [getD_set_ne true hjst]; exact hs
      have hk' : (listed.setIfInBounds j true).getD k true = false := by rw [getD_set_ne true hjk]; exact hk
      have hm' : (listed.setIfInBounds j true).getD m true = false := by rw [getD_set_ne true hjm]; exact hm
      refine wpOp_mono (fun a' w' h5 => ?_) h4
      obtain ⟨h6, h7, h8, h9⟩ := h5
      have hC' : C w' := h8 (by rw [getD_set_ne true hjst, hus]; exact hs)
      refine ⟨fun _ => hC', ih (listed.setIfInBounds j true) a' w' hfree' (ready_mono hr (Ne.symm hji)) hs' hk' hm' h6 hC' ?_⟩
      rw [Array.setIfInBounds_comm _ _ hji]
      exact h9
theorem wpAnyT_first0 {i : Nat} {oi : Oper} {v : Value} (hi : ops[i]? = some oi) (hsel : ∀ (j : Nat) (o : Oper) cs b, ops[j]? = some o → o.op ≠ .select cs b)
    (hQ : ∀ c a w, Q (.panic c) (a.put oi.dst v) w → Q (.panic c) a w) (hne : i ≠ st) :
    ∀ (fuel : Nat) (listed : Array Bool) (a : Act) (w : World),
      (∀ j oj, ops[j]? = some oj → j ≠ i → listed.getD j true = false → (∀ e ∈ oj.after, Region.binds md e = true → e.on ≠ i) → oi.apart ops oj = true) →
      i ∈ Region.ready md ops listed → YieldsQ P ops (fun _ => True) oi v a → (listed.getD st true = false → C w) →
      wpAnyT P md ops Q C st fuel (listed.setIfInBounds i true) (a.put oi.dst v) w → wpAnyT P md ops Q C st (fuel + 1) listed a w := by
  have hus : ∀ (listed : Array Bool), (listed.setIfInBounds i true).getD st true = listed.getD st true := fun listed => getD_set_ne true hne
  intro fuel
  induction fuel with
  | zero =>
    intro listed a w _ hr hy hC H
    refine ⟨fun h => (by rw [h] at hr; cases hr), fun j hj => ?_⟩
    by_cases hji : j = i
    · subst hji
      exact hy.wpOp hi trivial ⟨fun h => hC (by rw [← hus]; exact h), H⟩
    · have h1 := ready_mono hj hji
      rw [H.1] at h1
      cases h1
  | succ fuel ih =>
    intro listed a w hfree hr hy hC H
    refine ⟨fun h => (by rw [h] at hr; cases hr), fun j hj => ?_⟩
    by_cases hji : j = i
    · subst hji
      exact hy.wpOp hi trivial ⟨fun h => hC (by rw [← hus]; exact h), H⟩
    · have h1 := H.2 j (ready_mono hj hji)
      obtain ⟨hjun, oj, hoj, hall⟩ := mem_ready.1 hj
      have hnot : ∀ e ∈ oj.after, Region.binds md e = true → e.on ≠ i := fun e he hb heq => by
        have h3 := hall e he hb
        have h0 := (mem_ready.1 hr).1
        rw [heq] at h3
        rcases Nat.lt_or_ge i listed.size with h' | h'
        · simp [h'] at h0 h3; rw [h0] at h3; cases h3
        · simp [Array.getElem?_eq_none h'] at h3
      have hap := hfree j oj hoj hji hjun hnot
      obtain ⟨_, _, h3⟩ := Oper.apart_spec hap
      have hw : YieldsIf P ops (fun _ => False) oi v a := hy.imp (fun h => ⟨h.1, fun _ h => h.elim⟩) id
      have h2 := wpOp_putIf (S := fun _ => False) hoj hap (fun cs b => hsel i oi cs b hi) (fun cs b => hsel j oj cs b hoj) hQ hw h1
      have h4 := wpOp_keepA (R := fun a' => YieldsQ P ops (fun _ => True) oi v a') hoj
        (fun a' u hR => hR.of_same (execOp_put oi (fun cs b => hsel i oi cs b hi) a' oj.dst u h3) (wanted_put oi a' oj.dst u h3)) (fun a' d hR => hR.of_same rfl rfl) hy h2
      have hfree' : ∀ k ok, ops[k]? = some ok → k ≠ i → (listed.setIfInBounds j true).getD k true = false →
          (∀ e ∈ ok.after, Region.binds md e = true → e.on ≠ i) → oi.apart ops ok = true := fun k ok hk hki hun hno => by
        refine hfree k ok hk hki ?_ hno
        by_cases hjk : j = k
        · subst hjk; exact hjun
        · rw [getD_set_ne true hjk] at hun; exact hun
      refine wpOp_mono (fun a' w' h5 => ?_) h4
      obtain ⟨h6, h7, h8, h9⟩ := h5
      have hC' : (listed.setIfInBounds j true).getD st true = false → C w' := fun h => h8 (by rw [Array.setIfInBounds_comm _ _ (Ne.symm hji), hus]; exact h)
      refine ⟨hC', ih (listed.setIfInBounds j true) a' w' hfree' (ready_mono hr (Ne.symm hji)) h6 hC' ?_⟩
      rw [Array.setIfInBounds_comm _ _ hji]
      exact h9
/-- What yields its value whatever the world may be taken first at any time. -/
theorem wpAnyT_take0 {i : Nat} {oi : Oper} {v : Value} {fuel : Nat} {listed : Array Bool} {a : Act} {w : World} (hi : ops[i]? = some oi)
    (hs : Region.noSelect ops = true) (hf : Region.free md ops listed i = true) (hr : (Region.ready md ops listed).contains i = true) (hne : (i != st) = true)
    (hQ : ∀ c a w, Q (.panic c) (a.put oi.dst v) w → Q (.panic c) a w) (hy : YieldsQ P ops (fun _ => True) oi v a) (hC : listed.getD st true = false → C w)
    (h : wpAnyT P md ops Q C st fuel (listed.setIfInBounds i true) (a.put oi.dst v) w) : wpAnyT P md ops Q C st (fuel + 1) listed a w :=
  wpAnyT_first0 hi (Region.noSelect_spec hs) hQ (bne_iff_ne.1 hne) fuel listed a w (Region.free_spec hi hf) (by simpa using hr) hy hC h
/-- Number i is waited for by number st. -/
def Region.waits (md : Region.Mode) (ops : Array Oper) (st i : Nat) : Bool := match ops[st]? with
  | some o => o.after.any (fun e => Region.binds md e && e.on == i) && (i != st)
  | none => false
theorem wpAnyT_take {i : Nat} {oi : Oper} {v : Value} {fuel : Nat} {listed : Array Bool} {a : Act} {w : World} (hi : ops[i]? = some oi)
    (hs : Region.noSelect ops = true) (hf : Region.free md ops listed i = true) (hr : (Region.ready md ops listed).contains i = true) (hw : Region.waits md ops st i = true) (hst : listed.getD st true = false)
    (hQ : ∀ c a w, Q (.panic c) (a.put oi.dst v) w → Q (.panic c) a w) (hy : YieldsQ P ops C oi v a) (hC : C w)
    (h : wpAnyT P md ops Q C st fuel (listed.setIfInBounds i true) (a.put oi.dst v) w) : wpAnyT P md ops Q C st (fuel + 1) listed a w := by
  unfold Region.waits at hw
  cases ho : ops[st]? with
  | none => rw [ho] at hw; cases hw
  | some ost =>
    rw [ho] at hw
    simp only [Bool.and_eq_true, Array.any_eq_true', bne_iff_ne, ne_eq, beq_iff_eq] at hw
    obtain ⟨⟨e, he, hb, heq⟩, hne⟩ := hw
    exact wpAnyT_first hi (Region.noSelect_spec hs) hQ ho ⟨e, he, hb, heq⟩ hne fuel listed a w (Region.free_spec hi hf) (by simpa using hr) hst hy hC h
theorem wpAnyT_take2 {i : Nat} (k : Nat) {oi : Oper} {v : Value} {fuel : Nat} {listed : Array Bool} {a : Act} {w : World} (hi : ops[i]? = some oi)
    (hs : Region.noSelect ops = true) (hf : Region.free md ops listed i = true) (hr : (Region.ready md ops listed).contains i = true) (hw : (Region.waits md ops st k && Region.waits md ops k i && (i != st)) = true) (hst : (!listed.getD st true && !listed.getD k true) = true)
    (hQ : ∀ c a w, Q (.panic c) (a.put oi.dst v) w → Q (.panic c) a w) (hy : YieldsQ P ops C oi v a) (hC : C w)
    (h : wpAnyT P md ops Q C st fuel (listed.setIfInBounds i true) (a.put oi.dst v) w) : wpAnyT P md ops Q C st (fuel + 1) listed a w := by
  unfold Region.waits at hw
  rw [Bool.and_eq_true, Bool.not_eq_true', Bool.not_eq_true'] at hst
  cases ho : ops[st]? with
  | none => rw [ho] at hw; simp at hw
  | some ost =>
    cases hk : ops[k]? with
    | none => rw [ho, hk] at hw; simp at hw
    | some ok =>
      rw [ho, hk] at hw
      simp only [Bool.and_eq_true, Array.any_eq_true', bne_iff_ne, ne_eq, beq_iff_eq] at hw
      obtain ⟨⟨⟨⟨e, he, hb, heq⟩, _⟩, ⟨e', he', hb', heq'⟩, _⟩, hne⟩ := hw
      exact wpAnyT_first2 hi (Region.noSelect_spec hs) hQ ho hk ⟨e, he, hb, heq⟩ ⟨e', he', hb', heq'⟩ hne fuel listed a w (Region.free_spec hi hf) (by simpa using hr) hst.1 hst.2 hy hC h
theorem wpAnyT_take3 {i : Nat} (k m : Nat) {oi : Oper} {v : Value} {fuel : Nat} {listed : Array Bool} {a : Act} {w : World} (hi : ops[i]? = some oi)
    (hs : Region.noSelect ops = true) (hf : Region.free md ops listed i = true) (hr : (Region.ready md ops listed).contains i = true) (hw : (Region.waits md ops st k && (Region.waits md ops k m && Region.waits md ops m i && (i != st))) = true) (hst : (!listed.getD st true && (!listed.getD k true && !listed.getD m true)) = true)
    (hQ : ∀ c a w, Q (.panic c) (a.put oi.dst v) w → Q (.panic c) a w) (hy : YieldsQ P ops C oi v a) (hC : C w)
    (h : wpAnyT P md ops Q C st fuel (listed.setIfInBounds i true) (a.put oi.dst v) w) : wpAnyT P md ops Q C st (fuel + 1) listed a w := by
  unfold Region.waits at hw
  rw [Bool.and_eq_true, Bool.and_eq_true, Bool.not_eq_true', Bool.not_eq_true', Bool.not_eq_true'] at hst
  cases ho : ops[st]? with
  | none => rw [ho] at hw; simp at hw
  | some ost =>
    cases hk : ops[k]? with
    | none => rw [ho, hk] at hw; simp at hw
    | some ok =>
      cases hm : ops[m]? with
      | none => rw [ho, hk, hm] at hw; simp at hw
      | some om =>
        rw [ho, hk, hm] at hw
        simp only [Bool.and_eq_true, Array.any_eq_true', bne_iff_ne, ne_eq, beq_iff_eq] at hw
        obtain ⟨⟨⟨e, he, hb, heq⟩, _⟩, ⟨⟨⟨e', he', hb', heq'⟩, _⟩, ⟨e2, he2, hb2, heq2⟩, _⟩, hne⟩ := hw
        exact wpAnyT_first3 hi (Region.noSelect_spec hs) hQ ho hk hm ⟨e, he, hb, heq⟩ ⟨e', he', hb', heq'⟩ ⟨e2, he2, hb2, heq2⟩ hne fuel listed a w (Region.free_spec hi hf) (by simpa using hr) hst.1 hst.2.1 hst.2.2 hy hC h
theorem wpAnyT_done {listed : Array Bool} {a : Act} {w : World} (hr : Region.ready md ops listed = []) (h : Q .normal a w) :
    ∀ fuel, wpAnyT P md ops Q C st fuel listed a w
  | 0 => ⟨hr, h⟩
  | _ + 1 => ⟨fun _ => h, by rw [hr]; simp⟩
def AllReadyT (P : Program) (md : Region.Mode) (ops : Array Oper) (Q : Exit → Act → World → Prop) (C : World → Prop) (st fuel : Nat) (listed : Array Bool) (a : Act) (w : World) (rs : List Nat) : Prop :=
  ∀ i ∈ rs, wpOp P ops Q i (fun a' w' => ((listed.setIfInBounds i true).getD st true = false → C w') ∧ wpAnyT P md ops Q C st fuel (listed.setIfInBounds i true) a' w') a w
theorem AllReadyT.nil {fuel : Nat} {listed : Array Bool} {a : Act} {w : World} : AllReadyT P md ops Q C st fuel listed a w [] := fun _ h => by cases h
theorem AllReadyT.cons {fuel : Nat} {listed : Array Bool} {a : Act} {w : World} {i : Nat} {o : Oper} {rs : List Nat} (ho : ops[i]? = some o)
    (h : ∀ K' : Act → World → Prop, Shut (∀ a w, ((listed.setIfInBounds i true).getD st true = false → C w) → (((listed.setIfInBounds i true).getD st true = false → C w) → wpAnyT P md ops Q C st fuel (listed.setIfInBounds i true) a w) → K' a w) → if Region.wanted o (yielded ops a.tmps) = true then Oper.wp P o a w K' Q else K' (a.put o.dst undef) w)
    (hs : AllReadyT P md ops Q C st fuel listed a w rs) : AllReadyT P md ops Q C st fuel listed a w (i :: rs) := fun j hj => by
  rcases List.mem_cons.1 hj with rfl | hj
  · exact wpOp_step ho (fun K' hK => h K' (fun a w hC hW => hK a w ⟨hC, hW hC⟩))
  · exact hs j hj
theorem wpAnyT_ready {rs : List Nat} {fuel : Nat} {listed : Array Bool} {a : Act} {w : World} (hr : Region.ready md ops listed = rs) (hne : rs ≠ [])
    (h : AllReadyT P md ops Q C st fuel listed a w rs) : wpAnyT P md ops Q C st (fuel + 1) listed a w :=
  ⟨fun h0 => absurd (hr ▸ h0) hne, hr ▸ h⟩
/-- The beginning. -/
theorem wp_region_T {id : Nat} {a : Act} {w : World} (C : World → Prop) (st : Nat) (hm : P.follows .mixedOrders = true)
    (h : wpAnyT P .any ops Q C st ops.size (Array.replicate ops.size false) a w.drew) : (Code.region id ops true).wp P Q a w :=
  wp_region_any hm (wpAny_of_T _ _ _ _ h)
end
end Go
