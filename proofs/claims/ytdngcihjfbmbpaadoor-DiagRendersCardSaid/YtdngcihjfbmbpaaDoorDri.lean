/- Regions that draw their order (no program text): where each operation, a call too, yields one value in whatever world meets C, and leaves a world that meets C, the order does not count. -/
import Derived.OrdersHeld
import Derived.Deep.RegionHeld
import Derived.Deep.RegionHeld3
namespace Go

section
variable {P : Program} {ops : Array Oper} {Q : Exit → Act → World → Prop} {md : Region.Mode} {C : World → Prop}

/-- An operation that yields v and leaves a world that meets C: by itself, or by a call. -/
def RunI (P : Program) (C : World → Prop) (m : Sem Next) (v : Value) (w : World) : Prop :=
  match m.run P w with
  | .ok (.value u) w' => u = v ∧ C w'
  | .ok (.enter f args) w' => Calls P f args w' (fun e w'' => e = .returned v ∧ C w'')
  | _ => False
theorem RunI.of_run {m : Sem Next} {v : Value} {w w' : World} (h : m.run P w = .ok (.value v) w') (hC : C w') : RunI P C m v w := by
  unfold RunI
  rw [h]
  exact ⟨rfl, hC⟩
theorem RunI.of_call {m : Sem Next} {v : Value} {w w' : World} {f : FuncId} {args : Array Value} (h : m.run P w = .ok (.enter f args) w') (hc : Calls P f args w' (fun e w'' => e = .returned v ∧ C w'')) : RunI P C m v w := by
  unfold RunI
  rw [h]
  exact hc
def YieldsI (P : Program) (ops : Array Oper) (C : World → Prop) (o : Oper) (v : Value) (a : Act) : Prop :=
  (Region.wanted o (yielded ops a.tmps) = true ∧ ∀ w, C w → RunI P C (execOp a.eval o) v w) ∨
  (Region.wanted o (yielded ops a.tmps) = false ∧ v = undef)
theorem YieldsI.of_same {o : Oper} {v : Value} {a a' : Act} (hy : YieldsI P ops C o v a) (he : execOp a'.eval o = execOp a.eval o)
    (hw : Region.wanted o (yielded ops a'.tmps) = Region.wanted o (yielded ops a.tmps)) : YieldsI P ops C o v a' := by
  unfold YieldsI at *
  rw [he, hw]
  exact hy
theorem YieldsI.wpOp {i : Nat} {o : Oper} {v : Value} {a : Act} (hi : ops[i]? = some o) (hy : YieldsI P ops C o v a)
    {K : Act → World → Prop} {w : World} (hC : C w) (h : ∀ w', C w' → K (a.put o.dst v) w') : wpOp P ops Q i K a w := by
  unfold Go.wpOp
  simp only [hi]
  rcases hy with ⟨hw, hv⟩ | ⟨hw, rfl⟩
  · rw [if_pos hw]
    refine .inl ?_
    have hq := hv w hC
    unfold RunI at hq
    unfold Oper.wp
    revert hq
    generalize (execOp a.eval o).run P w = r
    intro hq
    cases r with
    | halt x w' => exact hq.elim
    | ok n w' =>
      cases n <;> simp only at hq
      case value u =>
        obtain ⟨rfl, hC'⟩ := hq
        exact h _ hC'
      case enter f args =>
        simp only [Oper.upon]
        refine Calls.mono hq fun e w'' he => ?_
        obtain ⟨rfl, hC'⟩ := he
        exact h _ hC'
  · rw [if_neg (by rw [hw]; decide)]
    exact h _ hC
/-- Whatever order is picked from here on. -/
def wpAnyI (P : Program) (md : Region.Mode) (ops : Array Oper) (Q : Exit → Act → World → Prop) (C : World → Prop) : Nat → Array Bool → Act → Prop
  | 0, listed, a => Region.ready md ops listed = [] ∧ ∀ w, C w → Q .normal a w
  | fuel + 1, listed, a =>
    (Region.ready md ops listed = [] → ∀ w, C w → Q .normal a w) ∧
    ∀ i ∈ Region.ready md ops listed, ∃ o v, ops[i]? = some o ∧ YieldsI P ops C o v a ∧ wpAnyI P md ops Q C fuel (listed.setIfInBounds i true) (a.put o.dst v)
theorem wpAny_of_I : ∀ (fuel : Nat) (listed : Array Bool) (a : Act) (w : World), C w → wpAnyI P md ops Q C fuel listed a → wpAny P md ops Q fuel listed a w
  | 0, _, _, w, hC, h => ⟨h.1, h.2 w hC⟩
  | fuel + 1, _, _, w, hC, h => ⟨fun hr => h.1 hr w hC, fun i hi => by
      obtain ⟨o, v, ho, hy, h'⟩ := h.2 i hi
      exact hy.wpOp ho hC (fun w' hC' => wpAny_of_I fuel _ _ w' hC' h')⟩
theorem put_two (a : Act) {d e : Option Tmp} (u v : Value) (h : ∀ x, d = some x → e ≠ some x) : (a.put d u).put e v = (a.put e v).put d u := by
  cases d with
  | none => rfl
  | some x =>
    cases e with
    | none => rfl
    | some y =>
      have hne : x ≠ y := fun he => h x rfl (by rw [he])
      simp only [Act.put]
      rw [Array.setIfInBounds_comm _ _ hne]
/-- What yields its value may be taken first. -/
theorem wpAnyI_first {i : Nat} {oi : Oper} {v : Value} (hi : ops[i]? = some oi) (hsel : ∀ (j : Nat) (o : Oper) cs b, ops[j]? = some o → o.op ≠ .select cs b) :
    ∀ (fuel : Nat) (listed : Array Bool) (a : Act),
      (∀ j oj, ops[j]? = some oj → j ≠ i → listed.getD j true = false → (∀ e ∈ oj.after, Region.binds md e = true → e.on ≠ i) → oi.apart ops oj = true) →
      i ∈ Region.ready md ops listed → YieldsI P ops C oi v a →
      wpAnyI P md ops Q C fuel (listed.setIfInBounds i true) (a.put oi.dst v) → wpAnyI P md ops Q C (fuel + 1) listed a := by
  intro fuel
  induction fuel with
  | zero =>
    intro listed a _ hr hy H
    refine ⟨fun h => (by rw [h] at hr; cases hr), fun j hj => ?_⟩
    by_cases hji : j = i
    · subst hji
      exact ⟨oi, v, hi, hy, H⟩
    · have h1 := ready_mono hj hji
      rw [H.1] at h1
      cases h1
  | succ fuel ih =>
    intro listed a hfree hr hy H
    refine ⟨fun h => (by rw [h] at hr; cases hr), fun j hj => ?_⟩
    by_cases hji : j = i
    · subst hji
      exact ⟨oi, v, hi, hy, H⟩
    · obtain ⟨oj', vj, hoj', hyj, h1⟩ := H.2 j (ready_mono hj hji)
      obtain ⟨hjun, oj, hoj, hall⟩ := mem_ready.1 hj
      obtain rfl : oj' = oj := Option.some.inj (hoj'.symm.trans hoj)
      have hnot : ∀ e ∈ oj'.after, Region.binds md e = true → e.on ≠ i := fun e he hb heq => by
        have h3 := hall e he hb
        have h0 := (mem_ready.1 hr).1
        rw [heq] at h3
        rcases Nat.lt_or_ge i listed.size with h' | h'
        · simp [h'] at h0 h3; rw [h0] at h3; cases h3
        · simp [Array.getElem?_eq_none h'] at h3
      have hap := hfree j oj' hoj hji hjun hnot
      obtain ⟨h2, h3, h4⟩ := Oper.apart_spec hap
      have hyj' : YieldsI P ops C oj' vj a := hyj.of_same (execOp_put oj' (fun cs b => hsel j oj' cs b hoj) a oi.dst v h2).symm (wanted_put oj' a oi.dst v h2).symm
      have hyi : YieldsI P ops C oi v (a.put oj'.dst vj) := hy.of_same (execOp_put oi (fun cs b => hsel i oi cs b hi) a oj'.dst vj h4) (wanted_put oi a oj'.dst vj h4)
      have hfree' : ∀ k ok, ops[k]? = some ok → k ≠ i → (listed.setIfInBounds j true).getD k true = false →
          (∀ e ∈ ok.after, Region.binds md e = true → e.on ≠ i) → oi.apart ops ok = true := fun k ok hk hki hun hno => by
        refine hfree k ok hk hki ?_ hno
        by_cases hjk : j = k
        · subst hjk; exact hjun
        · rw [getD_set_ne true hjk] at hun; exact hun
      refine ⟨oj', vj, hoj, hyj', ih (listed.setIfInBounds j true) (a.put oj'.dst vj) hfree' (ready_mono hr (Ne.symm hji)) hyi ?_⟩
      rw [Array.setIfInBounds_comm _ _ hji, put_two a vj v (fun x hx he => h3 x he hx)]
      exact h1
theorem wpAnyI_take {i : Nat} {oi : Oper} {v : Value} {fuel : Nat} {listed : Array Bool} {a : Act} (hi : ops[i]? = some oi)
    (hs : Region.noSelect ops = true) (hf : Region.free md ops listed i = true) (hr : (Region.ready md ops listed).contains i = true) (hy : YieldsI P ops C oi v a)
    (h : wpAnyI P md ops Q C fuel (listed.setIfInBounds i true) (a.put oi.dst v)) : wpAnyI P md ops Q C (fuel + 1) listed a :=
  wpAnyI_first hi (Region.noSelect_spec hs) fuel listed a (Region.free_spec hi hf) (by simpa using hr) hy h
theorem wpAnyI_done {listed : Array Bool} {a : Act} (hr : Region.ready md ops listed = []) (h : ∀ w, C w → Q .normal a w) :
    ∀ fuel, wpAnyI P md ops Q C fuel listed a
  | 0 => ⟨hr, h⟩
  | _ + 1 => ⟨fun _ => h, by rw [hr]; simp⟩
/-- The beginning. -/
theorem wp_region_I {id : Nat} {a : Act} {w : World} (C : World → Prop) (hm : P.follows .mixedOrders = true) (hC : C w.drew)
    (h : wpAnyI P .any ops Q C ops.size (Array.replicate ops.size false) a) : (Code.region id ops true).wp P Q a w :=
  wp_region_any hm (wpAny_of_I _ _ _ _ hC h)
/-- .. until number st alone is left to come: then as it comes. -/
def wpAnyJ (P : Program) (md : Region.Mode) (ops : Array Oper) (Q : Exit → Act → World → Prop) (C : World → Prop) (st : Nat) : Nat → Array Bool → Act → Prop
  | 0, listed, a => Region.ready md ops listed = [] ∧ ∀ w, C w → Q .normal a w
  | fuel + 1, listed, a =>
    (Region.ready md ops listed = [st] ∧ ∀ w, C w → wpAny P md ops Q (fuel + 1) listed a w) ∨
    (Region.ready md ops listed ≠ [] ∧ ∀ i ∈ Region.ready md ops listed, ∃ o v, ops[i]? = some o ∧ YieldsI P ops C o v a ∧ wpAnyJ P md ops Q C st fuel (listed.setIfInBounds i true) (a.put o.dst v))
theorem wpAny_of_J {st : Nat} : ∀ (fuel : Nat) (listed : Array Bool) (a : Act) (w : World), C w → wpAnyJ P md ops Q C st fuel listed a → wpAny P md ops Q fuel listed a w
  | 0, _, _, w, hC, h => ⟨h.1, h.2 w hC⟩
  | fuel + 1, _, _, w, hC, h => by
    rcases h with h | h
    · exact h.2 w hC
    · refine ⟨fun hr => absurd hr h.1, fun i hi => ?_⟩
      obtain ⟨o, v, ho, hy, h'⟩ := h.2 i hi
      exact hy.wpOp ho hC (fun w' hC' => wpAny_of_J fuel _ _ w' hC' h')
/-- S: operations still to come, st among them, each of which waits for i or for one of S. -/
theorem wpAnyJ_first {i st : Nat} (S : List Nat) {oi : Oper} {v : Value} (hi : ops[i]? = some oi) (hsel : ∀ (j : Nat) (o : Oper) cs b, ops[j]? = some o → o.op ≠ .select cs b)
    (hS : ∀ j ∈ S, ∃ oj, ops[j]? = some oj ∧ ∃ e ∈ oj.after, Region.binds md e = true ∧ (e.on = i ∨ e.on ∈ S)) (hSt : st ∈ S) :
    ∀ (fuel : Nat) (listed : Array Bool) (a : Act),
      (∀ j oj, ops[j]? = some oj → j ≠ i → listed.getD j true = false → (∀ e ∈ oj.after, Region.binds md e = true → e.on ≠ i) → oi.apart ops oj = true) →
      i ∈ Region.ready md ops listed → (∀ j ∈ S, listed.getD j true = false) → YieldsI P ops C oi v a →
      wpAnyJ P md ops Q C st fuel (listed.setIfInBounds i true) (a.put oi.dst v) → wpAnyJ P md ops Q C st (fuel + 1) listed a := by
  have out : ∀ (listed : Array Bool), i ∈ Region.ready md ops listed → (∀ j ∈ S, listed.getD j true = false) → ∀ j ∈ Region.ready md ops listed, j ∉ S := fun listed hr hs j hj hjS => by
    obtain ⟨_, oj, hoj, hall⟩ := mem_ready.1 hj
    obtain ⟨o2, ho2, e, he, hb, h5⟩ := hS j hjS
    obtain rfl : o2 = oj := Option.some.inj (ho2.symm.trans hoj)
    have h3 := hall e he hb
    have h0 : listed.getD e.on true = false := by
      rcases h5 with h5 | h5
      · rw [h5]; exact (mem_ready.1 hr).1
      · exact hs _ h5
    rcases Nat.lt_or_ge e.on listed.size with h' | h'
    · simp [h'] at h0 h3; rw [h0] at h3; cases h3
    · simp [Array.getElem?_eq_none h'] at h3
  intro fuel
  induction fuel with
  | zero =>
    intro listed a _ hr hs hy H
    refine .inr ⟨fun h => (by rw [h] at hr; cases hr), fun j hj => ?_⟩
    by_cases hji : j = i
    · subst hji
      exact ⟨oi, v, hi, hy, H⟩
    · have h1 := ready_mono hj hji
      rw [H.1] at h1
      cases h1
  | succ fuel ih =>
    intro listed a hfree hr hs hy H
    refine .inr ⟨fun h => (by rw [h] at hr; cases hr), fun j hj => ?_⟩
    by_cases hji : j = i
    · subst hji
      exact ⟨oi, v, hi, hy, H⟩
    · have hjS := out listed hr hs j hj
      have hjr := ready_mono hj hji
      rcases H with H | H
      · rw [H.1, List.mem_singleton] at hjr
        exact absurd (hjr ▸ hSt) hjS
      obtain ⟨oj', vj, hoj', hyj, h1⟩ := H.2 j hjr
      obtain ⟨hjun, oj, hoj, hall⟩ := mem_ready.1 hj
      obtain rfl : oj' = oj := Option.some.inj (hoj'.symm.trans hoj)
      have hnot : ∀ e ∈ oj'.after, Region.binds md e = true → e.on ≠ i := fun e he hb heq => by
        have h3 := hall e he hb
        have h0 := (mem_ready.1 hr).1
        rw [heq] at h3
        rcases Nat.lt_or_ge i listed.size with h' | h'
        · simp [h'] at h0 h3; rw [h0] at h3; cases h3
        · simp [Array.getElem?_eq_none h'] at h3
      have hap := hfree j oj' hoj hji hjun hnot
      obtain ⟨h2, h3, h4⟩ := Oper.apart_spec hap
      have hyj' : YieldsI P ops C oj' vj a := hyj.of_same (execOp_put oj' (fun cs b => hsel j oj' cs b hoj) a oi.dst v h2).symm (wanted_put oj' a oi.dst v h2).symm
      have hyi : YieldsI P ops C oi v (a.put oj'.dst vj) := hy.of_same (execOp_put oi (fun cs b => hsel i oi cs b hi) a oj'.dst vj h4) (wanted_put oi a oj'.dst vj h4)
      have hfree' : ∀ k ok, ops[k]? = some ok → k ≠ i → (listed.setIfInBounds j true).getD k true = false →
          (∀ e ∈ ok.after, Region.binds md e = true → e.on ≠ i) → oi.apart ops ok = true := fun k ok hk hki hun hno => by
        refine hfree k ok hk hki ?_ hno
        by_cases hjk : j = k
        · subst hjk; exact hjun
        · rw [getD_set_ne true hjk] at hun; exact hun
      have hs' : ∀ k ∈ S, (listed.setIfInBounds j true).getD k true = false := fun k hk => by rw [getD_set_ne true (fun e => hjS (by rw [e]; exact hk))]; exact hs k hk
      refine ⟨oj', vj, hoj, hyj', ih (listed.setIfInBounds j true) (a.put oj'.dst vj) hfree' (ready_mono hr (Ne.symm hji)) hs' hyi ?_⟩
      rw [Array.setIfInBounds_comm _ _ hji, put_two a vj v (fun x hx he => h3 x he hx)]
      exact h1
theorem wpAnyJ_take {i st : Nat} (S : List Nat) {oi : Oper} {v : Value} {fuel : Nat} {listed : Array Bool} {a : Act} (hi : ops[i]? = some oi)
    (hs : Region.noSelect ops = true) (hf : Region.free md ops listed i = true) (hr : (Region.ready md ops listed).contains i = true)
    (hw : (S.all (fun j => match ops[j]? with | some o => o.after.any (fun e => Region.binds md e && (e.on == i || S.contains e.on)) | none => false) && S.contains st) = true) (hst : S.all (fun j => !listed.getD j true) = true)
    (hy : YieldsI P ops C oi v a) (h : wpAnyJ P md ops Q C st fuel (listed.setIfInBounds i true) (a.put oi.dst v)) : wpAnyJ P md ops Q C st (fuel + 1) listed a := by
  simp only [Bool.and_eq_true, List.all_eq_true, List.contains_iff_mem] at hw
  obtain ⟨h1, h2⟩ := hw
  refine wpAnyJ_first S hi (Region.noSelect_spec hs) (fun j hj => ?_) h2 fuel listed a (Region.free_spec hi hf) (by simpa using hr) (fun j hj => by simpa using (List.all_eq_true.1 hst) j hj) hy h
  have h4 := h1 j hj
  cases ho : ops[j]? with
  | none => rw [ho] at h4; cases h4
  | some oj =>
    rw [ho] at h4
    simp only [Array.any_eq_true', Bool.and_eq_true, Bool.or_eq_true, beq_iff_eq, List.contains_iff_mem] at h4
    obtain ⟨e, he, hb, h5⟩ := h4
    exact ⟨oj, rfl, e, he, hb, h5⟩
theorem wpAnyJ_stop {st fuel : Nat} {listed : Array Bool} {a : Act} (hr : Region.ready md ops listed = [st]) (h : ∀ w, C w → wpAny P md ops Q (fuel + 1) listed a w) : wpAnyJ P md ops Q C st (fuel + 1) listed a := .inl ⟨hr, h⟩
theorem wp_region_J {id : Nat} {a : Act} {w : World} (C : World → Prop) (st : Nat) (hm : P.follows .mixedOrders = true) (hC : C w.drew)
    (h : wpAnyJ P .any ops Q C st ops.size (Array.replicate ops.size false) a) : (Code.region id ops true).wp P Q a w :=
  wp_region_any hm (wpAny_of_J _ _ _ _ hC h)
end
end Go
