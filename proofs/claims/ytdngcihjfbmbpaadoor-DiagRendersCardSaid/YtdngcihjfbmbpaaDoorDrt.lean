/- Regions that draw their order (no program text): an operation that the store waits for over any number of others is taken first. -/
import Derived.Test.YtdngcihjfbmbpaaDoorDr
namespace Go

section
variable {P : Program} {ops : Array Oper} {Q : Exit → Act → World → Prop} {md : Region.Mode} {C : World → Prop} {st : Nat}

theorem wpAnyT_firstS {i : Nat} (S : List Nat) {oi : Oper} {v : Value} (hi : ops[i]? = some oi) (hsel : ∀ (j : Nat) (o : Oper) cs b, ops[j]? = some o → o.op ≠ .select cs b)
    (hQ : ∀ c a w, Q (.panic c) (a.put oi.dst v) w → Q (.panic c) a w) (hS : ∀ j ∈ S, ∃ oj, ops[j]? = some oj ∧ ∃ e ∈ oj.after, Region.binds md e = true ∧ (e.on = i ∨ e.on ∈ S)) (hSt : st ∈ S) (hne : i ≠ st) :
    ∀ (fuel : Nat) (listed : Array Bool) (a : Act) (w : World),
      (∀ j oj, ops[j]? = some oj → j ≠ i → listed.getD j true = false → (∀ e ∈ oj.after, Region.binds md e = true → e.on ≠ i) → oi.apart ops oj = true) →
      i ∈ Region.ready md ops listed → (∀ j ∈ S, listed.getD j true = false) → YieldsQ P ops C oi v a → C w →
      wpAnyT P md ops Q C st fuel (listed.setIfInBounds i true) (a.put oi.dst v) w → wpAnyT P md ops Q C st (fuel + 1) listed a w := by
  have hus : ∀ (listed : Array Bool), (listed.setIfInBounds i true).getD st true = listed.getD st true := fun listed => getD_set_ne true hne
  intro fuel
  induction fuel with
  | zero =>
    intro listed a w _ hr hs hy hC H
    refine ⟨fun h => (by rw [h] at hr; cases hr), fun j hj => ?_⟩
    by_cases hji : j = i
    · subst hji
      exact hy.wpOp hi hC ⟨fun _ => hC, H⟩
    · have h1 := ready_mono hj hji
      rw [H.1] at h1
      cases h1
  | succ fuel ih =>
    intro listed a w hfree hr hs hy hC H
    refine ⟨fun h => (by rw [h] at hr; cases hr), fun j hj => ?_⟩
    by_cases hji : j = i
    · subst hji
      exact hy.wpOp hi hC ⟨fun _ => hC, H⟩
    · have h1 := H.2 j (ready_mono hj hji)
      obtain ⟨hjun, oj, hoj, hall⟩ := mem_ready.1 hj
      have hnot : ∀ e ∈ oj.after, Region.binds md e = true → e.on ≠ i := fun e he hb heq => by
        have h3 := hall e he hb
        have h0 := (mem_ready.1 hr).1
        rw [heq] at h3
        rcases Nat.lt_or_ge i listed.size with h' | h'
        · simp [h'] at h0 h3; rw [h0] at h3; cases h3
        · simp [Array.getElem?_eq_none h'] at h3
      have hjS : ∀ k ∈ S, j ≠ k := fun k hk e => by
        subst e
        obtain ⟨ok, h5, e, he, hb, heq⟩ := hS j hk
        rw [hoj] at h5
        obtain rfl := Option.some.inj h5
        rcases heq with heq | heq
        · exact hnot e he hb heq
        · have h3 := hall e he hb
          have hm := hs e.on heq
          rcases Nat.lt_or_ge e.on listed.size with h' | h'
          · simp [h'] at hm h3; rw [hm] at h3; cases h3
          · simp [Array.getElem?_eq_none h'] at h3
      have hjst : j ≠ st := hjS st hSt
      have hap := hfree j oj hoj hji hjun hnot
      obtain ⟨_, _, h3⟩ := Oper.apart_spec hap
      have hw : YieldsIf P ops (fun _ => False) oi v a := hy.imp (fun h => ⟨h.1, fun _ h => h.elim⟩) id
      have h2 := wpOp_putIf (S := fun _ => False) hoj hap (fun cs b => hsel i oi cs b hi) (fun cs b => hsel j oj cs b hoj) hQ hw h1
      have h4 := wpOp_keepA (R := fun a' => YieldsQ P ops C oi v a') hoj
        (fun a' u hR => hR.of_same (execOp_put oi (fun cs b => hsel i oi cs b hi) a' oj.dst u h3) (wanted_put oi a' oj.dst u h3)) (fun a' d hR => hR.of_same rfl rfl) hy h2
      have hfree' : ∀ k ok, ops[k]? = some ok → k ≠ i → (listed.setIfInBounds j true).getD k true = false →
          (∀ e ∈ ok.after, Region.binds md e = true → e.on ≠ i) → oi.apart ops ok = true := fun k ok hk hki hun hno => by
        refine hfree k ok hk hki ?_ hno
        by_cases hjk : j = k
        · subst hjk; exact hjun
        · rw [getD_set_ne true hjk] at hun; exact hun
      have hs' : ∀ k ∈ S, (listed.setIfInBounds j true).getD k true = false := fun k hk => by rw [getD_set_ne true (hjS k hk)]; exact hs k hk
      refine wpOp_mono (fun a' w' h5 => ?_) h4
      obtain ⟨h6, h7, h8, h9⟩ := h5
      have hC' : C w' := h8 (by rw [getD_set_ne true hjst, hus]; exact hs st hSt)
      refine ⟨fun _ => hC', ih (listed.setIfInBounds j true) a' w' hfree' (ready_mono hr (Ne.symm hji)) hs' h6 hC' ?_⟩
      rw [Array.setIfInBounds_comm _ _ hji]
      exact h9
/-- S: operations still to come, the store among them, each of which waits for i or for one of S. -/
theorem wpAnyT_takeS {i : Nat} (S : List Nat) {oi : Oper} {v : Value} {fuel : Nat} {listed : Array Bool} {a : Act} {w : World} (hi : ops[i]? = some oi)
    (hs : Region.noSelect ops = true) (hf : Region.free md ops listed i = true) (hr : (Region.ready md ops listed).contains i = true)
    (hw : (S.all (fun j => match ops[j]? with | some o => o.after.any (fun e => Region.binds md e && (e.on == i || S.contains e.on)) | none => false) && (S.contains st && (i != st))) = true) (hst : S.all (fun j => !listed.getD j true) = true)
    (hQ : ∀ c a w, Q (.panic c) (a.put oi.dst v) w → Q (.panic c) a w) (hy : YieldsQ P ops C oi v a) (hC : C w)
    (h : wpAnyT P md ops Q C st fuel (listed.setIfInBounds i true) (a.put oi.dst v) w) : wpAnyT P md ops Q C st (fuel + 1) listed a w := by
  simp only [Bool.and_eq_true, List.all_eq_true, bne_iff_ne, ne_eq, List.contains_iff_mem] at hw
  obtain ⟨h1, h2, h3⟩ := hw
  refine wpAnyT_firstS S hi (Region.noSelect_spec hs) hQ (fun j hj => ?_) h2 h3 fuel listed a w (Region.free_spec hi hf) (by simpa using hr) (fun j hj => by simpa using (List.all_eq_true.1 hst) j hj) hy hC h
  have h4 := h1 j hj
  cases ho : ops[j]? with
  | none => rw [ho] at h4; cases h4
  | some oj =>
    rw [ho] at h4
    simp only [Array.any_eq_true', Bool.and_eq_true, Bool.or_eq_true, beq_iff_eq, List.contains_iff_mem] at h4
    obtain ⟨e, he, hb, h5⟩ := h4
    exact ⟨oj, rfl, e, he, hb, h5⟩
end
end Go
