/- Diagnostics as three whole numbers: their order; put in order, each once (chapter 14's Sort, plainly); heaps of them as lists: what an exchange does; going up and going down keep them; the first one is the least. No program text. -/
import Derived.Test.YtdngcihjfbmbpaaDoorSeq
namespace Go.Proofs.YtdngcihjfbmbpaaDoor.Zd

structure Dg where
  code : Int
  f : Int
  t : Int
deriving DecidableEq
def less (a b : Dg) : Bool := if a.f = b.f then (if a.t = b.t then decide (a.code < b.code) else decide (a.t < b.t)) else decide (a.f < b.f)
def same (a b : Dg) : Bool := a.code == b.code && a.f == b.f && a.t == b.t
def insD (x : Dg) : List Dg → List Dg
  | [] => [x]
  | y :: r => if less x y = true then x :: y :: r else if same x y = true then y :: r else y :: insD x r
def sortD (l : List Dg) : List Dg := l.foldl (fun o x => insD x o) []

theorem less_iff (a b : Dg) : less a b = true ↔ a.f < b.f ∨ (a.f = b.f ∧ (a.t < b.t ∨ (a.t = b.t ∧ a.code < b.code))) := by
  unfold less
  split
  · split
    · simp; omega
    · simp; omega
  · simp; omega
theorem same_iff (a b : Dg) : same a b = true ↔ a = b := by
  unfold same
  obtain ⟨a1, a2, a3⟩ := a
  obtain ⟨b1, b2, b3⟩ := b
  simp
  constructor
  · rintro ⟨⟨rfl, rfl⟩, rfl⟩; exact ⟨rfl, rfl, rfl⟩
  · rintro ⟨rfl, rfl, rfl⟩; exact ⟨⟨rfl, rfl⟩, rfl⟩
theorem less_trans {a b c : Dg} (h : less a b = true) (g : less b c = true) : less a c = true := by
  rw [less_iff] at *; omega
theorem less_irr (a : Dg) : less a a = false := by
  rw [Bool.eq_false_iff]; intro h; rw [less_iff] at h; omega
theorem less_asym {a b : Dg} (h : less a b = true) : less b a = false := by
  rw [Bool.eq_false_iff]; intro g; rw [less_iff] at *; omega
theorem less_tot {a b : Dg} (h : less a b = false) (g : a ≠ b) : less b a = true := by
  rw [Bool.eq_false_iff, ne_eq, less_iff] at h
  rw [less_iff]
  obtain ⟨a1, a2, a3⟩ := a
  obtain ⟨b1, b2, b3⟩ := b
  dsimp only at *
  by_cases e : a2 = b2 ∧ a3 = b3 ∧ a1 = b1
  · obtain ⟨rfl, rfl, rfl⟩ := e; exact absurd rfl g
  · omega
/-- In order, each once. -/
def Srt (l : List Dg) : Prop := l.Pairwise (fun a b => less a b = true)
theorem mem_ins (x y : Dg) : ∀ l : List Dg, y ∈ insD x l ↔ y = x ∨ y ∈ l
  | [] => by simp [insD]
  | z :: r => by
    rw [insD]
    split
    · simp
    · split
      · rename_i h; rw [same_iff] at h; subst h; simp
      · rw [List.mem_cons, mem_ins x y r, List.mem_cons]
        constructor
        · rintro (h | h | h)
          · exact .inr (.inl h)
          · exact .inl h
          · exact .inr (.inr h)
        · rintro (h | h | h)
          · exact .inr (.inl h)
          · exact .inl h
          · exact .inr (.inr h)
theorem srt_ins (x : Dg) : ∀ l : List Dg, Srt l → Srt (insD x l)
  | [] => fun _ => by unfold Srt insD; exact List.pairwise_singleton _ _
  | z :: r => fun h => by
    unfold Srt at h
    rw [List.pairwise_cons] at h
    rw [insD]
    split
    · rename_i hl
      unfold Srt
      rw [List.pairwise_cons, List.pairwise_cons]
      refine ⟨fun y hy => ?_, h⟩
      rcases List.mem_cons.1 hy with rfl | hy
      · exact hl
      · exact less_trans hl (h.1 y hy)
    · rename_i hl
      split
      · unfold Srt; rw [List.pairwise_cons]; exact h
      · rename_i hs
        unfold Srt
        rw [List.pairwise_cons]
        refine ⟨fun y hy => ?_, srt_ins x r h.2⟩
        rw [mem_ins] at hy
        rcases hy with rfl | hy
        · exact less_tot (by simpa using hl) (fun e => hs ((same_iff _ _).2 e))
        · exact h.1 y hy
theorem sort_fold : ∀ (l o : List Dg), Srt o → Srt (l.foldl (fun o x => insD x o) o) ∧ ∀ y, y ∈ l.foldl (fun o x => insD x o) o ↔ y ∈ o ∨ y ∈ l
  | [], o => fun h => ⟨h, fun y => by simp⟩
  | x :: r, o => fun h => by
    rw [List.foldl_cons]
    obtain ⟨h1, h2⟩ := sort_fold r (insD x o) (srt_ins x o h)
    refine ⟨h1, fun y => ?_⟩
    rw [h2, mem_ins, List.mem_cons]
    constructor
    · rintro ((h | h) | h)
      · exact .inr (.inl h)
      · exact .inl h
      · exact .inr (.inr h)
    · rintro (h | h | h)
      · exact .inl (.inr h)
      · exact .inl (.inl h)
      · exact .inr h
theorem srt_sort (l : List Dg) : Srt (sortD l) := (sort_fold l [] List.Pairwise.nil).1
theorem mem_sort (l : List Dg) (y : Dg) : y ∈ sortD l ↔ y ∈ l := by
  have := (sort_fold l [] List.Pairwise.nil).2 y
  unfold sortD; rw [this]; simp
theorem ins_last (x : Dg) : ∀ l : List Dg, (∀ y ∈ l, less y x = true) → insD x l = l ++ [x]
  | [] => fun _ => rfl
  | z :: r => fun h => by
    have hz := h z (by simp)
    rw [insD, if_neg (by rw [less_asym hz]; simp), if_neg (fun hs => by rw [same_iff] at hs; subst hs; rw [less_irr] at hz; cases hz), ins_last x r (fun y hy => h y (by simp [hy]))]
    rfl
theorem fold_srt : ∀ (l o : List Dg), Srt (o ++ l) → l.foldl (fun o x => insD x o) o = o ++ l
  | [], o => fun _ => by simp
  | x :: r, o => fun h => by
    rw [List.foldl_cons, ins_last x o (fun y hy => by
      unfold Srt at h; rw [List.pairwise_append] at h; exact h.2.2 y hy x (by simp)), fold_srt r (o ++ [x]) (by simpa using h), List.append_assoc]; rfl
/-- Put in order again it stays. -/
theorem sort_srt {l : List Dg} (h : Srt l) : sortD l = l := by
  unfold sortD; rw [fold_srt l [] (by simpa using h)]; rfl
theorem srt_eq : ∀ {a b : List Dg}, Srt a → Srt b → (∀ y, y ∈ a ↔ y ∈ b) → a = b
  | [], [] => fun _ _ _ => rfl
  | [], y :: b => fun _ _ h => absurd ((h y).2 (by simp)) (by simp)
  | x :: a, [] => fun _ _ h => absurd ((h x).1 (by simp)) (by simp)
  | x :: a, y :: b => fun ha hb h => by
    unfold Srt at ha hb
    rw [List.pairwise_cons] at ha hb
    have hxy : x = y := by
      rcases List.mem_cons.1 ((h x).1 (by simp)) with e | e
      · exact e
      · rcases List.mem_cons.1 ((h y).2 (by simp)) with e2 | e2
        · exact e2.symm
        · have h1 := hb.1 x e
          have h2 := ha.1 y e2
          rw [less_asym h1] at h2; cases h2
    subst hxy
    refine congrArg (x :: ·) (srt_eq ha.2 hb.2 (fun z => ?_))
    constructor
    · intro hz
      rcases List.mem_cons.1 ((h z).1 (List.mem_cons_of_mem _ hz)) with e | e
      · subst e; have := ha.1 z hz; rw [less_irr] at this; cases this
      · exact e
    · intro hz
      rcases List.mem_cons.1 ((h z).2 (List.mem_cons_of_mem _ hz)) with e | e
      · subst e; have := hb.1 z hz; rw [less_irr] at this; cases this
      · exact e
/-- Of what stands once in a row there is one when it is in order, too. -/
theorem count_srt (P : Dg → Bool) : ∀ {s : List Dg}, Srt s → ∀ x ∈ s, P x = true → (∀ y ∈ s, P y = true → y = x) → s.countP P = 1
  | [] => fun _ x hx => by cases hx
  | z :: r => fun h x hx hp hu => by
    unfold Srt at h
    rw [List.pairwise_cons] at h
    rw [List.countP_cons]
    rcases List.mem_cons.1 hx with rfl | hx
    · rw [if_pos hp]
      have : r.countP P = 0 := by
        rw [List.countP_eq_zero]
        intro y hy hpy
        have := hu y (by simp [hy]) hpy
        subst this
        have := h.1 y hy
        rw [less_irr] at this; cases this
      omega
    · have hz : P z = false := by
        rw [Bool.eq_false_iff]; intro hz
        have := hu z (by simp) hz
        subst this
        have := h.1 z hx
        rw [less_irr] at this; cases this
      rw [hz, count_srt P h.2 x hx hp (fun y hy => hu y (by simp [hy]))]
      simp
theorem count_sort (P : Dg → Bool) (l : List Dg) (h : l.countP P = 1) : (sortD l).countP P = 1 := by
  have hpos : 0 < l.countP P := by omega
  rw [List.countP_pos_iff] at hpos
  obtain ⟨x, hx, hp⟩ := hpos
  refine count_srt P (srt_sort l) x ((mem_sort l x).2 hx) hp (fun y hy hpy => ?_)
  have hy := (mem_sort l y).1 hy
  have hf : (l.filter P).length = 1 := by rw [← List.countP_eq_length_filter]; exact h
  obtain ⟨z, hz⟩ := List.length_eq_one_iff.1 hf
  have h1 : x ∈ l.filter P := List.mem_filter.2 ⟨hx, hp⟩
  have h2 : y ∈ l.filter P := List.mem_filter.2 ⟨hy, hpy⟩
  rw [hz, List.mem_singleton] at h1 h2
  rw [h1, h2]

theorem lt_irrefl (a : Dg) : less a a = false := less_irr a
theorem lt_trans {a b c : Dg} (h : less a b = true) (k : less b c = true) : less a c = true := less_trans h k
theorem lt_asymm {a b : Dg} (h : less a b = true) : less b a = false := less_asym h
theorem less_no (a b : Dg) : less a b = false ↔ ¬ (a.f < b.f ∨ (a.f = b.f ∧ (a.t < b.t ∨ (a.t = b.t ∧ a.code < b.code)))) := by
  rw [Bool.eq_false_iff, ne_eq, less_iff]
/-- not above: a does not stand behind b. -/
theorem ge_trans {a b c : Dg} (h : less b a = false) (k : less c b = false) : less c a = false := by
  rw [less_no] at *; omega
theorem lt_of_ge_ne {a b : Dg} (h : less b a = false) (hne : a ≠ b) : less a b = true := less_tot h (Ne.symm hne)
/-- What stands at place k. -/
def at_ (l : List (Dg)) (k : Nat) : Dg := l.getD k ⟨0, 0, 0⟩
/-- Two exchanged. -/
def sw (l : List (Dg)) (i j : Nat) : List (Dg) := (l.set i (at_ l j)).set j (at_ l i)
theorem sw_len (l : List (Dg)) (i j : Nat) : (sw l i j).length = l.length := by simp [sw]
def tr (i j k : Nat) : Nat := if k = j then i else if k = i then j else k
theorem sw_at (l : List (Dg)) (i j k : Nat) (hi : i < l.length) (hj : j < l.length) : at_ (sw l i j) k = at_ l (tr i j k) := by
  unfold sw at_ tr
  simp only [List.getD_eq_getElem?_getD, List.getElem?_set, List.length_set]
  by_cases h1 : j = k
  · subst h1; simp [hj]
  · by_cases h2 : i = k
    · subst h2; simp [h1, Ne.symm h1, hi]
    · simp [h1, h2, Ne.symm h1, Ne.symm h2]
theorem mem_at {l : List (Dg)} {y : Dg} : y ∈ l ↔ ∃ k, k < l.length ∧ at_ l k = y := by
  unfold at_
  constructor
  · intro h
    obtain ⟨k, hk, e⟩ := List.getElem_of_mem h
    exact ⟨k, hk, by simp [List.getD_eq_getElem?_getD, hk, e]⟩
  · rintro ⟨k, hk, rfl⟩
    simp [List.getD_eq_getElem?_getD, hk]
theorem tr_lt {i j k n : Nat} (hi : i < n) (hj : j < n) (hk : k < n) : tr i j k < n := by
  unfold tr
  split
  · exact hi
  · split
    · exact hj
    · exact hk
theorem tr_tr (i j k : Nat) : tr i j (tr i j k) = k := by
  unfold tr
  by_cases h1 : k = j
  · subst h1
    by_cases h2 : i = k
    · simp [h2]
    · simp [h2]
  · by_cases h2 : k = i
    · subst h2; simp [h1]
    · simp [h1, h2]
/-- The same are in both. -/
def Same (l m : List (Dg)) : Prop := l.length = m.length ∧ ∀ y, y ∈ l ↔ y ∈ m
theorem Same.refl (l : List (Dg)) : Same l l := ⟨rfl, fun _ => Iff.rfl⟩
theorem Same.trans {a b c : List (Dg)} (h : Same a b) (k : Same b c) : Same a c := ⟨h.1.trans k.1, fun y => (h.2 y).trans (k.2 y)⟩
theorem Same.sw {l : List (Dg)} {i j : Nat} (hi : i < l.length) (hj : j < l.length) : Same l (sw l i j) := by
  refine ⟨(sw_len l i j).symm, fun y => ?_⟩
  rw [mem_at, mem_at]
  constructor
  · rintro ⟨k, hk, rfl⟩
    refine ⟨tr i j k, by rw [sw_len]; exact tr_lt hi hj hk, ?_⟩
    rw [sw_at l i j _ hi hj, tr_tr]
  · rintro ⟨k, hk, rfl⟩
    rw [sw_len] at hk
    exact ⟨tr i j k, tr_lt hi hj hk, (sw_at l i j k hi hj).symm⟩
/-- The first n are a heap. -/
def IsHeap (l : List (Dg)) (n : Nat) : Prop := ∀ k, 0 < k → k < n → less (at_ l k) (at_ l ((k - 1) / 2)) = false
/-- .. but that the one at j may be too low down. -/
def UpInv (l : List (Dg)) (n j : Nat) : Prop :=
  (∀ k, 0 < k → k < n → k ≠ j → less (at_ l k) (at_ l ((k - 1) / 2)) = false) ∧ (∀ k, 0 < k → k < n → (k - 1) / 2 = j → 0 < j → less (at_ l k) (at_ l ((j - 1) / 2)) = false)
/-- .. but that the one at i may be too high up. -/
def DnInv (l : List (Dg)) (n i : Nat) : Prop :=
  (∀ k, 0 < k → k < n → (k - 1) / 2 ≠ i → less (at_ l k) (at_ l ((k - 1) / 2)) = false) ∧ (∀ k, 0 < k → k < n → (k - 1) / 2 = i → 0 < i → less (at_ l k) (at_ l ((i - 1) / 2)) = false)
theorem at_app_lt {l : List (Dg)} {x : Dg} {k : Nat} (h : k < l.length) : at_ (l ++ [x]) k = at_ l k := by
  simp [at_, List.getElem?_append_left h]
theorem at_app_eq (l : List (Dg)) (x : Dg) : at_ (l ++ [x]) l.length = x := by simp [at_]
theorem up_start {l : List (Dg)} (x : Dg) (h : IsHeap l l.length) : UpInv (l ++ [x]) (l.length + 1) l.length := by
  refine ⟨fun k h0 hk hne => ?_, fun k h0 hk he h1 => by omega⟩
  have hk' : k < l.length := by omega
  rw [at_app_lt hk', at_app_lt (by omega)]
  exact h k h0 hk'
theorem up_top {l : List (Dg)} {n : Nat} (h : UpInv l n 0) : IsHeap l n := fun k h0 hk => h.1 k h0 hk (by omega)
theorem up_stop {l : List (Dg)} {n j : Nat} (h : UpInv l n j) (hc : less (at_ l j) (at_ l ((j - 1) / 2)) = false) : IsHeap l n := fun k h0 hk => by
  by_cases e : k = j
  · subst e; exact hc
  · exact h.1 k h0 hk e
theorem up_step {l : List (Dg)} {n j : Nat} (h : UpInv l n j) (h0 : 0 < j) (hj : j < n) (hn : n ≤ l.length) (hc : less (at_ l j) (at_ l ((j - 1) / 2)) = true) : UpInv (sw l ((j - 1) / 2) j) n ((j - 1) / 2) := by
  obtain ⟨p, hp⟩ : ∃ p, (j - 1) / 2 = p := ⟨_, rfl⟩
  have hpl : p < l.length := by omega
  have hjl : j < l.length := by omega
  have hpj : p < j := by omega
  obtain ⟨h1, h2⟩ := h
  rw [hp] at hc h2 ⊢
  refine ⟨fun k k0 hk hne => ?_, fun k k0 hk he p0 => ?_⟩
  · rw [sw_at l p j _ hpl hjl, sw_at l p j _ hpl hjl]
    by_cases kj : k = j
    · subst kj
      rw [hp]
      have e1 : tr p k k = p := by simp [tr]
      have e2 : tr p k p = k := by unfold tr; rw [if_neg (by omega), if_pos rfl]
      rw [e1, e2]
      exact lt_asymm hc
    · have e1 : tr p j k = k := by unfold tr; rw [if_neg kj, if_neg hne]
      rw [e1]
      by_cases q1 : (k - 1) / 2 = j
      · rw [q1, show tr p j j = p from by simp [tr]]
        exact h2 k k0 hk q1 h0
      · by_cases q2 : (k - 1) / 2 = p
        · rw [q2, show tr p j p = j from by unfold tr; rw [if_neg (by omega), if_pos rfl]]
          have := h1 k k0 hk kj
          rw [q2] at this
          exact ge_trans (lt_asymm hc) this
        · rw [show tr p j ((k - 1) / 2) = (k - 1) / 2 from by unfold tr; rw [if_neg q1, if_neg q2]]
          exact h1 k k0 hk kj
  · rw [sw_at l p j _ hpl hjl, sw_at l p j _ hpl hjl]
    have hpp := h1 p p0 (by omega) (by omega)
    rw [show tr p j ((p - 1) / 2) = (p - 1) / 2 from by unfold tr; rw [if_neg (by omega), if_neg (by omega)]]
    by_cases kj : k = j
    · subst kj
      rw [show tr p k k = p from by simp [tr]]
      exact hpp
    · rw [show tr p j k = k from by unfold tr; rw [if_neg kj, if_neg (by omega)]]
      have := h1 k k0 hk kj
      rw [he] at this
      exact ge_trans hpp this
theorem dn_none {l : List (Dg)} {n i : Nat} (h : DnInv l n i) (hn : n ≤ 2 * i + 1) : IsHeap l n := fun k h0 hk => h.1 k h0 hk (by omega)
/-- j is the lesser child of i. -/
def Child (l : List (Dg)) (n i j : Nat) : Prop := (j = 2 * i + 1 ∨ j = 2 * i + 2) ∧ j < n ∧ ∀ k, 0 < k → k < n → (k - 1) / 2 = i → less (at_ l k) (at_ l j) = false
theorem child_left {l : List (Dg)} {n i : Nat} (h1 : 2 * i + 1 < n) (h : 2 * i + 2 < n → less (at_ l (2 * i + 2)) (at_ l (2 * i + 1)) = false) : Child l n i (2 * i + 1) := by
  refine ⟨.inl rfl, h1, fun k k0 hk he => ?_⟩
  rcases (show k = 2 * i + 1 ∨ k = 2 * i + 2 from by omega) with rfl | rfl
  · exact lt_irrefl _
  · exact h hk
theorem child_right {l : List (Dg)} {n i : Nat} (h1 : 2 * i + 2 < n) (h : less (at_ l (2 * i + 2)) (at_ l (2 * i + 1)) = true) : Child l n i (2 * i + 2) := by
  refine ⟨.inr rfl, h1, fun k k0 hk he => ?_⟩
  rcases (show k = 2 * i + 1 ∨ k = 2 * i + 2 from by omega) with rfl | rfl
  · exact lt_asymm h
  · exact lt_irrefl _
theorem dn_stop {l : List (Dg)} {n i j : Nat} (h : DnInv l n i) (hj : Child l n i j) (hc : less (at_ l j) (at_ l i) = false) : IsHeap l n := fun k h0 hk => by
  by_cases e : (k - 1) / 2 = i
  · rw [e]; exact ge_trans hc (hj.2.2 k h0 hk e)
  · exact h.1 k h0 hk e
theorem dn_step {l : List (Dg)} {n i j : Nat} (h : DnInv l n i) (hj : Child l n i j) (hn : n ≤ l.length) (hc : less (at_ l j) (at_ l i) = true) : DnInv (sw l i j) n j := by
  obtain ⟨hj1, hj2, hj3⟩ := hj
  have hil : i < l.length := by omega
  have hjl : j < l.length := by omega
  have hij : i < j := by omega
  have hpj : (j - 1) / 2 = i := by omega
  obtain ⟨h1, h2⟩ := h
  refine ⟨fun k k0 hk hne => ?_, fun k k0 hk he p0 => ?_⟩
  · rw [sw_at l i j _ hil hjl, sw_at l i j _ hil hjl]
    by_cases kj : k = j
    · subst kj
      rw [hpj, show tr i k k = i from by simp [tr], show tr i k i = k from by unfold tr; rw [if_neg (by omega), if_pos rfl]]
      exact lt_asymm hc
    · by_cases q : (k - 1) / 2 = i
      · rw [q, show tr i j i = j from by unfold tr; rw [if_neg (by omega), if_pos rfl], show tr i j k = k from by unfold tr; rw [if_neg kj, if_neg (by omega)]]
        exact hj3 k k0 hk q
      · rw [show tr i j ((k - 1) / 2) = (k - 1) / 2 from by unfold tr; rw [if_neg hne, if_neg q]]
        by_cases ki : k = i
        · subst ki
          rw [show tr k j k = j from by unfold tr; rw [if_neg kj, if_pos rfl]]
          exact h2 j (by omega) hj2 hpj k0
        · rw [show tr i j k = k from by unfold tr; rw [if_neg kj, if_neg ki]]
          exact h1 k k0 hk q
  · rw [hpj, sw_at l i j _ hil hjl, sw_at l i j _ hil hjl, show tr i j i = j from by unfold tr; rw [if_neg (by omega), if_pos rfl], show tr i j k = k from by unfold tr; rw [if_neg (by omega), if_neg (by omega)]]
    have := h1 k k0 hk (by omega)
    rw [he] at this
    exact this
/-- The first one is the least. -/
theorem heap_top {l : List (Dg)} {n : Nat} (h : IsHeap l n) (k : Nat) (hk : k < n) : less (at_ l k) (at_ l 0) = false := by
  induction k using Nat.strongRecOn with
  | ind k ih =>
    by_cases k0 : k = 0
    · subst k0; exact lt_irrefl _
    · exact ge_trans (ih ((k - 1) / 2) (by omega) (by omega)) (h k (by omega) hk)
/-- Put the last one first: the others are a heap but for it. -/
theorem dn_start {l : List (Dg)} {n : Nat} (h : IsHeap l (n + 1)) (hn : n + 1 = l.length) : DnInv (sw l 0 n) n 0 := by
  refine ⟨fun k k0 hk hne => ?_, fun k k0 hk he p0 => by omega⟩
  rw [sw_at l 0 n _ (by omega) (by omega), sw_at l 0 n _ (by omega) (by omega), show tr 0 n k = k from by unfold tr; rw [if_neg (by omega), if_neg (by omega)],
    show tr 0 n ((k - 1) / 2) = (k - 1) / 2 from by unfold tr; rw [if_neg (by omega), if_neg hne]]
  exact h k k0 (by omega)
theorem sw_last {l : List (Dg)} {n : Nat} (hn : n + 1 = l.length) : at_ (sw l 0 n) n = at_ l 0 := by
  rw [sw_at l 0 n _ (by omega) (by omega)]
  simp [tr]
/-- Places from n on stay. -/
theorem sw_stay {l : List (Dg)} {i j n k : Nat} (hi : i < n) (hj : j < n) (hn : n ≤ l.length) (hk : n ≤ k) : at_ (sw l i j) k = at_ l k := by
  rw [sw_at l i j _ (by omega) (by omega), show tr i j k = k from by unfold tr; rw [if_neg (by omega), if_neg (by omega)]]
theorem mem_take_last {l : List (Dg)} {n : Nat} (hn : n + 1 = l.length) (y : Dg) : y ∈ l ↔ y ∈ l.take n ∨ y = at_ l n := by
  have e : l = l.take n ++ [at_ l n] := by
    apply List.ext_getElem?
    intro k
    by_cases h : k < n
    · rw [List.getElem?_append_left (by simp; omega), List.getElem?_take, if_pos h]
    · by_cases h2 : k = n
      · subst h2
        rw [List.getElem?_append_right (by simp; omega)]
        simp [at_, show k < l.length from by omega, Nat.min_eq_left (show k ≤ l.length from by omega)]
      · rw [List.getElem?_eq_none (by omega), List.getElem?_eq_none (by simp; omega)]
  constructor
  · intro h
    rw [e] at h
    simpa using h
  · intro h
    rw [e]
    simpa using h
theorem heap_take {l : List (Dg)} {n : Nat} (h : IsHeap l n) (hn : n ≤ l.length) : IsHeap (l.take n) (l.take n).length := by
  have hl : (l.take n).length = n := by simp; omega
  have ha : ∀ k, k < n → at_ (l.take n) k = at_ l k := fun k hk => by simp [at_, hk]
  intro k k0 hk
  rw [hl] at hk
  rw [ha k hk, ha _ (by omega)]
  exact h k k0 hk
/-- Rising. -/
def Rises (l : List (Dg)) : Prop := l.Pairwise fun a b => less a b = true
theorem rises_eq {l m : List (Dg)} (h : Rises l) (k : Rises m) (hm : ∀ y, y ∈ l ↔ y ∈ m) : l = m := by
  induction l generalizing m with
  | nil =>
    cases m with
    | nil => rfl
    | cons b s => exact absurd ((hm b).2 (List.mem_cons_self ..)) (by simp)
  | cons a r ih =>
    cases m with
    | nil => exact absurd ((hm a).1 (List.mem_cons_self ..)) (by simp)
    | cons b s =>
      obtain ⟨ha, hr⟩ := List.pairwise_cons.1 h
      obtain ⟨hb, hs⟩ := List.pairwise_cons.1 k
      have e : a = b := by
        rcases List.mem_cons.1 ((hm a).1 (List.mem_cons_self ..)) with e | e
        · exact e
        · rcases List.mem_cons.1 ((hm b).2 (List.mem_cons_self ..)) with e2 | e2
          · exact e2.symm
          · have := lt_asymm (hb a e)
            rw [ha b e2] at this
            cases this
      subst e
      congr 1
      refine ih hr hs fun y => ?_
      constructor
      · intro hy
        rcases List.mem_cons.1 ((hm y).1 (List.mem_cons_of_mem _ hy)) with e | e
        · subst e
          have := ha y hy
          rw [lt_irrefl] at this
          cases this
        · exact e
      · intro hy
        rcases List.mem_cons.1 ((hm y).2 (List.mem_cons_of_mem _ hy)) with e | e
        · subst e
          have := hb y hy
          rw [lt_irrefl] at this
          cases this
        · exact e
theorem rises_snoc {l : List (Dg)} {x : Dg} (h : Rises l) (hx : ∀ y ∈ l, less y x = true) : Rises (l ++ [x]) := by
  unfold Rises
  rw [List.pairwise_append]
  exact ⟨h, by simp, fun a ha b hb => by rw [List.mem_singleton.1 hb]; exact hx a ha⟩
end Go.Proofs.YtdngcihjfbmbpaaDoor.Zd
