/- Of what value hands back: the nodes' kinds, what is told; counting (correctorlaw11). -/
import Derived.Test.YtmlpaafclobgcaaAidw
import Derived.Test.YtmlpaafclobgcaaMgP
import Derived.Test.YtmlpaafclobgcaaTkf
import Derived.Test.YtmlpaafclobgcaaMgE
import Derived.Test.YtmlpaafclobgcaaMgO
namespace Go.Proofs.Ytmlpaafclobgcaa
open Go.RowKit
open Go.Proofs.Ytmlpaafclobgcaa.Sg
open Go.Proofs.Ytmlpaafclobgcaa.Sq
open Go.Proofs.Ytmlpaafclobgcaa.Ar
set_option linter.unusedVariables false

theorem value_at (s : ByteArray) (w : World) (hs : s.size ≤ 10000) (hL : Tame (Sc.nats s)) {T : List Tk} (hT : Sc.tokens (Sc.nats s) = T) {N : Nat} {a : Int} {b : Nat} {s' : Fl.St} (hN : T.length = N) (hv : Fl.valN T N 9 0 0 ⟨newN N, []⟩ = (a, b, s')) :
    Calls Try.prog 15 #[.string s] w fun e w' => ∃ u dv, e = .returned (.tuple #[.agg #[u], .int .i64 a, .int .i64 (b : Int), dv, .int .i64 (N : Int)]) ∧ Nodes w' u s'.t ∧ Reads encD w' dv s'.d ∧ Below w.heap.size w w' := by
  refine (value_is s w hs hL).mono ?_
  rintro e w' ⟨u, dv, h1, h2, h3, h4⟩
  rw [hT, hN, hv] at h1 h2 h3
  exact ⟨u, dv, h1, h2, h3, h4⟩
/-- Nodes that were handed back: where their cells lie. -/
theorem nodes_all {w : World} {a : Option Addr} {cap : Nat} {l : List Nd} (h : Nodes w (.slice a l.length cap) l) (h0 : 0 < l.length) :
    ∃ b off, a = some ⟨b, off, none⟩ ∧ ∀ j x, l[j]? = some x → w.cell? ⟨b, off + j * 6, none⟩ = some (.int .i64 x.k) ∧ w.cell? ⟨b, off + j * 6 + 5, none⟩ = some (.bool x.y) := by
  obtain ⟨b, off, ka, kc, e, -⟩ := h.at_ 0 l[0] (List.getElem?_eq_getElem h0)
  refine ⟨b, off, e, fun j x hj => ?_⟩
  obtain ⟨b', off', ka', kc', e', q0, -, -, -, -, q5, -⟩ := h.at_ j x hj
  rw [e] at e'
  injection e' with e'
  injection e' with h5 h6
  subst h5 h6
  exact ⟨q0, q5⟩
theorem told_all {w : World} {a : Option Addr} {cap : Nat} {l : List Fl.Dg} (h : Reads encD w (.slice a l.length cap) l) (h0 : 0 < l.length) :
    ∃ b off, a = some ⟨b, off, none⟩ ∧ ∀ j (x : Fl.Dg), l[j]? = some x → w.cell? ⟨b, off + j * 3, none⟩ = some (.int .i64 (x.code : Int)) ∧ w.cell? ⟨b, off + j * 3 + 1, none⟩ = some (.int .i64 (x.f : Int)) ∧ w.cell? ⟨b, off + j * 3 + 2, none⟩ = some (.int .i64 (x.t : Int)) := by
  obtain ⟨b, off, e, -⟩ := h.at_ 0 l[0] (List.getElem?_eq_getElem h0)
  refine ⟨b, off, e, fun j x hj => ?_⟩
  obtain ⟨b', off', e', hat⟩ := h.at_ j x hj
  rw [e] at e'
  injection e' with e'
  injection e' with h5 h6
  subst h5 h6
  exact ⟨hat 0 _ rfl, hat 1 _ rfl, hat 2 _ rfl⟩
/-- How many nodes are of a kind. -/
def nk (c : Int) (l : List (Int × Bool)) : Nat := l.countP (fun p => p.1 == c)
theorem nk_step {c : Int} {l : List Nd} {i : Nat} {x : Nd} (h : l[i]? = some x) : nk c ((Fl.sig l).take (i + 1)) = nk c ((Fl.sig l).take i) + (if x.k = c then 1 else 0) := by
  have hs : (Fl.sig l)[i]? = some (x.k, x.y) := by unfold Fl.sig; rw [List.getElem?_map, h]; rfl
  rw [List.take_add_one, hs]
  unfold nk
  rw [List.countP_append]
  by_cases e : x.k = c
  · simp [e]
  · simp [e]
theorem nk_le (c : Int) (l : List (Int × Bool)) (i : Nat) : nk c (l.take i) ≤ i := by
  have h1 := List.countP_le_length (p := fun p : Int × Bool => p.1 == c) (l := l.take i)
  have h2 := List.length_take_le i l
  unfold nk; omega
theorem nk_all (c : Int) (l : List Nd) : nk c ((Fl.sig l).take l.length) = nk c (Fl.sig l) := by
  rw [List.take_of_length_le (by unfold Fl.sig; rw [List.length_map]; omega)]
theorem nk_cons (c k : Int) (y : Bool) (l : List (Int × Bool)) : nk c ((k, y) :: l) = (if k = c then 1 else 0) + nk c l := by
  unfold nk
  rw [List.countP_cons]
  by_cases e : k = c
  · simp [e]; omega
  · simp [e]
/-- Letters and commas: what stands ahead of the next. -/
def comE : Bool → List Nat → Bool
  | h, [] => h
  | _, k :: r => comE (k == 15) r
theorem comOk_put : ∀ (h : Bool) (r : List Nat) (k : Nat), Fl.comOk h r → ((k = 15 ∧ comE h r = false) ∨ k = 7) → Fl.comOk h (r ++ [k])
  | h, [], k => fun _ hk => by
    rcases hk with ⟨h1, h2⟩ | h1
    · exact .inl ⟨h1, h2, trivial⟩
    · exact .inr ⟨h1, trivial⟩
  | h, x :: r, k => fun hr hk => by
    rcases hr with ⟨h1, h2, h3⟩ | ⟨h1, h3⟩
    · subst h1; exact .inl ⟨rfl, h2, comOk_put true r k h3 hk⟩
    · subst h1; exact .inr ⟨rfl, comOk_put false r k h3 hk⟩
theorem comE_put : ∀ (h : Bool) (r : List Nat) (k : Nat), comE h (r ++ [k]) = (k == 15)
  | h, [], k => rfl
  | h, x :: r, k => comE_put _ r k
theorem comD_put : ∀ (h : Bool) (p : Nat) (r : List Nat) (k : Nat), Fl.comOk h r → (Fl.comD h p (r ++ [k])).length = (Fl.comD h p r).length + (if k = 15 then 0 else if comE h r = true then 0 else 1)
  | h, p, [], k => fun _ => by
    show (Fl.comD h p [k]).length = _
    unfold Fl.comD comE
    by_cases e : k = 15
    · simp [e, Fl.comD]
    · cases h <;> simp [e, Fl.comD]
  | h, p, x :: r, k => fun hr => by
    rcases hr with ⟨h1, h2, h3⟩ | ⟨h1, h3⟩
    · subst h1
      exact comD_put true (p + 1) r k h3
    · subst h1
      have ih := comD_put false (p + 1) r k h3
      cases h with
      | true => exact ih
      | false =>
        show (Fl.comD false (p + 1) (r ++ [k])).length + 1 = (Fl.comD false (p + 1) r).length + 1 + _
        rw [ih]
        show _ + (if k = 15 then 0 else if comE false r = true then 0 else 1) + 1 = _ + 1 + (if k = 15 then 0 else if comE false r = true then 0 else 1)
        omega
theorem comK_put : ∀ (h : Bool) (r : List Nat) (k : Nat), Fl.comOk h r → nk 7 (Fl.comK h (r ++ [k])) = nk 7 (Fl.comK h r) + (if k = 15 then 1 else 0)
  | h, [], k => fun _ => by
    show nk 7 (Fl.comK h [k]) = _
    unfold Fl.comK
    by_cases e : k = 15
    · simp [e, Fl.comK, nk]
    · cases h <;> simp [e, Fl.comK, nk]
  | h, x :: r, k => fun hr => by
    rcases hr with ⟨h1, h2, h3⟩ | ⟨h1, h3⟩
    · subst h1
      have ih := comK_put true r k h3
      show nk 7 ((7, false) :: Fl.comK true (r ++ [k])) = nk 7 ((7, false) :: Fl.comK true r) + _
      rw [nk_cons, nk_cons, ih]; omega
    · subst h1
      have ih := comK_put false r k h3
      cases h with
      | true => exact ih
      | false =>
        show nk 7 ((11, false) :: Fl.comK false (r ++ [k])) = nk 7 ((11, false) :: Fl.comK false r) + _
        rw [nk_cons, nk_cons, ih]; omega
theorem com_tame (r : List Nat) : Tame (91 :: (r.map Fl.comB ++ [93])) := fun x hx => by
  rw [List.mem_cons, List.mem_append, List.mem_map] at hx
  rcases hx with h | ⟨z, _, h⟩ | h
  · omega
  · unfold Fl.comB at h; split at h <;> omega
  · simp at h; omega
theorem openS_7 : ∀ n, nk 7 (Fl.openS n) = n
  | 0 => rfl
  | n + 1 => by
    show nk 7 ((9, false) :: (7, false) :: Fl.openS n) = n + 1
    rw [nk_cons, nk_cons, openS_7 n]; simp; omega
end Go.Proofs.Ytmlpaafclobgcaa
