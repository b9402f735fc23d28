/- Package arena: New, has; slices.Equal of numbers; alike. -/
import Derived.Test.YthkieidcjakhgaaAid10
import Derived.Test.YthkieidcjakhgaaQt
namespace Go.Proofs.Ythkieidcjakhgaa
open Go.RowKit
open Go.Proofs.Ythkieidcjakhgaa.Sq
open Go.Proofs.Ythkieidcjakhgaa.Ar
set_option linter.unusedVariables false

theorem aot_new (w : World) (u : Value) (x : Nd) (hx : x.ks = []) : OT ((w.alloc (.cells #[u] 27)).alloc (.cells #[.int .i64 x.k, .int .i64 x.f, .int .i64 x.t, .int .i64 x.u, .slice none 0 0, .bool x.y] 48)) w.heap.size (.slice (some ⟨w.heap.size + 1, 0, none⟩) 1 1) [⟨x, none, 0, 0⟩] := by
  have h := ot_one (w.alloc (.cells #[u] 27)) w.heap.size x hx (by simp)
  rw [size_alloc] at h
  exact h
set_option maxHeartbeats 1000000 in
theorem aNew : PNew := by
  intro n w
  obtain ⟨m, hm⟩ : ∃ m, (if n < 0 ∨ 32768 < n then 0 else n) = m := ⟨_, rfl⟩
  have e : newN n = [⟨1, 0, m, -1, [], false⟩] := by unfold newN; rw [hm]
  have hO := fun u => aot_new w u ⟨1, 0, m, -1, [], false⟩ rfl
  have HO := Lib.hid hO
  rw [e]
  have HB := Lib.hid (fun o o' => below_allocS (below_alloc w o) o')
  clear e hO
  by_cases h1 : n < 0
  · rw [if_pos (.inl h1)] at hm
    subst hm
    go_enter Try.func10, Try.ntmps10
    go_wp2
    refine bodyPost_ret (v := .agg #[.slice (some ⟨w.heap.size + 1, 0, none⟩) 1 1]) ?_ rfl ⟨_, rfl, (HO.out _).nodes, fun e => absurd e (by decide), HB.out _ _⟩
    simp [results, Try.results10, go_sem]
  · by_cases h2 : 32768 < n
    · rw [if_pos (.inr h2)] at hm
      subst hm
      go_enter Try.func10, Try.ntmps10
      go_wp2
      refine bodyPost_ret (v := .agg #[.slice (some ⟨w.heap.size + 1, 0, none⟩) 1 1]) ?_ rfl ⟨_, rfl, (HO.out _).nodes, fun e => absurd e (by decide), HB.out _ _⟩
      simp [results, Try.results10, go_sem]
    · rw [if_neg (fun h => h.elim h1 h2)] at hm
      subst hm
      go_enter Try.func10, Try.ntmps10
      go_wp2
      refine bodyPost_ret (v := .agg #[.slice (some ⟨w.heap.size + 1, 0, none⟩) 1 1]) ?_ rfl ⟨_, rfl, (HO.out _).nodes, fun e => absurd e (by decide), HB.out _ _⟩
      simp [results, Try.results10, go_sem]
/-- Is there a node of that number? -/
def hasN (N : Nat) (k : Int) : Bool := decide (0 ≤ k) && decide (k < N)
set_option maxHeartbeats 1000000 in
theorem has_any (a : Option Addr) (N cap : Nat) (k : Int) (w : World) (hN : N ≤ 1000000) :
    Calls Try.prog 27 #[.agg #[.slice a N cap], .int .i64 k] w (fun e w' => e = .returned (.bool (hasN N k)) ∧ Below w.heap.size w w') := by
  have HB := Lib.hid (fun o => below_alloc w o)
  obtain ⟨R, hR⟩ : ∃ R, hasN N k = R := ⟨_, rfl⟩
  rw [hR]
  unfold hasN at hR
  by_cases h1 : 0 ≤ k
  · have d1 : decide (0 ≤ k) = true := decide_eq_true h1
    by_cases h2 : k < (N : Int)
    · obtain rfl : R = true := by rw [← hR]; simp [h1, h2]
      have d2 : decide (k < (N : Int)) = true := decide_eq_true h2
      clear hR
      go_enter Try.func27, Try.ntmps27
      go_wp2_with fail
      go_ret
      exact ⟨rfl, HB.out _⟩
    · obtain rfl : R = false := by rw [← hR]; simp [h2]
      have d2 : decide (k < (N : Int)) = false := decide_eq_false h2
      clear hR
      go_enter Try.func27, Try.ntmps27
      go_wp2_with fail
      go_ret
      exact ⟨rfl, HB.out _⟩
  · obtain rfl : R = false := by rw [← hR]; simp [h1]
    have d1 : decide (0 ≤ k) = false := decide_eq_false h1
    clear hR
    go_enter Try.func27, Try.ntmps27
    go_wp2_with fail
    go_ret
    exact ⟨rfl, HB.out _⟩
set_option maxHeartbeats 2000000 in
set_option maxRecDepth 100000 in
theorem eqInts (v1 v2 : Value) (l q : List Int) (w : World) (h : Reads encI w v1 l) (h2 : Reads encI w v2 q) (hs : l.length ≤ 1000) (hs2 : q.length ≤ 1000) :
    Calls Try.prog 39 #[v1, v2] w (fun e w' => e = .returned (.bool (decide (l = q))) ∧ Below w.heap.size w w') := by
  obtain ⟨a, cap, rfl⟩ := h.shape
  obtain ⟨a2, cap2, rfl⟩ := h2.shape
  obtain ⟨R, hR⟩ : ∃ R, decide (l = q) = R := ⟨_, rfl⟩
  have hno : ∀ (j : Nat) (x y : Int), l[j]? = some x → q[j]? = some y → x ≠ y → R = false := fun j x y e1 e2 hne => by
    rw [← hR]; exact decide_eq_false (fun e => hne (by rw [e, e2] at e1; exact (Option.some.inj e1).symm))
  have hln : l.length ≠ q.length → R = false := fun hne => by rw [← hR]; exact decide_eq_false (fun e => hne (by rw [e]))
  have hal : l.length = q.length → (∀ (j : Nat) x y, l[j]? = some x → q[j]? = some y → x = y) → R = true := fun e ha => by
    rw [← hR]
    refine decide_eq_true (List.ext_getElem? (fun j => ?_))
    by_cases hj : j < l.length
    · have e1 := List.getElem?_eq_getElem hj
      have e2 := List.getElem?_eq_getElem (show j < q.length by omega)
      rw [e1, e2, ha j _ _ e1 e2]
    · rw [List.getElem?_eq_none (by omega), List.getElem?_eq_none (by omega)]
  rw [hR]
  have HX := Lib.hid (fun W (hb : Below w.heap.size w W) j x (hj : l[j]? = some x) => kids_at (h.below hb) j x hj)
  have HY := Lib.hid (fun W (hb : Below w.heap.size w W) j x (hj : q[j]? = some x) => kids_at (h2.below hb) j x hj)
  have HQ := Lib.hid (fun b w' => show (b = R ∧ Below w.heap.size w w') → (fun e (w' : World) => e = Ending.returned (.bool R) ∧ Below w.heap.size w w') (.returned (.bool b)) w' from fun h => ⟨by rw [h.1], h.2⟩)
  obtain ⟨Q, hQ⟩ : ∃ Q, (fun e (w' : World) => e = Ending.returned (.bool R) ∧ Below w.heap.size w w') = Q := ⟨_, rfl⟩
  rw [hQ] at HQ ⊢
  obtain ⟨N, hN⟩ : ∃ N, l.length = N := ⟨_, rfl⟩
  obtain ⟨M, hM⟩ : ∃ M, q.length = M := ⟨_, rfl⟩
  rw [hN] at hs hln hal ⊢
  rw [hM] at hs2 hln hal ⊢
  have HN := Lib.hid hN
  have HM := Lib.hid hM
  have HLn := Lib.hid hln
  have HNo := Lib.hid hno
  have HAl := Lib.hid hal
  clear h h2 hR hno hln hal hQ hN hM
  go_enter Try.func39, Try.ntmps39
  by_cases hne : N = M
  · subst hne
    go_wp2_with fail
    go_loopw [13] (fun iv wr => ∃ (i : Nat), iv = .int .i64 i ∧ i ≤ N ∧ Hid (∀ (j : Nat) x y, j < i → l[j]? = some x → q[j]? = some y → x = y) ∧ Hid (Below w.heap.size w wr)) (fun iv _ => N - (intOf iv).toNat)
    case atStart => exact ⟨0, rfl, Nat.zero_le _, Lib.hid (fun j x y hj => absurd hj (Nat.not_lt_zero j)), Lib.hid (Below.refl _ _)⟩
    case round =>
      obtain ⟨i, rfl, hi, HA, HB⟩ := hrel
      by_cases hlt : i < N
      · obtain ⟨x, hx⟩ : ∃ x, l[i]? = some x := ⟨_, List.getElem?_eq_getElem (by rw [HN.out]; exact hlt)⟩
        obtain ⟨y, hy⟩ : ∃ y, q[i]? = some y := ⟨_, List.getElem?_eq_getElem (by rw [HM.out]; exact hlt)⟩
        obtain ⟨b, off, rfl, x0⟩ := HX.out wr HB.out i x hx
        obtain ⟨b2, off2, rfl, y0⟩ := HY.out wr HB.out i y hy
        have hii : (i : Int) < (N : Int) := by omega
        by_cases e : x = y
        · have n1 : (x == y) = true := by simp [e]
          have m1 : (x != y) = false := by simp [e]
          have HA2 := Lib.hid (show ∀ (j : Nat) x y, j < i + 1 → l[j]? = some x → q[j]? = some y → x = y from fun j x' y' hj h1 h2 => by
            by_cases ej : j = i
            · subst ej
              rw [hx] at h1; rw [hy] at h2
              rw [← Option.some.inj h1, ← Option.some.inj h2]; exact e
            · exact HA.out j x' y' (by omega) h1 h2)
          clear hx hy e
          go_wp2_with fail
          go_big_quiet (fail)
          have HB2 := Lib.hid (below_drewN HB.out nq)
          go_wp2_with fail
          go_roundw
          case rel => exact ⟨i + 1, by go_num, by omega, HA2, HB2⟩
          case measure => simp [intOf]; omega
        · have n1 : (x == y) = false := by simp [e]
          have m1 : (x != y) = true := by simp [e]
          have HR := Lib.hid (HNo.out i x y hx hy e)
          clear hx hy e
          go_wp2_with fail
          go_big_quiet (fail)
          have HD := Lib.hid (HQ.out false _ ⟨HR.out.symm, below_drewN HB.out nq⟩)
          go_wp2_with fail
          exact HD.out
      · obtain rfl : i = N := by omega
        have hii : ¬ ((i : Int) < (i : Int)) := by omega
        have HD := Lib.hid (HQ.out true wr ⟨(HAl.out (by first | rfl | trivial) (fun j x y h1 h2 => HA.out j x y (by rw [← HN.out]; exact (List.getElem?_eq_some_iff.1 h1).1) h1 h2)).symm, HB.out⟩)
        clear hlt
        go_wp2_with fail
        exact HD.out
  · have n1 : decide (N = M) = false := decide_eq_false hne
    have n2 : (N == M) = false := by simp [hne]
    have n3 : ((N : Int) == (M : Int)) = false := by simp; omega
    have n4 : ((N : Int) != (M : Int)) = true := by simp; omega
    have HD := Lib.hid (HQ.out false w ⟨(HLn.out hne).symm, Below.refl _ _⟩)
    clear hne
    go_wp2_with fail
    exact HD.out
end Go.Proofs.Ythkieidcjakhgaa
