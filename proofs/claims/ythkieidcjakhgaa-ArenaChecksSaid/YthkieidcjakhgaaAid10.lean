/- The statements' own small functions (correctorlaw10.known, within, ToRef, Of, Few); what is asked of package arena. -/
import Derived.Test.YthkieidcjakhgaaAr6
import Derived.Test.YthkieidcjakhgaaAr7
import Derived.Test.YthkieidcjakhgaaAr9
namespace Go.Proofs.Ythkieidcjakhgaa
open Go.RowKit
open Go.Proofs.Ythkieidcjakhgaa.Sq
open Go.Proofs.Ythkieidcjakhgaa.Ar
set_option linter.unusedVariables false

/-- A number brought within n. -/
def wit (x n : Int) : Int := if x.tmod n < 0 then x.tmod n + n else x.tmod n
theorem wit_bd (x n : Int) (h : 0 < n) : 0 ≤ wit x n ∧ wit x n < n := by
  have h1 := Int.tmod_lt_of_pos x h
  have h2 : -n < x.tmod n := by
    have := Int.tmod_lt_of_pos (-x) h
    rw [Int.neg_tmod] at this
    omega
  unfold wit
  split <;> omega
set_option maxHeartbeats 400000 in
theorem within_any (x n : Int) (w : World) (h1 : 1 ≤ n) (h2 : n ≤ 1000) :
    Calls Try.prog 9 #[.int .i64 x, .int .i64 n] w fun e w' => e = .returned (.int .i64 (wit x n)) ∧ w = w' := by
  have hb1 := Int.tmod_lt_of_pos x (show 0 < n by omega)
  have hb2 : -n < x.tmod n := by
    have := Int.tmod_lt_of_pos (-x) (show 0 < n by omega)
    rw [Int.neg_tmod] at this
    omega
  have hz : (n == 0) = false := by simp; omega
  have hn1 : n ≠ 0 := by omega
  unfold wit
  by_cases hc : x.tmod n < 0
  · rw [if_pos hc]
    go_enter Try.func9, Try.ntmps9
    go_wp2
    go_ret
    exact ⟨rfl, rfl⟩
  · rw [if_neg hc]
    go_enter Try.func9, Try.ntmps9
    go_wp2
    go_ret
    exact ⟨rfl, rfl⟩
/-- within, as a place, the bound as it stands in the text. -/
theorem within_lit (x : Int) (n : Nat) (m : Int) (hm : m = (n : Int)) (h1 : 1 ≤ n) (h2 : n ≤ 1000) : ∃ k : Nat, k < n ∧ ((k : Int) = wit x n) ∧ ∀ w : World, Calls Try.prog 9 #[.int .i64 x, .int .i64 m] w fun e w' => e = .returned (.int .i64 k) ∧ w = w' := by
  subst hm
  have hb := wit_bd x n (by omega)
  have e : ((wit x n).toNat : Int) = wit x n := by omega
  refine ⟨(wit x n).toNat, by omega, e, fun w => ?_⟩
  have := within_any x n w (by omega) (by omega)
  rw [e]
  exact this
/-- What package arena is to answer. -/
def PNew : Prop := ∀ (n : Int) (w : World), Calls Try.prog 10 #[.int .i64 n] w (Treed false (newN n) w)
def PAdd : Prop := ∀ (v : Value) (l : List Nd) (up kind f t : Int) (w : World), Nodes w v l → Ar.Good l → l.length ≤ 200 → (∀ x ∈ l, x.ks.length ≤ 200) →
  Calls Try.prog 14 #[.agg #[v], .int .i64 up, .int .i64 kind, .int .i64 f, .int .i64 t] w (TreedA false (addN l up kind f t) w)
def PGrow : Prop := ∀ (v : Value) (l : List Nd) (i t : Int) (w : World), Nodes w v l → Ar.Good l → l.length ≤ 200 → (∀ x ∈ l, x.ks.length ≤ 200) →
  Calls Try.prog 16 #[.agg #[v], .int .i64 i, .int .i64 t] w (Treed false (growN l i t) w)
def PCheck : Prop := ∀ (v : Value) (l : List Nd) (n : Int) (w : World), NodesW w v l → l.length ≤ 200 → (∀ x ∈ l, x.ks.length ≤ 200) →
  Calls Try.prog 19 #[.agg #[v], .int .i64 n] w (fun e w' => e = .returned (.bool (checkN l n)) ∧ Below w.heap.size w w')
def PSame : Prop := ∀ (v1 v2 : Value) (l q : List Nd) (w : World), Nodes w v1 l → Nodes w v2 q → l.length ≤ 200 → q.length ≤ 200 → (∀ x ∈ l, x.ks.length ≤ 200) → (∀ x ∈ q, x.ks.length ≤ 200) →
  Calls Try.prog 22 #[.agg #[v1], .agg #[v2]] w (fun e w' => e = .returned (.bool (sameN l q)) ∧ Below w.heap.size w w')
set_option maxHeartbeats 2000000 in
set_option maxRecDepth 100000 in
theorem known_true (hN : PNew) (w : World) : Calls Try.prog 8 #[] w fun e w' => e = .returned (.bool true) ∧ Below w.heap.size w w' := by
  have HNw := Lib.hid hN
  clear hN
  go_enter Try.func8, Try.ntmps8
  go_wp2_with fail
  refine (HNw.out 3 w).mono ?_
  rintro e w1 ⟨u, rfl, hn, -, hb⟩
  rw [show newN 3 = [⟨1, 0, 3, -1, [], false⟩] from rfl] at hn
  obtain ⟨a, cap, rfl⟩ := hn.shape
  obtain ⟨b, off, _, _, rfl, x0, -, x2, x3, -⟩ := hn.at_ 0 ⟨1, 0, 3, -1, [], false⟩ rfl
  simp only [Nat.zero_mul, Nat.add_zero] at x0 x2 x3
  simp only [List.length_cons, List.length_nil, Nat.zero_add]
  have x0 := fun o => at_alloc (o := o) x0
  have x2 := fun o => at_alloc (o := o) x2
  have x3 := fun o => at_alloc (o := o) x3
  have HB := Lib.hid (fun o => below_allocS hb o)
  clear hn hb
  go_wp2_with fail
  go_ret
  exact ⟨rfl, HB.out _⟩
set_option maxHeartbeats 2000000 in
theorem toRef_any (a : Option Addr) (n cap : Nat) (w : World) : Calls Try.prog 13 #[.agg #[.slice a n cap]] w fun e w' => e = .returned (.agg #[.slice a n cap]) ∧ Below w.heap.size w w' := by
  have hb := below_allocS (below_alloc w (.cells #[.slice a n cap] 27)) (.cells #[.slice a n cap] 29)
  have HB := Lib.hid hb
  clear hb
  go_enter Try.func13, Try.ntmps13
  go_wp2_with fail
  refine bodyPost_ret (v := .agg #[.slice a n cap]) ?_ rfl ⟨rfl, HB.out⟩
  simp [results, Try.results13, go_sem]
set_option maxHeartbeats 2000000 in
theorem of_any (a : Option Addr) (n cap : Nat) (w : World) : Calls Try.prog 20 #[.agg #[.slice a n cap]] w fun e w' => e = .returned (.agg #[.slice a n cap]) ∧ Below w.heap.size w w' := by
  have hb := below_allocS (below_alloc w (.cells #[.slice a n cap] 29)) (.cells #[.slice a n cap] 27)
  have HB := Lib.hid hb
  clear hb
  go_enter Try.func20, Try.ntmps20
  go_wp2_with fail
  refine bodyPost_ret (v := .agg #[.slice a n cap]) ?_ rfl ⟨rfl, HB.out⟩
  simp [results, Try.results20, go_sem]
/-- Are the nodes few, and each one's kids? -/
def fewN (l : List Nd) : Bool := l.all (fun x => decide (x.ks.length ≤ 20)) && decide (l.length ≤ 20)
theorem few_no {l : List Nd} (i : Nat) (x : Nd) (h : l[i]? = some x) (hx : 20 < x.ks.length) : fewN l = false := by
  unfold fewN
  have : l.all (fun x => decide (x.ks.length ≤ 20)) = false := by
    rw [List.all_eq_false]
    exact ⟨x, List.mem_of_getElem? h, by simp; omega⟩
  rw [this]; rfl
theorem few_all {l : List Nd} (h : ∀ (i : Nat) (x : Nd), l[i]? = some x → x.ks.length ≤ 20) : fewN l = decide (l.length ≤ 20) := by
  unfold fewN
  rw [List.all_eq_true.2 (fun x hx => ?_), Bool.true_and]
  obtain ⟨i, hi⟩ := List.getElem?_of_mem hx
  exact decide_eq_true (h i x hi)
theorem few_kids {l : List Nd} (h : fewN l = true) : l.length ≤ 20 ∧ ∀ x ∈ l, x.ks.length ≤ 20 := by
  unfold fewN at h
  simp only [Bool.and_eq_true, List.all_eq_true, decide_eq_true_eq] at h
  exact ⟨h.2, h.1⟩
set_option maxHeartbeats 2000000 in
set_option maxRecDepth 100000 in
theorem few_any (v : Value) (l : List Nd) (w : World) (h : NodesW w v l) : Calls Try.prog 18 #[v] w fun e w' => e = .returned (.bool (fewN l)) ∧ Below w.heap.size w w' := by
  obtain ⟨a, cap, rfl⟩ := h.shape
  have hmx := h.size_le
  obtain ⟨R, hR⟩ : ∃ R, fewN l = R := ⟨_, rfl⟩
  have hno := few_no (l := l)
  have hal := few_all (l := l)
  rw [hR] at hno hal ⊢
  have HX := Lib.hid (fun j x (hj : l[j]? = some x) => h.at_ j x hj)
  obtain ⟨N, hN⟩ : ∃ N, l.length = N := ⟨_, rfl⟩
  rw [hN] at hmx hal ⊢
  simp only [maxLen] at hmx
  have HN := Lib.hid hN
  have HNo := Lib.hid hno
  have HAl := Lib.hid hal
  have HB := Lib.hid (Below.refl w.heap.size w)
  clear h hN hR hno hal
  go_enter Try.func18, Try.ntmps18
  go_wp2_with fail
  go_loopw [3] (fun iv wr => ∃ (i : Nat), iv = .int .i64 i ∧ i ≤ N ∧ w = wr ∧ Hid (∀ (k : Nat) (x : Nd), k < i → l[k]? = some x → x.ks.length ≤ 20)) (fun iv _ => N - (intOf iv).toNat)
  case atStart => exact ⟨0, rfl, Nat.zero_le _, rfl, Lib.hid (fun k x hk => absurd hk (Nat.not_lt_zero k))⟩
  case round =>
    obtain ⟨i, rfl, hi, rfl, HJ⟩ := hrel
    by_cases hlt : i < N
    · obtain ⟨x, hx⟩ : ∃ x, l[i]? = some x := ⟨_, List.getElem?_eq_getElem (by rw [HN.out]; exact hlt)⟩
      obtain ⟨b, off, ka, kc, rfl, -, -, -, -, x4, -, hkr⟩ := HX.out i x hx
      have hz := hkr.2
      simp only [maxLen] at hz
      obtain ⟨n, hn⟩ : ∃ n, x.ks.length = n := ⟨_, rfl⟩
      rw [hn] at x4 hz
      have hii : (i : Int) < (N : Int) := by omega
      by_cases hq : 20 < n
      · have hqq : (20 : Int) < (n : Int) := by omega
        have HR := Lib.hid (HNo.out i x hx (by rw [hn]; exact hq))
        clear hx hn hkr
        go_wp2_with fail
        go_ret
        exact ⟨by rw [HR.out]; rfl, HB.out⟩
      · have hqq : ¬ ((20 : Int) < (n : Int)) := by omega
        have HJ2 := Lib.hid (show ∀ (k : Nat) (y : Nd), k < i + 1 → l[k]? = some y → y.ks.length ≤ 20 from fun k y hk hy => by
          by_cases e : k = i
          · rw [e, hx] at hy
            injection hy with hy
            rw [← hy, hn]; omega
          · exact HJ.out k y (by omega) hy)
        clear hx hn hkr
        go_wp2_with fail
        go_roundw
        case rel => exact ⟨i + 1, by go_num, by omega, by first | rfl | trivial, HJ2⟩
        case measure => simp [intOf]; omega
    · obtain rfl : i = N := by omega
      have hii : ¬ ((i : Int) < (i : Int)) := by omega
      have HR := Lib.hid (HAl.out (fun k x hk => HJ.out k x (by rw [← HN.out]; exact (List.getElem?_eq_some_iff.1 hk).1) hk))
      clear hlt
      go_wp2_with fail
      go_ret
      refine ⟨?_, HB.out⟩
      rw [HR.out]
      simp
      omega
end Go.Proofs.Ythkieidcjakhgaa
