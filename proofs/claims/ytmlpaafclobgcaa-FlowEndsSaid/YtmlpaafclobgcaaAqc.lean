/- Package arena: begins, slices.Contains of Booleans, held. -/
import Derived.Test.YtmlpaafclobgcaaAqb
import Derived.Test.YtmlpaafclobgcaaMgH
namespace Go.Proofs.Ytmlpaafclobgcaa
open Go.RowKit
open Go.Proofs.Ytmlpaafclobgcaa.Sq
open Go.Proofs.Ytmlpaafclobgcaa.Ar
set_option linter.unusedVariables false

def encB : Enc Bool := ⟨fun x => [.bool x], 1, by decide, fun _ => rfl, fun x u hu => by
  cases hu with
  | head => rfl
  | tail _ hu => cases hu⟩
theorem tyB : Ty Try.prog encB 43 4 1 := Ty.of (z := .bool false) Try.underlying43 (by kernel_rfl) (by kernel_rfl) rfl (fun w => by kernel_rfl)
theorem bools_at {w : World} {a : Option Addr} {cap : Nat} {l : List Bool} (h : Reads encB w (.slice a l.length cap) l) (j : Nat) (x : Bool) (hj : l[j]? = some x) :
    ∃ b off, a = some ⟨b, off, none⟩ ∧ w.cell? ⟨b, off + j, none⟩ = some (.bool x) := by
  obtain ⟨b, off, h1, h2⟩ := h.at_ j x hj
  have := h2 0 _ rfl
  exact ⟨b, off, h1, by rw [show off + j = off + j * encB.k + 0 by show off + j = off + j * 1 + 0; omega]; exact this⟩
/-- Where false stands first, or -1. -/
def IdxB (B : List Bool) (w : World) (e : Ending) (w' : World) : Prop := ∃ r : Int, e = .returned (.int .i64 r) ∧ decide (0 ≤ r) = B.contains false ∧ Below w.heap.size w w'
set_option maxHeartbeats 2000000 in
set_option maxRecDepth 100000 in
theorem idxFalse (v : Value) (l : List Bool) (w : World) (h : Reads encB w v l) (hs : l.length ≤ 1000) :
    Calls Try.prog 69 #[v, .bool false] w (IdxB l w) := by
  obtain ⟨a, cap, rfl⟩ := h.shape
  obtain ⟨R, hR⟩ : ∃ R, l.contains false = R := ⟨_, rfl⟩
  have hyes : ∀ (j : Nat), l[j]? = some false → R = true := fun j hj => by rw [← hR]; exact List.contains_iff_mem.2 (List.mem_of_getElem? hj)
  have hno : (∀ (j : Nat) b, l[j]? = some b → b = true) → R = false := fun ha => by
    rw [← hR]
    cases e : l.contains false with
    | false => rfl
    | true =>
      obtain ⟨j, hj⟩ := List.getElem?_of_mem (List.contains_iff_mem.1 e)
      exact absurd (ha j _ hj) (by decide)
  have HQ := Lib.hid (fun (r : Int) w' => show (decide (0 ≤ r) = R ∧ Below w.heap.size w w') → IdxB l w (.returned (.int .i64 r)) w' from fun h => ⟨r, rfl, by rw [hR]; exact h.1, h.2⟩)
  obtain ⟨Q, hQ⟩ : ∃ Q, IdxB l w = Q := ⟨_, rfl⟩
  rw [hQ] at HQ ⊢
  have HX := Lib.hid (fun j x (hj : l[j]? = some x) => bools_at h j x hj)
  obtain ⟨N, hN⟩ : ∃ N, l.length = N := ⟨_, rfl⟩
  rw [hN] at hs ⊢
  have HN := Lib.hid hN
  have HYes := Lib.hid hyes
  have HNo := Lib.hid hno
  clear h hR hQ hN hyes hno
  go_enter Try.func69, Try.ntmps69
  go_wp2_with fail
  go_loopw [8] (fun iv wr => ∃ (i : Nat), iv = .int .i64 i ∧ i ≤ N ∧ w = wr ∧ Hid (∀ (j : Nat) b, j < i → l[j]? = some b → b = true)) (fun iv _ => N - (intOf iv).toNat)
  case atStart => exact ⟨0, rfl, Nat.zero_le _, rfl, Lib.hid (fun j b hj => absurd hj (Nat.not_lt_zero j))⟩
  case round =>
    obtain ⟨i, rfl, hi, rfl, HA⟩ := hrel
    by_cases hlt : i < N
    · obtain ⟨x, hx⟩ : ∃ x, l[i]? = some x := ⟨_, List.getElem?_eq_getElem (by rw [HN.out]; exact hlt)⟩
      obtain ⟨b, off, rfl, x0⟩ := HX.out i x hx
      have hii : (i : Int) < (N : Int) := by omega
      cases x with
      | true =>
        have HA2 := Lib.hid (show ∀ (j : Nat) b, j < i + 1 → l[j]? = some b → b = true from fun j b hj hb => by
          by_cases e : j = i
          · rw [e, hx] at hb
            exact (Option.some.inj hb).symm
          · exact HA.out j b (by omega) hb)
        clear hx
        go_wp2_with fail
        go_roundw
        case rel => exact ⟨i + 1, by go_num, by omega, by first | rfl | trivial, HA2⟩
        case measure => simp [intOf]; omega
      | false =>
        have hr := HYes.out i hx
        have HD := Lib.hid (HQ.out (i : Int) w ⟨by rw [hr]; exact decide_eq_true (by omega), Below.refl _ _⟩)
        clear hx hr
        go_wp2_with fail
        exact HD.out
    · obtain rfl : i = N := by omega
      have hii : ¬ ((i : Int) < (i : Int)) := by omega
      have hr := HNo.out (fun j b hj => HA.out j b (by rw [← HN.out]; exact (List.getElem?_eq_some_iff.1 hj).1) hj)
      have HD := Lib.hid (HQ.out (-1) w ⟨by rw [hr]; rfl, Below.refl _ _⟩)
      clear hlt hr
      go_wp2_with fail
      exact HD.out
set_option maxHeartbeats 1000000 in
theorem hasFalse (v : Value) (l : List Bool) (w : World) (h : Reads encB w v l) (hs : l.length ≤ 1000) :
    Calls Try.prog 51 #[v, .bool false] w (fun e w' => e = .returned (.bool (l.contains false)) ∧ Below w.heap.size w w') := by
  have HI := Lib.hid (idxFalse v l w h hs)
  obtain ⟨a, cap, rfl⟩ := h.shape
  obtain ⟨R, hR⟩ : ∃ R, l.contains false = R := ⟨_, rfl⟩
  have HR := Lib.hid hR
  rw [hR]
  clear h hs hR
  go_enter Try.func51, Try.ntmps51
  go_wp2_with fail
  refine HI.out.mono ?_
  rintro e w' ⟨r, rfl, hr, hb⟩
  rw [HR.out] at hr
  have HB := Lib.hid hb
  have HRr := Lib.hid hr
  clear hb hr
  go_wp2_with fail
  go_ret
  refine ⟨?_, HB.out⟩
  rw [← HRr.out]
  rfl
set_option maxHeartbeats 4000000 in
set_option maxRecDepth 100000 in
theorem aBegins (v : Value) (l : List Nd) (n : Int) (w : World) (h : NodesW w v l) (hs : l.length ≤ 1000) :
    Calls Try.prog 24 #[.agg #[v], .int .i64 n] w (fun e w' => e = .returned (.bool (beginN l n)) ∧ Below w.heap.size w w') := by
  obtain ⟨a, cap, rfl⟩ := h.shape
  obtain ⟨R, hR⟩ : ∃ R, beginN l n = R := ⟨_, rfl⟩
  rw [hR]
  obtain ⟨N, hN⟩ : ∃ N, l.length = N := ⟨_, rfl⟩
  have HX := Lib.hid (fun W (hb : Below w.heap.size w W) => h.below hb)
  rw [hN] at hs HX ⊢
  obtain ⟨w1, hw1⟩ : ∃ w1, w.alloc (.cells #[.slice a N cap] 31) = w1 := ⟨_, rfl⟩
  obtain ⟨Bt, hBt⟩ : ∃ Bt, w.heap.size = Bt := ⟨_, rfl⟩
  have hb1 : Below w.heap.size w w1 := hw1 ▸ below_alloc w _
  have ct : w1.cell? ⟨Bt, 0, none⟩ = some (.slice a N cap) := by rw [← hw1, ← hBt]; exact at_new rfl
  have HW1 := Lib.hid hw1
  have HBt := Lib.hid hBt
  have HB1 := Lib.hid hb1
  clear h hw1 hBt hb1
  cases l with
  | nil =>
    obtain rfl : N = 0 := by rw [← hN]; rfl
    obtain rfl : R = false := by rw [← hR]; rfl
    clear hN hR HX
    go_enter Try.func24, Try.ntmps24
    go_upto_region 1 with fail
    rw [HW1.out, HBt.out]
    clear HW1 HBt
    go_wp2_with fail
    go_ret
    exact ⟨rfl, HB1.out⟩
  | cons x r =>
    have hx := HX.out w1 HB1.out
    rw [← hN] at hx
    obtain ⟨b, off, ka, kc, rfl, x0, x1, x2, x3, x4, x5, -, -⟩ := hx.at_ 0 x rfl
    simp only [Nat.zero_mul, Nat.add_zero] at x0 x1 x2 x3 x4 x5
    have hN0 : (0 : Int) < (N : Int) := by have : (x :: r).length = r.length + 1 := rfl; omega
    have z0 : decide (N = 0) = false := decide_eq_false (by omega)
    have z1 : (N == 0) = false := by simp; omega
    have z2 : ((N : Int) == 0) = false := by simp; omega
    have hR : (decide (x.k = 1) && decide (x.f = 0) && decide (x.t = n) && decide (x.u = -1)) = R := hR
    have HB2 := Lib.hid (fun o => below_allocS HB1.out o)
    obtain ⟨m, hm⟩ : ∃ m, x.ks.length = m := ⟨_, rfl⟩
    rw [hm] at x4
    have HR := Lib.hid hR
    clear hx hN HX hR hm
    by_cases q1 : x.k = 1
    case neg =>
      obtain rfl : R = false := by rw [← HR.out]; simp [q1]
      have n1 : (x.k == 1) = false := by simp [q1]
      clear HR q1
      go_enter Try.func24, Try.ntmps24
      go_upto_region 1 with fail
      rw [HW1.out, HBt.out]
      clear HW1 HBt
      go_wp2_with fail
      go_ret
      exact ⟨rfl, HB2.out _⟩
    have n1 : (x.k == 1) = true := by simp [q1]
    by_cases q2 : x.f = 0
    case neg =>
      obtain rfl : R = false := by rw [← HR.out]; simp [q2]
      have n2 : (x.f == 0) = false := by simp [q2]
      clear HR q1 q2
      go_enter Try.func24, Try.ntmps24
      go_upto_region 1 with fail
      rw [HW1.out, HBt.out]
      clear HW1 HBt
      go_wp2_with fail
      go_ret
      exact ⟨rfl, HB2.out _⟩
    have n2 : (x.f == 0) = true := by simp [q2]
    by_cases q3 : x.t = n
    case neg =>
      obtain rfl : R = false := by rw [← HR.out]; simp [q3]
      have n3 : (x.t == n) = false := by simp [q3]
      clear HR q1 q2 q3
      go_enter Try.func24, Try.ntmps24
      go_upto_region 1 with fail
      rw [HW1.out, HBt.out]
      clear HW1 HBt
      go_wp2_with fail
      go_ret
      exact ⟨rfl, HB2.out _⟩
    have n3 : (x.t == n) = true := by simp [q3]
    by_cases q4 : x.u = -1
    case neg =>
      obtain rfl : R = false := by rw [← HR.out]; simp [q4]
      have n4 : (x.u == -1) = false := by simp [q4]
      clear HR q1 q2 q3 q4
      go_enter Try.func24, Try.ntmps24
      go_upto_region 1 with fail
      rw [HW1.out, HBt.out]
      clear HW1 HBt
      go_wp2_with fail
      go_ret
      exact ⟨rfl, HB2.out _⟩
    have n4 : (x.u == -1) = true := by simp [q4]
    obtain rfl : R = true := by rw [← HR.out]; simp [q1, q2, q3, q4]
    clear HR q1 q2 q3 q4
    go_enter Try.func24, Try.ntmps24
    go_upto_region 1 with fail
    rw [HW1.out, HBt.out]
    clear HW1 HBt
    go_wp2_with fail
    go_ret
    exact ⟨rfl, HB2.out _⟩
end Go.Proofs.Ytmlpaafclobgcaa
