/- The statements' own small functions: known, Few. -/
import Derived.Test.YtomihekgcnilhaaPh
namespace Go.Proofs.Ytomihekgcnilhaa
open Go.RowKit
open Go.Proofs.Ytomihekgcnilhaa.Sq

def ea : Et := ⟨2, 2, ⟨#[97]⟩⟩
def eb : Et := ⟨2, 2, ⟨#[98]⟩⟩
theorem choose_ab : chooseT 5 [ea, eb] = [ea] := by kernel_rfl
theorem edits_two (W : World) (x y : Et) : Edits (W.alloc (.cells #[.int .i64 x.f, .int .i64 x.t, .string x.p, .int .i64 y.f, .int .i64 y.t, .string y.p] 41)) (.slice (some ⟨W.heap.size, 0, none⟩) 2 2) [x, y] := by
  refine .inr ⟨W.heap.size, 0, 2, rfl, Nat.le_refl _, by simp [maxLen], fun j z hj i u hu => ?_⟩
  rw [World.cell?_alloc_mark]
  match j, hj with
  | 0, hj =>
    obtain rfl := Option.some.inj hj
    match i, hu with
    | 0, hu => exact hu
    | 1, hu => exact hu
    | 2, hu => exact hu
  | 1, hj =>
    obtain rfl := Option.some.inj hj
    match i, hu with
    | 0, hu => exact hu
    | 1, hu => exact hu
    | 2, hu => exact hu
set_option maxHeartbeats 800000 in
set_option maxRecDepth 100000 in
theorem known_true (w : World) : Calls Try.prog 12 #[] w fun e w' => e = .returned (.bool true) ∧ Below w.heap.size w w' := by
  have hC := editChoose 5 _ [ea, eb] _ (edits_two w ea eb) (fun e he => by
    rcases List.mem_cons.1 he with rfl | he
    · decide
    · rw [List.mem_singleton.1 he]; decide)
  rw [choose_ab] at hC
  have HC := Lib.hid hC
  have HB := Lib.hid (below_new w (.cells #[.int .i64 2, .int .i64 2, .string ⟨#[97]⟩, .int .i64 2, .int .i64 2, .string ⟨#[98]⟩] 41))
  clear hC
  go_enter Try.func12, Try.ntmps12
  go_wp2_with fail
  refine HC.out.mono ?_
  rintro e w2 ⟨v, rfl, hown, hb⟩
  have hR := Reads.of_own hown
  obtain ⟨a, cap, rfl⟩ := Reads.shape hR
  obtain ⟨b, off, rfl, c0, c1, c2⟩ := edits_at hR 0 ea rfl
  have HB2 := Lib.hid (HB.out.trans (hb.mono (by simp)))
  have d2 : w2.cell? ⟨b, off + 2, none⟩ = some (.string ⟨#[97]⟩) := c2
  clear hown hb hR c0 c1 c2
  rw [show ([ea] : List Et).length = 1 from rfl]
  go_wp2
  go_ret
  exact ⟨rfl, HB2.out⟩
/-- How long all are that are put. -/
def total (l : List Et) : Int := (l.map fun e => (e.p.size : Int)).sum
def fewB (l : List Et) : Bool := decide (l.length ≤ 210) && decide (total l ≤ 3000)
theorem total_take {l : List Et} {k : Nat} {x : Et} (h : l[k]? = some x) : total (l.take (k + 1)) = total (l.take k) + x.p.size := by
  rw [take_snoc h, total, total, List.map_append, List.sum_append]
  simp
theorem total_bd {l : List Et} {m : Int} (_hm : 0 ≤ m) (h : ∀ e ∈ l, (e.p.size : Int) ≤ m) : 0 ≤ total l ∧ total l ≤ l.length * m := by
  induction l with
  | nil => simp [total]
  | cons x r ih =>
    obtain ⟨h1, h2⟩ := ih (fun e he => h e (List.mem_cons_of_mem _ he))
    have h3 := h x (List.mem_cons_self ..)
    have e : total (x :: r) = x.p.size + total r := by simp [total]
    rw [e, List.length_cons]
    constructor
    · omega
    · rw [Int.natCast_add, Int.add_mul]; omega
/-- No text is longer than what a machine can hold. -/
def Fit (l : List Et) : Prop := ∀ e ∈ l, e.p.size ≤ 140737488355328
set_option maxHeartbeats 1600000 in
set_option maxRecDepth 100000 in
theorem few_any (v : Value) (l : List Et) (w : World) (h : Edits w v l) (hF : Fit l) :
    Calls Try.prog 13 #[v] w fun e w' => e = .returned (.bool (fewB l)) ∧ Below w.heap.size w w' := by
  have hsz := h.size_le
  unfold maxLen at hsz
  obtain ⟨a, cap, rfl⟩ := h.shape
  obtain ⟨N, hN⟩ : ∃ N, l.length = N := ⟨_, rfl⟩
  have HA := Lib.hid (fun k x hk => edits_at h k x hk)
  have HN := Lib.hid hN
  have HF := Lib.hid hF
  rw [hN] at hsz
  rw [hN]
  obtain ⟨R, hR⟩ : ∃ R, fewB l = R := ⟨_, rfl⟩
  have HR := Lib.hid hR
  rw [hR]
  clear hN h hF hR
  go_enter Try.func13, Try.ntmps13
  go_wp2_with fail
  go_loopw [3, 4] (fun ns is wr => ∃ (k : Nat) (m : Int), is = .int .i64 k ∧ ns = .int .i64 m ∧ k ≤ N ∧ Hid (k ≤ 210 → m = total (l.take k)) ∧ Below w.heap.size w wr) (fun _ is _ => N - (intOf is).toNat)
  case atStart => exact ⟨0, 0, rfl, rfl, Nat.zero_le _, Lib.hid (fun _ => by simp [total]), Below.refl _ _⟩
  case round =>
    obtain ⟨k, m, rfl, rfl, hk, HM, hb⟩ := hrel
    by_cases hlt : k < N
    · have hkl : k < l.length := by rw [HN.out]; exact hlt
      have hj2 : (k : Int) < (N : Int) := by omega
      obtain ⟨x, hx⟩ : ∃ x, l[k]? = some x := ⟨_, List.getElem?_eq_getElem hkl⟩
      obtain ⟨b, off, rfl, c0, c1, c2⟩ := HA.out k x hx
      have c2 := cell_keep c2 hb
      have hfx := HF.out x (List.mem_of_getElem? hx)
      have HT := Lib.hid (total_take hx)
      have HX := Lib.hid hx
      clear c0 c1 hx
      by_cases h210 : k + 1 ≤ 210
      · have hm := HM.out (by omega)
        have hbd := total_bd (l := l.take k) (m := 140737488355328) (by decide) (fun e he => by have := HF.out e (List.mem_of_mem_take he); omega)
        have hlen : ((l.take k).length : Int) ≤ 210 := by rw [List.length_take]; omega
        have hm0 : 0 ≤ m := by rw [hm]; exact hbd.1
        have hm1 : m ≤ 29554872554618880 := by rw [hm]; omega
        have HM2 := Lib.hid (show k + 1 ≤ 210 → m + (x.p.size : Int) = total (l.take (k + 1)) from fun _ => by rw [HT.out, hm])
        clear hm hbd hlen HM
        go_wp2
        go_roundw
        case rel => exact ⟨k + 1, _, by go_num, rfl, by omega, HM2, hb⟩
        case measure => simp [intOf]; omega
      · have HM2 := Lib.hid (fun (z : Int) => show k + 1 ≤ 210 → z = total (l.take (k + 1)) from fun h => absurd h h210)
        clear HM
        go_wp2
        go_roundw
        case rel => exact ⟨k + 1, _, by go_num, rfl, by omega, Lib.hid (HM2.out _), hb⟩
        case measure => simp [intOf]; omega
    · obtain rfl : k = N := by omega
      by_cases h1 : k ≤ 210
      · have hm := HM.out h1
        rw [List.take_of_length_le (by rw [HN.out]; exact Nat.le_refl _)] at hm
        have h1' : (k : Int) ≤ 210 := by omega
        by_cases h2 : m ≤ 3000
        · have HE := Lib.hid (show true = R by rw [← HR.out, fewB, HN.out, ← hm]; simp [h1, h2])
          clear hm HM
          go_wp2
          go_ret
          exact ⟨by rw [← HE.out]; rfl, hb⟩
        · have HE := Lib.hid (show false = R by rw [← HR.out, fewB, HN.out, ← hm]; simp [h2])
          clear hm HM
          go_wp2
          go_ret
          exact ⟨by rw [← HE.out]; rfl, hb⟩
      · have h1' : ¬ (k : Int) ≤ 210 := by omega
        have HE := Lib.hid (show false = R by rw [← HR.out, fewB, HN.out]; simp [h1])
        clear HM
        go_wp2
        go_ret
        exact ⟨by rw [← HE.out]; rfl, hb⟩
end Go.Proofs.Ytomihekgcnilhaa
