/- The chapter's own arena (correctorref10): Check. -/
import Derived.Test.YthkieidcjakhgaaAr8
import Derived.Test.YthkieidcjakhgaaQt
namespace Go.Proofs.Ythkieidcjakhgaa
open Go.RowKit
open Go.Proofs.Ythkieidcjakhgaa.Sq
open Go.Proofs.Ythkieidcjakhgaa.Ar
set_option linter.unusedVariables false

namespace Ar
theorem inc_get (s : List Int) (n : Int) (j : Nat) (h0 : 0 ≤ n) (h1 : n < s.length) : (inc s n)[j]? = s[j]?.map (fun c : Int => c + (if n = (j : Int) then 1 else 0)) := by
  obtain ⟨m, rfl⟩ : ∃ m : Nat, n = (m : Int) := ⟨n.toNat, by omega⟩
  have hm : m < s.length := by omega
  unfold inc
  rw [Int.toNat_natCast, List.getElem?_eq_getElem hm]
  dsimp only
  rw [List.getElem?_set]
  by_cases e : m = j
  · subst e
    rw [if_pos rfl, if_pos hm, List.getElem?_eq_getElem hm]
    simp
  · rw [if_neg e]
    have : ¬ ((m : Int) = (j : Int)) := by omega
    simp [this]
theorem incs_get : ∀ (ks s : List Int) (j : Nat), (∀ z ∈ ks, 0 ≤ z ∧ z < s.length) → (incs s ks)[j]? = s[j]?.map (fun c : Int => c + ((ks.countP (fun z => z == (j : Int)) : Nat) : Int))
  | [], s, j => fun _ => by
    show s[j]? = _
    simp
  | n :: r, s, j => fun h => by
    show (incs (inc s n) r)[j]? = _
    have hn := h n (List.mem_cons_self ..)
    rw [incs_get r (inc s n) j (fun z hz => by rw [inc_len]; exact h z (List.mem_cons_of_mem _ hz)), inc_get s n j hn.1 hn.2, Option.map_map, List.countP_cons]
    congr 1
    funext c
    simp only [Function.comp_apply]
    by_cases e : n = (j : Int)
    · simp [e]; omega
    · simp [e]
theorem incs_app (s a b : List Int) : incs s (a ++ b) = incs (incs s a) b := by unfold incs; rw [List.foldl_append]
theorem kidsF_in {l : List Nd} {i : Nat} {x : Nd} : ∀ (ks : List Int) (p : Int), kidsF l i x p ks = true → ∀ z ∈ ks, 0 ≤ z ∧ z < l.length
  | [], p => fun _ z hz => by cases hz
  | n :: r, p => fun h z hz => by
    cases hb : badK l i x p n with
    | true => rw [kidsF_bad hb] at h; cases h
    | false =>
      obtain ⟨c, h1, h2, _, h4⟩ := kidsF_step (r := r) hb
      rw [h4] at h
      rcases List.mem_cons.1 hz with rfl | hz
      · omega
      · exact kidsF_in r c.t h z hz
/-- All kids of the nodes ahead of one. -/
def allK (l : List Nd) (i : Nat) : List Int := (l.take i).flatMap (·.ks)
theorem allK_step {l : List Nd} {i : Nat} {x : Nd} (h : l[i]? = some x) : allK l (i + 1) = allK l i ++ x.ks := by
  unfold allK
  rw [List.take_add_one, h, List.flatMap_append]
  simp
theorem allK_len (l : List Nd) (hk : ∀ x ∈ l, x.ks.length ≤ 1000) : ∀ i, (allK l i).length ≤ 1000 * i
  | 0 => by simp [allK]
  | i + 1 => by
    have ih := allK_len l hk i
    cases hx : l[i]? with
    | none =>
      have h2 : allK l (i + 1) = allK l i := by unfold allK; rw [List.take_add_one, hx]; simp
      rw [h2]; omega
    | some x =>
      have := hk x (List.mem_of_getElem? hx)
      rw [allK_step hx, List.length_append]; omega
/-- What has been counted when the nodes ahead of one have been looked at. -/
def cntN (l : List Nd) (i : Nat) : List Int := incs (List.replicate l.length 0) (allK l i)
theorem cnt_len (l : List Nd) (i : Nat) : (cntN l i).length = l.length := by unfold cntN; rw [incs_len, List.length_replicate]
theorem cnt_step {l : List Nd} {i : Nat} {x : Nd} (h : l[i]? = some x) : cntN l (i + 1) = incs (cntN l i) x.ks := by
  unfold cntN; rw [allK_step h, incs_app]
theorem cnt_bd {l : List Nd} (hk : ∀ x ∈ l, x.ks.length ≤ 1000) (hl : l.length ≤ 1000) (i : Nat) (hi : i ≤ l.length) : ∀ c ∈ cntN l i, 0 ≤ c ∧ c ≤ 1000000 := by
  intro c hc
  have h1 := incs_bd (allK l i) (List.replicate l.length 0) 0 (fun d hd => by rw [List.eq_of_mem_replicate hd]; exact ⟨Int.le_refl _, Int.le_refl _⟩) c hc
  have h2 := allK_len l hk i
  have h3 : 1000 * i ≤ 1000000 := by omega
  omega
theorem cnt_get {l : List Nd} (i j : Nat) (hj : j < l.length) (h : ∀ k, k < i → nodeOk l k = true) (hi : i ≤ l.length) : (cntN l i)[j]? = some ((seenN l i j : Nat) : Int) := by
  have hin : ∀ z ∈ allK l i, 0 ≤ z ∧ z < l.length := by
    intro z hz
    unfold allK at hz
    obtain ⟨x, hx, hz⟩ := List.mem_flatMap.1 hz
    obtain ⟨k, hk⟩ := List.getElem?_of_mem hx
    have hki : k < i := by
      have := (List.getElem?_eq_some_iff.1 hk).1
      rw [List.length_take] at this; omega
    rw [List.getElem?_take, if_pos hki] at hk
    have hn := h k hki
    unfold nodeOk at hn
    rw [hk] at hn
    simp only [Bool.and_eq_true] at hn
    have hkn := hn.2
    unfold kidsN at hkn
    rw [hk] at hkn
    exact kidsF_in _ _ hkn z hz
  unfold cntN
  rw [incs_get _ _ j (fun z hz => by rw [List.length_replicate]; exact hin z hz), List.getElem?_replicate, if_pos hj]
  simp [seenN, allK]
theorem check_first {l : List Nd} {n : Int} (h : firstOk l n = false) : checkN l n = false := by unfold checkN; rw [h]; rfl
theorem check_node {l : List Nd} {n : Int} (i : Nat) (hi : i < l.length) (h : nodeOk l i = false) : checkN l n = false := by
  unfold checkN
  have : (List.range l.length).all (nodeOk l) = false := by
    rw [List.all_eq_false]
    exact ⟨i, List.mem_range.2 hi, by rw [h]; decide⟩
  rw [this]; simp
theorem check_seen {l : List Nd} {n : Int} (i : Nat) (h0 : 0 < i) (hi : i < l.length) (h : seenN l l.length i ≠ 1) : checkN l n = false := by
  unfold checkN
  have : (List.range l.length).all (fun i => i == 0 || seenN l l.length i == 1) = false := by
    rw [List.all_eq_false]
    exact ⟨i, List.mem_range.2 hi, by simp; omega⟩
  rw [this]; simp
theorem check_ok {l : List Nd} {n : Int} (h1 : firstOk l n = true) (h2 : ∀ i, i < l.length → nodeOk l i = true) (h3 : ∀ i, 0 < i → i < l.length → seenN l l.length i = 1) : checkN l n = true := by
  unfold checkN
  rw [h1, List.all_eq_true.2 (fun i hi => h2 i (List.mem_range.1 hi)), List.all_eq_true.2 (fun i hi => ?_)]
  · rfl
  · by_cases e : i = 0
    · simp [e]
    · have := h3 i (by omega) (List.mem_range.1 hi)
      simp [this]
end Ar
theorem made_ints (n : Nat) : (madeCells #[.int .i64 0] (n * 1)).toList = encI.all (List.replicate n 0) := by
  have e : encI.all (List.replicate n 0) = List.replicate n (.int .i64 0) := by
    induction n with
    | zero => rfl
    | succ n ih => 
      show (encI.cells 0 ++ encI.all (List.replicate n 0)) = _
      rw [ih]; rfl
  rw [e]
  apply List.ext_getElem?
  intro j
  rw [Nat.mul_one]
  simp only [madeCells, Array.getElem?_toList]
  by_cases h : j < n
  · simp [h, Nat.mod_one]
  · simp [h]
/-- make([]int, n): so many 0. -/
theorem make_ints (n B : Nat) (w : World) (hn : n ≤ 1000000) (hB : B ≤ w.heap.size) : ∃ w', (∀ m : Int, m = (n : Int) → (Instr.makeSlice 46 (.int .i64 m) (.int .i64 m)).run Try.prog w = .ok (.slice (some ⟨w.heap.size, 0, none⟩) n n) w') ∧ w'.ownsRow B 3 encI.k (.slice (some ⟨w.heap.size, 0, none⟩) n n) (List.replicate n (0 : Int)).length (encI.all (List.replicate n 0)) ∧ w.grownBy w' none := by
  obtain ⟨i0, hi, hz0, hz1, hz2⟩ := info_parts (show (Try.prog.info? 3).map (fun i => (i.zero, i.size, i.bytes)) = some (some (.int .i64 0), 1, 8) by kernel_rfl)
  obtain ⟨w', h1, h2, h3⟩ := run_make_full (P := Try.prog) w B 46 3 i0 (.int .i64 0) 1 Try.underlying46 hi hz0 hz1 .i64 .i64 n (by rw [hz2]; omega) (by simp only [maxLen]; omega) hB
  refine ⟨w', fun m hm => by rw [hm]; exact h1, ?_, h3⟩
  have e : (madeCells (Value.int .i64 0).cells (n * 1)).toList = encI.all (List.replicate n 0) := made_ints n
  rw [e] at h2
  rw [List.length_replicate]
  exact h2
set_option maxHeartbeats 8000000 in
set_option maxRecDepth 100000 in
theorem rCheck (v : Value) (l : List Nd) (n : Int) (w : World) (h : NodesW w v l) (hl : l.length ≤ 1000) (hk : ∀ x ∈ l, x.ks.length ≤ 1000) :
    Calls Try.prog 21 #[.agg #[v], .int .i64 n] w (fun e w' => e = .returned (.bool (checkN l n)) ∧ Below w.heap.size w w') := by
  obtain ⟨a, cap, rfl⟩ := h.shape
  obtain ⟨R, hR⟩ : ∃ R, checkN l n = R := ⟨_, rfl⟩
  have hf := check_first (l := l) (n := n)
  have hnd := check_node (l := l) (n := n)
  have hse := check_seen (l := l) (n := n)
  have hok := check_ok (l := l) (n := n)
  rw [hR] at hf hnd hse hok ⊢
  have HX := Lib.hid (fun W (hb : Below w.heap.size w W) => h.below hb)
  have HKs := Lib.hid hk
  have HQ := Lib.hid (fun b w' => show (b = R ∧ Below w.heap.size w w') → (fun e (w' : World) => e = Ending.returned (.bool R) ∧ Below w.heap.size w w') (.returned (.bool b)) w' from fun h => ⟨by rw [h.1], h.2⟩)
  obtain ⟨Q, hQ⟩ : ∃ Q, (fun e (w' : World) => e = Ending.returned (.bool R) ∧ Below w.heap.size w w') = Q := ⟨_, rfl⟩
  rw [hQ] at HQ ⊢
  have HL := Lib.hid hl
  have HKid := Lib.hid (fun W i x s sg sc (hb : Below w.heap.size w W) => rKids (.slice a l.length cap) l i x s sg sc w.heap.size W (fun W' hb' => h.below (hb.trans hb')) hl)
  obtain ⟨N, hN⟩ : ∃ N, l.length = N := ⟨_, rfl⟩
  rw [hN] at hl HX HKid ⊢
  have HN := Lib.hid hN
  have HF := Lib.hid hf
  have HNd := Lib.hid hnd
  have HSe := Lib.hid hse
  have HOk := Lib.hid hok
  obtain ⟨w1, hw1⟩ : ∃ w1, w.alloc (.cells #[.slice a N cap] 29) = w1 := ⟨_, rfl⟩
  obtain ⟨B, hB⟩ : ∃ B, w.heap.size = B := ⟨_, rfl⟩
  have hb1 := below_alloc w (.cells #[.slice a N cap] 29)
  have c1 : w1.cell? ⟨B, 0, none⟩ = some (.slice a N cap) := by rw [← hw1, ← hB]; exact at_new rfl
  rw [hw1] at hb1
  have HB1 := Lib.hid hb1
  have HW1 := Lib.hid hw1
  have HBe := Lib.hid hB
  have hq1 : w.heap.size ≤ w1.heap.size := hb1.size
  obtain ⟨b0, hb0⟩ : ∃ b0, firstOk l n = b0 := ⟨_, rfl⟩
  have HB0 := Lib.hid hb0
  clear h hk hQ hN hw1 hB hb1 hR hf hnd hse hok hb0
  go_enter Try.func21, Try.ntmps21
  go_upto_region 1 with fail
  rw [HW1.out, HBe.out]
  clear HW1
  go_upto_region 2 with fail
  clear c1
  go_cut [46] (fun q wx => q = .bool (!b0) ∧ w1 = wx)
  case first =>
    have hm := HB0.out
    rcases Nat.eq_zero_or_pos N with h0 | h0
    · subst h0
      obtain rfl : b0 = false := by
        rw [← hm]
        cases l with
        | nil => rfl
        | cons _ _ => exact absurd HN.out (by simp)
      clear hm
      go_wp2_with fail
      go_meet
      exact ⟨rfl, rfl⟩
    obtain ⟨x, r, rfl⟩ : ∃ x r, l = x :: r := by
      cases l with
      | nil => exact absurd HN.out (by simp; omega)
      | cons x r => exact ⟨x, r, rfl⟩
    have hat := HX.out w1 HB1.out
    rw [← HN.out] at hat
    obtain ⟨b, off, _, _, rfl, y0, y1, y2, y3, -, -, -⟩ := hat.at_ 0 x rfl
    simp only [Nat.zero_mul, Nat.add_zero] at y0 y1 y2 y3
    have z0 : decide (N = 0) = false := decide_eq_false (by omega)
    have z1 : (N == 0) = false := by simp; omega
    have z2 : ((N : Int) == 0) = false := by simp; omega
    have z3 : (0 : Int) < (N : Int) := by omega
    unfold firstOk at hm
    dsimp only at hm
    clear hat h0
    by_cases q0 : x.k = 1
    case neg =>
      obtain rfl : b0 = false := by rw [← hm]; simp [q0]
      have nq0 : (x.k == 1) = false := by simp [q0]
      have mq0 : (x.k != 1) = true := by simp [q0]
      clear hm q0
      go_wp2_with fail
      go_meet
      exact ⟨rfl, rfl⟩
    have nq0 : (x.k == 1) = true := by simp [q0]
    have mq0 : (x.k != 1) = false := by simp [q0]
    by_cases q1 : x.f = 0
    case neg =>
      obtain rfl : b0 = false := by rw [← hm]; simp [q1]
      have nq1 : (x.f == 0) = false := by simp [q1]
      have mq1 : (x.f != 0) = true := by simp [q1]
      clear hm q1 q0
      go_wp2_with fail
      go_meet
      exact ⟨rfl, rfl⟩
    have nq1 : (x.f == 0) = true := by simp [q1]
    have mq1 : (x.f != 0) = false := by simp [q1]
    by_cases q2 : x.t = n
    case neg =>
      obtain rfl : b0 = false := by rw [← hm]; simp [q2]
      have nq2 : (x.t == n) = false := by simp [q2]
      have mq2 : (x.t != n) = true := by simp [q2]
      clear hm q2 q0 q1
      go_wp2_with fail
      go_meet
      exact ⟨rfl, rfl⟩
    have nq2 : (x.t == n) = true := by simp [q2]
    have mq2 : (x.t != n) = false := by simp [q2]
    by_cases q3 : x.u = -1
    case neg =>
      obtain rfl : b0 = false := by rw [← hm]; simp [q3]
      have nq3 : (x.u == -1) = false := by simp [q3]
      have mq3 : (x.u != -1) = true := by simp [q3]
      clear hm q3 q0 q1 q2
      go_wp2_with fail
      go_meet
      exact ⟨rfl, rfl⟩
    have nq3 : (x.u == -1) = true := by simp [q3]
    have mq3 : (x.u != -1) = false := by simp [q3]
    by_cases q4 : n < 0
    · obtain rfl : b0 = false := by rw [← hm]; simp [q4]
      clear hm q0 q1 q2 q3
      go_wp2_with fail
      go_meet
      exact ⟨rfl, rfl⟩
    · obtain rfl : b0 = true := by rw [← hm]; simp [q0, q1, q2, q3, q4]
      have e4 : decide (n < 0) = false := decide_eq_false q4
      clear hm q0 q1 q2 q3 q4
      go_wp2_with fail
      go_meet
      exact ⟨rfl, rfl⟩
  case rest =>
  obtain ⟨rfl, rfl⟩ := hcut
  have HB2 := HB1
  have hq2 := HB2.out.size
  cases b0 with
  | false =>
    have HD := Lib.hid (HQ.out false w1 ⟨(HF.out HB0.out).symm, HB2.out⟩)
    go_wp2_with fail
    exact HD.out
  | true =>
    obtain ⟨w3, hmk, hown, hg⟩ := make_ints N w.heap.size w1 (by omega) hq2
    have HO3 := Lib.hid (show w3.ownsRow w.heap.size 3 encI.k (.slice (some ⟨w1.heap.size, 0, none⟩) N N) (cntN l 0).length (encI.all (cntN l 0)) from by unfold cntN allK; rw [HN.out]; exact hown)
    have HB3 := Lib.hid (HB2.out.grown hg hq2 (fun k hk => by cases hk))
    obtain ⟨sg, hsg⟩ : ∃ sg, w1.heap.size = sg := ⟨_, rfl⟩
    rw [hsg] at hmk HO3
    have hmk2 := hmk (N : Int) rfl
    clear hmk hown hg hsg
    go_wp2_with fail
    clear hmk2
    go_loopw [7] (fun iv wr => ∃ (i : Nat), iv = .int .i64 i ∧ i ≤ N ∧ Hid (∀ k, k < i → nodeOk l k = true) ∧ Hid (wr.ownsRow w.heap.size 3 encI.k (.slice (some ⟨sg, 0, none⟩) N N) (cntN l i).length (encI.all (cntN l i))) ∧ Hid (Below w.heap.size w wr)) (fun iv _ => N - (intOf iv).toNat)
    case atStart => exact ⟨0, rfl, Nat.zero_le _, Lib.hid (fun k hk => absurd hk (Nat.not_lt_zero k)), HO3, HB3⟩
    case round =>
      obtain ⟨i, rfl, hi, HA, HO, HB⟩ := hrel
      by_cases hlt : i < N
      · obtain ⟨x, hx⟩ : ∃ x, l[i]? = some x := ⟨_, List.getElem?_eq_getElem (by rw [HN.out]; exact hlt)⟩
        have hat := HX.out wr HB.out
        rw [← HN.out] at hat
        obtain ⟨b, off, _, _, rfl, -, -, -, y3, -, -, -⟩ := hat.at_ i x hx
        have hii : (i : Int) < (N : Int) := by omega
        have HCal := Lib.hid (HKid.out wr i x (cntN l i) sg N HB.out hx (HKs.out x (List.mem_of_getElem? hx)) (by rw [cnt_len]; exact HN.out) HO.out (cnt_bd HKs.out HL.out i (by rw [HN.out]; exact hi)) HB.out.size)
        rw [← cnt_step hx] at HCal
        have hok : nodeOk l i = (!(decide (0 < i) && (decide (x.u < 0) || decide ((i : Int) ≤ x.u))) && kidsN l i) := by unfold nodeOk; rw [hx]
        obtain ⟨ok, hokd⟩ : ∃ ok, nodeOk l i = ok := ⟨_, rfl⟩
        rw [hokd] at hok
        have HOkd := Lib.hid hokd
        clear hat hx hokd
        go_upto_region 8 with fail
        go_cut [81] (fun q wx => q = .bool (!ok) ∧ Hid (Below w.heap.size w wx) ∧ Hid (ok = true → wx.ownsRow w.heap.size 3 encI.k (.slice (some ⟨sg, 0, none⟩) N N) (cntN l (i + 1)).length (encI.all (cntN l (i + 1)))))
        case first =>
          rcases Nat.eq_zero_or_pos i with h0 | h0
          · subst h0
            have hok : ok = kidsN l 0 := by rw [hok]; simp
            clear y3 hii
            go_wp2_with fail
            refine HCal.out.mono ?_
            rintro e w5 ⟨rfl, hb5, ho5⟩
            have HB5 := Lib.hid (HB.out.trans hb5)
            have HO5 := Lib.hid ho5
            clear hb5 ho5
            go_wp2_with fail
            go_meet
            exact ⟨by rw [hok], HB5, Lib.hid (fun e => HO5.out (by rw [← hok]; exact e))⟩

          have p1 : decide (0 < i) = true := decide_eq_true h0
          have p2 : (0 : Int) < (i : Int) := by omega
          by_cases q1 : x.u < 0
          · obtain rfl : ok = false := by rw [hok, p1]; simp [q1]
            clear hok
            go_wp2_with fail
            go_meet
            exact ⟨rfl, HB, Lib.hid (fun e => absurd e (by decide))⟩
          by_cases q2 : (i : Int) ≤ x.u
          · obtain rfl : ok = false := by rw [hok, p1]; simp [q2]
            clear hok
            go_wp2_with fail
            go_meet
            exact ⟨rfl, HB, Lib.hid (fun e => absurd e (by decide))⟩
          have hok : ok = kidsN l i := by rw [hok, decide_eq_false q1, decide_eq_false q2]; simp
          go_wp2_with fail
          refine HCal.out.mono ?_
          rintro e w5 ⟨rfl, hb5, ho5⟩
          have HB5 := Lib.hid (HB.out.trans hb5)
          have HO5 := Lib.hid ho5
          clear hb5 ho5
          go_wp2_with fail
          go_meet
          exact ⟨by rw [hok], HB5, Lib.hid (fun e => HO5.out (by rw [← hok]; exact e))⟩

        case rest =>
        obtain ⟨rfl, HB5, HO5⟩ := hcut
        rename World => w5
        clear y3 hok
        cases ok with
        | false =>
          have HD := Lib.hid (HQ.out false w5 ⟨(HNd.out i (by rw [HN.out]; exact hlt) HOkd.out).symm, HB5.out⟩)
          go_wp2_with fail
          exact HD.out
        | true =>
          have HA2 := Lib.hid (show ∀ k, k < i + 1 → nodeOk l k = true from fun k hk => by
            by_cases e : k = i
            · rw [e]; exact HOkd.out
            · exact HA.out k (by omega))
          have HO6 := Lib.hid (HO5.out rfl)
          go_wp2_with fail
          go_roundw
          case rel =>
            first
              | exact ⟨i + 1, by go_num, by omega, HA2, HO6, HB5⟩
              | ((repeat apply Exists.intro); exact ⟨⟨i + 1, by go_num, by omega, HA2, HO6, HB5⟩, rfl⟩)
          case measure => simp [intOf]; omega
      · obtain rfl : i = N := by omega
        have hii : ¬ ((i : Int) < (i : Int)) := by omega
        clear hlt
        go_wp2_with fail
        have HSeen := Lib.hid (fun j (hj : j < l.length) => cnt_get i j hj HA.out (by rw [HN.out]; exact Nat.le_refl _))
        have HBw := Lib.hid HB.out
        have HN0 := Lib.hid HN.out
        have hlen : (cntN l i).length = i := by rw [cnt_len]; exact HN.out
        have HLen := Lib.hid hlen
        clear hlen
        go_loopw [8] (fun jv ws => ∃ (j : Nat), jv = .int .i64 j ∧ 1 ≤ j ∧ wr = ws ∧ Hid (∀ k, 0 < k → k < j → k < i → seenN l i k = 1)) (fun jv _ => i - (intOf jv).toNat)
        case atStart => exact ⟨1, rfl, Nat.le_refl _, rfl, Lib.hid (fun k h1 h2 => by omega)⟩
        case round =>
          obtain ⟨j, rfl, hj, rfl, HJ⟩ := hrel
          by_cases hlj : j < i
          · have hs := HSeen.out j (by rw [HN.out]; exact hlj)
            obtain ⟨c, hc⟩ : ∃ c, seenN l i j = c := ⟨_, rfl⟩
            rw [hc] at hs
            have cs : wr.cell? ⟨sg, j, none⟩ = some (.int .i64 (c : Int)) := by
              have h5 := HO.out.cells (g := sg) rfl _ _ ((all_get encI (cntN l i) j _ hs 0 (by decide)).trans rfl)
              rw [add_addr, Nat.zero_add] at h5
              rw [show j * encI.k + 0 = j from by show j * 1 + 0 = j; omega] at h5
              exact h5
            have hjj : (j : Int) < (i : Int) := by omega
            by_cases e : c = 1
            · subst e
              have HJ2 := Lib.hid (show ∀ k, 0 < k → k < j + 1 → k < i → seenN l i k = 1 from fun k h1 h2 h3 => by
                by_cases e : k = j
                · rw [e]; exact hc
                · exact HJ.out k h1 (by omega) h3)
              have cs1 : wr.cell? ⟨sg, j, none⟩ = some (.int .i64 1) := cs
              clear hs hc cs
              go_wp2_with fail
              go_roundw
              case rel =>
                exact ⟨j + 1, by go_num, by omega, by first | rfl | trivial, HJ2⟩
              case measure => simp [intOf]; omega
            · have e1 : (c == 1) = false := by simp [e]
              have e2 : (c != 1) = true := by simp [e]
              have e3 : ((c : Int) == 1) = false := by simp; omega
              have e4 : ((c : Int) != 1) = true := by simp; omega
              have HD := Lib.hid (HQ.out false wr ⟨(HSe.out j (by omega) (by rw [HN.out]; exact hlj) (by rw [HN.out, hc]; exact e)).symm, HB.out⟩)
              clear hs hc e
              go_wp2_with fail
              exact HD.out
          · have hjj : ¬ ((j : Int) < (i : Int)) := by omega
            have HD := Lib.hid (HQ.out true wr ⟨(HOk.out HB0.out (fun k hk => HA.out k (by rw [← HN.out]; exact hk)) (fun k h1 h2 => by rw [HN.out] at h2 ⊢; exact HJ.out k h1 (by omega) h2)).symm, HB.out⟩)
            go_wp2_with fail
            exact HD.out
end Go.Proofs.Ythkieidcjakhgaa
