/- correctorref3.Sort: the same spans, rising, each once. -/
import Derived.Test.YtfikgocaidaheaaSrt2
import Derived.Test.YtfikgocaidaheaaSp1
import Derived.Test.YtfikgocaidaheaaSpb
namespace Go.Proofs.Ytfikgocaidaheaa
open Go.RowKit
open Go.Proofs.Ytfikgocaidaheaa.Hp

/-- How many stand ahead of x in a rising list. -/
def posB (l : List (Int × Int)) (x : Int × Int) (n : Nat) : Prop := n ≤ l.length ∧ ∀ k, k < n → ltB (Hp.at_ l k) x = true
/-- x put in where it belongs. -/
theorem ins_rises {l : List (Int × Int)} {x : Int × Int} {n : Nat} (hr : Rises l) (hp : posB l x n) (hs : n < l.length → ltB (Hp.at_ l n) x = false ∧ Hp.at_ l n ≠ x) :
    Rises (l.take n ++ [x] ++ l.drop n) := by
  obtain ⟨hn, hb⟩ := hp
  have hg : ∀ k (hk : k < l.length), Hp.at_ l k = l[k] := fun k hk => by simp [Hp.at_, hk]
  have h1 : ∀ a ∈ l.take n, ltB a x = true := fun a ha => by
    obtain ⟨k, hk, rfl⟩ := List.getElem_of_mem ha
    rw [List.length_take] at hk
    rw [List.getElem_take, ← hg k (by omega)]
    exact hb k (by omega)
  have h2 : ∀ b ∈ l.drop n, ltB x b = true := fun b hb2 => by
    obtain ⟨k, hk, rfl⟩ := List.getElem_of_mem hb2
    rw [List.length_drop] at hk
    obtain ⟨e1, e2⟩ := hs (by omega)
    rw [hg n (by omega)] at e1 e2
    have hx : ltB x l[n] = true := lt_of_ge_ne e1 (Ne.symm e2)
    rw [List.getElem_drop]
    by_cases h0 : k = 0
    · subst h0; exact hx
    · exact lt_trans hx (List.pairwise_iff_getElem.1 hr n (n + k) (by omega) (by omega) (by omega))
  unfold Rises at *
  rw [List.append_assoc, List.pairwise_append]
  refine ⟨hr.sublist (List.take_sublist n l), ?_, fun a ha b hb2 => ?_⟩
  · rw [List.singleton_append, List.pairwise_cons]
    exact ⟨h2, hr.sublist (List.drop_sublist n l)⟩
  · rw [List.singleton_append, List.mem_cons] at hb2
    rcases hb2 with rfl | hb2
    · exact h1 a ha
    · exact lt_trans (h1 a ha) (h2 b hb2)
theorem ins_mem {l : List (Int × Int)} {x : Int × Int} {n : Nat} (y : Int × Int) : y ∈ l.take n ++ [x] ++ l.drop n ↔ y ∈ l ∨ y = x := by
  have e : y ∈ l ↔ y ∈ l.take n ∨ y ∈ l.drop n := by
    conv => lhs; rw [← List.take_append_drop n l]
    exact List.mem_append
  rw [e]
  simp only [List.mem_append, List.mem_singleton]
  constructor
  · rintro ((h | h) | h)
    · exact .inl (.inl h)
    · exact .inr h
    · exact .inl (.inr h)
  · rintro ((h | h) | h)
    · exact .inl (.inl h)
    · exact .inr h
    · exact .inl (.inr h)
/-- What the outer loop holds ahead of the span k. -/
def RGot (w : World) (l : List (Int × Int)) (k : Nat) (vs : Value) (wr : World) : Prop :=
  ∃ out, wr.ownsRow w.heap.size 23 2 vs out.length (cellsS out) ∧ Rises out ∧ out.length ≤ k ∧ (∀ y, y ∈ out ↔ y ∈ l.take k) ∧ Below w.heap.size w wr
theorem rgot_start (w : World) (l : List (Int × Int)) : RGot w l 0 (.slice none 0 0) w := ⟨[], World.ownsRow_nil _ _ _ _, List.Pairwise.nil, Nat.le_refl _, fun y => by simp, Below.refl _ _⟩
theorem posB_zero (l : List (Int × Int)) (x : Int × Int) : posB l x 0 := ⟨Nat.zero_le _, fun k h => absurd h (by omega)⟩
theorem posB_succ {l : List (Int × Int)} {x : Int × Int} {n : Nat} (h : posB l x n) (hn : n < l.length) (ht : ltB (Hp.at_ l n) x = true) : posB l x (n + 1) :=
  ⟨hn, fun k hk => by
    by_cases e : k = n
    · subst e; exact ht
    · exact h.2 k (by omega)⟩
theorem rgot_ins {w wo W : World} {l out : List (Int × Int)} {k n : Nat} {x1 x2 : Int} {v : Value} (hk : k < l.length) (hx : Hp.at_ l k = (x1, x2)) (hr : Rises out) (hlen : out.length ≤ k) (hm : ∀ y, y ∈ out ↔ y ∈ l.take k) (hb : Below w.heap.size w wo) (hp : posB out (x1, x2) n) (hs : n < out.length → ltB (Hp.at_ out n) (x1, x2) = false ∧ Hp.at_ out n ≠ (x1, x2))
    (hbo : Below wo.heap.size wo W) (hown : W.ownsRow w.heap.size 23 2 v (out.take n ++ [(x1, x2)] ++ out.drop n).length (cellsS (out.take n ++ [(x1, x2)] ++ out.drop n))) : RGot w l (k + 1) v W := by
  refine ⟨_, hown, ins_rises hr hp hs, ?_, fun y => ?_, hb.trans (hbo.mono hb.size)⟩
  · have := hp.1
    simp only [List.length_append, List.length_take, List.length_drop, List.length_singleton]
    omega
  · rw [ins_mem, mem_take_succ hk, hx, hm]
theorem rgot_old {w wo W : World} {l out : List (Int × Int)} {k n : Nat} {x1 x2 : Int} {v : Value} (hk : k < l.length) (hx : Hp.at_ l k = (x1, x2)) (hr : Rises out) (hlen : out.length ≤ k) (hm : ∀ y, y ∈ out ↔ y ∈ l.take k) (hb : Below w.heap.size w wo) (hn : n < out.length) (he : Hp.at_ out n = (x1, x2))
    (hbo : Below wo.heap.size wo W) (hown : wo.ownsRow w.heap.size 23 2 v out.length (cellsS out)) : RGot w l (k + 1) v W := by
  refine ⟨out, own_below hown hbo, hr, by omega, fun y => ?_, hb.trans (hbo.mono hb.size)⟩
  rw [mem_take_succ hk, hx, hm]
  constructor
  · intro h
    exact .inl h
  · rintro (h | h)
    · exact h
    · rw [h, ← hm, ← he]; exact mem_at.2 ⟨n, hn, rfl⟩
set_option maxHeartbeats 4000000 in
set_option maxRecDepth 100000 in
theorem refSort (w : World) (v : Value) (l : List (Int × Int)) (h : Spans w v l) (hl : l.length ≤ 1000) :
    Calls Try.prog 17 #[v] w (SortDone w l) := by
  obtain ⟨a, cap, rfl⟩ := h.shape
  obtain ⟨N, hN⟩ : ∃ N, l.length = N := ⟨_, rfl⟩
  have HA := Lib.hid (fun k hk => h.at_ k hk)
  have HN := Lib.hid hN
  have HG := Lib.hid (rgot_start w l)
  rw [hN] at hl
  rw [hN]
  clear hN h
  go_enter Try.func17, Try.ntmps17
  go_wp2_with fail
  go_loopw [3, 4, 5, 6] (fun vs is _ _ wr => ∃ k : Nat, is = .int .i64 k ∧ k ≤ N ∧ RGot w l k vs wr) (fun _ is _ _ _ => N - (intOf is).toNat)
  case atStart => exact ⟨0, rfl, Nat.zero_le _, HG.out⟩
  case round =>
    obtain ⟨k, rfl, hk, out, hown, hr, hlen, hm, hb⟩ := hrel
    by_cases hlt : k < N
    · obtain ⟨b, off, rfl, c1, c2⟩ := HA.out k (by rw [HN.out]; exact hlt)
      obtain ⟨x, hx⟩ : ∃ x, Hp.at_ l k = x := ⟨_, rfl⟩
      obtain ⟨x1, x2⟩ := x
      rw [hx] at c1 c2
      dsimp only at c1 c2
      rw [← hb.cell (p := ⟨b, off + k * 2, none⟩) (lt_of_cell c1)] at c1
      rw [← hb.cell (p := ⟨b, off + k * 2 + 1, none⟩) (lt_of_cell c2)] at c2
      obtain ⟨av, cv, rfl⟩ := (Spans.of_own hown).shape
      obtain ⟨M, hM⟩ : ∃ M, out.length = M := ⟨_, rfl⟩
      have hM1 : M ≤ 1000 := by omega
      have HSp := Lib.hid (Spans.of_own hown)
      rw [hM]
      have HX := Lib.hid hx
      have HM := Lib.hid hM
      have HO := Lib.hid hown
      have HR := Lib.hid hr
      have HL := Lib.hid hlen
      have HMe := Lib.hid hm
      have HB := Lib.hid hb
      clear hx hM hown hr hlen hm hb
      obtain ⟨wo, hwo⟩ : ∃ wo, wr = wo := ⟨_, rfl⟩
      rw [hwo] at HSp HO HB c1 c2
      rw [hwo]
      clear hwo
      go_wp2_with fail
      go_loopw [5] (fun ns wr => ∃ n : Nat, ns = .int .i64 n ∧ posB out (x1, x2) n ∧ Below wo.heap.size wo wr) (fun ns _ => M - (intOf ns).toNat)
      case atStart => exact ⟨0, rfl, posB_zero _ _, Below.refl _ _⟩
      case round =>
        obtain ⟨n, rfl, hp, hbo⟩ := hrel
        have hn : n ≤ M := by have := hp.1; have := HM.out; omega
        have HP := Lib.hid hp
        have k1 := c1
        have k2 := c2
        rw [← hbo.cell (p := ⟨b, off + k * 2, none⟩) (lt_of_cell c1)] at k1
        rw [← hbo.cell (p := ⟨b, off + k * 2 + 1, none⟩) (lt_of_cell c2)] at k2
        clear hp
        by_cases hnM : n < M
        · obtain ⟨bb, ob, rfl, d0, d1⟩ := Spans.at_ HSp.out n (by rw [HM.out]; exact hnM)
          obtain ⟨z, hz⟩ : ∃ z, Hp.at_ out n = z := ⟨_, rfl⟩
          obtain ⟨z1, z2⟩ := z
          rw [hz] at d0 d1
          dsimp only at d0 d1
          have HZ := Lib.hid hz
          rw [← hbo.cell (p := ⟨bb, ob + n * 2, none⟩) (lt_of_cell d0)] at d0
          rw [← hbo.cell (p := ⟨bb, ob + n * 2 + 1, none⟩) (lt_of_cell d1)] at d1
          obtain ⟨m, hm⟩ : ∃ m, ltB (z1, z2) (x1, x2) = m := ⟨_, rfl⟩
          have hless := fun w => refLess z1 z2 x1 x2 w
          rw [hm] at hless
          have HLs := Lib.hid hless
          have Hm := Lib.hid hm
          clear hz hless hm
          have t1 : (n : Int) < (M : Int) := by omega
          have t1' : decide (n < M) = true := by simp [hnM]
          go_wp2_with fail
          go_region_held3 (fun wx => wx.cell? ⟨bb, ob + n * 2, none⟩ = some (.int .i64 z1) ∧ wx.cell? ⟨bb, ob + n * 2 + 1, none⟩ = some (.int .i64 z2) ∧ wx.cell? ⟨b, off + k * 2, none⟩ = some (.int .i64 x1) ∧ wx.cell? ⟨b, off + k * 2 + 1, none⟩ = some (.int .i64 x2)) (((refine ⟨?_, ?_, ?_, ?_⟩); all_goals (repeat (first | (with_reducible exact d0) | (with_reducible exact d1) | (with_reducible exact k1) | (with_reducible exact k2) | (with_reducible exact q0) | (with_reducible exact q1) | (with_reducible exact q2) | (with_reducible exact q3) | (with_reducible refine at_drew ?_)))))
            (((with_reducible refine (HLs.out _).mono ?_); rintro e w2 ⟨rfl, hb2⟩; have q0 := (hb2.cell (p := ⟨bb, ob + n * 2, none⟩) (lt_of_cell (w := wr.drew) d0)).trans d0; have q1 := (hb2.cell (p := ⟨bb, ob + n * 2 + 1, none⟩) (lt_of_cell (w := wr.drew) d1)).trans d1; have q2 := (hb2.cell (p := ⟨b, off + k * 2, none⟩) (lt_of_cell (w := wr.drew) k1)).trans k1; have q3 := (hb2.cell (p := ⟨b, off + k * 2 + 1, none⟩) (lt_of_cell (w := wr.drew) k2)).trans k2; have hbo2 := hbo.trans (Below.mono (Below.trans (b := wr.drew) ⟨rfl, rfl, rfl, Nat.le_refl _, fun _ _ => rfl⟩ hb2) hbo.size)))
          cases m with
          | true =>
            go_wp2
            go_roundw
            case rel => exact ⟨n + 1, by go_num, posB_succ HP.out (by rw [HM.out]; exact hnM) (by rw [HZ.out]; exact Hm.out), hbo2⟩
            case measure => simp [intOf]; omega
          | false =>
            have gs := guard_span
            by_cases he : z1 = x1 ∧ z2 = x2
            · obtain ⟨e1, e2⟩ := he
              subst e1
              subst e2
              have heql : ∀ W, (binOp .eql 23 (.agg #[.int .i64 z1, .int .i64 z2]) (.agg #[.int .i64 z1, .int .i64 z2])).run Try.prog W = .ok (.bool true) W := fun W => by rw [eql_span]; simp
              go_wp2_with fail
              go_quiet (fail)
              have HQ := Lib.hid (rgot_old (W := w2.drewN nq) (by rw [HN.out]; exact hlt) HX.out HR.out HL.out HMe.out HB.out (by rw [HM.out]; exact hnM) HZ.out ⟨hbo2.os, hbo2.tape, hbo2.output, hbo2.size, hbo2.block⟩ HO.out)
              rw [HM.out] at HQ
              clear heql
              go_wp2
              go_roundw
              case rel => exact ⟨k + 1, by go_num, by omega, HQ.out⟩
              case measure => simp [intOf]; omega
            · have hbq : ((z1 == x1) && (z2 == x2)) = false := by simpa using he
              have heql : ∀ W, (binOp .eql 23 (.agg #[.int .i64 z1, .int .i64 z2]) (.agg #[.int .i64 x1, .int .i64 x2])).run Try.prog W = .ok (.bool false) W := fun W => by rw [eql_span, hbq]
              go_wp2_with fail
              go_quiet (fail)
              have hWq : Below wo.heap.size wo (w2.drewN nq) := ⟨hbo2.os, hbo2.tape, hbo2.output, hbo2.size, hbo2.block⟩
              generalize w2.drewN nq = wq at hWq ⊢
              clear heql q0 q1 q2 q3 d0 d1 k1 k2 hbo hbo2 hbq
              obtain ⟨vc, hsl, hvc⟩ := cutS_h (n := n) HSp.out (by have := HM.out; omega)
              obtain ⟨vd, hsl2, hvd⟩ := cutS_l (n := n) HSp.out (by have := HM.out; omega)
              rw [HM.out] at hsl hsl2
              have HVC := Lib.hid hvc
              have HVD := Lib.hid hvd
              have hln1 : (out.take n).length ≤ 1000 := by rw [List.length_take, HM.out]; omega
              have hln2 : (out.drop n).length ≤ 1000 := by rw [List.length_drop, HM.out]; omega
              have HW := Lib.hid hWq
              have tok1 : True := trivial
              have tok2 : True := trivial
              have tok3 : True := trivial
              clear hvc hvd hWq
              go_wp2_with (first
                | (at_builtin; have _t := tok1; clear tok1; go_must (refine wpList_append_spans rfl _ _ rfl wq.heap.size (.slice (some ⟨wq.heap.size, 0, none⟩) 0 0) [] rfl (own_none wq) vc (out.take n) rfl (Spans.below (Spans.below HVC.out HW.out) (below_alloc wq _)) (by simp only [List.length_nil]; omega) (by simp) ?_; intro v1 W1 hown1 hg1; have bw1 : Below wo.heap.size wo W1 := Below.grown (Below.alloc HW.out HW.out.size _) hg1 (by rw [size_alloc]; have := HW.out.size; omega) (fun k e => by cases e; exact HW.out.size); have u1 := (bw1.cell (p := ⟨b, off + k * 2, none⟩) (lt_of_cell c1)).trans c1; have u2 := (bw1.cell (p := ⟨b, off + k * 2 + 1, none⟩) (lt_of_cell c2)).trans c2; have hz1 : wq.heap.size ≤ W1.heap.size := (by have := hg1.size; rw [size_alloc] at this; omega); have BW1 := Lib.hid bw1; have HO1 := Lib.hid hown1; clear bw1 hown1 hg1))
                | (at_builtin; have _t := tok2; clear tok2; go_must (refine wpList_append_span rfl _ _ rfl wq.heap.size v1 (out.take n) x1 x2 rfl HO1.out rfl (by omega) hz1 ?_; intro v2 W2 hown2 hg2; have bw2 : Below wo.heap.size wo W2 := Below.grown (Below.alloc BW1.out BW1.out.size _) hg2 (by rw [size_alloc]; have := BW1.out.size; omega) (fun k e => Nat.le_trans HW.out.size (HO1.out.lt k e).1); have hz2 : wq.heap.size ≤ W2.heap.size := (by have := hg2.size; rw [size_alloc] at this; omega); have BW2 := Lib.hid bw2; have HO2 := Lib.hid hown2; clear bw2 hown2 hg2 u1 u2))
                | (at_builtin; have _t := tok3; clear tok3; go_must (refine wpList_append_spans rfl _ _ rfl wq.heap.size v2 (out.take n ++ [(x1, x2)]) rfl HO2.out vd (out.drop n) rfl (Spans.below HVD.out BW2.out) (by rw [List.length_append, List.length_singleton]; omega) hz2 ?_; intro v3 W3 hown3 hg3; have bw3 : Below wo.heap.size wo W3 := Below.grown BW2.out hg3 BW2.out.size (fun k e => Nat.le_trans HW.out.size (HO2.out.lt k e).1); have BW3 := Lib.hid bw3; have HO3 := Lib.hid hown3; clear bw3 hown3 hg3)))
              go_roundw
              case rel => exact ⟨k + 1, by go_num, by omega, rgot_ins (by rw [HN.out]; exact hlt) HX.out HR.out HL.out HMe.out HB.out HP.out (fun _ => ⟨by rw [HZ.out]; exact Hm.out, by rw [HZ.out]; intro e; exact he (by injection e with e1 e2; exact ⟨e1, e2⟩)⟩) BW3.out (own_base HO3.out (Nat.le_trans HB.out.size HW.out.size))⟩
              case measure => simp [intOf]; omega
        · obtain rfl : n = M := by omega
          have t1 : ¬ ((n : Int) < (n : Int)) := by omega
          go_wp2_with fail
          go_quiet (fail)
          have hWp : Below wo.heap.size wo (wr.drewN nq) := ⟨hbo.os, hbo.tape, hbo.output, hbo.size, hbo.block⟩
          generalize wr.drewN nq = wp at hWp ⊢
          clear hbo k1 k2
          go_wp2_with fail
          go_quiet (fail)
          have hWq : Below wo.heap.size wo (wp.drewN nq) := ⟨hWp.os, hWp.tape, hWp.output, hWp.size, hWp.block⟩
          generalize wp.drewN nq = wq at hWq ⊢
          clear hWp
          obtain ⟨vc, hsl, hvc⟩ := cutS_h (n := n) HSp.out (by have := HM.out; omega)
          obtain ⟨vd, hsl2, hvd⟩ := cutS_l (n := n) HSp.out (by have := HM.out; omega)
          rw [HM.out] at hsl hsl2
          have HVC := Lib.hid hvc
          have HVD := Lib.hid hvd
          have hln1 : (out.take n).length ≤ 1000 := by rw [List.length_take, HM.out]; omega
          have hln2 : (out.drop n).length ≤ 1000 := by rw [List.length_drop, HM.out]; omega
          have HW := Lib.hid hWq
          have tok1 : True := trivial
          have tok2 : True := trivial
          have tok3 : True := trivial
          clear hvc hvd hWq
          go_wp2_with (first
            | (at_builtin; have _t := tok1; clear tok1; go_must (refine wpList_append_spans rfl _ _ rfl wq.heap.size (.slice (some ⟨wq.heap.size, 0, none⟩) 0 0) [] rfl (own_none wq) vc (out.take n) rfl (Spans.below (Spans.below HVC.out HW.out) (below_alloc wq _)) (by simp only [List.length_nil]; omega) (by simp) ?_; intro v1 W1 hown1 hg1; have bw1 : Below wo.heap.size wo W1 := Below.grown (Below.alloc HW.out HW.out.size _) hg1 (by rw [size_alloc]; have := HW.out.size; omega) (fun k e => by cases e; exact HW.out.size); have u1 := (bw1.cell (p := ⟨b, off + k * 2, none⟩) (lt_of_cell c1)).trans c1; have u2 := (bw1.cell (p := ⟨b, off + k * 2 + 1, none⟩) (lt_of_cell c2)).trans c2; have hz1 : wq.heap.size ≤ W1.heap.size := (by have := hg1.size; rw [size_alloc] at this; omega); have BW1 := Lib.hid bw1; have HO1 := Lib.hid hown1; clear bw1 hown1 hg1))
            | (at_builtin; have _t := tok2; clear tok2; go_must (refine wpList_append_span rfl _ _ rfl wq.heap.size v1 (out.take n) x1 x2 rfl HO1.out rfl (by omega) hz1 ?_; intro v2 W2 hown2 hg2; have bw2 : Below wo.heap.size wo W2 := Below.grown (Below.alloc BW1.out BW1.out.size _) hg2 (by rw [size_alloc]; have := BW1.out.size; omega) (fun k e => Nat.le_trans HW.out.size (HO1.out.lt k e).1); have hz2 : wq.heap.size ≤ W2.heap.size := (by have := hg2.size; rw [size_alloc] at this; omega); have BW2 := Lib.hid bw2; have HO2 := Lib.hid hown2; clear bw2 hown2 hg2 u1 u2))
            | (at_builtin; have _t := tok3; clear tok3; go_must (refine wpList_append_spans rfl _ _ rfl wq.heap.size v2 (out.take n ++ [(x1, x2)]) rfl HO2.out vd (out.drop n) rfl (Spans.below HVD.out BW2.out) (by rw [List.length_append, List.length_singleton]; omega) hz2 ?_; intro v3 W3 hown3 hg3; have bw3 : Below wo.heap.size wo W3 := Below.grown BW2.out hg3 BW2.out.size (fun k e => Nat.le_trans HW.out.size (HO2.out.lt k e).1); have BW3 := Lib.hid bw3; have HO3 := Lib.hid hown3; clear bw3 hown3 hg3)))
          go_roundw
          case rel => exact ⟨k + 1, by go_num, by omega, rgot_ins (by rw [HN.out]; exact hlt) HX.out HR.out HL.out HMe.out HB.out HP.out (fun hq => absurd hq (by rw [HM.out]; omega)) BW3.out (own_base HO3.out (Nat.le_trans HB.out.size HW.out.size))⟩
          case measure => simp [intOf]; omega
    · obtain rfl : k = N := by omega
      have HD := Lib.hid (show SortDone w l (.returned _) _ from ⟨_, out, rfl, hown, hr, fun y => by rw [hm, ← HN.out, List.take_length], hb⟩)
      clear hown hr hlen hm hb HA
      go_wp2
      go_ret
      exact HD.out
end Go.Proofs.Ytfikgocaidaheaa
