/- The walk of correctorlaw3.SpanJoins: of three it does not count which two are joined first; one in another one joins to that. -/
import Derived.Test.YtfikgocaidaheaaSp1
import Derived.Test.YtfikgocaidaheaaBox
import Derived.Test.YtfikgocaidaheaaS3Jo
import Derived.Test.YtfikgocaidaheaaSpa
import Derived.Deep.RegionHeld3
import Derived.Deep.RegionWith
import Derived.Deep.DeepCutAuto
import Derived.Deep.DeepMust
namespace Go.Proofs.Ytfikgocaidaheaa
open Go.RowKit

set_option maxHeartbeats 2000000 in
set_option maxRecDepth 100000 in
theorem walk_SpanJoins (a b c d e f : Int) (w : World) :
    Calls Try.prog 7 #[.agg #[.int .i64 a, .int .i64 b], .agg #[.int .i64 c, .int .i64 d], .agg #[.int .i64 e, .int .i64 f]] w fun e w' => e = .returned (.bool true) ∧ Below w.heap.size w w' := by
  go_enter Try.func7, Try.ntmps7
  go_wp2_with fail
  refine (known_true _).mono ?_
  rintro e w1 ⟨rfl, hb⟩
  go_wp2_with fail
  obtain ⟨c0, c1, c2, c3, c4, c5, hz, hbw⟩ := boxes3 hb
  clear hb
  go_upto_region 4 with fail
  go_cut [7, 8, 9] (fun s7 s8 s9 wx => ∃ x y z : Nat, s7 = .pointer (some ⟨x, 0, none⟩) ∧ s8 = .pointer (some ⟨y, 0, none⟩) ∧ s9 = .pointer (some ⟨z, 0, none⟩) ∧ wx.cell? ⟨x, 0, none⟩ = some (.int .i64 (g1 a)) ∧ wx.cell? ⟨x, 1, none⟩ = some (.int .i64 (g2 a b)) ∧ wx.cell? ⟨y, 0, none⟩ = some (.int .i64 (g1 c)) ∧ wx.cell? ⟨y, 1, none⟩ = some (.int .i64 (g2 c d)) ∧ wx.cell? ⟨z, 0, none⟩ = some (.int .i64 (g1 e)) ∧ wx.cell? ⟨z, 1, none⟩ = some (.int .i64 (g2 e f)) ∧ Below w.heap.size w wx)
  case first =>
    have c4' : w1.cell? ⟨w.heap.size + 1 + 1, 0, none⟩ = some (.int .i64 e) := c4
    have c5' : w1.cell? ⟨w.heap.size + 1 + 1, 1, none⟩ = some (.int .i64 f) := c5
    refine wp_region_noPanic ?_
    refine wp_region_held_drew (S := fun W => Below w1.heap.size w1 W) (by kernel_rfl) (Below.drew (Below.refl _ _)) (fun hH => ?_)
    refine wpAnyH_take (i := 0) (oi := { dst := some 13, op := Op.load 23 (Operand.tmp 3), type := 23, pos := _, after := #[], guard := none }) (v := sp a b) rfl (by kernel_rfl) (by kernel_rfl) (by kernel_rfl) (fun _ _ _ h => h) (Or.inl ⟨rfl, fun W hW => ?_⟩) hH ?_
    · have q0 : W.cell? ⟨w.heap.size, 0, none⟩ = _ := ((hW : Below w1.heap.size w1 W).cell (p := ⟨w.heap.size, 0, none⟩) (lt_of_cell c0)).trans c0
      have q1 : W.cell? ⟨w.heap.size, 1, none⟩ = _ := ((hW : Below w1.heap.size w1 W).cell (p := ⟨w.heap.size, 1, none⟩) (lt_of_cell c1)).trans c1
      clear c0 c1 c2 c3 c4 c5 c4' c5' hH hW
      go_simp
    refine wpAnyH_take (i := 2) (oi := { dst := some 15, op := Op.load 23 (Operand.tmp 4), type := 23, pos := _, after := #[], guard := none }) (v := sp c d) rfl (by kernel_rfl) (by kernel_rfl) (by kernel_rfl) (fun _ _ _ h => h) (Or.inl ⟨rfl, fun W hW => ?_⟩) hH ?_
    · have q0 : W.cell? ⟨w.heap.size + 1, 0, none⟩ = _ := ((hW : Below w1.heap.size w1 W).cell (p := ⟨w.heap.size + 1, 0, none⟩) (lt_of_cell c2)).trans c2
      have q1 : W.cell? ⟨w.heap.size + 1, 1, none⟩ = _ := ((hW : Below w1.heap.size w1 W).cell (p := ⟨w.heap.size + 1, 1, none⟩) (lt_of_cell c3)).trans c3
      clear c0 c1 c2 c3 c4 c5 c4' c5' hH hW
      go_simp
    refine wpAnyH_take (i := 4) (oi := { dst := some 17, op := Op.load 23 (Operand.tmp 5), type := 23, pos := _, after := #[], guard := none }) (v := sp e f) rfl (by kernel_rfl) (by kernel_rfl) (by kernel_rfl) (fun _ _ _ h => h) (Or.inl ⟨rfl, fun W hW => ?_⟩) hH ?_
    · have q0 : W.cell? ⟨w.heap.size + 1 + 1, 0, none⟩ = _ := ((hW : Below w1.heap.size w1 W).cell (p := ⟨w.heap.size + 1 + 1, 0, none⟩) (lt_of_cell c4')).trans c4'
      have q1 : W.cell? ⟨w.heap.size + 1 + 1, 1, none⟩ = _ := ((hW : Below w1.heap.size w1 W).cell (p := ⟨w.heap.size + 1 + 1, 1, none⟩) (lt_of_cell c5')).trans c5'
      clear c0 c1 c2 c3 c4 c5 c4' c5' hH hW
      go_simp
    refine st_0_n (w1 := w1) (n := w.heap.size) (a := a) (b := b) (c := c) (d := d) (e := e) (f := f) ?_ w1.drew hH
    intro x y z W h0 h1 h2 hW
    refine NoPanic.normal ?_
    go_wp2_with fail
    go_meet
    exact ⟨x, y, z, rfl, rfl, rfl, h0.2.1.1, h0.2.2.1, h1.2.1.1, h1.2.2.1, h2.2.1.1, h2.2.2.1, hbw.trans (hW.mono (by omega))⟩
  case rest =>
    obtain ⟨x, y, z, rfl, rfl, rfl, d0, d1, d2, d3, d4, d5, hbc⟩ := hcut
    clear c0 c1 c2 c3 c4 c5 hz hbw
    obtain ⟨p, hp⟩ : ∃ p, g1 a = p := ⟨_, rfl⟩
    obtain ⟨q, hq⟩ : ∃ q, g2 a b = q := ⟨_, rfl⟩
    obtain ⟨r, hr⟩ : ∃ r, g1 c = r := ⟨_, rfl⟩
    obtain ⟨s, hs⟩ : ∃ s, g2 c d = s := ⟨_, rfl⟩
    obtain ⟨t, ht⟩ : ∃ t, g1 e = t := ⟨_, rfl⟩
    obtain ⟨u, hu⟩ : ∃ u, g2 e f = u := ⟨_, rfl⟩
    rw [hp] at d0
    rw [hq] at d1
    rw [hr] at d2
    rw [hs] at d3
    rw [ht] at d4
    rw [hu] at d5
    clear hp hq hr hs ht hu
    go_wp2_with fail
    refine (spanJoin p q r s wc).mono ?_
    rintro e wk ⟨rfl, hbk⟩
    obtain ⟨hnk, hsk, d0, d1, d2, d3, d4, d5⟩ := six_keep ⟨d0, d1⟩ ⟨d2, d3⟩ ⟨d4, d5⟩ (Below.refl _ _) hbk
    have HBc := Lib.hid (hbc.trans (hbk.mono hbc.size))
    clear hbc hbk hnk hsk
    go_wp2_with fail
    obtain ⟨jb, hjb⟩ : ∃ jb, wk.heap.size = jb := ⟨_, rfl⟩
    obtain ⟨m1, hm1⟩ : ∃ m, min p r = m := ⟨_, rfl⟩
    obtain ⟨m2, hm2⟩ : ∃ m, max q s = m := ⟨_, rfl⟩
    obtain ⟨wj, hwj⟩ : ∃ wj, wk.alloc (.cells #[.int .i64 m1, .int .i64 m2] 23) = wj := ⟨_, rfl⟩
    have hD : Four wj x y z jb p q r s t u m1 m2 := by
      rw [← hwj, ← hjb]
      exact ⟨⟨at_alloc d0, at_alloc d1⟩, ⟨at_alloc d2, at_alloc d3⟩, ⟨at_alloc d4, at_alloc d5⟩, box_new wk m1 m2⟩
    have hBj : Below w.heap.size w wj := by
      rw [← hwj]
      exact HBc.out.alloc HBc.out.size _
    clear d0 d1 d2 d3 d4 d5 HBc
    rw [hm1, hm2, hwj, hjb]
    clear hwj hjb
    obtain ⟨⟨d0, d1⟩, ⟨d2, d3⟩, ⟨d4, d5⟩, ⟨j0, j1⟩⟩ := id hD
    have HD := Lib.hid hD
    have HBj := Lib.hid hBj
    clear hD hBj
    have gs := guard_span
    have heq1 : ∀ W, (binOp .eql 23 (.agg #[.int .i64 (min m1 t), .int .i64 (max m2 u)]) (.agg #[.int .i64 (min p (min r t)), .int .i64 (max q (max s u))])).run Try.prog W = .ok (.bool true) W := fun W => by
      rw [eql_span, show min m1 t = min p (min r t) from by omega, show max m2 u = max q (max s u) from by omega]; simp
    have heq2 : ∀ W, (binOp .eql 23 (.agg #[.int .i64 m1, .int .i64 m2]) (.agg #[.int .i64 (min r p), .int .i64 (max s q)])).run Try.prog W = .ok (.bool true) W := fun W => by
      rw [eql_span, show min r p = m1 from by omega, show max s q = m2 from by omega]; simp
    have heq4 : ∀ W, (binOp .eql 23 (.agg #[.int .i64 p, .int .i64 q]) (.agg #[.int .i64 p, .int .i64 q])).run Try.prog W = .ok (.bool true) W := fun W => by
      rw [eql_span]; simp
    cases hin : inB p q r s with
    | true =>
      have hmr : m1 = r ∧ m2 = s := by unfold inB at hin; rw [decide_eq_true_eq] at hin; omega
      have heq3 : ∀ W, (binOp .eql 23 (.agg #[.int .i64 m1, .int .i64 m2]) (.agg #[.int .i64 r, .int .i64 s])).run Try.prog W = .ok (.bool true) W := fun W => by
        rw [eql_span, hmr.1, hmr.2]; simp
      have hI := fun w => spanIn p q r s w
      rw [hin] at hI
      have HI := Lib.hid hI
      clear hmr hin hI hm1 hm2
      go_region_held3 (fun wx => wx.cell? ⟨x, 0, none⟩ = some (.int .i64 p) ∧ wx.cell? ⟨x, 1, none⟩ = some (.int .i64 q) ∧ wx.cell? ⟨y, 0, none⟩ = some (.int .i64 r) ∧ wx.cell? ⟨y, 1, none⟩ = some (.int .i64 s) ∧ wx.cell? ⟨z, 0, none⟩ = some (.int .i64 t) ∧ wx.cell? ⟨z, 1, none⟩ = some (.int .i64 u) ∧ wx.cell? ⟨jb, 0, none⟩ = some (.int .i64 m1) ∧ wx.cell? ⟨jb, 1, none⟩ = some (.int .i64 m2)) (((refine ⟨?_, ?_, ?_, ?_, ?_, ?_, ?_, ?_⟩); all_goals (repeat (first | (with_reducible exact q0) | (with_reducible exact q1) | (with_reducible exact q2) | (with_reducible exact q3) | (with_reducible exact q4) | (with_reducible exact q5) | (with_reducible exact q6) | (with_reducible exact q7) | (with_reducible exact d0) | (with_reducible exact d1) | (with_reducible exact d2) | (with_reducible exact d3) | (with_reducible exact d4) | (with_reducible exact d5) | (with_reducible exact j0) | (with_reducible exact j1) | (with_reducible refine at_drew ?_)))))
        (first
          | (go_at_call 14; (with_reducible refine (spanJoin _ _ _ _ _).mono ?_); rintro e' w2 ⟨rfl, hb2⟩; obtain ⟨hn2, q0, q1, q2, q3, q4, q5, q6, q7⟩ := eight_keep HD.out (by repeat (first | exact hn2 | exact Below.refl _ _ | refine Below.drew ?_)) hb2)
          | (go_at_call 10; (with_reducible refine (HI.out _).mono ?_); rintro e' w2 ⟨rfl, hb2⟩; obtain ⟨hn2, q0, q1, q2, q3, q4, q5, q6, q7⟩ := eight_keep HD.out (by repeat (first | exact hn2 | exact Below.refl _ _ | refine Below.drew ?_)) hb2))
      all_goals
        go_wp2
        go_ret
        exact ⟨rfl, HBj.out.trans (Below.mono (B := wj.heap.size) (by repeat (first | exact hn2 | refine Below.drew ?_)) HBj.out.size)⟩
    | false =>
      have hI := fun w => spanIn p q r s w
      rw [hin] at hI
      have HI := Lib.hid hI
      clear hin hI hm1 hm2
      refine wp_region_noPanic ?_
      refine wp_region_held_drew (S := fun wx => wx.cell? ⟨x, 0, none⟩ = some (.int .i64 p) ∧ wx.cell? ⟨x, 1, none⟩ = some (.int .i64 q) ∧ wx.cell? ⟨y, 0, none⟩ = some (.int .i64 r) ∧ wx.cell? ⟨y, 1, none⟩ = some (.int .i64 s) ∧ wx.cell? ⟨z, 0, none⟩ = some (.int .i64 t) ∧ wx.cell? ⟨z, 1, none⟩ = some (.int .i64 u) ∧ wx.cell? ⟨jb, 0, none⟩ = some (.int .i64 m1) ∧ wx.cell? ⟨jb, 1, none⟩ = some (.int .i64 m2)) (by kernel_rfl) ⟨d0, d1, d2, d3, d4, d5, j0, j1⟩ (fun hH => ?_)
      refine wpAnyH_take (i := 0) (oi := { dst := some 22, op := Op.load 23 (Operand.tmp 10), type := 23, pos := _, after := #[], guard := none }) (v := .agg #[.int .i64 m1, .int .i64 m2]) rfl (by kernel_rfl) (by kernel_rfl) (by kernel_rfl) (fun _ _ _ h => h) (Or.inl ⟨rfl, fun W hW => ?_⟩) hH ?_
      · obtain ⟨y0, y1, y2, y3, y4, y5, y6, y7⟩ := hW
        clear hH d0 d1 d2 d3 d4 d5 j0 j1
        go_simp
      try simp only [Act.put, List.setIfInBounds_toArray, List.set_cons_zero, List.set_cons_succ]
      refine wpAnyH_take (i := 1) (oi := { dst := some 23, op := Op.load 23 (Operand.tmp 9), type := 23, pos := _, after := #[], guard := none }) (v := .agg #[.int .i64 t, .int .i64 u]) rfl (by kernel_rfl) (by kernel_rfl) (by kernel_rfl) (fun _ _ _ h => h) (Or.inl ⟨rfl, fun W hW => ?_⟩) hH ?_
      · obtain ⟨y0, y1, y2, y3, y4, y5, y6, y7⟩ := hW
        clear hH d0 d1 d2 d3 d4 d5 j0 j1
        go_simp
      try simp only [Act.put, List.setIfInBounds_toArray, List.set_cons_zero, List.set_cons_succ]
      refine wpAnyH_take (i := 3) (oi := { dst := some 25, op := Op.load 23 (Operand.tmp 7), type := 23, pos := _, after := #[], guard := none }) (v := .agg #[.int .i64 p, .int .i64 q]) rfl (by kernel_rfl) (by kernel_rfl) (by kernel_rfl) (fun _ _ _ h => h) (Or.inl ⟨rfl, fun W hW => ?_⟩) hH ?_
      · obtain ⟨y0, y1, y2, y3, y4, y5, y6, y7⟩ := hW
        clear hH d0 d1 d2 d3 d4 d5 j0 j1
        go_simp
      try simp only [Act.put, List.setIfInBounds_toArray, List.set_cons_zero, List.set_cons_succ]
      refine wpAnyH_take (i := 4) (oi := { dst := some 26, op := Op.load 23 (Operand.tmp 8), type := 23, pos := _, after := #[], guard := none }) (v := .agg #[.int .i64 r, .int .i64 s]) rfl (by kernel_rfl) (by kernel_rfl) (by kernel_rfl) (fun _ _ _ h => h) (Or.inl ⟨rfl, fun W hW => ?_⟩) hH ?_
      · obtain ⟨y0, y1, y2, y3, y4, y5, y6, y7⟩ := hW
        clear hH d0 d1 d2 d3 d4 d5 j0 j1
        go_simp
      try simp only [Act.put, List.setIfInBounds_toArray, List.set_cons_zero, List.set_cons_succ]
      refine wpAnyH_take (i := 5) (oi := { dst := some 27, op := Op.load 23 (Operand.tmp 9), type := 23, pos := _, after := #[], guard := none }) (v := .agg #[.int .i64 t, .int .i64 u]) rfl (by kernel_rfl) (by kernel_rfl) (by kernel_rfl) (fun _ _ _ h => h) (Or.inl ⟨rfl, fun W hW => ?_⟩) hH ?_
      · obtain ⟨y0, y1, y2, y3, y4, y5, y6, y7⟩ := hW
        clear hH d0 d1 d2 d3 d4 d5 j0 j1
        go_simp
      try simp only [Act.put, List.setIfInBounds_toArray, List.set_cons_zero, List.set_cons_succ]
      refine wpAnyH_ready (rs := [2]) (by kernel_rfl) (by simp) ?_
      refine AllReadyH.cons (o := { dst := some 24, op := Op.call { callee := Callee.value (Operand.func 14), args := #[Operand.tmp 22, Operand.tmp 23], argTypes := #[23, 23] }, type := 23, pos := _, after := #[{ on := 0, ground := Ground.data }, { on := 1, ground := Ground.data }], guard := none }) rfl (fun K hK => ?_) AllReadyH.nil
      go_simp
      (with_reducible refine (spanJoin _ _ _ _ _).mono ?_)
      rintro e' w2 ⟨rfl, hb2⟩
      obtain ⟨hn2, q0, q1, q2, q3, q4, q5, q6, q7⟩ := eight_keep HD.out (by repeat (first | exact hn2 | exact Below.refl _ _ | refine Below.drew ?_)) hb2
      go_simp
      refine hK.out _ _ ⟨q0, q1, q2, q3, q4, q5, q6, q7⟩ (fun hH => ?_)
      clear hK K q0 q1 q2 q3 q4 q5 q6 q7 hb2
      try simp only [Act.put, List.setIfInBounds_toArray, List.set_cons_zero, List.set_cons_succ]
      refine wpAnyH_ready (rs := [6]) (by kernel_rfl) (by simp) ?_
      refine AllReadyH.cons (o := { dst := some 28, op := Op.call { callee := Callee.value (Operand.func 14), args := #[Operand.tmp 26, Operand.tmp 27], argTypes := #[23, 23] }, type := 23, pos := _, after := #[{ on := 4, ground := Ground.data }, { on := 5, ground := Ground.data }, { on := 2, ground := Ground.chain }], guard := none }) rfl (fun K hK => ?_) AllReadyH.nil
      go_simp
      (with_reducible refine (spanJoin _ _ _ _ _).mono ?_)
      rintro e' w2 ⟨rfl, hb2⟩
      obtain ⟨hn2, q0, q1, q2, q3, q4, q5, q6, q7⟩ := eight_keep HD.out (by repeat (first | exact hn2 | exact Below.refl _ _ | refine Below.drew ?_)) hb2
      go_simp
      refine hK.out _ _ ⟨q0, q1, q2, q3, q4, q5, q6, q7⟩ (fun hH => ?_)
      clear hK K q0 q1 q2 q3 q4 q5 q6 q7 hb2
      try simp only [Act.put, List.setIfInBounds_toArray, List.set_cons_zero, List.set_cons_succ]
      refine wpAnyH_ready (rs := [7]) (by kernel_rfl) (by simp) ?_
      refine AllReadyH.cons (o := { dst := some 29, op := Op.call { callee := Callee.value (Operand.func 14), args := #[Operand.tmp 25, Operand.tmp 28], argTypes := #[23, 23] }, type := 23, pos := _, after := #[{ on := 3, ground := Ground.data }, { on := 6, ground := Ground.data }, { on := 6, ground := Ground.chain }], guard := none }) rfl (fun K hK => ?_) AllReadyH.nil
      go_simp
      (with_reducible refine (spanJoin _ _ _ _ _).mono ?_)
      rintro e' w2 ⟨rfl, hb2⟩
      obtain ⟨hn2, q0, q1, q2, q3, q4, q5, q6, q7⟩ := eight_keep HD.out (by repeat (first | exact hn2 | exact Below.refl _ _ | refine Below.drew ?_)) hb2
      go_simp
      refine hK.out _ _ ⟨q0, q1, q2, q3, q4, q5, q6, q7⟩ (fun hH => ?_)
      clear hK K q0 q1 q2 q3 q4 q5 q6 q7 hb2
      try simp only [Act.put, List.setIfInBounds_toArray, List.set_cons_zero, List.set_cons_succ]
      refine wpAnyH_take (i := 8) (oi := { dst := some 30, op := Op.binOp BinOp.eql 23 (Operand.tmp 24) (Operand.tmp 29) 23, type := 4, pos := _, after := #[{ on := 2, ground := Ground.data }, { on := 7, ground := Ground.data }], guard := none }) (v := .bool true) rfl (by kernel_rfl) (by kernel_rfl) (by kernel_rfl) (fun _ _ _ h => h) (Or.inl ⟨rfl, fun W hW => ?_⟩) hH ?_
      · go_simp
      try simp only [Act.put, List.setIfInBounds_toArray, List.set_cons_zero, List.set_cons_succ]
      refine wpAnyH_take (i := 9) (oi := { dst := some 31, op := Op.move (Operand.tmp 30), type := 4, pos := _, after := #[{ on := 8, ground := Ground.data }, { on := 7, ground := Ground.chain }], guard := none }) (v := .bool true) rfl (by kernel_rfl) (by kernel_rfl) (by kernel_rfl) (fun _ _ _ h => h) (Or.inl ⟨rfl, fun W hW => ?_⟩) hH ?_
      · go_simp
      try simp only [Act.put, List.setIfInBounds_toArray, List.set_cons_zero, List.set_cons_succ]
      refine wpAnyH_take (i := 10) (oi := { dst := some 32, op := Op.load 23 (Operand.tmp 10), type := 23, pos := _, after := #[{ on := 9, ground := Ground.guard }], guard := some (9, true) }) (v := .agg #[.int .i64 m1, .int .i64 m2]) rfl (by kernel_rfl) (by kernel_rfl) (by kernel_rfl) (fun _ _ _ h => h) (Or.inl ⟨rfl, fun W hW => ?_⟩) hH ?_
      · obtain ⟨y0, y1, y2, y3, y4, y5, y6, y7⟩ := hW
        clear hH d0 d1 d2 d3 d4 d5 j0 j1
        go_simp
      try simp only [Act.put, List.setIfInBounds_toArray, List.set_cons_zero, List.set_cons_succ]
      refine wpAnyH_take (i := 11) (oi := { dst := some 33, op := Op.load 23 (Operand.tmp 8), type := 23, pos := _, after := #[{ on := 9, ground := Ground.guard }], guard := some (9, true) }) (v := .agg #[.int .i64 r, .int .i64 s]) rfl (by kernel_rfl) (by kernel_rfl) (by kernel_rfl) (fun _ _ _ h => h) (Or.inl ⟨rfl, fun W hW => ?_⟩) hH ?_
      · obtain ⟨y0, y1, y2, y3, y4, y5, y6, y7⟩ := hW
        clear hH d0 d1 d2 d3 d4 d5 j0 j1
        go_simp
      try simp only [Act.put, List.setIfInBounds_toArray, List.set_cons_zero, List.set_cons_succ]
      refine wpAnyH_take (i := 12) (oi := { dst := some 34, op := Op.load 23 (Operand.tmp 7), type := 23, pos := _, after := #[{ on := 9, ground := Ground.guard }], guard := some (9, true) }) (v := .agg #[.int .i64 p, .int .i64 q]) rfl (by kernel_rfl) (by kernel_rfl) (by kernel_rfl) (fun _ _ _ h => h) (Or.inl ⟨rfl, fun W hW => ?_⟩) hH ?_
      · obtain ⟨y0, y1, y2, y3, y4, y5, y6, y7⟩ := hW
        clear hH d0 d1 d2 d3 d4 d5 j0 j1
        go_simp
      try simp only [Act.put, List.setIfInBounds_toArray, List.set_cons_zero, List.set_cons_succ]
      refine wpAnyH_ready (rs := [13]) (by kernel_rfl) (by simp) ?_
      refine AllReadyH.cons (o := { dst := some 35, op := Op.call { callee := Callee.value (Operand.func 14), args := #[Operand.tmp 33, Operand.tmp 34], argTypes := #[23, 23] }, type := 23, pos := _, after := #[{ on := 11, ground := Ground.data }, { on := 12, ground := Ground.data }, { on := 9, ground := Ground.chain }, { on := 9, ground := Ground.guard }], guard := some (9, true) }) rfl (fun K hK => ?_) AllReadyH.nil
      go_simp
      (with_reducible refine (spanJoin _ _ _ _ _).mono ?_)
      rintro e' w2 ⟨rfl, hb2⟩
      obtain ⟨hn2, q0, q1, q2, q3, q4, q5, q6, q7⟩ := eight_keep HD.out (by repeat (first | exact hn2 | exact Below.refl _ _ | refine Below.drew ?_)) hb2
      go_simp
      refine hK.out _ _ ⟨q0, q1, q2, q3, q4, q5, q6, q7⟩ (fun hH => ?_)
      clear hK K q0 q1 q2 q3 q4 q5 q6 q7 hb2
      try simp only [Act.put, List.setIfInBounds_toArray, List.set_cons_zero, List.set_cons_succ]
      refine wpAnyH_take (i := 14) (oi := { dst := some 36, op := Op.binOp BinOp.eql 23 (Operand.tmp 32) (Operand.tmp 35) 23, type := 4, pos := _, after := #[{ on := 10, ground := Ground.data }, { on := 13, ground := Ground.data }, { on := 9, ground := Ground.guard }], guard := some (9, true) }) (v := .bool true) rfl (by kernel_rfl) (by kernel_rfl) (by kernel_rfl) (fun _ _ _ h => h) (Or.inl ⟨rfl, fun W hW => ?_⟩) hH ?_
      · go_simp
      try simp only [Act.put, List.setIfInBounds_toArray, List.set_cons_zero, List.set_cons_succ]
      refine wpAnyH_take (i := 15) (oi := { dst := some 37, op := Op.pick (Operand.tmp 31) (Operand.tmp 36) (Operand.const (Value.bool false)), type := 4, pos := _, after := #[{ on := 9, ground := Ground.data }, { on := 14, ground := Ground.data }], guard := none }) (v := .bool true) rfl (by kernel_rfl) (by kernel_rfl) (by kernel_rfl) (fun _ _ _ h => h) (Or.inl ⟨rfl, fun W hW => ?_⟩) hH ?_
      · go_simp
      try simp only [Act.put, List.setIfInBounds_toArray, List.set_cons_zero, List.set_cons_succ]
      refine wpAnyH_take (i := 16) (oi := { dst := some 38, op := Op.move (Operand.tmp 37), type := 4, pos := _, after := #[{ on := 15, ground := Ground.data }, { on := 13, ground := Ground.chain }], guard := none }) (v := .bool true) rfl (by kernel_rfl) (by kernel_rfl) (by kernel_rfl) (fun _ _ _ h => h) (Or.inl ⟨rfl, fun W hW => ?_⟩) hH ?_
      · go_simp
      try simp only [Act.put, List.setIfInBounds_toArray, List.set_cons_zero, List.set_cons_succ]
      refine wpAnyH_take (i := 17) (oi := { dst := some 39, op := Op.load 23 (Operand.tmp 7), type := 23, pos := _, after := #[{ on := 16, ground := Ground.guard }], guard := some (16, true) }) (v := .agg #[.int .i64 p, .int .i64 q]) rfl (by kernel_rfl) (by kernel_rfl) (by kernel_rfl) (fun _ _ _ h => h) (Or.inl ⟨rfl, fun W hW => ?_⟩) hH ?_
      · obtain ⟨y0, y1, y2, y3, y4, y5, y6, y7⟩ := hW
        clear hH d0 d1 d2 d3 d4 d5 j0 j1
        go_simp
      try simp only [Act.put, List.setIfInBounds_toArray, List.set_cons_zero, List.set_cons_succ]
      refine wpAnyH_take (i := 18) (oi := { dst := some 40, op := Op.load 23 (Operand.tmp 8), type := 23, pos := _, after := #[{ on := 16, ground := Ground.guard }], guard := some (16, true) }) (v := .agg #[.int .i64 r, .int .i64 s]) rfl (by kernel_rfl) (by kernel_rfl) (by kernel_rfl) (fun _ _ _ h => h) (Or.inl ⟨rfl, fun W hW => ?_⟩) hH ?_
      · obtain ⟨y0, y1, y2, y3, y4, y5, y6, y7⟩ := hW
        clear hH d0 d1 d2 d3 d4 d5 j0 j1
        go_simp
      try simp only [Act.put, List.setIfInBounds_toArray, List.set_cons_zero, List.set_cons_succ]
      refine wpAnyH_ready (rs := [19]) (by kernel_rfl) (by simp) ?_
      refine AllReadyH.cons (o := { dst := some 41, op := Op.call { callee := Callee.value (Operand.func 10), args := #[Operand.tmp 39, Operand.tmp 40], argTypes := #[23, 23] }, type := 4, pos := _, after := #[{ on := 17, ground := Ground.data }, { on := 18, ground := Ground.data }, { on := 16, ground := Ground.chain }, { on := 16, ground := Ground.guard }], guard := some (16, true) }) rfl (fun K hK => ?_) AllReadyH.nil
      go_simp
      (with_reducible refine (HI.out _).mono ?_)
      rintro e' w2 ⟨rfl, hb2⟩
      obtain ⟨hn2, q0, q1, q2, q3, q4, q5, q6, q7⟩ := eight_keep HD.out (by repeat (first | exact hn2 | exact Below.refl _ _ | refine Below.drew ?_)) hb2
      go_simp
      refine hK.out _ _ ⟨q0, q1, q2, q3, q4, q5, q6, q7⟩ (fun hH => ?_)
      clear hK K q0 q1 q2 q3 q4 q5 q6 q7 hb2
      try simp only [Act.put, List.setIfInBounds_toArray, List.set_cons_zero, List.set_cons_succ]
      refine wpAnyH_take (i := 20) (oi := { dst := some 42, op := Op.unOp UnOp.not 4 (Operand.tmp 41), type := 4, pos := _, after := #[{ on := 19, ground := Ground.data }, { on := 16, ground := Ground.guard }], guard := some (16, true) }) (v := .bool true) rfl (by kernel_rfl) (by kernel_rfl) (by kernel_rfl) (fun _ _ _ h => h) (Or.inl ⟨rfl, fun W hW => ?_⟩) hH ?_
      · go_simp
      try simp only [Act.put, List.setIfInBounds_toArray, List.set_cons_zero, List.set_cons_succ]
      refine wpAnyH_take (i := 21) (oi := { dst := some 43, op := Op.move (Operand.tmp 42), type := 4, pos := _, after := #[{ on := 20, ground := Ground.data }, { on := 19, ground := Ground.chain }, { on := 16, ground := Ground.guard }], guard := some (16, true) }) (v := .bool true) rfl (by kernel_rfl) (by kernel_rfl) (by kernel_rfl) (fun _ _ _ h => h) (Or.inl ⟨rfl, fun W hW => ?_⟩) hH ?_
      · go_simp
      try simp only [Act.put, List.setIfInBounds_toArray, List.set_cons_zero, List.set_cons_succ]
      refine wpAnyH_take (i := 22) (oi := { dst := some 44, op := Op.load 23 (Operand.tmp 10), type := 23, pos := _, after := #[{ on := 21, ground := Ground.guard }], guard := some (21, false) }) (v := undef) rfl (by kernel_rfl) (by kernel_rfl) (by kernel_rfl) (fun _ _ _ h => h) (Or.inr ⟨rfl, rfl⟩) hH ?_
      try simp only [Act.put, List.setIfInBounds_toArray, List.set_cons_zero, List.set_cons_succ]
      refine wpAnyH_take (i := 23) (oi := { dst := some 45, op := Op.load 23 (Operand.tmp 8), type := 23, pos := _, after := #[{ on := 21, ground := Ground.guard }], guard := some (21, false) }) (v := undef) rfl (by kernel_rfl) (by kernel_rfl) (by kernel_rfl) (fun _ _ _ h => h) (Or.inr ⟨rfl, rfl⟩) hH ?_
      try simp only [Act.put, List.setIfInBounds_toArray, List.set_cons_zero, List.set_cons_succ]
      refine wpAnyH_take (i := 24) (oi := { dst := some 46, op := Op.binOp BinOp.eql 23 (Operand.tmp 44) (Operand.tmp 45) 23, type := 4, pos := _, after := #[{ on := 22, ground := Ground.data }, { on := 23, ground := Ground.data }, { on := 21, ground := Ground.guard }], guard := some (21, false) }) (v := undef) rfl (by kernel_rfl) (by kernel_rfl) (by kernel_rfl) (fun _ _ _ h => h) (Or.inr ⟨rfl, rfl⟩) hH ?_
      try simp only [Act.put, List.setIfInBounds_toArray, List.set_cons_zero, List.set_cons_succ]
      refine wpAnyH_take (i := 25) (oi := { dst := some 47, op := Op.pick (Operand.tmp 43) (Operand.const (Value.bool true)) (Operand.tmp 46), type := 4, pos := _, after := #[{ on := 21, ground := Ground.data }, { on := 24, ground := Ground.data }, { on := 16, ground := Ground.guard }], guard := some (16, true) }) (v := .bool true) rfl (by kernel_rfl) (by kernel_rfl) (by kernel_rfl) (fun _ _ _ h => h) (Or.inl ⟨rfl, fun W hW => ?_⟩) hH ?_
      · go_simp
      try simp only [Act.put, List.setIfInBounds_toArray, List.set_cons_zero, List.set_cons_succ]
      refine wpAnyH_take (i := 26) (oi := { dst := some 48, op := Op.pick (Operand.tmp 38) (Operand.tmp 47) (Operand.const (Value.bool false)), type := 4, pos := _, after := #[{ on := 16, ground := Ground.data }, { on := 25, ground := Ground.data }], guard := none }) (v := .bool true) rfl (by kernel_rfl) (by kernel_rfl) (by kernel_rfl) (fun _ _ _ h => h) (Or.inl ⟨rfl, fun W hW => ?_⟩) hH ?_
      · go_simp
      try simp only [Act.put, List.setIfInBounds_toArray, List.set_cons_zero, List.set_cons_succ]
      refine wpAnyH_take (i := 27) (oi := { dst := some 49, op := Op.move (Operand.tmp 48), type := 4, pos := _, after := #[{ on := 26, ground := Ground.data }, { on := 21, ground := Ground.chain }], guard := none }) (v := .bool true) rfl (by kernel_rfl) (by kernel_rfl) (by kernel_rfl) (fun _ _ _ h => h) (Or.inl ⟨rfl, fun W hW => ?_⟩) hH ?_
      · go_simp
      try simp only [Act.put, List.setIfInBounds_toArray, List.set_cons_zero, List.set_cons_succ]
      refine wpAnyH_take (i := 28) (oi := { dst := some 50, op := Op.load 23 (Operand.tmp 7), type := 23, pos := _, after := #[{ on := 27, ground := Ground.guard }], guard := some (27, true) }) (v := .agg #[.int .i64 p, .int .i64 q]) rfl (by kernel_rfl) (by kernel_rfl) (by kernel_rfl) (fun _ _ _ h => h) (Or.inl ⟨rfl, fun W hW => ?_⟩) hH ?_
      · obtain ⟨y0, y1, y2, y3, y4, y5, y6, y7⟩ := hW
        clear hH d0 d1 d2 d3 d4 d5 j0 j1
        go_simp
      try simp only [Act.put, List.setIfInBounds_toArray, List.set_cons_zero, List.set_cons_succ]
      refine wpAnyH_take (i := 29) (oi := { dst := some 51, op := Op.load 23 (Operand.tmp 7), type := 23, pos := _, after := #[{ on := 27, ground := Ground.guard }], guard := some (27, true) }) (v := .agg #[.int .i64 p, .int .i64 q]) rfl (by kernel_rfl) (by kernel_rfl) (by kernel_rfl) (fun _ _ _ h => h) (Or.inl ⟨rfl, fun W hW => ?_⟩) hH ?_
      · obtain ⟨y0, y1, y2, y3, y4, y5, y6, y7⟩ := hW
        clear hH d0 d1 d2 d3 d4 d5 j0 j1
        go_simp
      try simp only [Act.put, List.setIfInBounds_toArray, List.set_cons_zero, List.set_cons_succ]
      refine wpAnyH_take (i := 31) (oi := { dst := some 53, op := Op.load 23 (Operand.tmp 7), type := 23, pos := _, after := #[{ on := 27, ground := Ground.guard }], guard := some (27, true) }) (v := .agg #[.int .i64 p, .int .i64 q]) rfl (by kernel_rfl) (by kernel_rfl) (by kernel_rfl) (fun _ _ _ h => h) (Or.inl ⟨rfl, fun W hW => ?_⟩) hH ?_
      · obtain ⟨y0, y1, y2, y3, y4, y5, y6, y7⟩ := hW
        clear hH d0 d1 d2 d3 d4 d5 j0 j1
        go_simp
      try simp only [Act.put, List.setIfInBounds_toArray, List.set_cons_zero, List.set_cons_succ]
      refine wpAnyH_ready (rs := [30]) (by kernel_rfl) (by simp) ?_
      refine AllReadyH.cons (o := { dst := some 52, op := Op.call { callee := Callee.value (Operand.func 14), args := #[Operand.tmp 50, Operand.tmp 51], argTypes := #[23, 23] }, type := 23, pos := _, after := #[{ on := 28, ground := Ground.data }, { on := 29, ground := Ground.data }, { on := 27, ground := Ground.chain }, { on := 27, ground := Ground.guard }], guard := some (27, true) }) rfl (fun K hK => ?_) AllReadyH.nil
      go_simp
      (with_reducible refine (spanJoin _ _ _ _ _).mono ?_)
      rintro e' w2 ⟨rfl, hb2⟩
      obtain ⟨hn2, q0, q1, q2, q3, q4, q5, q6, q7⟩ := eight_keep HD.out (by repeat (first | exact hn2 | exact Below.refl _ _ | refine Below.drew ?_)) hb2
      go_simp
      refine hK.out _ _ ⟨q0, q1, q2, q3, q4, q5, q6, q7⟩ (fun hH => ?_)
      clear hK K q0 q1 q2 q3 q4 q5 q6 q7 hb2
      try simp only [Act.put, List.setIfInBounds_toArray, List.set_cons_zero, List.set_cons_succ]
      refine wpAnyH_take (i := 32) (oi := { dst := some 54, op := Op.binOp BinOp.eql 23 (Operand.tmp 52) (Operand.tmp 53) 23, type := 4, pos := _, after := #[{ on := 30, ground := Ground.data }, { on := 31, ground := Ground.data }, { on := 27, ground := Ground.guard }], guard := some (27, true) }) (v := .bool true) rfl (by kernel_rfl) (by kernel_rfl) (by kernel_rfl) (fun _ _ _ h => h) (Or.inl ⟨rfl, fun W hW => ?_⟩) hH ?_
      · go_simp
      try simp only [Act.put, List.setIfInBounds_toArray, List.set_cons_zero, List.set_cons_succ]
      refine wpAnyH_take (i := 33) (oi := { dst := some 55, op := Op.pick (Operand.tmp 49) (Operand.tmp 54) (Operand.const (Value.bool false)), type := 4, pos := _, after := #[{ on := 27, ground := Ground.data }, { on := 32, ground := Ground.data }], guard := none }) (v := .bool true) rfl (by kernel_rfl) (by kernel_rfl) (by kernel_rfl) (fun _ _ _ h => h) (Or.inl ⟨rfl, fun W hW => ?_⟩) hH ?_
      · go_simp
      try simp only [Act.put, List.setIfInBounds_toArray, List.set_cons_zero, List.set_cons_succ]
      refine wpAnyH_take (i := 34) (oi := { dst := some 6, op := Op.assign (Operand.tmp 55), type := 4, pos := _, after := #[{ on := 33, ground := Ground.data }, { on := 30, ground := Ground.chain }, { on := 0, ground := Ground.phase }, { on := 1, ground := Ground.phase }, { on := 2, ground := Ground.phase }, { on := 3, ground := Ground.phase }, { on := 4, ground := Ground.phase }, { on := 5, ground := Ground.phase }, { on := 6, ground := Ground.phase }, { on := 7, ground := Ground.phase }, { on := 8, ground := Ground.phase }, { on := 9, ground := Ground.phase }, { on := 10, ground := Ground.phase }, { on := 11, ground := Ground.phase }, { on := 12, ground := Ground.phase }, { on := 13, ground := Ground.phase }, { on := 14, ground := Ground.phase }, { on := 15, ground := Ground.phase }, { on := 16, ground := Ground.phase }, { on := 17, ground := Ground.phase }, { on := 18, ground := Ground.phase }, { on := 19, ground := Ground.phase }, { on := 20, ground := Ground.phase }, { on := 21, ground := Ground.phase }, { on := 22, ground := Ground.phase }, { on := 23, ground := Ground.phase }, { on := 24, ground := Ground.phase }, { on := 25, ground := Ground.phase }, { on := 26, ground := Ground.phase }, { on := 27, ground := Ground.phase }, { on := 28, ground := Ground.phase }, { on := 29, ground := Ground.phase }, { on := 30, ground := Ground.phase }, { on := 31, ground := Ground.phase }, { on := 32, ground := Ground.phase }, { on := 33, ground := Ground.phase }], guard := none }) (v := .bool true) rfl (by kernel_rfl) (by kernel_rfl) (by kernel_rfl) (fun _ _ _ h => h) (Or.inl ⟨rfl, fun W hW => ?_⟩) hH ?_
      · go_simp
      try simp only [Act.put, List.setIfInBounds_toArray, List.set_cons_zero, List.set_cons_succ]
      refine wpAnyH_done (by kernel_rfl) ?_ 0
      refine NoPanic.normal ?_
      go_wp2
      go_ret
      exact ⟨rfl, HBj.out.trans (Below.mono (B := wj.heap.size) hn2 HBj.out.size)⟩
end Go.Proofs.Ytfikgocaidaheaa
