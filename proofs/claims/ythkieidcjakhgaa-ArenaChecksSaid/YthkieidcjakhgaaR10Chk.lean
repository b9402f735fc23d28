/- ArenaChecks: whether any nodes lie as they must is told as the document says. -/
import Derived.Test.YthkieidcjakhgaaR10Cw
import Derived.Test.YthkieidcjakhgaaDr
import Derived.Test.YthkieidcjakhgaaR10Ref
import Derived.Test.YthkieidcjakhgaaArg10
import Derived.Test.YthkieidcjakhgaaAqe
import Derived.Test.YthkieidcjakhgaaAq2
import Derived.Test.YthkieidcjakhgaaAq4
namespace Go.Proofs.Ythkieidcjakhgaa
open Go.RowKit
open Go.Proofs.Ythkieidcjakhgaa.Sq
open Go.Proofs.Ythkieidcjakhgaa.Ar
set_option linter.unusedVariables false

set_option maxHeartbeats 16000000 in
set_option maxRecDepth 100000 in
theorem walk_ArenaChecks (n0 : Int) (v0 : Value) (l0 : List Ac) (vr : Value) (raw : List Nd) (which at0 by0 : Int) (w : World) (_ : (Lit.int .i64 n0).wf = true) (h : Acts w v0 l0) (hr : NodesW w vr raw) (_ : (Lit.int .i64 which).wf = true) (_ : (Lit.int .i64 at0).wf = true) (hwfb : (Lit.int .i64 by0).wf = true) :
    Calls Try.prog 4 #[.int .i64 n0, v0, vr, .int .i64 which, .int .i64 at0, .int .i64 by0] w fun e w' => e = .returned (.bool true) ∧ Below w.heap.size w w' := by
  obtain ⟨a0, cap0, rfl⟩ := h.shape
  obtain ⟨ra, rc, rfl⟩ := hr.shape
  have HQ := Lib.hid (fun w' => show Below w.heap.size w w' → (fun e (w' : World) => e = Ending.returned (.bool true) ∧ Below w.heap.size w w') (.returned (.bool true)) w' from fun h => ⟨rfl, h⟩)
  obtain ⟨Q, hQ⟩ : ∃ Q, (fun e (w' : World) => e = Ending.returned (.bool true) ∧ Below w.heap.size w w') = Q := ⟨_, rfl⟩
  rw [hQ] at HQ ⊢
  obtain ⟨n, hn40, -, hwn⟩ := within_lit n0 40 40 rfl (by decide) (by decide)
  have hmx := h.size_le
  have HX := Lib.hid (fun W (hb : Below w.heap.size w W) j x (hj : l0[j]? = some x) => acts_at (h.below hb) j x hj)
  obtain ⟨M, hM⟩ : ∃ M, l0.length = M := ⟨_, rfl⟩
  rw [hM] at hmx ⊢
  simp only [maxLen] at hmx
  have HMl := Lib.hid hM
  have HWn := Lib.hid hwn
  have HK := Lib.hid (known_true aNew)
  have HRw := Lib.hid (fun W (hb : Below w.heap.size w W) => hr.below hb)
  obtain ⟨LR, hLR⟩ : ∃ LR, raw.length = LR := ⟨_, rfl⟩
  rw [hLR] at HRw ⊢
  have HLR := Lib.hid hLR
  clear h hr hQ hwn hM hLR
  go_enter Try.func4, Try.ntmps4
  go_wp2_with fail
  refine (HK.out _).mono ?_
  rintro e w1 ⟨rfl, hb1⟩
  have HB1 := Lib.hid hb1
  have HFew := Lib.hid (few_any _ raw w1 (HRw.out w1 hb1))
  clear hb1
  go_wp2_with fail
  refine HFew.out.mono ?_
  rintro e w2 ⟨rfl, hb2⟩
  have HB2 := Lib.hid (below_from HB1.out hb2)
  clear hb2
  cases hfew : fewN raw with
  | false =>
    have HD := Lib.hid (HQ.out w2 HB2.out)
    clear hfew
    go_wp2_with fail
    exact HD.out
  | true =>
    have HFr := Lib.hid (few_kids hfew)
    clear hfew
    go_wp2_with fail
    refine (HWn.out _).mono ?_
    rintro e w' ⟨rfl, rfl⟩
    go_wp2_with fail
    refine (rNew (n : Int) w2).mono ?_
    rintro e w3 ⟨u3, rfl, hn3, -, hb3⟩
    obtain ⟨a3, c3, rfl⟩ : ∃ a c, u3 = .slice a 1 c := hn3.shape
    obtain ⟨w4, hw4⟩ : ∃ w4, w3.alloc (.cells #[.slice a3 1 c3] 29) = w4 := ⟨_, rfl⟩
    obtain ⟨B13, hB13⟩ : ∃ B13, w3.heap.size = B13 := ⟨_, rfl⟩
    have v13 : Var w4 B13 29 (.slice a3 1 c3) (newN n) := by rw [← hw4, ← hB13]; exact Var.new hn3 _
    have hb4 : Below w3.heap.size w3 w4 := hw4 ▸ below_alloc w3 _
    have w13l : w.heap.size ≤ B13 := by have h1 := HB2.out.size; have h2 := hb3.size; omega
    have HB4 := Lib.hid (below_from HB2.out (below_from hb3 hb4))
    have HV := Lib.hid v13
    have HWl := Lib.hid (well_new (n : Int))
    have HW4 := Lib.hid hw4
    have HB13 := Lib.hid hB13
    clear hn3 hb3 hb4 hw4 hB13 v13
    go_upto_region 7 with fail
    rw [HW4.out, HB13.out]
    clear HW4 HB13
    go_wp2_with fail
    go_loopw [14] (fun iv wr => ∃ (i : Nat) (X : List Nd) (vx : Value), iv = .int .i64 i ∧ i ≤ M ∧ i ≤ 20 ∧ X.length ≤ 1 + i ∧ Hid (Well X) ∧ Hid (Var wr B13 29 vx X) ∧ Hid (Below w.heap.size w wr)) (fun iv _ => M - (intOf iv).toNat)
    case atStart => exact ⟨0, newN n, _, rfl, Nat.zero_le _, Nat.zero_le _, by show 1 ≤ 1 + 0; decide, HWl, HV, HB4⟩
    case round =>
      clear HV HWl HB4
      obtain ⟨i, X, vx, rfl, hiM, hi20, hX, HWl, HV, HBe⟩ := hrel
      obtain ⟨xa, xc, rfl⟩ := HV.out.shape
      have hpos := HWl.out.good.pos
      obtain ⟨LX, hLX⟩ : ∃ LX, X.length = LX := ⟨_, rfl⟩
      rw [hLX] at hX hpos HV
      have HLX := Lib.hid hLX
      clear hLX
      have hex : ((¬ ((i : Int) < (M : Int)) ∧ decide ((i : Int) < (M : Int)) = false ∧ decide (i < M) = false) ∨ ((i : Int) < (M : Int) ∧ ¬ ((i : Int) < 20) ∧ decide (i < M) = true ∧ decide ((i : Int) < 20) = false ∧ decide (i < 20) = false)) ∨ (i < M ∧ i < 20) := by
        by_cases h1 : i < M
        · by_cases h2 : i < 20
          · exact .inr ⟨h1, h2⟩
          · exact .inl (.inr ⟨by omega, by omega, decide_eq_true h1, decide_eq_false (by omega), decide_eq_false (by omega)⟩)
        · exact .inl (.inl ⟨by omega, decide_eq_false (by omega), decide_eq_false h1⟩)
      rcases hex with hout | ⟨hlM, hl20⟩
      · -- the loop is over
        have c13 := HV.out.cell
        have hfewX : ∀ z ∈ X, z.ks.length ≤ 200 := fun z hz => by have h1 := HWl.out.few z hz; rw [HLX.out] at h1; omega
        have hlenX : X.length ≤ 200 := by rw [HLX.out]; omega
        have HCa := Lib.hid (fun W (hb : Below wr.heap.size wr W) => aCheck (.slice xa LX xc) X n W (HV.out.below hb).nd.weak hlenX hfewX)
        have HCr := Lib.hid (fun W (hb : Below wr.heap.size wr W) => rCheck (.slice xa LX xc) X n W (HV.out.below hb).nd.weak (by omega) (fun z hz => Nat.le_trans (hfewX z hz) (by omega)))
        have HDa := Lib.hid (fun W (hb : Below w.heap.size w W) => aCheck (.slice ra LR rc) raw n W (HRw.out W hb) (by have := HFr.out.1; omega) (fun z hz => Nat.le_trans (HFr.out.2 z hz) (by omega)))
        have HDr := Lib.hid (fun W (hb : Below w.heap.size w W) => rCheck (.slice ra LR rc) raw n W (HRw.out W hb) (by have := HFr.out.1; omega) (fun z hz => Nat.le_trans (HFr.out.2 z hz) (by omega)))
        have HGr := Lib.hid (fun W (hb : Below wr.heap.size wr W) => show Calls Try.prog 12 #[.agg #[.slice xa LX xc], .int .i64 0, .int .i64 0] W (Treed true X W) from by
          have h := rGrow (.slice xa LX xc) X 0 0 W (HV.out.below hb).nd HWl.out.good (by omega) (fun z hz => Nat.le_trans (hfewX z hz) (by omega))
          rw [(grow_zero HWl.out).1, (grow_zero HWl.out).2] at h
          exact h)
        have HfX := Lib.hid (show ∀ z ∈ X, z.ks.length ≤ 50 from fun z hz => by have h1 := HWl.out.few z hz; rw [HLX.out] at h1; omega)
        obtain ⟨cx, hcx⟩ : ∃ cx, checkN X n = cx := ⟨_, rfl⟩
        obtain ⟨cw, hcw⟩ : ∃ cw, checkN raw n = cw := ⟨_, rfl⟩
        rw [hcx] at HCa HCr
        rw [hcw] at HDa HDr
        have be := (Below.refl wr.heap.size wr).drew
        clear hfewX hlenX hcx hcw
        -- both ways out of the loop go on alike
        go_upto_region 8 with fail
        go_cut [34] (fun q wx => q = .bool false ∧ wr = wx)
        case first =>
          rcases hout with ⟨e1, e2, e3⟩ | ⟨e1, e2, e3, e4, e5⟩
          · go_wp2_with fail
            go_meet
            exact ⟨rfl, rfl⟩
          · go_wp2_with fail
            go_meet
            exact ⟨rfl, rfl⟩
        case rest =>
        obtain ⟨rfl, rfl⟩ := hcut
        clear hout
        go_wp2_with fail
        -- GEN R11
        refine wp_region_held_drew (S := fun wx => wx.cell? ⟨B13, 0, none⟩ = some (.slice xa LX xc)) (by kernel_rfl) (at_drew c13) (fun hH => ?_)
        refine wpAnyH_take (i := 0) (oi := { dst := some 74, op := Op.load 29 (Operand.tmp 13), type := 29, pos := _, after := #[], guard := none }) (v := .agg #[.slice xa LX xc]) rfl (by kernel_rfl) (by kernel_rfl) (by kernel_rfl) (fun _ _ _ h => h) (Or.inl ⟨rfl, fun W hW => ?_⟩) hH ?_
        · have z0 := hW; go_simp
        try simp only [Act.put, List.setIfInBounds_toArray, List.set_cons_zero, List.set_cons_succ]
        refine wpAnyH_take (i := 2) (oi := { dst := some 76, op := Op.move (Operand.tmp 0), type := 3, pos := _, after := #[], guard := none }) (v := .int .i64 (n : Int)) rfl (by kernel_rfl) (by kernel_rfl) (by kernel_rfl) (fun _ _ _ h => h) (Or.inl ⟨rfl, fun W hW => ?_⟩) hH ?_
        · go_simp
        try simp only [Act.put, List.setIfInBounds_toArray, List.set_cons_zero, List.set_cons_succ]
        refine wpAnyH_take (i := 4) (oi := { dst := some 78, op := Op.load 29 (Operand.tmp 13), type := 29, pos := _, after := #[], guard := none }) (v := .agg #[.slice xa LX xc]) rfl (by kernel_rfl) (by kernel_rfl) (by kernel_rfl) (fun _ _ _ h => h) (Or.inl ⟨rfl, fun W hW => ?_⟩) hH ?_
        · have z0 := hW; go_simp
        try simp only [Act.put, List.setIfInBounds_toArray, List.set_cons_zero, List.set_cons_succ]
        refine wpAnyH_take (i := 5) (oi := { dst := some 79, op := Op.move (Operand.tmp 0), type := 3, pos := _, after := #[], guard := none }) (v := .int .i64 (n : Int)) rfl (by kernel_rfl) (by kernel_rfl) (by kernel_rfl) (fun _ _ _ h => h) (Or.inl ⟨rfl, fun W hW => ?_⟩) hH ?_
        · go_simp
        try simp only [Act.put, List.setIfInBounds_toArray, List.set_cons_zero, List.set_cons_succ]
        refine wpAnyH_ready (rs := [1]) (by kernel_rfl) (by simp) ?_
        refine AllReadyH.cons (o := { dst := some 75, op := Op.call { callee := Callee.value (Operand.func 20), args := #[Operand.tmp 74], argTypes := #[29] }, type := 27, pos := _, after := #[{ on := 0, ground := Ground.data }], guard := none }) rfl (fun K hK => ?_) AllReadyH.nil
        go_simp
        refine (of_any xa LX xc wr.drew).mono ?_
        rintro e w20 ⟨rfl, hb⟩
        have be := below_from be hb
        clear hb
        try go_wp2_with fail
        refine hK.out _ _ (at_below be c13) (fun hH2 => ?_)
        clear hK K
        try simp only [Act.put, List.setIfInBounds_toArray, List.set_cons_zero, List.set_cons_succ]
        refine wpAnyH_ready (rs := [3]) (by kernel_rfl) (by simp) ?_
        refine AllReadyH.cons (o := { dst := some 77, op := Op.call { callee := Callee.value (Operand.func 19), args := #[Operand.tmp 75, Operand.tmp 76], argTypes := #[27, 3] }, type := 4, pos := _, after := #[{ on := 1, ground := Ground.data }, { on := 2, ground := Ground.data }, { on := 1, ground := Ground.chain }], guard := none }) rfl (fun K hK => ?_) AllReadyH.nil
        go_simp
        refine (HCa.out w20 be).mono ?_
        rintro e w21 ⟨rfl, hb⟩
        have be := below_from be hb
        clear hb
        try go_wp2_with fail
        refine hK.out _ _ (at_below be c13) (fun hH2 => ?_)
        clear hK K
        try simp only [Act.put, List.setIfInBounds_toArray, List.set_cons_zero, List.set_cons_succ]
        refine wpAnyH_ready (rs := [6]) (by kernel_rfl) (by simp) ?_
        refine AllReadyH.cons (o := { dst := some 80, op := Op.call { callee := Callee.value (Operand.func 21), args := #[Operand.tmp 78, Operand.tmp 79], argTypes := #[29, 3] }, type := 4, pos := _, after := #[{ on := 4, ground := Ground.data }, { on := 5, ground := Ground.data }, { on := 3, ground := Ground.chain }], guard := none }) rfl (fun K hK => ?_) AllReadyH.nil
        go_simp
        refine (HCr.out w21 be).mono ?_
        rintro e w22 ⟨rfl, hb⟩
        have be := below_from be hb
        clear hb
        try go_wp2_with fail
        refine hK.out _ _ (at_below be c13) (fun hH2 => ?_)
        clear hK K
        try simp only [Act.put, List.setIfInBounds_toArray, List.set_cons_zero, List.set_cons_succ]
        refine wpAnyH_take (i := 7) (oi := { dst := some 81, op := Op.binOp BinOp.neq 4 (Operand.tmp 77) (Operand.tmp 80) 4, type := 4, pos := _, after := #[{ on := 3, ground := Ground.data }, { on := 6, ground := Ground.data }], guard := none }) (v := .bool false) rfl (by kernel_rfl) (by kernel_rfl) (by kernel_rfl) (fun _ _ _ h => h) (Or.inl ⟨rfl, fun W hW => ?_⟩) hH2 ?_
        · go_simp
        try simp only [Act.put, List.setIfInBounds_toArray, List.set_cons_zero, List.set_cons_succ]
        refine wpAnyH_take (i := 8) (oi := { dst := some 82, op := Op.move (Operand.tmp 81), type := 4, pos := _, after := #[{ on := 7, ground := Ground.data }, { on := 6, ground := Ground.chain }], guard := none }) (v := .bool false) rfl (by kernel_rfl) (by kernel_rfl) (by kernel_rfl) (fun _ _ _ h => h) (Or.inl ⟨rfl, fun W hW => ?_⟩) hH2 ?_
        · go_simp
        try simp only [Act.put, List.setIfInBounds_toArray, List.set_cons_zero, List.set_cons_succ]
        refine wpAnyH_take (i := 9) (oi := { dst := some 83, op := Op.move (Operand.tmp 2), type := 25, pos := _, after := #[{ on := 8, ground := Ground.guard }], guard := some (8, false) }) (v := .slice ra LR rc) rfl (by kernel_rfl) (by kernel_rfl) (by kernel_rfl) (fun _ _ _ h => h) (Or.inl ⟨rfl, fun W hW => ?_⟩) hH2 ?_
        · go_simp
        try simp only [Act.put, List.setIfInBounds_toArray, List.set_cons_zero, List.set_cons_succ]
        refine wpAnyH_take (i := 10) (oi := { dst := some 84, op := Op.build 27 #[(0, Operand.tmp 83)], type := 27, pos := _, after := #[{ on := 9, ground := Ground.data }, { on := 8, ground := Ground.guard }], guard := some (8, false) }) (v := .agg #[.slice ra LR rc]) rfl (by kernel_rfl) (by kernel_rfl) (by kernel_rfl) (fun _ _ _ h => h) (Or.inl ⟨rfl, fun W hW => ?_⟩) hH2 ?_
        · go_simp
        try simp only [Act.put, List.setIfInBounds_toArray, List.set_cons_zero, List.set_cons_succ]
        refine wpAnyH_take (i := 11) (oi := { dst := some 85, op := Op.move (Operand.tmp 0), type := 3, pos := _, after := #[{ on := 8, ground := Ground.guard }], guard := some (8, false) }) (v := .int .i64 (n : Int)) rfl (by kernel_rfl) (by kernel_rfl) (by kernel_rfl) (fun _ _ _ h => h) (Or.inl ⟨rfl, fun W hW => ?_⟩) hH2 ?_
        · go_simp
        try simp only [Act.put, List.setIfInBounds_toArray, List.set_cons_zero, List.set_cons_succ]
        refine wpAnyH_take (i := 13) (oi := { dst := some 87, op := Op.move (Operand.tmp 2), type := 25, pos := _, after := #[{ on := 8, ground := Ground.guard }], guard := some (8, false) }) (v := .slice ra LR rc) rfl (by kernel_rfl) (by kernel_rfl) (by kernel_rfl) (fun _ _ _ h => h) (Or.inl ⟨rfl, fun W hW => ?_⟩) hH2 ?_
        · go_simp
        try simp only [Act.put, List.setIfInBounds_toArray, List.set_cons_zero, List.set_cons_succ]
        refine wpAnyH_take (i := 14) (oi := { dst := some 88, op := Op.build 29 #[(0, Operand.tmp 87)], type := 29, pos := _, after := #[{ on := 13, ground := Ground.data }, { on := 8, ground := Ground.guard }], guard := some (8, false) }) (v := .agg #[.slice ra LR rc]) rfl (by kernel_rfl) (by kernel_rfl) (by kernel_rfl) (fun _ _ _ h => h) (Or.inl ⟨rfl, fun W hW => ?_⟩) hH2 ?_
        · go_simp
        try simp only [Act.put, List.setIfInBounds_toArray, List.set_cons_zero, List.set_cons_succ]
        refine wpAnyH_take (i := 15) (oi := { dst := some 89, op := Op.move (Operand.tmp 0), type := 3, pos := _, after := #[{ on := 8, ground := Ground.guard }], guard := some (8, false) }) (v := .int .i64 (n : Int)) rfl (by kernel_rfl) (by kernel_rfl) (by kernel_rfl) (fun _ _ _ h => h) (Or.inl ⟨rfl, fun W hW => ?_⟩) hH2 ?_
        · go_simp
        try simp only [Act.put, List.setIfInBounds_toArray, List.set_cons_zero, List.set_cons_succ]
        refine wpAnyH_ready (rs := [12]) (by kernel_rfl) (by simp) ?_
        refine AllReadyH.cons (o := { dst := some 86, op := Op.call { callee := Callee.value (Operand.func 19), args := #[Operand.tmp 84, Operand.tmp 85], argTypes := #[27, 3] }, type := 4, pos := _, after := #[{ on := 10, ground := Ground.data }, { on := 11, ground := Ground.data }, { on := 8, ground := Ground.chain }, { on := 8, ground := Ground.guard }], guard := some (8, false) }) rfl (fun K hK => ?_) AllReadyH.nil
        go_simp
        refine (HDa.out w22 (below_from HBe.out be)).mono ?_
        rintro e w23 ⟨rfl, hb⟩
        have be := below_from be hb
        clear hb
        try go_wp2_with fail
        refine hK.out _ _ (at_below be c13) (fun hH2 => ?_)
        clear hK K
        try simp only [Act.put, List.setIfInBounds_toArray, List.set_cons_zero, List.set_cons_succ]
        refine wpAnyH_ready (rs := [16]) (by kernel_rfl) (by simp) ?_
        refine AllReadyH.cons (o := { dst := some 90, op := Op.call { callee := Callee.value (Operand.func 21), args := #[Operand.tmp 88, Operand.tmp 89], argTypes := #[29, 3] }, type := 4, pos := _, after := #[{ on := 14, ground := Ground.data }, { on := 15, ground := Ground.data }, { on := 12, ground := Ground.chain }, { on := 8, ground := Ground.guard }], guard := some (8, false) }) rfl (fun K hK => ?_) AllReadyH.nil
        go_simp
        refine (HDr.out w23 (below_from HBe.out be)).mono ?_
        rintro e w24 ⟨rfl, hb⟩
        have be := below_from be hb
        clear hb
        try go_wp2_with fail
        refine hK.out _ _ (at_below be c13) (fun hH2 => ?_)
        clear hK K
        try simp only [Act.put, List.setIfInBounds_toArray, List.set_cons_zero, List.set_cons_succ]
        refine wpAnyH_take (i := 17) (oi := { dst := some 91, op := Op.binOp BinOp.neq 4 (Operand.tmp 86) (Operand.tmp 90) 4, type := 4, pos := _, after := #[{ on := 12, ground := Ground.data }, { on := 16, ground := Ground.data }, { on := 8, ground := Ground.guard }], guard := some (8, false) }) (v := .bool false) rfl (by kernel_rfl) (by kernel_rfl) (by kernel_rfl) (fun _ _ _ h => h) (Or.inl ⟨rfl, fun W hW => ?_⟩) hH2 ?_
        · go_simp
        try simp only [Act.put, List.setIfInBounds_toArray, List.set_cons_zero, List.set_cons_succ]
        refine wpAnyH_take (i := 18) (oi := { dst := some 92, op := Op.pick (Operand.tmp 82) (Operand.const (Value.bool true)) (Operand.tmp 91), type := 4, pos := _, after := #[{ on := 8, ground := Ground.data }, { on := 17, ground := Ground.data }], guard := none }) (v := .bool false) rfl (by kernel_rfl) (by kernel_rfl) (by kernel_rfl) (fun _ _ _ h => h) (Or.inl ⟨rfl, fun W hW => ?_⟩) hH2 ?_
        · go_simp
        try simp only [Act.put, List.setIfInBounds_toArray, List.set_cons_zero, List.set_cons_succ]
        refine wpAnyH_done (by kernel_rfl) ?_ _
        -- END R11
        have HVb := Lib.hid (HV.out.below be)
        have HVk := HVb
        have HBb := Lib.hid (below_from HBe.out be)
        have HGb := Lib.hid (HGr.out w24 be)
        clear be c13 HCa HCr HDa HDr HGr HV HBe
        have c13 := HVb.out.cell
        go_wp2_with fail
        refine HGb.out.mono ?_
        rintro e w5 ⟨u5, rfl, -, hown, hb5⟩
        obtain ⟨L, hL, hO⟩ := hown rfl
        have hln : L.length = LX := by rw [← HLX.out, ← hL, List.length_map]
        obtain ⟨g, cp, hu, hBg, -, -, -⟩ := own_at (E := encN) hO.row (by omega)
        rw [hln] at hu
        subst hu
        obtain ⟨w6, hw6⟩ : ∃ w6, w5.alloc (.cells #[.slice (some ⟨g, 0, none⟩) LX cp] 29) = w6 := ⟨_, rfl⟩
        obtain ⟨B15, hB15⟩ : ∃ B15, w5.heap.size = B15 := ⟨_, rfl⟩
        have hb6 : Below w5.heap.size w5 w6 := hw6 ▸ below_alloc w5 _
        have b15 : w6.heap[B15]? = some (.cells #[.slice (some ⟨g, 0, none⟩) LX cp] 29 (0, 0)) := by rw [← hw6, ← hB15]; exact heap_alloc_new _ _
        have HO6 := Lib.hid (hO.below hb6)
        have HV6 := Lib.hid (HVb.out.below (below_from hb5 hb6))
        have HB6 := Lib.hid (below_from HBb.out (below_from hb5 hb6))
        have HBk := HBb
        have HB246 := Lib.hid (below_from hb5 hb6)
        have hBg24 := hBg
        have h246 := (below_from hb5 hb6).size
        have hk15 : w24.heap.size ≤ B15 := by have := hb5.size; omega
        have ng15 : g ≠ B15 := by have := (hO.row.lt g rfl).2; omega
        have ng13 : g ≠ B13 := by have := HVb.out.lt; omega
        have hwg : w.heap.size ≤ g := by have := HBb.out.size; omega
        have H15 := Lib.hid b15
        have c15 := cell_of_one b15
        have HL := Lib.hid hL
        have HLn := Lib.hid hln
        have HW6 := Lib.hid hw6
        have HB15 := Lib.hid hB15
        clear hL hO hln hown hBg hb5 hw6 hB15 hb6 b15 HVb HBb c13 HGb
        obtain ⟨k, hk, -, hwk⟩ := within_lit at0 LX (LX : Int) rfl (by omega) (by omega)
        obtain ⟨kw, hkw, -, hww⟩ := within_lit which 7 7 rfl (by decide) (by decide)
        have HKk := Lib.hid hwk
        have HKw := Lib.hid hww
        obtain ⟨p, hp⟩ : ∃ p, L[k]? = some p := ⟨_, List.getElem?_eq_getElem (by rw [HLn.out]; exact hk)⟩
        have HP := Lib.hid hp
        have hkX : p.nd.ks.length ≤ 50 := HfX.out p.nd (by rw [← HL.out]; exact List.mem_map_of_mem (List.mem_of_getElem? hp))
        clear hwk hww hp
        go_upto_region 14 with fail
        rw [HW6.out, HB15.out]
        clear HW6 HB15
        go_wp2_with fail
        refine (HKk.out _).mono ?_
        rintro e w' ⟨rfl, rfl⟩
        have hki : (k : Int) < (LX : Int) := by omega
        -- what comes of a turn, whatever it is
        have HT := Lib.hid (fun (W : World) (nd : Nd) (hn : Nodes W (.slice (some ⟨g, 0, none⟩) LX cp) ((L.map Ln.nd).set k nd)) (hf : nd.ks.length ≤ 100) (hb : Below w24.heap.size w24 W) (h15 : W.heap[B15]? = some (.cells #[.slice (some ⟨g, 0, none⟩) LX cp] 29 (0, 0))) => show ∃ Y, Hid (Nodes W (.slice (some ⟨g, 0, none⟩) LX cp) Y) ∧ Y.length = LX ∧ Hid (∀ z ∈ Y, z.ks.length ≤ 100) ∧ Hid (W.heap[B15]? = some (.cells #[.slice (some ⟨g, 0, none⟩) LX cp] 29 (0, 0))) ∧ Hid (Below w24.heap.size w24 W) from
          ⟨_, Lib.hid hn, by rw [List.length_set, List.length_map]; exact HLn.out, Lib.hid (fun z hz => by
            rcases List.mem_or_eq_of_mem_set hz with hz | rfl
            · have := HfX.out z (by rw [← HL.out]; exact hz); omega
            · exact hf), Lib.hid h15, Lib.hid hb⟩)
        have HT0 := Lib.hid (show ∃ Y, Hid (Nodes w6 (.slice (some ⟨g, 0, none⟩) LX cp) Y) ∧ Y.length = LX ∧ Hid (∀ z ∈ Y, z.ks.length ≤ 100) ∧ Hid (w6.heap[B15]? = some (.cells #[.slice (some ⟨g, 0, none⟩) LX cp] 29 (0, 0))) ∧ Hid (Below w24.heap.size w24 w6) from
          ⟨X, Lib.hid (by rw [← HL.out]; exact HO6.out.nodes), HLX.out, Lib.hid (fun z hz => by have := HfX.out z hz; omega), H15, HB246⟩)
        -- one number of the node is stored
        have HSt := Lib.hid (fun (j : Nat) (nd : Nd) (u : Value) (hks : nd.ks = p.nd.ks) (hc : nCells { p with nd := nd } = (nCells p).set j u) (hj : j < 6) => HT.out (w6.setCell ⟨g, k * 6 + j, none⟩ u).drew nd ((HO6.out.turn j nd u HP.out hks hc hj).below (Below.refl _ _).drew) (by rw [hks]; omega) ((HB246.out.setCell (p := ⟨g, k * 6 + j, none⟩) hBg24 u).drew) ((Below.heap_setCell w6 ⟨g, k * 6 + j, none⟩ u B15 (fun e => ng15 e.symm)).trans H15.out))
        have HSq := Lib.hid (fun (j : Nat) (nd : Nd) (u : Value) (hks : nd.ks = p.nd.ks) (hc : nCells { p with nd := nd } = (nCells p).set j u) (hj : j < 6) => HT.out (w6.setCell ⟨g, k * 6 + j, none⟩ u) nd (HO6.out.turn j nd u HP.out hks hc hj) (by rw [hks]; omega) (HB246.out.setCell (p := ⟨g, k * 6 + j, none⟩) hBg24 u) ((Below.heap_setCell w6 ⟨g, k * 6 + j, none⟩ u B15 (fun e => ng15 e.symm)).trans H15.out))
        go_wp2_with fail
        refine (HKw.out _).mono ?_
        rintro e w' ⟨rfl, rfl⟩
        go_upto_block 2 with fail
        go_cut [] (fun wx => ∃ Y, Hid (Nodes wx (.slice (some ⟨g, 0, none⟩) LX cp) Y) ∧ Y.length = LX ∧ Hid (∀ z ∈ Y, z.ks.length ≤ 100) ∧ Hid (wx.heap[B15]? = some (.cells #[.slice (some ⟨g, 0, none⟩) LX cp] 29 (0, 0))) ∧ Hid (Below w24.heap.size w24 wx))
        case first =>
          have hkw7 : kw = 0 ∨ kw = 1 ∨ kw = 2 ∨ kw = 3 ∨ kw = 4 ∨ kw = 5 ∨ kw = 6 := by omega
          clear hkw
          rcases hkw7 with rfl | rfl | rfl | rfl | rfl | rfl | rfl
          · as_aux_lemma =>
            -- From
            obtain ⟨k3, hk3, -, hw3⟩ := within_lit by0 3 3 rfl (by decide) (by decide)
            have HK3 := Lib.hid hw3
            have q0 := HO6.out.cell4 1 _ HP.out rfl (by decide)
            have qf := HO6.out.free4 HP.out (k * 6 + 1)
            obtain ⟨s1, hs1⟩ : ∃ s, IntKind.i64.wrap (p.nd.f + (k3 : Int)) = s := ⟨_, rfl⟩
            obtain ⟨s2, hs2⟩ : ∃ s, IntKind.i64.wrap (s1 - 1) = s := ⟨_, rfl⟩
            clear hw3
            go_wp2_with fail
            -- GEN R17
            refine wp_region_T (fun wx => wx.cell? ⟨B15, 0, none⟩ = some (.slice (some ⟨g, 0, none⟩) LX cp) ∧ wx.cell? ⟨g, k * 6 + 1, none⟩ = some (.int .i64 p.nd.f)) 15 (by kernel_rfl) ?_
            have hH : (fun wx : World => wx.cell? ⟨B15, 0, none⟩ = some (.slice (some ⟨g, 0, none⟩) LX cp) ∧ wx.cell? ⟨g, k * 6 + 1, none⟩ = some (.int .i64 p.nd.f)) w6.drew := ⟨at_drew c15, at_drew q0⟩
            refine wpAnyT_take (i := 0) (oi := { dst := some 104, op := Op.fieldAddr 29 (Operand.tmp 15) 0, type := 0, pos := _, after := #[], guard := none }) (v := .pointer (some ⟨B15, 0, none⟩)) rfl (by kernel_rfl) (by kernel_rfl) (by kernel_rfl) (by kernel_rfl) (by kernel_rfl) (fun _ _ _ h => h) (Or.inl ⟨rfl, fun W hW => ?_⟩) hH ?_
            · refine QuietRun.of_run ?_; go_simp
            try simp only [Act.put, List.setIfInBounds_toArray, List.set_cons_zero, List.set_cons_succ]
            refine wpAnyT_take (i := 1) (oi := { dst := some 105, op := Op.load 25 (Operand.tmp 104), type := 25, pos := _, after := #[{ on := 0, ground := Ground.data }], guard := none }) (v := .slice (some ⟨g, 0, none⟩) LX cp) rfl (by kernel_rfl) (by kernel_rfl) (by kernel_rfl) (by kernel_rfl) (by kernel_rfl) (fun _ _ _ h => h) (Or.inl ⟨rfl, fun W hW => ?_⟩) hH ?_
            · refine QuietRun.of_run ?_; obtain ⟨z0, z1⟩ := hW; go_simp
            try simp only [Act.put, List.setIfInBounds_toArray, List.set_cons_zero, List.set_cons_succ]
            refine wpAnyT_take (i := 2) (oi := { dst := some 106, op := Op.move (Operand.tmp 16), type := 3, pos := _, after := #[], guard := none }) (v := .int .i64 (k : Int)) rfl (by kernel_rfl) (by kernel_rfl) (by kernel_rfl) (by kernel_rfl) (by kernel_rfl) (fun _ _ _ h => h) (Or.inl ⟨rfl, fun W hW => ?_⟩) hH ?_
            · refine QuietRun.of_run ?_; go_simp
            try simp only [Act.put, List.setIfInBounds_toArray, List.set_cons_zero, List.set_cons_succ]
            refine wpAnyT_take (i := 3) (oi := { dst := some 107, op := Op.fieldAddr 29 (Operand.tmp 15) 0, type := 0, pos := _, after := #[], guard := none }) (v := .pointer (some ⟨B15, 0, none⟩)) rfl (by kernel_rfl) (by kernel_rfl) (by kernel_rfl) (by kernel_rfl) (by kernel_rfl) (fun _ _ _ h => h) (Or.inl ⟨rfl, fun W hW => ?_⟩) hH ?_
            · refine QuietRun.of_run ?_; go_simp
            try simp only [Act.put, List.setIfInBounds_toArray, List.set_cons_zero, List.set_cons_succ]
            refine wpAnyT_take (i := 4) (oi := { dst := some 108, op := Op.load 25 (Operand.tmp 107), type := 25, pos := _, after := #[{ on := 3, ground := Ground.data }], guard := none }) (v := .slice (some ⟨g, 0, none⟩) LX cp) rfl (by kernel_rfl) (by kernel_rfl) (by kernel_rfl) (by kernel_rfl) (by kernel_rfl) (fun _ _ _ h => h) (Or.inl ⟨rfl, fun W hW => ?_⟩) hH ?_
            · refine QuietRun.of_run ?_; obtain ⟨z0, z1⟩ := hW; go_simp
            try simp only [Act.put, List.setIfInBounds_toArray, List.set_cons_zero, List.set_cons_succ]
            refine wpAnyT_take (i := 5) (oi := { dst := some 109, op := Op.move (Operand.tmp 16), type := 3, pos := _, after := #[], guard := none }) (v := .int .i64 (k : Int)) rfl (by kernel_rfl) (by kernel_rfl) (by kernel_rfl) (by kernel_rfl) (by kernel_rfl) (fun _ _ _ h => h) (Or.inl ⟨rfl, fun W hW => ?_⟩) hH ?_
            · refine QuietRun.of_run ?_; go_simp
            try simp only [Act.put, List.setIfInBounds_toArray, List.set_cons_zero, List.set_cons_succ]
            refine wpAnyT_take (i := 6) (oi := { dst := some 110, op := Op.indexAddr 25 (Operand.tmp 108) (Operand.tmp 109), type := 0, pos := _, after := #[{ on := 4, ground := Ground.data }, { on := 5, ground := Ground.data }], guard := none }) (v := .pointer (some ⟨g, k * 6, none⟩)) rfl (by kernel_rfl) (by kernel_rfl) (by kernel_rfl) (by kernel_rfl) (by kernel_rfl) (fun _ _ _ h => h) (Or.inl ⟨rfl, fun W hW => ?_⟩) hH ?_
            · refine QuietRun.of_run ?_; go_simp
            try simp only [Act.put, List.setIfInBounds_toArray, List.set_cons_zero, List.set_cons_succ]
            refine wpAnyT_take (i := 7) (oi := { dst := some 111, op := Op.fieldAddr 48 (Operand.tmp 110) 1, type := 0, pos := _, after := #[{ on := 6, ground := Ground.data }], guard := none }) (v := .pointer (some ⟨g, k * 6 + 1, none⟩)) rfl (by kernel_rfl) (by kernel_rfl) (by kernel_rfl) (by kernel_rfl) (by kernel_rfl) (fun _ _ _ h => h) (Or.inl ⟨rfl, fun W hW => ?_⟩) hH ?_
            · refine QuietRun.of_run ?_; go_simp
            try simp only [Act.put, List.setIfInBounds_toArray, List.set_cons_zero, List.set_cons_succ]
            refine wpAnyT_take (i := 8) (oi := { dst := some 112, op := Op.load 3 (Operand.tmp 111), type := 3, pos := _, after := #[{ on := 7, ground := Ground.data }], guard := none }) (v := .int .i64 p.nd.f) rfl (by kernel_rfl) (by kernel_rfl) (by kernel_rfl) (by kernel_rfl) (by kernel_rfl) (fun _ _ _ h => h) (Or.inl ⟨rfl, fun W hW => ?_⟩) hH ?_
            · refine QuietRun.of_run ?_; obtain ⟨z0, z1⟩ := hW; go_simp
            try simp only [Act.put, List.setIfInBounds_toArray, List.set_cons_zero, List.set_cons_succ]
            refine wpAnyT_take (i := 9) (oi := { dst := some 113, op := Op.move (Operand.tmp 5), type := 3, pos := _, after := #[], guard := none }) (v := .int .i64 by0) rfl (by kernel_rfl) (by kernel_rfl) (by kernel_rfl) (by kernel_rfl) (by kernel_rfl) (fun _ _ _ h => h) (Or.inl ⟨rfl, fun W hW => ?_⟩) hH ?_
            · refine QuietRun.of_run ?_; go_simp
            try simp only [Act.put, List.setIfInBounds_toArray, List.set_cons_zero, List.set_cons_succ]
            refine wpAnyT_take (i := 10) (oi := { dst := some 114, op := Op.call { callee := Callee.value (Operand.func 9), args := #[Operand.tmp 113, Operand.const (Value.int IntKind.i64 3)], argTypes := #[3, 3] }, type := 3, pos := _, after := #[{ on := 9, ground := Ground.data }], guard := none }) (v := .int .i64 (k3 : Int)) rfl (by kernel_rfl) (by kernel_rfl) (by kernel_rfl) (by kernel_rfl) (by kernel_rfl) (fun _ _ _ h => h) (Or.inl ⟨rfl, fun W hW => ?_⟩) hH ?_
            · refine QuietRun.of_call (f := 9) (args := #[.int .i64 by0, .int .i64 3]) ?_ ?_
              · go_simp
              · exact HK3.out W
            try simp only [Act.put, List.setIfInBounds_toArray, List.set_cons_zero, List.set_cons_succ]
            refine wpAnyT_take (i := 11) (oi := { dst := some 115, op := Op.binOp BinOp.add 3 (Operand.tmp 112) (Operand.tmp 114) 3, type := 3, pos := _, after := #[{ on := 8, ground := Ground.data }, { on := 10, ground := Ground.data }], guard := none }) (v := .int .i64 s1) rfl (by kernel_rfl) (by kernel_rfl) (by kernel_rfl) (by kernel_rfl) (by kernel_rfl) (fun _ _ _ h => h) (Or.inl ⟨rfl, fun W hW => ?_⟩) hH ?_
            · refine QuietRun.of_run ?_; go_simp
            try simp only [Act.put, List.setIfInBounds_toArray, List.set_cons_zero, List.set_cons_succ]
            refine wpAnyT_take (i := 12) (oi := { dst := some 116, op := Op.binOp BinOp.sub 3 (Operand.tmp 115) (Operand.const (Value.int IntKind.i64 1)) 3, type := 3, pos := _, after := #[{ on := 11, ground := Ground.data }], guard := none }) (v := .int .i64 s2) rfl (by kernel_rfl) (by kernel_rfl) (by kernel_rfl) (by kernel_rfl) (by kernel_rfl) (fun _ _ _ h => h) (Or.inl ⟨rfl, fun W hW => ?_⟩) hH ?_
            · refine QuietRun.of_run ?_; go_simp
            try simp only [Act.put, List.setIfInBounds_toArray, List.set_cons_zero, List.set_cons_succ]
            refine wpAnyT_take0 (i := 13) (oi := { dst := some 117, op := Op.indexAddr 25 (Operand.tmp 105) (Operand.tmp 106), type := 0, pos := _, after := #[{ on := 1, ground := Ground.data }, { on := 2, ground := Ground.data }, { on := 0, ground := Ground.phase }, { on := 1, ground := Ground.phase }, { on := 2, ground := Ground.phase }, { on := 3, ground := Ground.phase }, { on := 4, ground := Ground.phase }, { on := 5, ground := Ground.phase }, { on := 6, ground := Ground.phase }, { on := 7, ground := Ground.phase }, { on := 8, ground := Ground.phase }, { on := 9, ground := Ground.phase }, { on := 10, ground := Ground.phase }, { on := 11, ground := Ground.phase }, { on := 12, ground := Ground.phase }], guard := none }) (v := .pointer (some ⟨g, k * 6, none⟩)) rfl (by kernel_rfl) (by kernel_rfl) (by kernel_rfl) (by kernel_rfl) (fun _ _ _ h => h) (Or.inl ⟨rfl, fun W hW => ?_⟩) (fun _ => hH) ?_
            · refine QuietRun.of_run ?_; go_simp
            try simp only [Act.put, List.setIfInBounds_toArray, List.set_cons_zero, List.set_cons_succ]
            refine wpAnyT_take (i := 14) (oi := { dst := some 118, op := Op.fieldAddr 48 (Operand.tmp 117) 1, type := 0, pos := _, after := #[{ on := 13, ground := Ground.data }, { on := 0, ground := Ground.phase }, { on := 1, ground := Ground.phase }, { on := 2, ground := Ground.phase }, { on := 3, ground := Ground.phase }, { on := 4, ground := Ground.phase }, { on := 5, ground := Ground.phase }, { on := 6, ground := Ground.phase }, { on := 7, ground := Ground.phase }, { on := 8, ground := Ground.phase }, { on := 9, ground := Ground.phase }, { on := 10, ground := Ground.phase }, { on := 11, ground := Ground.phase }, { on := 12, ground := Ground.phase }], guard := none }) (v := .pointer (some ⟨g, k * 6 + 1, none⟩)) rfl (by kernel_rfl) (by kernel_rfl) (by kernel_rfl) (by kernel_rfl) (by kernel_rfl) (fun _ _ _ h => h) (Or.inl ⟨rfl, fun W hW => ?_⟩) hH ?_
            · refine QuietRun.of_run ?_; go_simp
            try simp only [Act.put, List.setIfInBounds_toArray, List.set_cons_zero, List.set_cons_succ]
            refine wpAnyT_ready (rs := [15]) (by kernel_rfl) (by simp) ?_
            refine AllReadyT.cons (o := { dst := none, op := Op.store 3 (Operand.tmp 118) (Operand.tmp 116), type := 0, pos := _, after := #[{ on := 14, ground := Ground.data }, { on := 12, ground := Ground.data }, { on := 10, ground := Ground.chain }, { on := 0, ground := Ground.phase }, { on := 1, ground := Ground.phase }, { on := 2, ground := Ground.phase }, { on := 3, ground := Ground.phase }, { on := 4, ground := Ground.phase }, { on := 5, ground := Ground.phase }, { on := 6, ground := Ground.phase }, { on := 7, ground := Ground.phase }, { on := 8, ground := Ground.phase }, { on := 9, ground := Ground.phase }, { on := 10, ground := Ground.phase }, { on := 11, ground := Ground.phase }, { on := 12, ground := Ground.phase }], guard := none }) rfl (fun K hK => ?_) (AllReadyT.nil)
            go_simp
            refine hK.out _ _ (fun h => absurd (h.symm.trans (show _ = true from by kernel_rfl)) (by decide)) (fun _ => ?_)
            clear hK K
            try simp only [Act.put, List.setIfInBounds_toArray, List.set_cons_zero, List.set_cons_succ]
            refine wpAnyT_done (by kernel_rfl) ?_ _
            -- END R17
            go_wp2_with fail
            go_meet
            exact HSt.out 1 { p.nd with f := s2 } (.int .i64 s2) rfl rfl (by decide)
          · as_aux_lemma =>
            -- To
            obtain ⟨k3, hk3, -, hw3⟩ := within_lit by0 3 3 rfl (by decide) (by decide)
            have HK3 := Lib.hid hw3
            have q0 := HO6.out.cell4 2 _ HP.out rfl (by decide)
            have qf := HO6.out.free4 HP.out (k * 6 + 2)
            obtain ⟨s1, hs1⟩ : ∃ s, IntKind.i64.wrap (p.nd.t + (k3 : Int)) = s := ⟨_, rfl⟩
            obtain ⟨s2, hs2⟩ : ∃ s, IntKind.i64.wrap (s1 - 1) = s := ⟨_, rfl⟩
            clear hw3
            go_wp2_with fail
            -- GEN R19
            refine wp_region_T (fun wx => wx.cell? ⟨B15, 0, none⟩ = some (.slice (some ⟨g, 0, none⟩) LX cp) ∧ wx.cell? ⟨g, k * 6 + 2, none⟩ = some (.int .i64 p.nd.t)) 15 (by kernel_rfl) ?_
            have hH : (fun wx : World => wx.cell? ⟨B15, 0, none⟩ = some (.slice (some ⟨g, 0, none⟩) LX cp) ∧ wx.cell? ⟨g, k * 6 + 2, none⟩ = some (.int .i64 p.nd.t)) w6.drew := ⟨at_drew c15, at_drew q0⟩
            refine wpAnyT_take (i := 0) (oi := { dst := some 121, op := Op.fieldAddr 29 (Operand.tmp 15) 0, type := 0, pos := _, after := #[], guard := none }) (v := .pointer (some ⟨B15, 0, none⟩)) rfl (by kernel_rfl) (by kernel_rfl) (by kernel_rfl) (by kernel_rfl) (by kernel_rfl) (fun _ _ _ h => h) (Or.inl ⟨rfl, fun W hW => ?_⟩) hH ?_
            · refine QuietRun.of_run ?_; go_simp
            try simp only [Act.put, List.setIfInBounds_toArray, List.set_cons_zero, List.set_cons_succ]
            refine wpAnyT_take (i := 1) (oi := { dst := some 122, op := Op.load 25 (Operand.tmp 121), type := 25, pos := _, after := #[{ on := 0, ground := Ground.data }], guard := none }) (v := .slice (some ⟨g, 0, none⟩) LX cp) rfl (by kernel_rfl) (by kernel_rfl) (by kernel_rfl) (by kernel_rfl) (by kernel_rfl) (fun _ _ _ h => h) (Or.inl ⟨rfl, fun W hW => ?_⟩) hH ?_
            · refine QuietRun.of_run ?_; obtain ⟨z0, z1⟩ := hW; go_simp
            try simp only [Act.put, List.setIfInBounds_toArray, List.set_cons_zero, List.set_cons_succ]
            refine wpAnyT_take (i := 2) (oi := { dst := some 123, op := Op.move (Operand.tmp 16), type := 3, pos := _, after := #[], guard := none }) (v := .int .i64 (k : Int)) rfl (by kernel_rfl) (by kernel_rfl) (by kernel_rfl) (by kernel_rfl) (by kernel_rfl) (fun _ _ _ h => h) (Or.inl ⟨rfl, fun W hW => ?_⟩) hH ?_
            · refine QuietRun.of_run ?_; go_simp
            try simp only [Act.put, List.setIfInBounds_toArray, List.set_cons_zero, List.set_cons_succ]
            refine wpAnyT_take (i := 3) (oi := { dst := some 124, op := Op.fieldAddr 29 (Operand.tmp 15) 0, type := 0, pos := _, after := #[], guard := none }) (v := .pointer (some ⟨B15, 0, none⟩)) rfl (by kernel_rfl) (by kernel_rfl) (by kernel_rfl) (by kernel_rfl) (by kernel_rfl) (fun _ _ _ h => h) (Or.inl ⟨rfl, fun W hW => ?_⟩) hH ?_
            · refine QuietRun.of_run ?_; go_simp
            try simp only [Act.put, List.setIfInBounds_toArray, List.set_cons_zero, List.set_cons_succ]
            refine wpAnyT_take (i := 4) (oi := { dst := some 125, op := Op.load 25 (Operand.tmp 124), type := 25, pos := _, after := #[{ on := 3, ground := Ground.data }], guard := none }) (v := .slice (some ⟨g, 0, none⟩) LX cp) rfl (by kernel_rfl) (by kernel_rfl) (by kernel_rfl) (by kernel_rfl) (by kernel_rfl) (fun _ _ _ h => h) (Or.inl ⟨rfl, fun W hW => ?_⟩) hH ?_
            · refine QuietRun.of_run ?_; obtain ⟨z0, z1⟩ := hW; go_simp
            try simp only [Act.put, List.setIfInBounds_toArray, List.set_cons_zero, List.set_cons_succ]
            refine wpAnyT_take (i := 5) (oi := { dst := some 126, op := Op.move (Operand.tmp 16), type := 3, pos := _, after := #[], guard := none }) (v := .int .i64 (k : Int)) rfl (by kernel_rfl) (by kernel_rfl) (by kernel_rfl) (by kernel_rfl) (by kernel_rfl) (fun _ _ _ h => h) (Or.inl ⟨rfl, fun W hW => ?_⟩) hH ?_
            · refine QuietRun.of_run ?_; go_simp
            try simp only [Act.put, List.setIfInBounds_toArray, List.set_cons_zero, List.set_cons_succ]
            refine wpAnyT_take (i := 6) (oi := { dst := some 127, op := Op.indexAddr 25 (Operand.tmp 125) (Operand.tmp 126), type := 0, pos := _, after := #[{ on := 4, ground := Ground.data }, { on := 5, ground := Ground.data }], guard := none }) (v := .pointer (some ⟨g, k * 6, none⟩)) rfl (by kernel_rfl) (by kernel_rfl) (by kernel_rfl) (by kernel_rfl) (by kernel_rfl) (fun _ _ _ h => h) (Or.inl ⟨rfl, fun W hW => ?_⟩) hH ?_
            · refine QuietRun.of_run ?_; go_simp
            try simp only [Act.put, List.setIfInBounds_toArray, List.set_cons_zero, List.set_cons_succ]
            refine wpAnyT_take (i := 7) (oi := { dst := some 128, op := Op.fieldAddr 48 (Operand.tmp 127) 2, type := 0, pos := _, after := #[{ on := 6, ground := Ground.data }], guard := none }) (v := .pointer (some ⟨g, k * 6 + 2, none⟩)) rfl (by kernel_rfl) (by kernel_rfl) (by kernel_rfl) (by kernel_rfl) (by kernel_rfl) (fun _ _ _ h => h) (Or.inl ⟨rfl, fun W hW => ?_⟩) hH ?_
            · refine QuietRun.of_run ?_; go_simp
            try simp only [Act.put, List.setIfInBounds_toArray, List.set_cons_zero, List.set_cons_succ]
            refine wpAnyT_take (i := 8) (oi := { dst := some 129, op := Op.load 3 (Operand.tmp 128), type := 3, pos := _, after := #[{ on := 7, ground := Ground.data }], guard := none }) (v := .int .i64 p.nd.t) rfl (by kernel_rfl) (by kernel_rfl) (by kernel_rfl) (by kernel_rfl) (by kernel_rfl) (fun _ _ _ h => h) (Or.inl ⟨rfl, fun W hW => ?_⟩) hH ?_
            · refine QuietRun.of_run ?_; obtain ⟨z0, z1⟩ := hW; go_simp
            try simp only [Act.put, List.setIfInBounds_toArray, List.set_cons_zero, List.set_cons_succ]
            refine wpAnyT_take (i := 9) (oi := { dst := some 130, op := Op.move (Operand.tmp 5), type := 3, pos := _, after := #[], guard := none }) (v := .int .i64 by0) rfl (by kernel_rfl) (by kernel_rfl) (by kernel_rfl) (by kernel_rfl) (by kernel_rfl) (fun _ _ _ h => h) (Or.inl ⟨rfl, fun W hW => ?_⟩) hH ?_
            · refine QuietRun.of_run ?_; go_simp
            try simp only [Act.put, List.setIfInBounds_toArray, List.set_cons_zero, List.set_cons_succ]
            refine wpAnyT_take (i := 10) (oi := { dst := some 131, op := Op.call { callee := Callee.value (Operand.func 9), args := #[Operand.tmp 130, Operand.const (Value.int IntKind.i64 3)], argTypes := #[3, 3] }, type := 3, pos := _, after := #[{ on := 9, ground := Ground.data }], guard := none }) (v := .int .i64 (k3 : Int)) rfl (by kernel_rfl) (by kernel_rfl) (by kernel_rfl) (by kernel_rfl) (by kernel_rfl) (fun _ _ _ h => h) (Or.inl ⟨rfl, fun W hW => ?_⟩) hH ?_
            · refine QuietRun.of_call (f := 9) (args := #[.int .i64 by0, .int .i64 3]) ?_ ?_
              · go_simp
              · exact HK3.out W
            try simp only [Act.put, List.setIfInBounds_toArray, List.set_cons_zero, List.set_cons_succ]
            refine wpAnyT_take (i := 11) (oi := { dst := some 132, op := Op.binOp BinOp.add 3 (Operand.tmp 129) (Operand.tmp 131) 3, type := 3, pos := _, after := #[{ on := 8, ground := Ground.data }, { on := 10, ground := Ground.data }], guard := none }) (v := .int .i64 s1) rfl (by kernel_rfl) (by kernel_rfl) (by kernel_rfl) (by kernel_rfl) (by kernel_rfl) (fun _ _ _ h => h) (Or.inl ⟨rfl, fun W hW => ?_⟩) hH ?_
            · refine QuietRun.of_run ?_; go_simp
            try simp only [Act.put, List.setIfInBounds_toArray, List.set_cons_zero, List.set_cons_succ]
            refine wpAnyT_take (i := 12) (oi := { dst := some 133, op := Op.binOp BinOp.sub 3 (Operand.tmp 132) (Operand.const (Value.int IntKind.i64 1)) 3, type := 3, pos := _, after := #[{ on := 11, ground := Ground.data }], guard := none }) (v := .int .i64 s2) rfl (by kernel_rfl) (by kernel_rfl) (by kernel_rfl) (by kernel_rfl) (by kernel_rfl) (fun _ _ _ h => h) (Or.inl ⟨rfl, fun W hW => ?_⟩) hH ?_
            · refine QuietRun.of_run ?_; go_simp
            try simp only [Act.put, List.setIfInBounds_toArray, List.set_cons_zero, List.set_cons_succ]
            refine wpAnyT_take0 (i := 13) (oi := { dst := some 134, op := Op.indexAddr 25 (Operand.tmp 122) (Operand.tmp 123), type := 0, pos := _, after := #[{ on := 1, ground := Ground.data }, { on := 2, ground := Ground.data }, { on := 0, ground := Ground.phase }, { on := 1, ground := Ground.phase }, { on := 2, ground := Ground.phase }, { on := 3, ground := Ground.phase }, { on := 4, ground := Ground.phase }, { on := 5, ground := Ground.phase }, { on := 6, ground := Ground.phase }, { on := 7, ground := Ground.phase }, { on := 8, ground := Ground.phase }, { on := 9, ground := Ground.phase }, { on := 10, ground := Ground.phase }, { on := 11, ground := Ground.phase }, { on := 12, ground := Ground.phase }], guard := none }) (v := .pointer (some ⟨g, k * 6, none⟩)) rfl (by kernel_rfl) (by kernel_rfl) (by kernel_rfl) (by kernel_rfl) (fun _ _ _ h => h) (Or.inl ⟨rfl, fun W hW => ?_⟩) (fun _ => hH) ?_
            · refine QuietRun.of_run ?_; go_simp
            try simp only [Act.put, List.setIfInBounds_toArray, List.set_cons_zero, List.set_cons_succ]
            refine wpAnyT_take (i := 14) (oi := { dst := some 135, op := Op.fieldAddr 48 (Operand.tmp 134) 2, type := 0, pos := _, after := #[{ on := 13, ground := Ground.data }, { on := 0, ground := Ground.phase }, { on := 1, ground := Ground.phase }, { on := 2, ground := Ground.phase }, { on := 3, ground := Ground.phase }, { on := 4, ground := Ground.phase }, { on := 5, ground := Ground.phase }, { on := 6, ground := Ground.phase }, { on := 7, ground := Ground.phase }, { on := 8, ground := Ground.phase }, { on := 9, ground := Ground.phase }, { on := 10, ground := Ground.phase }, { on := 11, ground := Ground.phase }, { on := 12, ground := Ground.phase }], guard := none }) (v := .pointer (some ⟨g, k * 6 + 2, none⟩)) rfl (by kernel_rfl) (by kernel_rfl) (by kernel_rfl) (by kernel_rfl) (by kernel_rfl) (fun _ _ _ h => h) (Or.inl ⟨rfl, fun W hW => ?_⟩) hH ?_
            · refine QuietRun.of_run ?_; go_simp
            try simp only [Act.put, List.setIfInBounds_toArray, List.set_cons_zero, List.set_cons_succ]
            refine wpAnyT_ready (rs := [15]) (by kernel_rfl) (by simp) ?_
            refine AllReadyT.cons (o := { dst := none, op := Op.store 3 (Operand.tmp 135) (Operand.tmp 133), type := 0, pos := _, after := #[{ on := 14, ground := Ground.data }, { on := 12, ground := Ground.data }, { on := 10, ground := Ground.chain }, { on := 0, ground := Ground.phase }, { on := 1, ground := Ground.phase }, { on := 2, ground := Ground.phase }, { on := 3, ground := Ground.phase }, { on := 4, ground := Ground.phase }, { on := 5, ground := Ground.phase }, { on := 6, ground := Ground.phase }, { on := 7, ground := Ground.phase }, { on := 8, ground := Ground.phase }, { on := 9, ground := Ground.phase }, { on := 10, ground := Ground.phase }, { on := 11, ground := Ground.phase }, { on := 12, ground := Ground.phase }], guard := none }) rfl (fun K hK => ?_) (AllReadyT.nil)
            go_simp
            refine hK.out _ _ (fun h => absurd (h.symm.trans (show _ = true from by kernel_rfl)) (by decide)) (fun _ => ?_)
            clear hK K
            try simp only [Act.put, List.setIfInBounds_toArray, List.set_cons_zero, List.set_cons_succ]
            refine wpAnyT_done (by kernel_rfl) ?_ _
            -- END R19
            go_wp2_with fail
            go_meet
            exact HSt.out 2 { p.nd with t := s2 } (.int .i64 s2) rfl rfl (by decide)
          · as_aux_lemma =>
            -- Up
            obtain ⟨m2, hm2⟩ : ∃ m2 : Nat, LX + 2 = m2 := ⟨_, rfl⟩
            obtain ⟨k3, hk3, -, hw3⟩ := within_lit by0 m2 (m2 : Int) rfl (by omega) (by omega)
            have HK3 := Lib.hid hw3
            have em2 : IntKind.i64.wrap ((LX : Int) + 2) = (m2 : Int) := by rw [show (LX : Int) + 2 = (m2 : Int) by omega]; exact IntWalk.i64_in _ (by omega)
            have q0 := HO6.out.cell4 3 _ HP.out rfl (by decide)
            have qf := HO6.out.free4 HP.out (k * 6 + 3)
            obtain ⟨s2, hs2⟩ : ∃ s, IntKind.i64.wrap ((k3 : Int) - 1) = s := ⟨_, rfl⟩
            clear hw3 hm2
            go_wp2_with fail
            -- GEN R21
            refine wp_region_T (fun wx => wx.cell? ⟨B15, 0, none⟩ = some (.slice (some ⟨g, 0, none⟩) LX cp) ∧ wx.cell? ⟨g, k * 6 + 3, none⟩ = some (.int .i64 p.nd.u)) 12 (by kernel_rfl) ?_
            have hH : (fun wx : World => wx.cell? ⟨B15, 0, none⟩ = some (.slice (some ⟨g, 0, none⟩) LX cp) ∧ wx.cell? ⟨g, k * 6 + 3, none⟩ = some (.int .i64 p.nd.u)) w6.drew := ⟨at_drew c15, at_drew q0⟩
            refine wpAnyT_take (i := 0) (oi := { dst := some 138, op := Op.fieldAddr 29 (Operand.tmp 15) 0, type := 0, pos := _, after := #[], guard := none }) (v := .pointer (some ⟨B15, 0, none⟩)) rfl (by kernel_rfl) (by kernel_rfl) (by kernel_rfl) (by kernel_rfl) (by kernel_rfl) (fun _ _ _ h => h) (Or.inl ⟨rfl, fun W hW => ?_⟩) hH ?_
            · refine QuietRun.of_run ?_; go_simp
            try simp only [Act.put, List.setIfInBounds_toArray, List.set_cons_zero, List.set_cons_succ]
            refine wpAnyT_take (i := 1) (oi := { dst := some 139, op := Op.load 25 (Operand.tmp 138), type := 25, pos := _, after := #[{ on := 0, ground := Ground.data }], guard := none }) (v := .slice (some ⟨g, 0, none⟩) LX cp) rfl (by kernel_rfl) (by kernel_rfl) (by kernel_rfl) (by kernel_rfl) (by kernel_rfl) (fun _ _ _ h => h) (Or.inl ⟨rfl, fun W hW => ?_⟩) hH ?_
            · refine QuietRun.of_run ?_; obtain ⟨z0, z1⟩ := hW; go_simp
            try simp only [Act.put, List.setIfInBounds_toArray, List.set_cons_zero, List.set_cons_succ]
            refine wpAnyT_take (i := 2) (oi := { dst := some 140, op := Op.move (Operand.tmp 16), type := 3, pos := _, after := #[], guard := none }) (v := .int .i64 (k : Int)) rfl (by kernel_rfl) (by kernel_rfl) (by kernel_rfl) (by kernel_rfl) (by kernel_rfl) (fun _ _ _ h => h) (Or.inl ⟨rfl, fun W hW => ?_⟩) hH ?_
            · refine QuietRun.of_run ?_; go_simp
            try simp only [Act.put, List.setIfInBounds_toArray, List.set_cons_zero, List.set_cons_succ]
            refine wpAnyT_take (i := 3) (oi := { dst := some 141, op := Op.move (Operand.tmp 5), type := 3, pos := _, after := #[], guard := none }) (v := .int .i64 by0) rfl (by kernel_rfl) (by kernel_rfl) (by kernel_rfl) (by kernel_rfl) (by kernel_rfl) (fun _ _ _ h => h) (Or.inl ⟨rfl, fun W hW => ?_⟩) hH ?_
            · refine QuietRun.of_run ?_; go_simp
            try simp only [Act.put, List.setIfInBounds_toArray, List.set_cons_zero, List.set_cons_succ]
            refine wpAnyT_take (i := 4) (oi := { dst := some 142, op := Op.fieldAddr 29 (Operand.tmp 15) 0, type := 0, pos := _, after := #[], guard := none }) (v := .pointer (some ⟨B15, 0, none⟩)) rfl (by kernel_rfl) (by kernel_rfl) (by kernel_rfl) (by kernel_rfl) (by kernel_rfl) (fun _ _ _ h => h) (Or.inl ⟨rfl, fun W hW => ?_⟩) hH ?_
            · refine QuietRun.of_run ?_; go_simp
            try simp only [Act.put, List.setIfInBounds_toArray, List.set_cons_zero, List.set_cons_succ]
            refine wpAnyT_take (i := 5) (oi := { dst := some 143, op := Op.load 25 (Operand.tmp 142), type := 25, pos := _, after := #[{ on := 4, ground := Ground.data }], guard := none }) (v := .slice (some ⟨g, 0, none⟩) LX cp) rfl (by kernel_rfl) (by kernel_rfl) (by kernel_rfl) (by kernel_rfl) (by kernel_rfl) (fun _ _ _ h => h) (Or.inl ⟨rfl, fun W hW => ?_⟩) hH ?_
            · refine QuietRun.of_run ?_; obtain ⟨z0, z1⟩ := hW; go_simp
            try simp only [Act.put, List.setIfInBounds_toArray, List.set_cons_zero, List.set_cons_succ]
            refine wpAnyT_take (i := 6) (oi := { dst := some 144, op := Op.call { callee := Callee.builtin Builtin.len, args := #[Operand.tmp 143], argTypes := #[25] }, type := 3, pos := _, after := #[{ on := 5, ground := Ground.data }], guard := none }) (v := .int .i64 (LX : Int)) rfl (by kernel_rfl) (by kernel_rfl) (by kernel_rfl) (by kernel_rfl) (by kernel_rfl) (fun _ _ _ h => h) (Or.inl ⟨rfl, fun W hW => ?_⟩) hH ?_
            · refine QuietRun.of_run ?_; go_simp
            try simp only [Act.put, List.setIfInBounds_toArray, List.set_cons_zero, List.set_cons_succ]
            refine wpAnyT_take (i := 7) (oi := { dst := some 145, op := Op.binOp BinOp.add 3 (Operand.tmp 144) (Operand.const (Value.int IntKind.i64 2)) 3, type := 3, pos := _, after := #[{ on := 6, ground := Ground.data }], guard := none }) (v := .int .i64 (m2 : Int)) rfl (by kernel_rfl) (by kernel_rfl) (by kernel_rfl) (by kernel_rfl) (by kernel_rfl) (fun _ _ _ h => h) (Or.inl ⟨rfl, fun W hW => ?_⟩) hH ?_
            · refine QuietRun.of_run ?_; go_simp
            try simp only [Act.put, List.setIfInBounds_toArray, List.set_cons_zero, List.set_cons_succ]
            refine wpAnyT_take (i := 8) (oi := { dst := some 146, op := Op.call { callee := Callee.value (Operand.func 9), args := #[Operand.tmp 141, Operand.tmp 145], argTypes := #[3, 3] }, type := 3, pos := _, after := #[{ on := 3, ground := Ground.data }, { on := 7, ground := Ground.data }], guard := none }) (v := .int .i64 (k3 : Int)) rfl (by kernel_rfl) (by kernel_rfl) (by kernel_rfl) (by kernel_rfl) (by kernel_rfl) (fun _ _ _ h => h) (Or.inl ⟨rfl, fun W hW => ?_⟩) hH ?_
            · refine QuietRun.of_call (f := 9) (args := #[.int .i64 by0, .int .i64 (m2 : Int)]) ?_ ?_
              · go_simp
              · exact HK3.out W
            try simp only [Act.put, List.setIfInBounds_toArray, List.set_cons_zero, List.set_cons_succ]
            refine wpAnyT_take (i := 9) (oi := { dst := some 147, op := Op.binOp BinOp.sub 3 (Operand.tmp 146) (Operand.const (Value.int IntKind.i64 1)) 3, type := 3, pos := _, after := #[{ on := 8, ground := Ground.data }], guard := none }) (v := .int .i64 s2) rfl (by kernel_rfl) (by kernel_rfl) (by kernel_rfl) (by kernel_rfl) (by kernel_rfl) (fun _ _ _ h => h) (Or.inl ⟨rfl, fun W hW => ?_⟩) hH ?_
            · refine QuietRun.of_run ?_; go_simp
            try simp only [Act.put, List.setIfInBounds_toArray, List.set_cons_zero, List.set_cons_succ]
            refine wpAnyT_take0 (i := 10) (oi := { dst := some 148, op := Op.indexAddr 25 (Operand.tmp 139) (Operand.tmp 140), type := 0, pos := _, after := #[{ on := 1, ground := Ground.data }, { on := 2, ground := Ground.data }, { on := 0, ground := Ground.phase }, { on := 1, ground := Ground.phase }, { on := 2, ground := Ground.phase }, { on := 3, ground := Ground.phase }, { on := 4, ground := Ground.phase }, { on := 5, ground := Ground.phase }, { on := 6, ground := Ground.phase }, { on := 7, ground := Ground.phase }, { on := 8, ground := Ground.phase }, { on := 9, ground := Ground.phase }], guard := none }) (v := .pointer (some ⟨g, k * 6, none⟩)) rfl (by kernel_rfl) (by kernel_rfl) (by kernel_rfl) (by kernel_rfl) (fun _ _ _ h => h) (Or.inl ⟨rfl, fun W hW => ?_⟩) (fun _ => hH) ?_
            · refine QuietRun.of_run ?_; go_simp
            try simp only [Act.put, List.setIfInBounds_toArray, List.set_cons_zero, List.set_cons_succ]
            refine wpAnyT_take (i := 11) (oi := { dst := some 149, op := Op.fieldAddr 48 (Operand.tmp 148) 3, type := 0, pos := _, after := #[{ on := 10, ground := Ground.data }, { on := 0, ground := Ground.phase }, { on := 1, ground := Ground.phase }, { on := 2, ground := Ground.phase }, { on := 3, ground := Ground.phase }, { on := 4, ground := Ground.phase }, { on := 5, ground := Ground.phase }, { on := 6, ground := Ground.phase }, { on := 7, ground := Ground.phase }, { on := 8, ground := Ground.phase }, { on := 9, ground := Ground.phase }], guard := none }) (v := .pointer (some ⟨g, k * 6 + 3, none⟩)) rfl (by kernel_rfl) (by kernel_rfl) (by kernel_rfl) (by kernel_rfl) (by kernel_rfl) (fun _ _ _ h => h) (Or.inl ⟨rfl, fun W hW => ?_⟩) hH ?_
            · refine QuietRun.of_run ?_; go_simp
            try simp only [Act.put, List.setIfInBounds_toArray, List.set_cons_zero, List.set_cons_succ]
            refine wpAnyT_ready (rs := [12]) (by kernel_rfl) (by simp) ?_
            refine AllReadyT.cons (o := { dst := none, op := Op.store 3 (Operand.tmp 149) (Operand.tmp 147), type := 0, pos := _, after := #[{ on := 11, ground := Ground.data }, { on := 9, ground := Ground.data }, { on := 8, ground := Ground.chain }, { on := 0, ground := Ground.phase }, { on := 1, ground := Ground.phase }, { on := 2, ground := Ground.phase }, { on := 3, ground := Ground.phase }, { on := 4, ground := Ground.phase }, { on := 5, ground := Ground.phase }, { on := 6, ground := Ground.phase }, { on := 7, ground := Ground.phase }, { on := 8, ground := Ground.phase }, { on := 9, ground := Ground.phase }], guard := none }) rfl (fun K hK => ?_) (AllReadyT.nil)
            go_simp
            refine hK.out _ _ (fun h => absurd (h.symm.trans (show _ = true from by kernel_rfl)) (by decide)) (fun _ => ?_)
            clear hK K
            try simp only [Act.put, List.setIfInBounds_toArray, List.set_cons_zero, List.set_cons_succ]
            refine wpAnyT_done (by kernel_rfl) ?_ _
            -- END R21
            go_wp2_with fail
            go_meet
            exact HSt.out 3 { p.nd with u := s2 } (.int .i64 s2) rfl rfl (by decide)
          · as_aux_lemma =>
            -- Kids, one more
            obtain ⟨m2, hm2⟩ : ∃ m2 : Nat, LX + 1 = m2 := ⟨_, rfl⟩
            obtain ⟨k3, hk3, -, hw3⟩ := within_lit by0 m2 (m2 : Int) rfl (by omega) (by omega)
            have HK3 := Lib.hid hw3
            have em2 : IntKind.i64.wrap ((LX : Int) + 1) = (m2 : Int) := by rw [show (LX : Int) + 1 = (m2 : Int) by omega]; exact IntWalk.i64_in _ (by omega)
            have q00 := HO6.out.cell4 4 _ HP.out rfl (by decide)
            have hkown := HO6.out.kids k p HP.out
            have hpn : p.n = p.nd.ks.length := (own_cap hkown).1
            obtain ⟨pn, hpn2⟩ : ∃ pn, p.n = pn := ⟨_, rfl⟩
            have q0 : w6.cell? ⟨g, k * 6 + 4, none⟩ = some (.slice p.a pn p.c) := by rw [q00, ← hpn2]
            clear q00
            -- the number laid, the draw
            obtain ⟨wy, hwy⟩ : ∃ wy, (w6.alloc (.cells #[.int .i64 (k3 : Int)] 3)).drew = wy := ⟨_, rfl⟩
            have hby : Below w6.heap.size w6 wy := by rw [← hwy]; exact (below_alloc w6 _).drew
            have HOy := Lib.hid (HO6.out.below hby)
            have q1 := at_below hby q0
            have c15y := at_below hby c15
            have hnew : ∀ j c, (encI.all [(k3 : Int)])[j]? = some c → wy.cell? ⟨w6.heap.size, j, none⟩ = some c := by
              intro j c hj
              rw [← hwy]
              show (w6.alloc (.cells #[.int .i64 (k3 : Int)] 3)).cell? ⟨w6.heap.size, j, none⟩ = some c
              rw [World.cell?_alloc_mark]
              simpa [Enc.all, encI] using hj
            have HNew := Lib.hid hnew
            have HBy := Lib.hid (below_from HB246.out hby)
            have H15y := Lib.hid ((hby.block B15 (lt_of_block H15.out)).trans H15.out)
            have hsy : w24.heap.size ≤ wy.heap.size := by have h1 := hby.size; omega
            have HWy := Lib.hid hwy
            have HPn := Lib.hid hpn2
            have M1 := Lib.hid (show p.nd.ks.length + 1 ≤ maxLen by simp only [maxLen]; omega)
            have M2 := Lib.hid (show (p.nd.ks.length + 1) * 8 ≤ 140737488355328 by omega)
            clear hw3 hm2 hkown hpn hpn2 hwy hby hnew
            go_wp2_with fail
            -- GEN R23
            refine wp_region_T (fun wx => wx.cell? ⟨B15, 0, none⟩ = some (.slice (some ⟨g, 0, none⟩) LX cp) ∧ wx.cell? ⟨g, k * 6 + 4, none⟩ = some (.slice p.a pn p.c)) 19 (by kernel_rfl) ?_
            have hH : (fun wx : World => wx.cell? ⟨B15, 0, none⟩ = some (.slice (some ⟨g, 0, none⟩) LX cp) ∧ wx.cell? ⟨g, k * 6 + 4, none⟩ = some (.slice p.a pn p.c)) w6.drew := ⟨at_drew c15, at_drew q0⟩
            refine wpAnyT_take (i := 0) (oi := { dst := some 152, op := Op.fieldAddr 29 (Operand.tmp 15) 0, type := 0, pos := _, after := #[], guard := none }) (v := .pointer (some ⟨B15, 0, none⟩)) rfl (by kernel_rfl) (by kernel_rfl) (by kernel_rfl) (by kernel_rfl) (by kernel_rfl) (fun _ _ _ h => h) (Or.inl ⟨rfl, fun W hW => ?_⟩) hH ?_
            · refine QuietRun.of_run ?_; go_simp
            try simp only [Act.put, List.setIfInBounds_toArray, List.set_cons_zero, List.set_cons_succ]
            refine wpAnyT_take (i := 1) (oi := { dst := some 153, op := Op.load 25 (Operand.tmp 152), type := 25, pos := _, after := #[{ on := 0, ground := Ground.data }], guard := none }) (v := .slice (some ⟨g, 0, none⟩) LX cp) rfl (by kernel_rfl) (by kernel_rfl) (by kernel_rfl) (by kernel_rfl) (by kernel_rfl) (fun _ _ _ h => h) (Or.inl ⟨rfl, fun W hW => ?_⟩) hH ?_
            · refine QuietRun.of_run ?_; obtain ⟨z0, z1⟩ := hW; go_simp
            try simp only [Act.put, List.setIfInBounds_toArray, List.set_cons_zero, List.set_cons_succ]
            refine wpAnyT_take (i := 2) (oi := { dst := some 154, op := Op.move (Operand.tmp 16), type := 3, pos := _, after := #[], guard := none }) (v := .int .i64 (k : Int)) rfl (by kernel_rfl) (by kernel_rfl) (by kernel_rfl) (by kernel_rfl) (by kernel_rfl) (fun _ _ _ h => h) (Or.inl ⟨rfl, fun W hW => ?_⟩) hH ?_
            · refine QuietRun.of_run ?_; go_simp
            try simp only [Act.put, List.setIfInBounds_toArray, List.set_cons_zero, List.set_cons_succ]
            refine wpAnyT_take (i := 3) (oi := { dst := some 155, op := Op.fieldAddr 29 (Operand.tmp 15) 0, type := 0, pos := _, after := #[], guard := none }) (v := .pointer (some ⟨B15, 0, none⟩)) rfl (by kernel_rfl) (by kernel_rfl) (by kernel_rfl) (by kernel_rfl) (by kernel_rfl) (fun _ _ _ h => h) (Or.inl ⟨rfl, fun W hW => ?_⟩) hH ?_
            · refine QuietRun.of_run ?_; go_simp
            try simp only [Act.put, List.setIfInBounds_toArray, List.set_cons_zero, List.set_cons_succ]
            refine wpAnyT_take (i := 4) (oi := { dst := some 156, op := Op.load 25 (Operand.tmp 155), type := 25, pos := _, after := #[{ on := 3, ground := Ground.data }], guard := none }) (v := .slice (some ⟨g, 0, none⟩) LX cp) rfl (by kernel_rfl) (by kernel_rfl) (by kernel_rfl) (by kernel_rfl) (by kernel_rfl) (fun _ _ _ h => h) (Or.inl ⟨rfl, fun W hW => ?_⟩) hH ?_
            · refine QuietRun.of_run ?_; obtain ⟨z0, z1⟩ := hW; go_simp
            try simp only [Act.put, List.setIfInBounds_toArray, List.set_cons_zero, List.set_cons_succ]
            refine wpAnyT_take (i := 5) (oi := { dst := some 157, op := Op.move (Operand.tmp 16), type := 3, pos := _, after := #[], guard := none }) (v := .int .i64 (k : Int)) rfl (by kernel_rfl) (by kernel_rfl) (by kernel_rfl) (by kernel_rfl) (by kernel_rfl) (fun _ _ _ h => h) (Or.inl ⟨rfl, fun W hW => ?_⟩) hH ?_
            · refine QuietRun.of_run ?_; go_simp
            try simp only [Act.put, List.setIfInBounds_toArray, List.set_cons_zero, List.set_cons_succ]
            refine wpAnyT_take (i := 6) (oi := { dst := some 158, op := Op.indexAddr 25 (Operand.tmp 156) (Operand.tmp 157), type := 0, pos := _, after := #[{ on := 4, ground := Ground.data }, { on := 5, ground := Ground.data }], guard := none }) (v := .pointer (some ⟨g, k * 6, none⟩)) rfl (by kernel_rfl) (by kernel_rfl) (by kernel_rfl) (by kernel_rfl) (by kernel_rfl) (fun _ _ _ h => h) (Or.inl ⟨rfl, fun W hW => ?_⟩) hH ?_
            · refine QuietRun.of_run ?_; go_simp
            try simp only [Act.put, List.setIfInBounds_toArray, List.set_cons_zero, List.set_cons_succ]
            refine wpAnyT_take (i := 7) (oi := { dst := some 159, op := Op.fieldAddr 48 (Operand.tmp 158) 4, type := 0, pos := _, after := #[{ on := 6, ground := Ground.data }], guard := none }) (v := .pointer (some ⟨g, k * 6 + 4, none⟩)) rfl (by kernel_rfl) (by kernel_rfl) (by kernel_rfl) (by kernel_rfl) (by kernel_rfl) (fun _ _ _ h => h) (Or.inl ⟨rfl, fun W hW => ?_⟩) hH ?_
            · refine QuietRun.of_run ?_; go_simp
            try simp only [Act.put, List.setIfInBounds_toArray, List.set_cons_zero, List.set_cons_succ]
            refine wpAnyT_take (i := 8) (oi := { dst := some 160, op := Op.load 46 (Operand.tmp 159), type := 46, pos := _, after := #[{ on := 7, ground := Ground.data }], guard := none }) (v := .slice p.a pn p.c) rfl (by kernel_rfl) (by kernel_rfl) (by kernel_rfl) (by kernel_rfl) (by kernel_rfl) (fun _ _ _ h => h) (Or.inl ⟨rfl, fun W hW => ?_⟩) hH ?_
            · refine QuietRun.of_run ?_; obtain ⟨z0, z1⟩ := hW; go_simp
            try simp only [Act.put, List.setIfInBounds_toArray, List.set_cons_zero, List.set_cons_succ]
            refine wpAnyT_take (i := 9) (oi := { dst := some 161, op := Op.move (Operand.tmp 5), type := 3, pos := _, after := #[], guard := none }) (v := .int .i64 by0) rfl (by kernel_rfl) (by kernel_rfl) (by kernel_rfl) (by kernel_rfl) (by kernel_rfl) (fun _ _ _ h => h) (Or.inl ⟨rfl, fun W hW => ?_⟩) hH ?_
            · refine QuietRun.of_run ?_; go_simp
            try simp only [Act.put, List.setIfInBounds_toArray, List.set_cons_zero, List.set_cons_succ]
            refine wpAnyT_take (i := 10) (oi := { dst := some 162, op := Op.fieldAddr 29 (Operand.tmp 15) 0, type := 0, pos := _, after := #[], guard := none }) (v := .pointer (some ⟨B15, 0, none⟩)) rfl (by kernel_rfl) (by kernel_rfl) (by kernel_rfl) (by kernel_rfl) (by kernel_rfl) (fun _ _ _ h => h) (Or.inl ⟨rfl, fun W hW => ?_⟩) hH ?_
            · refine QuietRun.of_run ?_; go_simp
            try simp only [Act.put, List.setIfInBounds_toArray, List.set_cons_zero, List.set_cons_succ]
            refine wpAnyT_take (i := 11) (oi := { dst := some 163, op := Op.load 25 (Operand.tmp 162), type := 25, pos := _, after := #[{ on := 10, ground := Ground.data }], guard := none }) (v := .slice (some ⟨g, 0, none⟩) LX cp) rfl (by kernel_rfl) (by kernel_rfl) (by kernel_rfl) (by kernel_rfl) (by kernel_rfl) (fun _ _ _ h => h) (Or.inl ⟨rfl, fun W hW => ?_⟩) hH ?_
            · refine QuietRun.of_run ?_; obtain ⟨z0, z1⟩ := hW; go_simp
            try simp only [Act.put, List.setIfInBounds_toArray, List.set_cons_zero, List.set_cons_succ]
            refine wpAnyT_take (i := 12) (oi := { dst := some 164, op := Op.call { callee := Callee.builtin Builtin.len, args := #[Operand.tmp 163], argTypes := #[25] }, type := 3, pos := _, after := #[{ on := 11, ground := Ground.data }], guard := none }) (v := .int .i64 (LX : Int)) rfl (by kernel_rfl) (by kernel_rfl) (by kernel_rfl) (by kernel_rfl) (by kernel_rfl) (fun _ _ _ h => h) (Or.inl ⟨rfl, fun W hW => ?_⟩) hH ?_
            · refine QuietRun.of_run ?_; go_simp
            try simp only [Act.put, List.setIfInBounds_toArray, List.set_cons_zero, List.set_cons_succ]
            refine wpAnyT_take (i := 13) (oi := { dst := some 165, op := Op.binOp BinOp.add 3 (Operand.tmp 164) (Operand.const (Value.int IntKind.i64 1)) 3, type := 3, pos := _, after := #[{ on := 12, ground := Ground.data }], guard := none }) (v := .int .i64 (m2 : Int)) rfl (by kernel_rfl) (by kernel_rfl) (by kernel_rfl) (by kernel_rfl) (by kernel_rfl) (fun _ _ _ h => h) (Or.inl ⟨rfl, fun W hW => ?_⟩) hH ?_
            · refine QuietRun.of_run ?_; go_simp
            try simp only [Act.put, List.setIfInBounds_toArray, List.set_cons_zero, List.set_cons_succ]
            refine wpAnyT_take (i := 14) (oi := { dst := some 166, op := Op.call { callee := Callee.value (Operand.func 9), args := #[Operand.tmp 161, Operand.tmp 165], argTypes := #[3, 3] }, type := 3, pos := _, after := #[{ on := 9, ground := Ground.data }, { on := 13, ground := Ground.data }], guard := none }) (v := .int .i64 (k3 : Int)) rfl (by kernel_rfl) (by kernel_rfl) (by kernel_rfl) (by kernel_rfl) (by kernel_rfl) (fun _ _ _ h => h) (Or.inl ⟨rfl, fun W hW => ?_⟩) hH ?_
            · refine QuietRun.of_call (f := 9) (args := #[.int .i64 by0, .int .i64 (m2 : Int)]) ?_ ?_
              · go_simp
              · exact HK3.out W
            try simp only [Act.put, List.setIfInBounds_toArray, List.set_cons_zero, List.set_cons_succ]
            refine wpAnyT_ready (rs := [15]) (by kernel_rfl) (by simp) ?_
            refine AllReadyT.cons (o := { dst := some 167, op := Op.buildSlice 46 1 #[(0, Operand.tmp 166)], type := 46, pos := _, after := #[{ on := 14, ground := Ground.data }], guard := none }) rfl (fun K hK => ?_) (AllReadyT.nil)
            go_simp
            rw [HWy.out]
            refine hK.out _ _ (fun _ => ⟨c15y, q1⟩) (fun hH2 => ?_)
            clear hK K
            replace hH := hH2 (by kernel_rfl)
            clear hH2
            try simp only [Act.put, List.setIfInBounds_toArray, List.set_cons_zero, List.set_cons_succ]
            refine wpAnyT_ready (rs := [16]) (by kernel_rfl) (by simp) ?_
            refine AllReadyT.cons (o := { dst := some 168, op := Op.call { callee := Callee.builtin Builtin.append, args := #[Operand.tmp 160, Operand.tmp 167], argTypes := #[46, 46] }, type := 46, pos := _, after := #[{ on := 8, ground := Ground.data }, { on := 15, ground := Ground.data }, { on := 14, ground := Ground.chain }], guard := none }) rfl (fun K hK => ?_) (AllReadyT.nil)
            refine step_append_laid tyI rfl (.tmp 160) (.tmp 167) rfl w24.heap.size (.slice p.a pn p.c) p.nd.ks rfl (by have h5 := HOy.out.kids k p HP.out; have e5 : p.val = .slice p.a pn p.c := (by show Value.slice p.a p.n p.c = _; rw [HPn.out]); rw [e5] at h5; exact h5) w6.heap.size 1 [(k3 : Int)] rfl rfl HNew.out M1.out M2.out hsy ?_
            intro v8 w8 hown8 hg8
            obtain ⟨a8, c8, hv8⟩ := (Reads.of_own (E := encI) hown8).shape
            obtain ⟨n8, hn8⟩ : ∃ n8, (p.nd.ks ++ [(k3 : Int)]).length = n8 := ⟨_, rfl⟩
            have hn8l : n8 ≤ 60 := by rw [← hn8, List.length_append, List.length_singleton]; omega
            rw [hn8] at hv8
            subst hv8
            have e8 : p.val = .slice p.a pn p.c := (by show Value.slice p.a p.n p.c = _; rw [HPn.out])
            rw [← e8] at hg8
            have hk8 := HOy.out.kids k p HP.out
            have hr8 := HOy.out.row.kept hg8 (off_row (own_types hk8 HOy.out.row (by decide)))
            have q8 : w8.cell? ⟨g, k * 6 + 4, none⟩ = some (.slice p.a pn p.c) := by have h5 := hr8.cells (g := g) rfl _ _ ((all_get encN L k p HP.out 4 (by decide)).trans rfl); rw [add_addr, Nat.zero_add] at h5; rw [← e8]; exact h5
            obtain ⟨gx, cpx, hvx, -, hfx, -, -⟩ := own_at (E := encN) hr8 (by rw [HLn.out]; omega)
            have ex := (Value.slice.inj hvx).1
            injection ex with ex
            injection ex with ex
            have f8 : w8.frozen? ⟨g, k * 6 + 4, none⟩ = false := by rw [ex]; exact hfx _
            have b8 : w8.heap[B15]? = _ := (hg8.block B15 (lt_of_block H15y.out) (fun e => by obtain ⟨cs, fr, e2⟩ := int_blk hk8 e.symm; exact other_type H15y.out e2 (by decide) rfl)).trans H15y.out
            have hb8 := HBy.out.grown hg8 hsy (fun q hq => (hk8.lt q hq).1)
            have c158 := cell_of_one b8
            have HDone := Lib.hid (HT.out (w8.setCell ⟨g, k * 6 + 4, none⟩ (.slice a8 n8 c8)) _ (HOy.out.more HP.out (k3 : Int) hg8 hown8) (by show (p.nd.ks ++ [(k3 : Int)]).length ≤ 100; rw [hn8]; omega) (hb8.setCell (p := ⟨g, k * 6 + 4, none⟩) hBg24 _) ((Below.heap_setCell w8 ⟨g, k * 6 + 4, none⟩ (.slice a8 n8 c8) B15 (fun e => ng15 e.symm)).trans b8))
            clear hown8 hg8 hn8 hk8 hr8 hvx hfx ex b8 hb8 e8
            refine hK.out _ _ (fun _ => ⟨c158, q8⟩) (fun hH2 => ?_)
            clear hK K
            replace hH := hH2 (by kernel_rfl)
            clear hH2
            try simp only [Act.put, List.setIfInBounds_toArray, List.set_cons_zero, List.set_cons_succ]
            refine wpAnyT_take0 (i := 17) (oi := { dst := some 169, op := Op.indexAddr 25 (Operand.tmp 153) (Operand.tmp 154), type := 0, pos := _, after := #[{ on := 1, ground := Ground.data }, { on := 2, ground := Ground.data }, { on := 0, ground := Ground.phase }, { on := 1, ground := Ground.phase }, { on := 2, ground := Ground.phase }, { on := 3, ground := Ground.phase }, { on := 4, ground := Ground.phase }, { on := 5, ground := Ground.phase }, { on := 6, ground := Ground.phase }, { on := 7, ground := Ground.phase }, { on := 8, ground := Ground.phase }, { on := 9, ground := Ground.phase }, { on := 10, ground := Ground.phase }, { on := 11, ground := Ground.phase }, { on := 12, ground := Ground.phase }, { on := 13, ground := Ground.phase }, { on := 14, ground := Ground.phase }, { on := 15, ground := Ground.phase }, { on := 16, ground := Ground.phase }], guard := none }) (v := .pointer (some ⟨g, k * 6, none⟩)) rfl (by kernel_rfl) (by kernel_rfl) (by kernel_rfl) (by kernel_rfl) (fun _ _ _ h => h) (Or.inl ⟨rfl, fun W hW => ?_⟩) (fun _ => hH) ?_
            · refine QuietRun.of_run ?_; go_simp
            try simp only [Act.put, List.setIfInBounds_toArray, List.set_cons_zero, List.set_cons_succ]
            refine wpAnyT_take (i := 18) (oi := { dst := some 170, op := Op.fieldAddr 48 (Operand.tmp 169) 4, type := 0, pos := _, after := #[{ on := 17, ground := Ground.data }, { on := 0, ground := Ground.phase }, { on := 1, ground := Ground.phase }, { on := 2, ground := Ground.phase }, { on := 3, ground := Ground.phase }, { on := 4, ground := Ground.phase }, { on := 5, ground := Ground.phase }, { on := 6, ground := Ground.phase }, { on := 7, ground := Ground.phase }, { on := 8, ground := Ground.phase }, { on := 9, ground := Ground.phase }, { on := 10, ground := Ground.phase }, { on := 11, ground := Ground.phase }, { on := 12, ground := Ground.phase }, { on := 13, ground := Ground.phase }, { on := 14, ground := Ground.phase }, { on := 15, ground := Ground.phase }, { on := 16, ground := Ground.phase }], guard := none }) (v := .pointer (some ⟨g, k * 6 + 4, none⟩)) rfl (by kernel_rfl) (by kernel_rfl) (by kernel_rfl) (by kernel_rfl) (by kernel_rfl) (fun _ _ _ h => h) (Or.inl ⟨rfl, fun W hW => ?_⟩) hH ?_
            · refine QuietRun.of_run ?_; go_simp
            try simp only [Act.put, List.setIfInBounds_toArray, List.set_cons_zero, List.set_cons_succ]
            refine wpAnyT_ready (rs := [19]) (by kernel_rfl) (by simp) ?_
            refine AllReadyT.cons (o := { dst := none, op := Op.store 46 (Operand.tmp 170) (Operand.tmp 168), type := 0, pos := _, after := #[{ on := 18, ground := Ground.data }, { on := 16, ground := Ground.data }, { on := 16, ground := Ground.chain }, { on := 0, ground := Ground.phase }, { on := 1, ground := Ground.phase }, { on := 2, ground := Ground.phase }, { on := 3, ground := Ground.phase }, { on := 4, ground := Ground.phase }, { on := 5, ground := Ground.phase }, { on := 6, ground := Ground.phase }, { on := 7, ground := Ground.phase }, { on := 8, ground := Ground.phase }, { on := 9, ground := Ground.phase }, { on := 10, ground := Ground.phase }, { on := 11, ground := Ground.phase }, { on := 12, ground := Ground.phase }, { on := 13, ground := Ground.phase }, { on := 14, ground := Ground.phase }, { on := 15, ground := Ground.phase }, { on := 16, ground := Ground.phase }], guard := none }) rfl (fun K hK => ?_) (AllReadyT.nil)
            go_simp
            refine hK.out _ _ (fun h => absurd (h.symm.trans (show _ = true from by kernel_rfl)) (by decide)) (fun _ => ?_)
            clear hK K
            try simp only [Act.put, List.setIfInBounds_toArray, List.set_cons_zero, List.set_cons_succ]
            refine wpAnyT_done (by kernel_rfl) ?_ _
            -- END R23
            go_wp2_with fail
            go_meet
            exact HDone.out
          · as_aux_lemma =>
            -- Kids, one less
            have q00 := HO6.out.cell4 4 _ HP.out rfl (by decide)
            have qf := HO6.out.free4 HP.out (k * 6 + 4)
            have hkown := HO6.out.kids k p HP.out
            have hrd := Reads.of_own (E := encI) hkown
            have hpn : p.n = p.nd.ks.length := (own_cap hkown).1
            obtain ⟨m, hm⟩ : ∃ m, p.nd.ks.length = m := ⟨_, rfl⟩
            have q0 : w6.cell? ⟨g, k * 6 + 4, none⟩ = some (.slice p.a m p.c) := by rw [q00, ← hm, ← hpn]
            clear q00
            by_cases h0 : m = 0
            · have z1 : ¬ ((0 : Int) < (m : Int)) := by omega
              have z2 : decide ((0 : Int) < (m : Int)) = false := decide_eq_false z1
              have z3 : decide (0 < m) = false := decide_eq_false (by omega)
              have HT1 := Lib.hid HT0.out
              clear hm hpn hrd hkown h0
              go_wp2_with fail
              go_meet
              exact HT0.out
            · have hmp : (0 : Int) < (m : Int) := by omega
              obtain ⟨m', hm'⟩ : ∃ m', m = m' + 1 := ⟨m - 1, by omega⟩
              subst hm'
              have g0 : (0 : Int) < (m' : Int) + 1 := by omega
              have g1 : decide ((0 : Int) < (m' : Int) + 1) = true := decide_eq_true g0
              have hrd2 : Reads encI w6 (.slice p.a p.nd.ks.length p.c) p.nd.ks := by
                have e : p.val = .slice p.a p.nd.ks.length p.c := by show Value.slice p.a p.n p.c = _; rw [hpn]
                rw [← e]; exact hrd
              obtain ⟨vs, hsl, hv⟩ := cut_h tyI hrd2 (n := m') (by omega)
              obtain ⟨sa, sc, hvs⟩ := hv.shape
              have hl' : (p.nd.ks.take m').length = m' := by rw [List.length_take]; omega
              rw [hl'] at hvs
              subst hvs
              rw [hm] at hsl
              have hsl1 := fun W => hsl W
              have em : IntKind.i64.wrap (((m' + 1 : Nat) : Int) - 1) = (m' : Int) := by rw [show (((m' + 1 : Nat) : Int) - 1) = (m' : Int) by omega]; exact IntWalk.i64_in _ (by omega)
              have em2 : IntKind.i64.wrap (m' : Int) = (m' : Int) := IntWalk.i64_in _ (by omega)
              have em' : IntKind.i64.wrap ((m' : Int) + 1 - 1) = (m' : Int) := by rw [show ((m' : Int) + 1 - 1) = (m' : Int) by omega]; exact IntWalk.i64_in _ (by omega)
              have HDone := Lib.hid (HT.out (w6.setCell ⟨g, k * 6 + 4, none⟩ (.slice sa m' sc)).drew _ ((HO6.out.less HP.out (p.nd.ks.take m') hv).below (Below.refl _ _).drew) (by show (p.nd.ks.take m').length ≤ 100; rw [hl']; omega) ((HB246.out.setCell (p := ⟨g, k * 6 + 4, none⟩) hBg24 _).drew) ((Below.heap_setCell w6 ⟨g, k * 6 + 4, none⟩ (.slice sa m' sc) B15 (fun e => ng15 e.symm)).trans H15.out))
              clear hm hpn hrd hkown hrd2 hsl hv hl' hmp h0
              go_wp2_with fail
              -- GEN R27
              refine wp_region_T (fun wx => wx.cell? ⟨B15, 0, none⟩ = some (.slice (some ⟨g, 0, none⟩) LX cp) ∧ wx.cell? ⟨g, k * 6 + 4, none⟩ = some (.slice p.a (m' + 1) p.c)) 14 (by kernel_rfl) ?_
              have hH : (fun wx : World => wx.cell? ⟨B15, 0, none⟩ = some (.slice (some ⟨g, 0, none⟩) LX cp) ∧ wx.cell? ⟨g, k * 6 + 4, none⟩ = some (.slice p.a (m' + 1) p.c)) w6.drew := ⟨at_drew c15, at_drew q0⟩
              refine wpAnyT_take (i := 0) (oi := { dst := some 182, op := Op.fieldAddr 29 (Operand.tmp 15) 0, type := 0, pos := _, after := #[], guard := none }) (v := .pointer (some ⟨B15, 0, none⟩)) rfl (by kernel_rfl) (by kernel_rfl) (by kernel_rfl) (by kernel_rfl) (by kernel_rfl) (fun _ _ _ h => h) (Or.inl ⟨rfl, fun W hW => ?_⟩) hH ?_
              · refine QuietRun.of_run ?_; go_simp
              try simp only [Act.put, List.setIfInBounds_toArray, List.set_cons_zero, List.set_cons_succ]
              refine wpAnyT_take (i := 1) (oi := { dst := some 183, op := Op.load 25 (Operand.tmp 182), type := 25, pos := _, after := #[{ on := 0, ground := Ground.data }], guard := none }) (v := .slice (some ⟨g, 0, none⟩) LX cp) rfl (by kernel_rfl) (by kernel_rfl) (by kernel_rfl) (by kernel_rfl) (by kernel_rfl) (fun _ _ _ h => h) (Or.inl ⟨rfl, fun W hW => ?_⟩) hH ?_
              · refine QuietRun.of_run ?_; obtain ⟨z0, z1⟩ := hW; go_simp
              try simp only [Act.put, List.setIfInBounds_toArray, List.set_cons_zero, List.set_cons_succ]
              refine wpAnyT_take (i := 2) (oi := { dst := some 184, op := Op.move (Operand.tmp 16), type := 3, pos := _, after := #[], guard := none }) (v := .int .i64 (k : Int)) rfl (by kernel_rfl) (by kernel_rfl) (by kernel_rfl) (by kernel_rfl) (by kernel_rfl) (fun _ _ _ h => h) (Or.inl ⟨rfl, fun W hW => ?_⟩) hH ?_
              · refine QuietRun.of_run ?_; go_simp
              try simp only [Act.put, List.setIfInBounds_toArray, List.set_cons_zero, List.set_cons_succ]
              refine wpAnyT_take (i := 3) (oi := { dst := some 185, op := Op.fieldAddr 29 (Operand.tmp 15) 0, type := 0, pos := _, after := #[], guard := none }) (v := .pointer (some ⟨B15, 0, none⟩)) rfl (by kernel_rfl) (by kernel_rfl) (by kernel_rfl) (by kernel_rfl) (by kernel_rfl) (fun _ _ _ h => h) (Or.inl ⟨rfl, fun W hW => ?_⟩) hH ?_
              · refine QuietRun.of_run ?_; go_simp
              try simp only [Act.put, List.setIfInBounds_toArray, List.set_cons_zero, List.set_cons_succ]
              refine wpAnyT_take (i := 4) (oi := { dst := some 186, op := Op.load 25 (Operand.tmp 185), type := 25, pos := _, after := #[{ on := 3, ground := Ground.data }], guard := none }) (v := .slice (some ⟨g, 0, none⟩) LX cp) rfl (by kernel_rfl) (by kernel_rfl) (by kernel_rfl) (by kernel_rfl) (by kernel_rfl) (fun _ _ _ h => h) (Or.inl ⟨rfl, fun W hW => ?_⟩) hH ?_
              · refine QuietRun.of_run ?_; obtain ⟨z0, z1⟩ := hW; go_simp
              try simp only [Act.put, List.setIfInBounds_toArray, List.set_cons_zero, List.set_cons_succ]
              refine wpAnyT_take (i := 5) (oi := { dst := some 187, op := Op.move (Operand.tmp 16), type := 3, pos := _, after := #[], guard := none }) (v := .int .i64 (k : Int)) rfl (by kernel_rfl) (by kernel_rfl) (by kernel_rfl) (by kernel_rfl) (by kernel_rfl) (fun _ _ _ h => h) (Or.inl ⟨rfl, fun W hW => ?_⟩) hH ?_
              · refine QuietRun.of_run ?_; go_simp
              try simp only [Act.put, List.setIfInBounds_toArray, List.set_cons_zero, List.set_cons_succ]
              refine wpAnyT_take (i := 6) (oi := { dst := some 188, op := Op.indexAddr 25 (Operand.tmp 186) (Operand.tmp 187), type := 0, pos := _, after := #[{ on := 4, ground := Ground.data }, { on := 5, ground := Ground.data }], guard := none }) (v := .pointer (some ⟨g, k * 6, none⟩)) rfl (by kernel_rfl) (by kernel_rfl) (by kernel_rfl) (by kernel_rfl) (by kernel_rfl) (fun _ _ _ h => h) (Or.inl ⟨rfl, fun W hW => ?_⟩) hH ?_
              · refine QuietRun.of_run ?_; go_simp
              try simp only [Act.put, List.setIfInBounds_toArray, List.set_cons_zero, List.set_cons_succ]
              refine wpAnyT_take (i := 7) (oi := { dst := some 189, op := Op.fieldAddr 48 (Operand.tmp 188) 4, type := 0, pos := _, after := #[{ on := 6, ground := Ground.data }], guard := none }) (v := .pointer (some ⟨g, k * 6 + 4, none⟩)) rfl (by kernel_rfl) (by kernel_rfl) (by kernel_rfl) (by kernel_rfl) (by kernel_rfl) (fun _ _ _ h => h) (Or.inl ⟨rfl, fun W hW => ?_⟩) hH ?_
              · refine QuietRun.of_run ?_; go_simp
              try simp only [Act.put, List.setIfInBounds_toArray, List.set_cons_zero, List.set_cons_succ]
              refine wpAnyT_take (i := 8) (oi := { dst := some 190, op := Op.load 46 (Operand.tmp 189), type := 46, pos := _, after := #[{ on := 7, ground := Ground.data }], guard := none }) (v := .slice p.a (m' + 1) p.c) rfl (by kernel_rfl) (by kernel_rfl) (by kernel_rfl) (by kernel_rfl) (by kernel_rfl) (fun _ _ _ h => h) (Or.inl ⟨rfl, fun W hW => ?_⟩) hH ?_
              · refine QuietRun.of_run ?_; obtain ⟨z0, z1⟩ := hW; go_simp
              try simp only [Act.put, List.setIfInBounds_toArray, List.set_cons_zero, List.set_cons_succ]
              refine wpAnyT_take (i := 9) (oi := { dst := some 191, op := Op.move (Operand.tmp 17), type := 3, pos := _, after := #[], guard := none }) (v := .int .i64 ((m' : Int) + 1)) rfl (by kernel_rfl) (by kernel_rfl) (by kernel_rfl) (by kernel_rfl) (by kernel_rfl) (fun _ _ _ h => h) (Or.inl ⟨rfl, fun W hW => ?_⟩) hH ?_
              · refine QuietRun.of_run ?_; go_simp
              try simp only [Act.put, List.setIfInBounds_toArray, List.set_cons_zero, List.set_cons_succ]
              refine wpAnyT_take (i := 10) (oi := { dst := some 192, op := Op.binOp BinOp.sub 3 (Operand.tmp 191) (Operand.const (Value.int IntKind.i64 1)) 3, type := 3, pos := _, after := #[{ on := 9, ground := Ground.data }], guard := none }) (v := .int .i64 (m' : Int)) rfl (by kernel_rfl) (by kernel_rfl) (by kernel_rfl) (by kernel_rfl) (by kernel_rfl) (fun _ _ _ h => h) (Or.inl ⟨rfl, fun W hW => ?_⟩) hH ?_
              · refine QuietRun.of_run ?_; go_simp
              try simp only [Act.put, List.setIfInBounds_toArray, List.set_cons_zero, List.set_cons_succ]
              refine wpAnyT_take (i := 11) (oi := { dst := some 193, op := Op.slice 46 (Operand.tmp 190) none (some (Operand.tmp 192)) none, type := 46, pos := _, after := #[{ on := 8, ground := Ground.data }, { on := 10, ground := Ground.data }], guard := none }) (v := .slice sa m' sc) rfl (by kernel_rfl) (by kernel_rfl) (by kernel_rfl) (by kernel_rfl) (by kernel_rfl) (fun _ _ _ h => h) (Or.inl ⟨rfl, fun W hW => ?_⟩) hH ?_
              · refine QuietRun.of_run ?_; go_simp
              try simp only [Act.put, List.setIfInBounds_toArray, List.set_cons_zero, List.set_cons_succ]
              refine wpAnyT_take0 (i := 12) (oi := { dst := some 194, op := Op.indexAddr 25 (Operand.tmp 183) (Operand.tmp 184), type := 0, pos := _, after := #[{ on := 1, ground := Ground.data }, { on := 2, ground := Ground.data }, { on := 0, ground := Ground.phase }, { on := 1, ground := Ground.phase }, { on := 2, ground := Ground.phase }, { on := 3, ground := Ground.phase }, { on := 4, ground := Ground.phase }, { on := 5, ground := Ground.phase }, { on := 6, ground := Ground.phase }, { on := 7, ground := Ground.phase }, { on := 8, ground := Ground.phase }, { on := 9, ground := Ground.phase }, { on := 10, ground := Ground.phase }, { on := 11, ground := Ground.phase }], guard := none }) (v := .pointer (some ⟨g, k * 6, none⟩)) rfl (by kernel_rfl) (by kernel_rfl) (by kernel_rfl) (by kernel_rfl) (fun _ _ _ h => h) (Or.inl ⟨rfl, fun W hW => ?_⟩) (fun _ => hH) ?_
              · refine QuietRun.of_run ?_; go_simp
              try simp only [Act.put, List.setIfInBounds_toArray, List.set_cons_zero, List.set_cons_succ]
              refine wpAnyT_take (i := 13) (oi := { dst := some 195, op := Op.fieldAddr 48 (Operand.tmp 194) 4, type := 0, pos := _, after := #[{ on := 12, ground := Ground.data }, { on := 0, ground := Ground.phase }, { on := 1, ground := Ground.phase }, { on := 2, ground := Ground.phase }, { on := 3, ground := Ground.phase }, { on := 4, ground := Ground.phase }, { on := 5, ground := Ground.phase }, { on := 6, ground := Ground.phase }, { on := 7, ground := Ground.phase }, { on := 8, ground := Ground.phase }, { on := 9, ground := Ground.phase }, { on := 10, ground := Ground.phase }, { on := 11, ground := Ground.phase }], guard := none }) (v := .pointer (some ⟨g, k * 6 + 4, none⟩)) rfl (by kernel_rfl) (by kernel_rfl) (by kernel_rfl) (by kernel_rfl) (by kernel_rfl) (fun _ _ _ h => h) (Or.inl ⟨rfl, fun W hW => ?_⟩) hH ?_
              · refine QuietRun.of_run ?_; go_simp
              try simp only [Act.put, List.setIfInBounds_toArray, List.set_cons_zero, List.set_cons_succ]
              refine wpAnyT_ready (rs := [14]) (by kernel_rfl) (by simp) ?_
              refine AllReadyT.cons (o := { dst := none, op := Op.store 46 (Operand.tmp 195) (Operand.tmp 193), type := 0, pos := _, after := #[{ on := 13, ground := Ground.data }, { on := 11, ground := Ground.data }, { on := 0, ground := Ground.phase }, { on := 1, ground := Ground.phase }, { on := 2, ground := Ground.phase }, { on := 3, ground := Ground.phase }, { on := 4, ground := Ground.phase }, { on := 5, ground := Ground.phase }, { on := 6, ground := Ground.phase }, { on := 7, ground := Ground.phase }, { on := 8, ground := Ground.phase }, { on := 9, ground := Ground.phase }, { on := 10, ground := Ground.phase }, { on := 11, ground := Ground.phase }], guard := none }) rfl (fun K hK => ?_) (AllReadyT.nil)
              go_simp
              refine hK.out _ _ (fun h => absurd (h.symm.trans (show _ = true from by kernel_rfl)) (by decide)) (fun _ => ?_)
              clear hK K
              try simp only [Act.put, List.setIfInBounds_toArray, List.set_cons_zero, List.set_cons_succ]
              refine wpAnyT_done (by kernel_rfl) ?_ _
              -- END R27
              go_wp2_with fail
              go_meet
              exact HDone.out
          · as_aux_lemma =>
            -- Kind
            have q0 := HO6.out.cell4 0 _ HP.out rfl (by decide)
            have qf := HO6.out.free4 HP.out (k * 6 + 0)
            have HDone := Lib.hid (HSq.out 0 { p.nd with k := by0 } (.int .i64 by0) rfl rfl (by decide))
            simp only [Nat.add_zero] at q0 qf HDone
            go_wp2_with fail
            go_meet
            exact HDone.out
          · as_aux_lemma =>
            -- Key
            have q0 := HO6.out.cell4 5 _ HP.out rfl (by decide)
            have qf := HO6.out.free4 HP.out (k * 6 + 5)
            go_wp2_with fail
            -- GEN R31
            refine wp_region_T (fun wx => wx.cell? ⟨B15, 0, none⟩ = some (.slice (some ⟨g, 0, none⟩) LX cp) ∧ wx.cell? ⟨g, k * 6 + 5, none⟩ = some (.bool p.nd.y)) 12 (by kernel_rfl) ?_
            have hH : (fun wx : World => wx.cell? ⟨B15, 0, none⟩ = some (.slice (some ⟨g, 0, none⟩) LX cp) ∧ wx.cell? ⟨g, k * 6 + 5, none⟩ = some (.bool p.nd.y)) w6.drew := ⟨at_drew c15, at_drew q0⟩
            refine wpAnyT_take (i := 0) (oi := { dst := some 206, op := Op.fieldAddr 29 (Operand.tmp 15) 0, type := 0, pos := _, after := #[], guard := none }) (v := .pointer (some ⟨B15, 0, none⟩)) rfl (by kernel_rfl) (by kernel_rfl) (by kernel_rfl) (by kernel_rfl) (by kernel_rfl) (fun _ _ _ h => h) (Or.inl ⟨rfl, fun W hW => ?_⟩) hH ?_
            · refine QuietRun.of_run ?_; go_simp
            try simp only [Act.put, List.setIfInBounds_toArray, List.set_cons_zero, List.set_cons_succ]
            refine wpAnyT_take (i := 1) (oi := { dst := some 207, op := Op.load 25 (Operand.tmp 206), type := 25, pos := _, after := #[{ on := 0, ground := Ground.data }], guard := none }) (v := .slice (some ⟨g, 0, none⟩) LX cp) rfl (by kernel_rfl) (by kernel_rfl) (by kernel_rfl) (by kernel_rfl) (by kernel_rfl) (fun _ _ _ h => h) (Or.inl ⟨rfl, fun W hW => ?_⟩) hH ?_
            · refine QuietRun.of_run ?_; obtain ⟨z0, z1⟩ := hW; go_simp
            try simp only [Act.put, List.setIfInBounds_toArray, List.set_cons_zero, List.set_cons_succ]
            refine wpAnyT_take (i := 2) (oi := { dst := some 208, op := Op.move (Operand.tmp 16), type := 3, pos := _, after := #[], guard := none }) (v := .int .i64 (k : Int)) rfl (by kernel_rfl) (by kernel_rfl) (by kernel_rfl) (by kernel_rfl) (by kernel_rfl) (fun _ _ _ h => h) (Or.inl ⟨rfl, fun W hW => ?_⟩) hH ?_
            · refine QuietRun.of_run ?_; go_simp
            try simp only [Act.put, List.setIfInBounds_toArray, List.set_cons_zero, List.set_cons_succ]
            refine wpAnyT_take (i := 3) (oi := { dst := some 209, op := Op.fieldAddr 29 (Operand.tmp 15) 0, type := 0, pos := _, after := #[], guard := none }) (v := .pointer (some ⟨B15, 0, none⟩)) rfl (by kernel_rfl) (by kernel_rfl) (by kernel_rfl) (by kernel_rfl) (by kernel_rfl) (fun _ _ _ h => h) (Or.inl ⟨rfl, fun W hW => ?_⟩) hH ?_
            · refine QuietRun.of_run ?_; go_simp
            try simp only [Act.put, List.setIfInBounds_toArray, List.set_cons_zero, List.set_cons_succ]
            refine wpAnyT_take (i := 4) (oi := { dst := some 210, op := Op.load 25 (Operand.tmp 209), type := 25, pos := _, after := #[{ on := 3, ground := Ground.data }], guard := none }) (v := .slice (some ⟨g, 0, none⟩) LX cp) rfl (by kernel_rfl) (by kernel_rfl) (by kernel_rfl) (by kernel_rfl) (by kernel_rfl) (fun _ _ _ h => h) (Or.inl ⟨rfl, fun W hW => ?_⟩) hH ?_
            · refine QuietRun.of_run ?_; obtain ⟨z0, z1⟩ := hW; go_simp
            try simp only [Act.put, List.setIfInBounds_toArray, List.set_cons_zero, List.set_cons_succ]
            refine wpAnyT_take (i := 5) (oi := { dst := some 211, op := Op.move (Operand.tmp 16), type := 3, pos := _, after := #[], guard := none }) (v := .int .i64 (k : Int)) rfl (by kernel_rfl) (by kernel_rfl) (by kernel_rfl) (by kernel_rfl) (by kernel_rfl) (fun _ _ _ h => h) (Or.inl ⟨rfl, fun W hW => ?_⟩) hH ?_
            · refine QuietRun.of_run ?_; go_simp
            try simp only [Act.put, List.setIfInBounds_toArray, List.set_cons_zero, List.set_cons_succ]
            refine wpAnyT_take (i := 6) (oi := { dst := some 212, op := Op.indexAddr 25 (Operand.tmp 210) (Operand.tmp 211), type := 0, pos := _, after := #[{ on := 4, ground := Ground.data }, { on := 5, ground := Ground.data }], guard := none }) (v := .pointer (some ⟨g, k * 6, none⟩)) rfl (by kernel_rfl) (by kernel_rfl) (by kernel_rfl) (by kernel_rfl) (by kernel_rfl) (fun _ _ _ h => h) (Or.inl ⟨rfl, fun W hW => ?_⟩) hH ?_
            · refine QuietRun.of_run ?_; go_simp
            try simp only [Act.put, List.setIfInBounds_toArray, List.set_cons_zero, List.set_cons_succ]
            refine wpAnyT_take (i := 7) (oi := { dst := some 213, op := Op.fieldAddr 48 (Operand.tmp 212) 5, type := 0, pos := _, after := #[{ on := 6, ground := Ground.data }], guard := none }) (v := .pointer (some ⟨g, k * 6 + 5, none⟩)) rfl (by kernel_rfl) (by kernel_rfl) (by kernel_rfl) (by kernel_rfl) (by kernel_rfl) (fun _ _ _ h => h) (Or.inl ⟨rfl, fun W hW => ?_⟩) hH ?_
            · refine QuietRun.of_run ?_; go_simp
            try simp only [Act.put, List.setIfInBounds_toArray, List.set_cons_zero, List.set_cons_succ]
            refine wpAnyT_take (i := 8) (oi := { dst := some 214, op := Op.load 4 (Operand.tmp 213), type := 4, pos := _, after := #[{ on := 7, ground := Ground.data }], guard := none }) (v := .bool p.nd.y) rfl (by kernel_rfl) (by kernel_rfl) (by kernel_rfl) (by kernel_rfl) (by kernel_rfl) (fun _ _ _ h => h) (Or.inl ⟨rfl, fun W hW => ?_⟩) hH ?_
            · refine QuietRun.of_run ?_; obtain ⟨z0, z1⟩ := hW; go_simp
            try simp only [Act.put, List.setIfInBounds_toArray, List.set_cons_zero, List.set_cons_succ]
            refine wpAnyT_take (i := 9) (oi := { dst := some 215, op := Op.unOp UnOp.not 4 (Operand.tmp 214), type := 4, pos := _, after := #[{ on := 8, ground := Ground.data }], guard := none }) (v := .bool (!p.nd.y)) rfl (by kernel_rfl) (by kernel_rfl) (by kernel_rfl) (by kernel_rfl) (by kernel_rfl) (fun _ _ _ h => h) (Or.inl ⟨rfl, fun W hW => ?_⟩) hH ?_
            · refine QuietRun.of_run ?_; go_simp
            try simp only [Act.put, List.setIfInBounds_toArray, List.set_cons_zero, List.set_cons_succ]
            refine wpAnyT_take0 (i := 10) (oi := { dst := some 216, op := Op.indexAddr 25 (Operand.tmp 207) (Operand.tmp 208), type := 0, pos := _, after := #[{ on := 1, ground := Ground.data }, { on := 2, ground := Ground.data }, { on := 0, ground := Ground.phase }, { on := 1, ground := Ground.phase }, { on := 2, ground := Ground.phase }, { on := 3, ground := Ground.phase }, { on := 4, ground := Ground.phase }, { on := 5, ground := Ground.phase }, { on := 6, ground := Ground.phase }, { on := 7, ground := Ground.phase }, { on := 8, ground := Ground.phase }, { on := 9, ground := Ground.phase }], guard := none }) (v := .pointer (some ⟨g, k * 6, none⟩)) rfl (by kernel_rfl) (by kernel_rfl) (by kernel_rfl) (by kernel_rfl) (fun _ _ _ h => h) (Or.inl ⟨rfl, fun W hW => ?_⟩) (fun _ => hH) ?_
            · refine QuietRun.of_run ?_; go_simp
            try simp only [Act.put, List.setIfInBounds_toArray, List.set_cons_zero, List.set_cons_succ]
            refine wpAnyT_take (i := 11) (oi := { dst := some 217, op := Op.fieldAddr 48 (Operand.tmp 216) 5, type := 0, pos := _, after := #[{ on := 10, ground := Ground.data }, { on := 0, ground := Ground.phase }, { on := 1, ground := Ground.phase }, { on := 2, ground := Ground.phase }, { on := 3, ground := Ground.phase }, { on := 4, ground := Ground.phase }, { on := 5, ground := Ground.phase }, { on := 6, ground := Ground.phase }, { on := 7, ground := Ground.phase }, { on := 8, ground := Ground.phase }, { on := 9, ground := Ground.phase }], guard := none }) (v := .pointer (some ⟨g, k * 6 + 5, none⟩)) rfl (by kernel_rfl) (by kernel_rfl) (by kernel_rfl) (by kernel_rfl) (by kernel_rfl) (fun _ _ _ h => h) (Or.inl ⟨rfl, fun W hW => ?_⟩) hH ?_
            · refine QuietRun.of_run ?_; go_simp
            try simp only [Act.put, List.setIfInBounds_toArray, List.set_cons_zero, List.set_cons_succ]
            refine wpAnyT_ready (rs := [12]) (by kernel_rfl) (by simp) ?_
            refine AllReadyT.cons (o := { dst := none, op := Op.store 4 (Operand.tmp 217) (Operand.tmp 215), type := 0, pos := _, after := #[{ on := 11, ground := Ground.data }, { on := 9, ground := Ground.data }, { on := 0, ground := Ground.phase }, { on := 1, ground := Ground.phase }, { on := 2, ground := Ground.phase }, { on := 3, ground := Ground.phase }, { on := 4, ground := Ground.phase }, { on := 5, ground := Ground.phase }, { on := 6, ground := Ground.phase }, { on := 7, ground := Ground.phase }, { on := 8, ground := Ground.phase }, { on := 9, ground := Ground.phase }], guard := none }) rfl (fun K hK => ?_) (AllReadyT.nil)
            go_simp
            refine hK.out _ _ (fun h => absurd (h.symm.trans (show _ = true from by kernel_rfl)) (by decide)) (fun _ => ?_)
            clear hK K
            try simp only [Act.put, List.setIfInBounds_toArray, List.set_cons_zero, List.set_cons_succ]
            refine wpAnyT_done (by kernel_rfl) ?_ _
            -- END R31
            go_wp2_with fail
            go_meet
            exact HSt.out 5 { p.nd with y := !p.nd.y } (.bool (!p.nd.y)) rfl rfl (by decide)
        case rest =>
        obtain ⟨Y, HNY, hYl, HYf, H15f, HBf⟩ := hcut
        rename World => wf
        clear HT HT0 HSt HSq c15 HKk HKw
        have V13f := HVk.out.below HBf.out
        have c13 := V13f.cell
        have c15 := cell_of_one H15f.out
        have be := (Below.refl wf.heap.size wf).drew
        have hfX : ∀ z ∈ X, z.ks.length ≤ 200 := fun z hz => Nat.le_trans (HfX.out z hz) (by decide)
        have hfY : ∀ z ∈ Y, z.ks.length ≤ 200 := fun z hz => Nat.le_trans (HYf.out z hz) (by decide)
        have hlX : X.length ≤ 200 := by rw [HLX.out]; omega
        have hlY : Y.length ≤ 200 := by omega
        have HCa := Lib.hid (fun W (hb : Below wf.heap.size wf W) => aCheck (.slice (some ⟨g, 0, none⟩) LX cp) Y n W (HNY.out.below hb).weak hlY hfY)
        have HCr := Lib.hid (fun W (hb : Below wf.heap.size wf W) => rCheck (.slice (some ⟨g, 0, none⟩) LX cp) Y n W (HNY.out.below hb).weak (by omega) (fun z hz => Nat.le_trans (hfY z hz) (by omega)))
        have HSa := Lib.hid (fun W (hb : Below wf.heap.size wf W) => aSame (.slice xa LX xc) (.slice (some ⟨g, 0, none⟩) LX cp) X Y W (V13f.below hb).nd (HNY.out.below hb) hlX hlY hfX hfY)
        have HSr := Lib.hid (fun W (hb : Below wf.heap.size wf W) => rSame (.slice xa LX xc) (.slice (some ⟨g, 0, none⟩) LX cp) X Y W (V13f.below hb).nd (HNY.out.below hb) (by omega) (by omega) (fun z hz => Nat.le_trans (hfX z hz) (by omega)) (fun z hz => Nat.le_trans (hfY z hz) (by omega)))
        obtain ⟨cy, hcy⟩ : ∃ cy, checkN Y n = cy := ⟨_, rfl⟩
        obtain ⟨sy, hsy⟩ : ∃ sy, sameN X Y = sy := ⟨_, rfl⟩
        rw [hcy] at HCa HCr
        rw [hsy] at HSa HSr
        have HBk2 := Lib.hid (fun W (hb : Below wf.heap.size wf W) => below_from HBk.out (below_from HBf.out hb))
        clear hfX hfY hlX hlY hcy hsy V13f
        go_wp2_with fail
        -- GEN R32
        refine wp_region_held_drew (S := fun wx => wx.cell? ⟨B13, 0, none⟩ = some (.slice xa LX xc) ∧ wx.cell? ⟨B15, 0, none⟩ = some (.slice (some ⟨g, 0, none⟩) LX cp)) (by kernel_rfl) (⟨at_drew c13, at_drew c15⟩) (fun hH => ?_)
        refine wpAnyH_take (i := 0) (oi := { dst := some 218, op := Op.load 29 (Operand.tmp 15), type := 29, pos := _, after := #[], guard := none }) (v := .agg #[.slice (some ⟨g, 0, none⟩) LX cp]) rfl (by kernel_rfl) (by kernel_rfl) (by kernel_rfl) (fun _ _ _ h => h) (Or.inl ⟨rfl, fun W hW => ?_⟩) hH ?_
        · obtain ⟨z1, z2⟩ := hW; go_simp
        try simp only [Act.put, List.setIfInBounds_toArray, List.set_cons_zero, List.set_cons_succ]
        refine wpAnyH_take (i := 2) (oi := { dst := some 220, op := Op.move (Operand.tmp 0), type := 3, pos := _, after := #[], guard := none }) (v := .int .i64 (n : Int)) rfl (by kernel_rfl) (by kernel_rfl) (by kernel_rfl) (fun _ _ _ h => h) (Or.inl ⟨rfl, fun W hW => ?_⟩) hH ?_
        · go_simp
        try simp only [Act.put, List.setIfInBounds_toArray, List.set_cons_zero, List.set_cons_succ]
        refine wpAnyH_take (i := 4) (oi := { dst := some 222, op := Op.load 29 (Operand.tmp 15), type := 29, pos := _, after := #[], guard := none }) (v := .agg #[.slice (some ⟨g, 0, none⟩) LX cp]) rfl (by kernel_rfl) (by kernel_rfl) (by kernel_rfl) (fun _ _ _ h => h) (Or.inl ⟨rfl, fun W hW => ?_⟩) hH ?_
        · obtain ⟨z1, z2⟩ := hW; go_simp
        try simp only [Act.put, List.setIfInBounds_toArray, List.set_cons_zero, List.set_cons_succ]
        refine wpAnyH_take (i := 5) (oi := { dst := some 223, op := Op.move (Operand.tmp 0), type := 3, pos := _, after := #[], guard := none }) (v := .int .i64 (n : Int)) rfl (by kernel_rfl) (by kernel_rfl) (by kernel_rfl) (fun _ _ _ h => h) (Or.inl ⟨rfl, fun W hW => ?_⟩) hH ?_
        · go_simp
        try simp only [Act.put, List.setIfInBounds_toArray, List.set_cons_zero, List.set_cons_succ]
        refine wpAnyH_ready (rs := [1]) (by kernel_rfl) (by simp) ?_
        refine AllReadyH.cons (o := { dst := some 219, op := Op.call { callee := Callee.value (Operand.func 20), args := #[Operand.tmp 218], argTypes := #[29] }, type := 27, pos := _, after := #[{ on := 0, ground := Ground.data }], guard := none }) rfl (fun K hK => ?_) AllReadyH.nil
        go_simp
        refine (of_any (some ⟨g, 0, none⟩) LX cp wf.drew).mono ?_
        rintro e w31 ⟨rfl, hb⟩
        have be := below_from be hb
        clear hb
        try go_wp2_with fail
        refine hK.out _ _ (⟨at_below be c13, at_below be c15⟩) (fun hH2 => ?_)
        clear hK K
        try simp only [Act.put, List.setIfInBounds_toArray, List.set_cons_zero, List.set_cons_succ]
        refine wpAnyH_ready (rs := [3]) (by kernel_rfl) (by simp) ?_
        refine AllReadyH.cons (o := { dst := some 221, op := Op.call { callee := Callee.value (Operand.func 19), args := #[Operand.tmp 219, Operand.tmp 220], argTypes := #[27, 3] }, type := 4, pos := _, after := #[{ on := 1, ground := Ground.data }, { on := 2, ground := Ground.data }, { on := 1, ground := Ground.chain }], guard := none }) rfl (fun K hK => ?_) AllReadyH.nil
        go_simp
        refine (HCa.out w31 be).mono ?_
        rintro e w32 ⟨rfl, hb⟩
        have be := below_from be hb
        clear hb
        try go_wp2_with fail
        refine hK.out _ _ (⟨at_below be c13, at_below be c15⟩) (fun hH2 => ?_)
        clear hK K
        try simp only [Act.put, List.setIfInBounds_toArray, List.set_cons_zero, List.set_cons_succ]
        refine wpAnyH_ready (rs := [6]) (by kernel_rfl) (by simp) ?_
        refine AllReadyH.cons (o := { dst := some 224, op := Op.call { callee := Callee.value (Operand.func 21), args := #[Operand.tmp 222, Operand.tmp 223], argTypes := #[29, 3] }, type := 4, pos := _, after := #[{ on := 4, ground := Ground.data }, { on := 5, ground := Ground.data }, { on := 3, ground := Ground.chain }], guard := none }) rfl (fun K hK => ?_) AllReadyH.nil
        go_simp
        refine (HCr.out w32 be).mono ?_
        rintro e w33 ⟨rfl, hb⟩
        have be := below_from be hb
        clear hb
        try go_wp2_with fail
        refine hK.out _ _ (⟨at_below be c13, at_below be c15⟩) (fun hH2 => ?_)
        clear hK K
        try simp only [Act.put, List.setIfInBounds_toArray, List.set_cons_zero, List.set_cons_succ]
        refine wpAnyH_take (i := 7) (oi := { dst := some 225, op := Op.binOp BinOp.eql 4 (Operand.tmp 221) (Operand.tmp 224) 4, type := 4, pos := _, after := #[{ on := 3, ground := Ground.data }, { on := 6, ground := Ground.data }], guard := none }) (v := .bool true) rfl (by kernel_rfl) (by kernel_rfl) (by kernel_rfl) (fun _ _ _ h => h) (Or.inl ⟨rfl, fun W hW => ?_⟩) hH2 ?_
        · go_simp
        try simp only [Act.put, List.setIfInBounds_toArray, List.set_cons_zero, List.set_cons_succ]
        refine wpAnyH_take (i := 8) (oi := { dst := some 226, op := Op.move (Operand.tmp 225), type := 4, pos := _, after := #[{ on := 7, ground := Ground.data }, { on := 6, ground := Ground.chain }], guard := none }) (v := .bool true) rfl (by kernel_rfl) (by kernel_rfl) (by kernel_rfl) (fun _ _ _ h => h) (Or.inl ⟨rfl, fun W hW => ?_⟩) hH2 ?_
        · go_simp
        try simp only [Act.put, List.setIfInBounds_toArray, List.set_cons_zero, List.set_cons_succ]
        refine wpAnyH_take (i := 9) (oi := { dst := some 227, op := Op.load 29 (Operand.tmp 13), type := 29, pos := _, after := #[{ on := 8, ground := Ground.guard }], guard := some (8, true) }) (v := .agg #[.slice xa LX xc]) rfl (by kernel_rfl) (by kernel_rfl) (by kernel_rfl) (fun _ _ _ h => h) (Or.inl ⟨rfl, fun W hW => ?_⟩) hH2 ?_
        · obtain ⟨z1, z2⟩ := hW; go_simp
        try simp only [Act.put, List.setIfInBounds_toArray, List.set_cons_zero, List.set_cons_succ]
        refine wpAnyH_take (i := 11) (oi := { dst := some 229, op := Op.load 29 (Operand.tmp 15), type := 29, pos := _, after := #[{ on := 8, ground := Ground.guard }], guard := some (8, true) }) (v := .agg #[.slice (some ⟨g, 0, none⟩) LX cp]) rfl (by kernel_rfl) (by kernel_rfl) (by kernel_rfl) (fun _ _ _ h => h) (Or.inl ⟨rfl, fun W hW => ?_⟩) hH2 ?_
        · obtain ⟨z1, z2⟩ := hW; go_simp
        try simp only [Act.put, List.setIfInBounds_toArray, List.set_cons_zero, List.set_cons_succ]
        refine wpAnyH_take (i := 14) (oi := { dst := some 232, op := Op.load 29 (Operand.tmp 13), type := 29, pos := _, after := #[{ on := 8, ground := Ground.guard }], guard := some (8, true) }) (v := .agg #[.slice xa LX xc]) rfl (by kernel_rfl) (by kernel_rfl) (by kernel_rfl) (fun _ _ _ h => h) (Or.inl ⟨rfl, fun W hW => ?_⟩) hH2 ?_
        · obtain ⟨z1, z2⟩ := hW; go_simp
        try simp only [Act.put, List.setIfInBounds_toArray, List.set_cons_zero, List.set_cons_succ]
        refine wpAnyH_take (i := 15) (oi := { dst := some 233, op := Op.load 29 (Operand.tmp 15), type := 29, pos := _, after := #[{ on := 8, ground := Ground.guard }], guard := some (8, true) }) (v := .agg #[.slice (some ⟨g, 0, none⟩) LX cp]) rfl (by kernel_rfl) (by kernel_rfl) (by kernel_rfl) (fun _ _ _ h => h) (Or.inl ⟨rfl, fun W hW => ?_⟩) hH2 ?_
        · obtain ⟨z1, z2⟩ := hW; go_simp
        try simp only [Act.put, List.setIfInBounds_toArray, List.set_cons_zero, List.set_cons_succ]
        refine wpAnyH_ready (rs := [10]) (by kernel_rfl) (by simp) ?_
        refine AllReadyH.cons (o := { dst := some 228, op := Op.call { callee := Callee.value (Operand.func 20), args := #[Operand.tmp 227], argTypes := #[29] }, type := 27, pos := _, after := #[{ on := 9, ground := Ground.data }, { on := 8, ground := Ground.chain }, { on := 8, ground := Ground.guard }], guard := some (8, true) }) rfl (fun K hK => ?_) AllReadyH.nil
        go_simp
        refine (of_any xa LX xc w33).mono ?_
        rintro e w34 ⟨rfl, hb⟩
        have be := below_from be hb
        clear hb
        try go_wp2_with fail
        refine hK.out _ _ (⟨at_below be c13, at_below be c15⟩) (fun hH2 => ?_)
        clear hK K
        try simp only [Act.put, List.setIfInBounds_toArray, List.set_cons_zero, List.set_cons_succ]
        refine wpAnyH_ready (rs := [12]) (by kernel_rfl) (by simp) ?_
        refine AllReadyH.cons (o := { dst := some 230, op := Op.call { callee := Callee.value (Operand.func 20), args := #[Operand.tmp 229], argTypes := #[29] }, type := 27, pos := _, after := #[{ on := 11, ground := Ground.data }, { on := 10, ground := Ground.chain }, { on := 8, ground := Ground.guard }], guard := some (8, true) }) rfl (fun K hK => ?_) AllReadyH.nil
        go_simp
        refine (of_any (some ⟨g, 0, none⟩) LX cp w34).mono ?_
        rintro e w35 ⟨rfl, hb⟩
        have be := below_from be hb
        clear hb
        try go_wp2_with fail
        refine hK.out _ _ (⟨at_below be c13, at_below be c15⟩) (fun hH2 => ?_)
        clear hK K
        try simp only [Act.put, List.setIfInBounds_toArray, List.set_cons_zero, List.set_cons_succ]
        refine wpAnyH_ready (rs := [13]) (by kernel_rfl) (by simp) ?_
        refine AllReadyH.cons (o := { dst := some 231, op := Op.call { callee := Callee.value (Operand.func 22), args := #[Operand.tmp 228, Operand.tmp 230], argTypes := #[27, 27] }, type := 4, pos := _, after := #[{ on := 10, ground := Ground.data }, { on := 12, ground := Ground.data }, { on := 12, ground := Ground.chain }, { on := 8, ground := Ground.guard }], guard := some (8, true) }) rfl (fun K hK => ?_) AllReadyH.nil
        go_simp
        refine (HSa.out w35 be).mono ?_
        rintro e w36 ⟨rfl, hb⟩
        have be := below_from be hb
        clear hb
        try go_wp2_with fail
        refine hK.out _ _ (⟨at_below be c13, at_below be c15⟩) (fun hH2 => ?_)
        clear hK K
        try simp only [Act.put, List.setIfInBounds_toArray, List.set_cons_zero, List.set_cons_succ]
        refine wpAnyH_ready (rs := [16]) (by kernel_rfl) (by simp) ?_
        refine AllReadyH.cons (o := { dst := some 234, op := Op.call { callee := Callee.value (Operand.func 17), args := #[Operand.tmp 232, Operand.tmp 233], argTypes := #[29, 29] }, type := 4, pos := _, after := #[{ on := 14, ground := Ground.data }, { on := 15, ground := Ground.data }, { on := 13, ground := Ground.chain }, { on := 8, ground := Ground.guard }], guard := some (8, true) }) rfl (fun K hK => ?_) AllReadyH.nil
        go_simp
        refine (HSr.out w36 be).mono ?_
        rintro e w37 ⟨rfl, hb⟩
        have be := below_from be hb
        clear hb
        try go_wp2_with fail
        refine hK.out _ _ (⟨at_below be c13, at_below be c15⟩) (fun hH2 => ?_)
        clear hK K
        try simp only [Act.put, List.setIfInBounds_toArray, List.set_cons_zero, List.set_cons_succ]
        refine wpAnyH_take (i := 17) (oi := { dst := some 235, op := Op.binOp BinOp.eql 4 (Operand.tmp 231) (Operand.tmp 234) 4, type := 4, pos := _, after := #[{ on := 13, ground := Ground.data }, { on := 16, ground := Ground.data }, { on := 8, ground := Ground.guard }], guard := some (8, true) }) (v := .bool true) rfl (by kernel_rfl) (by kernel_rfl) (by kernel_rfl) (fun _ _ _ h => h) (Or.inl ⟨rfl, fun W hW => ?_⟩) hH2 ?_
        · go_simp
        try simp only [Act.put, List.setIfInBounds_toArray, List.set_cons_zero, List.set_cons_succ]
        refine wpAnyH_take (i := 18) (oi := { dst := some 236, op := Op.pick (Operand.tmp 226) (Operand.tmp 235) (Operand.const (Value.bool false)), type := 4, pos := _, after := #[{ on := 8, ground := Ground.data }, { on := 17, ground := Ground.data }], guard := none }) (v := .bool true) rfl (by kernel_rfl) (by kernel_rfl) (by kernel_rfl) (fun _ _ _ h => h) (Or.inl ⟨rfl, fun W hW => ?_⟩) hH2 ?_
        · go_simp
        try simp only [Act.put, List.setIfInBounds_toArray, List.set_cons_zero, List.set_cons_succ]
        refine wpAnyH_take (i := 19) (oi := { dst := some 12, op := Op.assign (Operand.tmp 236), type := 4, pos := _, after := #[{ on := 18, ground := Ground.data }, { on := 16, ground := Ground.chain }, { on := 0, ground := Ground.phase }, { on := 1, ground := Ground.phase }, { on := 2, ground := Ground.phase }, { on := 3, ground := Ground.phase }, { on := 4, ground := Ground.phase }, { on := 5, ground := Ground.phase }, { on := 6, ground := Ground.phase }, { on := 7, ground := Ground.phase }, { on := 8, ground := Ground.phase }, { on := 9, ground := Ground.phase }, { on := 10, ground := Ground.phase }, { on := 11, ground := Ground.phase }, { on := 12, ground := Ground.phase }, { on := 13, ground := Ground.phase }, { on := 14, ground := Ground.phase }, { on := 15, ground := Ground.phase }, { on := 16, ground := Ground.phase }, { on := 17, ground := Ground.phase }, { on := 18, ground := Ground.phase }], guard := none }) (v := .bool true) rfl (by kernel_rfl) (by kernel_rfl) (by kernel_rfl) (fun _ _ _ h => h) (Or.inl ⟨rfl, fun W hW => ?_⟩) hH2 ?_
        · go_simp
        try simp only [Act.put, List.setIfInBounds_toArray, List.set_cons_zero, List.set_cons_succ]
        refine wpAnyH_done (by kernel_rfl) ?_ _
        -- END R32
        have HD := Lib.hid (HQ.out w37 (HBk2.out w37 be))
        go_wp2_with fail
        exact HD.out
      · obtain ⟨x, hx⟩ : ∃ x, l0[i]? = some x := ⟨_, List.getElem?_eq_getElem (by rw [HMl.out]; exact hlM)⟩
        obtain ⟨b, off, rfl, -, x1, -, x3, x4⟩ := HX.out wr HBe.out i x hx
        have i1 : (i : Int) < (M : Int) := by omega
        have i2 : (i : Int) < 20 := by omega
        obtain ⟨m1, hm1⟩ : ∃ m1 : Nat, n + 1 = m1 := ⟨_, rfl⟩
        obtain ⟨k1, hk1, -, hw1⟩ := within_lit x.a LX (LX : Int) rfl (by omega) (by omega)
        obtain ⟨k2, hk2, -, hw2⟩ := within_lit x.c m1 (m1 : Int) rfl (by omega) (by omega)
        obtain ⟨k5, hk5, -, hw5⟩ := within_lit x.d 5 5 rfl (by decide) (by decide)
        have HK1 := Lib.hid hw1
        have HK2 := Lib.hid hw2
        have HK5 := Lib.hid hw5
        have em1 : IntKind.i64.wrap ((n : Int) + 1) = (m1 : Int) := by rw [show (n : Int) + 1 = (m1 : Int) by omega]; exact IntWalk.i64_in _ (by omega)
        obtain ⟨s1, hs1⟩ : ∃ s1 : Int, (k2 : Int) + (k5 : Int) = s1 := ⟨_, rfl⟩
        have es1 : IntKind.i64.wrap ((k2 : Int) + (k5 : Int)) = s1 := by rw [hs1]; exact IntWalk.i64_in _ (by omega)
        have c13 := HV.out.cell
        have hfew : ∀ z ∈ X, z.ks.length ≤ 500 := fun z hz => by have h1 := HWl.out.few z hz; rw [HLX.out] at h1; omega
        have hcall := rAdd (.slice xa LX xc) X k1 3 k2 s1 wr.drew (HV.out.below (Below.refl _ _).drew).nd HWl.out.good (by rw [HLX.out]; omega) hfew
        have hwl := well_add HWl.out k1 3 k2 s1
        have hle := len_add HWl.out.good k1 3 k2 s1
        obtain ⟨R, hR⟩ : ∃ R, addN X k1 3 k2 s1 = R := ⟨_, rfl⟩
        rw [hR] at hcall hwl hle
        rw [HLX.out] at hle
        obtain ⟨X', at', hRR⟩ : ∃ X' at', R = (X', at') := ⟨R.1, R.2, rfl⟩
        subst hRR
        dsimp only at hwl hle
        have HAd := Lib.hid hcall
        have HWR := Lib.hid hwl
        clear hx hw1 hw2 hw5 hcall hwl hR hfew hm1 hs1
        go_wp2_with fail
        -- GEN R10
        refine wp_region_T (fun wx => wx.cell? ⟨B13, 0, none⟩ = some (.slice xa LX xc) ∧ wx.cell? ⟨b, off + i * 5 + 1, none⟩ = some (.int .i64 x.a) ∧ wx.cell? ⟨b, off + i * 5 + 3, none⟩ = some (.int .i64 x.c) ∧ wx.cell? ⟨b, off + i * 5 + 4, none⟩ = some (.int .i64 x.d)) 37 (by kernel_rfl) ?_
        have hH : (fun wx : World => wx.cell? ⟨B13, 0, none⟩ = some (.slice xa LX xc) ∧ wx.cell? ⟨b, off + i * 5 + 1, none⟩ = some (.int .i64 x.a) ∧ wx.cell? ⟨b, off + i * 5 + 3, none⟩ = some (.int .i64 x.c) ∧ wx.cell? ⟨b, off + i * 5 + 4, none⟩ = some (.int .i64 x.d)) wr.drew := ⟨at_drew c13, at_drew x1, at_drew x3, at_drew x4⟩
        refine wpAnyT_take (i := 0) (oi := { dst := some 38, op := Op.load 29 (Operand.tmp 13), type := 29, pos := _, after := #[], guard := none }) (v := .agg #[.slice xa LX xc]) rfl (by kernel_rfl) (by kernel_rfl) (by kernel_rfl) (by kernel_rfl) (by kernel_rfl) (fun _ _ _ h => h) (Or.inl ⟨rfl, fun W hW => ?_⟩) hH ?_
        · refine QuietRun.of_run ?_; obtain ⟨z0, z1, z2, z3⟩ := hW; go_simp
        try simp only [Act.put, List.setIfInBounds_toArray, List.set_cons_zero, List.set_cons_succ]
        refine wpAnyT_take (i := 1) (oi := { dst := some 39, op := Op.move (Operand.tmp 1), type := 22, pos := _, after := #[], guard := none }) (v := .slice (some ⟨b, off, none⟩) M cap0) rfl (by kernel_rfl) (by kernel_rfl) (by kernel_rfl) (by kernel_rfl) (by kernel_rfl) (fun _ _ _ h => h) (Or.inl ⟨rfl, fun W hW => ?_⟩) hH ?_
        · refine QuietRun.of_run ?_; go_simp
        try simp only [Act.put, List.setIfInBounds_toArray, List.set_cons_zero, List.set_cons_succ]
        refine wpAnyT_take (i := 2) (oi := { dst := some 40, op := Op.move (Operand.tmp 14), type := 3, pos := _, after := #[], guard := none }) (v := .int .i64 (i : Int)) rfl (by kernel_rfl) (by kernel_rfl) (by kernel_rfl) (by kernel_rfl) (by kernel_rfl) (fun _ _ _ h => h) (Or.inl ⟨rfl, fun W hW => ?_⟩) hH ?_
        · refine QuietRun.of_run ?_; go_simp
        try simp only [Act.put, List.setIfInBounds_toArray, List.set_cons_zero, List.set_cons_succ]
        refine wpAnyT_take (i := 3) (oi := { dst := some 41, op := Op.indexAddr 22 (Operand.tmp 39) (Operand.tmp 40), type := 0, pos := _, after := #[{ on := 1, ground := Ground.data }, { on := 2, ground := Ground.data }], guard := none }) (v := .pointer (some ⟨b, off + i * 5, none⟩)) rfl (by kernel_rfl) (by kernel_rfl) (by kernel_rfl) (by kernel_rfl) (by kernel_rfl) (fun _ _ _ h => h) (Or.inl ⟨rfl, fun W hW => ?_⟩) hH ?_
        · refine QuietRun.of_run ?_; go_simp
        try simp only [Act.put, List.setIfInBounds_toArray, List.set_cons_zero, List.set_cons_succ]
        refine wpAnyT_take (i := 4) (oi := { dst := some 42, op := Op.fieldAddr 32 (Operand.tmp 41) 1, type := 0, pos := _, after := #[{ on := 3, ground := Ground.data }], guard := none }) (v := .pointer (some ⟨b, off + i * 5 + 1, none⟩)) rfl (by kernel_rfl) (by kernel_rfl) (by kernel_rfl) (by kernel_rfl) (by kernel_rfl) (fun _ _ _ h => h) (Or.inl ⟨rfl, fun W hW => ?_⟩) hH ?_
        · refine QuietRun.of_run ?_; go_simp
        try simp only [Act.put, List.setIfInBounds_toArray, List.set_cons_zero, List.set_cons_succ]
        refine wpAnyT_take (i := 5) (oi := { dst := some 43, op := Op.load 3 (Operand.tmp 42), type := 3, pos := _, after := #[{ on := 4, ground := Ground.data }], guard := none }) (v := .int .i64 x.a) rfl (by kernel_rfl) (by kernel_rfl) (by kernel_rfl) (by kernel_rfl) (by kernel_rfl) (fun _ _ _ h => h) (Or.inl ⟨rfl, fun W hW => ?_⟩) hH ?_
        · refine QuietRun.of_run ?_; obtain ⟨z0, z1, z2, z3⟩ := hW; go_simp
        try simp only [Act.put, List.setIfInBounds_toArray, List.set_cons_zero, List.set_cons_succ]
        refine wpAnyT_take (i := 6) (oi := { dst := some 44, op := Op.fieldAddr 29 (Operand.tmp 13) 0, type := 0, pos := _, after := #[], guard := none }) (v := .pointer (some ⟨B13, 0, none⟩)) rfl (by kernel_rfl) (by kernel_rfl) (by kernel_rfl) (by kernel_rfl) (by kernel_rfl) (fun _ _ _ h => h) (Or.inl ⟨rfl, fun W hW => ?_⟩) hH ?_
        · refine QuietRun.of_run ?_; go_simp
        try simp only [Act.put, List.setIfInBounds_toArray, List.set_cons_zero, List.set_cons_succ]
        refine wpAnyT_take (i := 7) (oi := { dst := some 45, op := Op.load 25 (Operand.tmp 44), type := 25, pos := _, after := #[{ on := 6, ground := Ground.data }], guard := none }) (v := .slice xa LX xc) rfl (by kernel_rfl) (by kernel_rfl) (by kernel_rfl) (by kernel_rfl) (by kernel_rfl) (fun _ _ _ h => h) (Or.inl ⟨rfl, fun W hW => ?_⟩) hH ?_
        · refine QuietRun.of_run ?_; obtain ⟨z0, z1, z2, z3⟩ := hW; go_simp
        try simp only [Act.put, List.setIfInBounds_toArray, List.set_cons_zero, List.set_cons_succ]
        refine wpAnyT_take (i := 8) (oi := { dst := some 46, op := Op.call { callee := Callee.builtin Builtin.len, args := #[Operand.tmp 45], argTypes := #[25] }, type := 3, pos := _, after := #[{ on := 7, ground := Ground.data }], guard := none }) (v := .int .i64 (LX : Int)) rfl (by kernel_rfl) (by kernel_rfl) (by kernel_rfl) (by kernel_rfl) (by kernel_rfl) (fun _ _ _ h => h) (Or.inl ⟨rfl, fun W hW => ?_⟩) hH ?_
        · refine QuietRun.of_run ?_; go_simp
        try simp only [Act.put, List.setIfInBounds_toArray, List.set_cons_zero, List.set_cons_succ]
        refine wpAnyT_take (i := 9) (oi := { dst := some 47, op := Op.call { callee := Callee.value (Operand.func 9), args := #[Operand.tmp 43, Operand.tmp 46], argTypes := #[3, 3] }, type := 3, pos := _, after := #[{ on := 5, ground := Ground.data }, { on := 8, ground := Ground.data }], guard := none }) (v := .int .i64 (k1 : Int)) rfl (by kernel_rfl) (by kernel_rfl) (by kernel_rfl) (by kernel_rfl) (by kernel_rfl) (fun _ _ _ h => h) (Or.inl ⟨rfl, fun W hW => ?_⟩) hH ?_
        · refine QuietRun.of_call (f := 9) (args := #[.int .i64 x.a, .int .i64 (LX : Int)]) ?_ ?_
          · go_simp
          · exact HK1.out W
        try simp only [Act.put, List.setIfInBounds_toArray, List.set_cons_zero, List.set_cons_succ]
        refine wpAnyT_take (i := 10) (oi := { dst := some 48, op := Op.move (Operand.tmp 1), type := 22, pos := _, after := #[], guard := none }) (v := .slice (some ⟨b, off, none⟩) M cap0) rfl (by kernel_rfl) (by kernel_rfl) (by kernel_rfl) (by kernel_rfl) (by kernel_rfl) (fun _ _ _ h => h) (Or.inl ⟨rfl, fun W hW => ?_⟩) hH ?_
        · refine QuietRun.of_run ?_; go_simp
        try simp only [Act.put, List.setIfInBounds_toArray, List.set_cons_zero, List.set_cons_succ]
        refine wpAnyT_take (i := 11) (oi := { dst := some 49, op := Op.move (Operand.tmp 14), type := 3, pos := _, after := #[], guard := none }) (v := .int .i64 (i : Int)) rfl (by kernel_rfl) (by kernel_rfl) (by kernel_rfl) (by kernel_rfl) (by kernel_rfl) (fun _ _ _ h => h) (Or.inl ⟨rfl, fun W hW => ?_⟩) hH ?_
        · refine QuietRun.of_run ?_; go_simp
        try simp only [Act.put, List.setIfInBounds_toArray, List.set_cons_zero, List.set_cons_succ]
        refine wpAnyT_take (i := 12) (oi := { dst := some 50, op := Op.indexAddr 22 (Operand.tmp 48) (Operand.tmp 49), type := 0, pos := _, after := #[{ on := 10, ground := Ground.data }, { on := 11, ground := Ground.data }], guard := none }) (v := .pointer (some ⟨b, off + i * 5, none⟩)) rfl (by kernel_rfl) (by kernel_rfl) (by kernel_rfl) (by kernel_rfl) (by kernel_rfl) (fun _ _ _ h => h) (Or.inl ⟨rfl, fun W hW => ?_⟩) hH ?_
        · refine QuietRun.of_run ?_; go_simp
        try simp only [Act.put, List.setIfInBounds_toArray, List.set_cons_zero, List.set_cons_succ]
        refine wpAnyT_take (i := 13) (oi := { dst := some 51, op := Op.fieldAddr 32 (Operand.tmp 50) 3, type := 0, pos := _, after := #[{ on := 12, ground := Ground.data }], guard := none }) (v := .pointer (some ⟨b, off + i * 5 + 3, none⟩)) rfl (by kernel_rfl) (by kernel_rfl) (by kernel_rfl) (by kernel_rfl) (by kernel_rfl) (fun _ _ _ h => h) (Or.inl ⟨rfl, fun W hW => ?_⟩) hH ?_
        · refine QuietRun.of_run ?_; go_simp
        try simp only [Act.put, List.setIfInBounds_toArray, List.set_cons_zero, List.set_cons_succ]
        refine wpAnyT_take (i := 14) (oi := { dst := some 52, op := Op.load 3 (Operand.tmp 51), type := 3, pos := _, after := #[{ on := 13, ground := Ground.data }], guard := none }) (v := .int .i64 x.c) rfl (by kernel_rfl) (by kernel_rfl) (by kernel_rfl) (by kernel_rfl) (by kernel_rfl) (fun _ _ _ h => h) (Or.inl ⟨rfl, fun W hW => ?_⟩) hH ?_
        · refine QuietRun.of_run ?_; obtain ⟨z0, z1, z2, z3⟩ := hW; go_simp
        try simp only [Act.put, List.setIfInBounds_toArray, List.set_cons_zero, List.set_cons_succ]
        refine wpAnyT_take (i := 15) (oi := { dst := some 53, op := Op.move (Operand.tmp 0), type := 3, pos := _, after := #[], guard := none }) (v := .int .i64 (n : Int)) rfl (by kernel_rfl) (by kernel_rfl) (by kernel_rfl) (by kernel_rfl) (by kernel_rfl) (fun _ _ _ h => h) (Or.inl ⟨rfl, fun W hW => ?_⟩) hH ?_
        · refine QuietRun.of_run ?_; go_simp
        try simp only [Act.put, List.setIfInBounds_toArray, List.set_cons_zero, List.set_cons_succ]
        refine wpAnyT_take (i := 16) (oi := { dst := some 54, op := Op.binOp BinOp.add 3 (Operand.tmp 53) (Operand.const (Value.int IntKind.i64 1)) 3, type := 3, pos := _, after := #[{ on := 15, ground := Ground.data }], guard := none }) (v := .int .i64 (m1 : Int)) rfl (by kernel_rfl) (by kernel_rfl) (by kernel_rfl) (by kernel_rfl) (by kernel_rfl) (fun _ _ _ h => h) (Or.inl ⟨rfl, fun W hW => ?_⟩) hH ?_
        · refine QuietRun.of_run ?_; go_simp
        try simp only [Act.put, List.setIfInBounds_toArray, List.set_cons_zero, List.set_cons_succ]
        refine wpAnyT_take (i := 17) (oi := { dst := some 55, op := Op.call { callee := Callee.value (Operand.func 9), args := #[Operand.tmp 52, Operand.tmp 54], argTypes := #[3, 3] }, type := 3, pos := _, after := #[{ on := 14, ground := Ground.data }, { on := 16, ground := Ground.data }, { on := 9, ground := Ground.chain }], guard := none }) (v := .int .i64 (k2 : Int)) rfl (by kernel_rfl) (by kernel_rfl) (by kernel_rfl) (by kernel_rfl) (by kernel_rfl) (fun _ _ _ h => h) (Or.inl ⟨rfl, fun W hW => ?_⟩) hH ?_
        · refine QuietRun.of_call (f := 9) (args := #[.int .i64 x.c, .int .i64 (m1 : Int)]) ?_ ?_
          · go_simp
          · exact HK2.out W
        try simp only [Act.put, List.setIfInBounds_toArray, List.set_cons_zero, List.set_cons_succ]
        refine wpAnyT_take (i := 18) (oi := { dst := some 56, op := Op.move (Operand.tmp 1), type := 22, pos := _, after := #[], guard := none }) (v := .slice (some ⟨b, off, none⟩) M cap0) rfl (by kernel_rfl) (by kernel_rfl) (by kernel_rfl) (by kernel_rfl) (by kernel_rfl) (fun _ _ _ h => h) (Or.inl ⟨rfl, fun W hW => ?_⟩) hH ?_
        · refine QuietRun.of_run ?_; go_simp
        try simp only [Act.put, List.setIfInBounds_toArray, List.set_cons_zero, List.set_cons_succ]
        refine wpAnyT_take (i := 19) (oi := { dst := some 57, op := Op.move (Operand.tmp 14), type := 3, pos := _, after := #[], guard := none }) (v := .int .i64 (i : Int)) rfl (by kernel_rfl) (by kernel_rfl) (by kernel_rfl) (by kernel_rfl) (by kernel_rfl) (fun _ _ _ h => h) (Or.inl ⟨rfl, fun W hW => ?_⟩) hH ?_
        · refine QuietRun.of_run ?_; go_simp
        try simp only [Act.put, List.setIfInBounds_toArray, List.set_cons_zero, List.set_cons_succ]
        refine wpAnyT_take (i := 20) (oi := { dst := some 58, op := Op.indexAddr 22 (Operand.tmp 56) (Operand.tmp 57), type := 0, pos := _, after := #[{ on := 18, ground := Ground.data }, { on := 19, ground := Ground.data }], guard := none }) (v := .pointer (some ⟨b, off + i * 5, none⟩)) rfl (by kernel_rfl) (by kernel_rfl) (by kernel_rfl) (by kernel_rfl) (by kernel_rfl) (fun _ _ _ h => h) (Or.inl ⟨rfl, fun W hW => ?_⟩) hH ?_
        · refine QuietRun.of_run ?_; go_simp
        try simp only [Act.put, List.setIfInBounds_toArray, List.set_cons_zero, List.set_cons_succ]
        refine wpAnyT_take (i := 21) (oi := { dst := some 59, op := Op.fieldAddr 32 (Operand.tmp 58) 3, type := 0, pos := _, after := #[{ on := 20, ground := Ground.data }], guard := none }) (v := .pointer (some ⟨b, off + i * 5 + 3, none⟩)) rfl (by kernel_rfl) (by kernel_rfl) (by kernel_rfl) (by kernel_rfl) (by kernel_rfl) (fun _ _ _ h => h) (Or.inl ⟨rfl, fun W hW => ?_⟩) hH ?_
        · refine QuietRun.of_run ?_; go_simp
        try simp only [Act.put, List.setIfInBounds_toArray, List.set_cons_zero, List.set_cons_succ]
        refine wpAnyT_take (i := 22) (oi := { dst := some 60, op := Op.load 3 (Operand.tmp 59), type := 3, pos := _, after := #[{ on := 21, ground := Ground.data }], guard := none }) (v := .int .i64 x.c) rfl (by kernel_rfl) (by kernel_rfl) (by kernel_rfl) (by kernel_rfl) (by kernel_rfl) (fun _ _ _ h => h) (Or.inl ⟨rfl, fun W hW => ?_⟩) hH ?_
        · refine QuietRun.of_run ?_; obtain ⟨z0, z1, z2, z3⟩ := hW; go_simp
        try simp only [Act.put, List.setIfInBounds_toArray, List.set_cons_zero, List.set_cons_succ]
        refine wpAnyT_take (i := 23) (oi := { dst := some 61, op := Op.move (Operand.tmp 0), type := 3, pos := _, after := #[], guard := none }) (v := .int .i64 (n : Int)) rfl (by kernel_rfl) (by kernel_rfl) (by kernel_rfl) (by kernel_rfl) (by kernel_rfl) (fun _ _ _ h => h) (Or.inl ⟨rfl, fun W hW => ?_⟩) hH ?_
        · refine QuietRun.of_run ?_; go_simp
        try simp only [Act.put, List.setIfInBounds_toArray, List.set_cons_zero, List.set_cons_succ]
        refine wpAnyT_take (i := 24) (oi := { dst := some 62, op := Op.binOp BinOp.add 3 (Operand.tmp 61) (Operand.const (Value.int IntKind.i64 1)) 3, type := 3, pos := _, after := #[{ on := 23, ground := Ground.data }], guard := none }) (v := .int .i64 (m1 : Int)) rfl (by kernel_rfl) (by kernel_rfl) (by kernel_rfl) (by kernel_rfl) (by kernel_rfl) (fun _ _ _ h => h) (Or.inl ⟨rfl, fun W hW => ?_⟩) hH ?_
        · refine QuietRun.of_run ?_; go_simp
        try simp only [Act.put, List.setIfInBounds_toArray, List.set_cons_zero, List.set_cons_succ]
        refine wpAnyT_take (i := 25) (oi := { dst := some 63, op := Op.call { callee := Callee.value (Operand.func 9), args := #[Operand.tmp 60, Operand.tmp 62], argTypes := #[3, 3] }, type := 3, pos := _, after := #[{ on := 22, ground := Ground.data }, { on := 24, ground := Ground.data }, { on := 17, ground := Ground.chain }], guard := none }) (v := .int .i64 (k2 : Int)) rfl (by kernel_rfl) (by kernel_rfl) (by kernel_rfl) (by kernel_rfl) (by kernel_rfl) (fun _ _ _ h => h) (Or.inl ⟨rfl, fun W hW => ?_⟩) hH ?_
        · refine QuietRun.of_call (f := 9) (args := #[.int .i64 x.c, .int .i64 (m1 : Int)]) ?_ ?_
          · go_simp
          · exact HK2.out W
        try simp only [Act.put, List.setIfInBounds_toArray, List.set_cons_zero, List.set_cons_succ]
        refine wpAnyT_take (i := 26) (oi := { dst := some 64, op := Op.move (Operand.tmp 1), type := 22, pos := _, after := #[], guard := none }) (v := .slice (some ⟨b, off, none⟩) M cap0) rfl (by kernel_rfl) (by kernel_rfl) (by kernel_rfl) (by kernel_rfl) (by kernel_rfl) (fun _ _ _ h => h) (Or.inl ⟨rfl, fun W hW => ?_⟩) hH ?_
        · refine QuietRun.of_run ?_; go_simp
        try simp only [Act.put, List.setIfInBounds_toArray, List.set_cons_zero, List.set_cons_succ]
        refine wpAnyT_take (i := 27) (oi := { dst := some 65, op := Op.move (Operand.tmp 14), type := 3, pos := _, after := #[], guard := none }) (v := .int .i64 (i : Int)) rfl (by kernel_rfl) (by kernel_rfl) (by kernel_rfl) (by kernel_rfl) (by kernel_rfl) (fun _ _ _ h => h) (Or.inl ⟨rfl, fun W hW => ?_⟩) hH ?_
        · refine QuietRun.of_run ?_; go_simp
        try simp only [Act.put, List.setIfInBounds_toArray, List.set_cons_zero, List.set_cons_succ]
        refine wpAnyT_take (i := 28) (oi := { dst := some 66, op := Op.indexAddr 22 (Operand.tmp 64) (Operand.tmp 65), type := 0, pos := _, after := #[{ on := 26, ground := Ground.data }, { on := 27, ground := Ground.data }], guard := none }) (v := .pointer (some ⟨b, off + i * 5, none⟩)) rfl (by kernel_rfl) (by kernel_rfl) (by kernel_rfl) (by kernel_rfl) (by kernel_rfl) (fun _ _ _ h => h) (Or.inl ⟨rfl, fun W hW => ?_⟩) hH ?_
        · refine QuietRun.of_run ?_; go_simp
        try simp only [Act.put, List.setIfInBounds_toArray, List.set_cons_zero, List.set_cons_succ]
        refine wpAnyT_take (i := 29) (oi := { dst := some 67, op := Op.fieldAddr 32 (Operand.tmp 66) 4, type := 0, pos := _, after := #[{ on := 28, ground := Ground.data }], guard := none }) (v := .pointer (some ⟨b, off + i * 5 + 4, none⟩)) rfl (by kernel_rfl) (by kernel_rfl) (by kernel_rfl) (by kernel_rfl) (by kernel_rfl) (fun _ _ _ h => h) (Or.inl ⟨rfl, fun W hW => ?_⟩) hH ?_
        · refine QuietRun.of_run ?_; go_simp
        try simp only [Act.put, List.setIfInBounds_toArray, List.set_cons_zero, List.set_cons_succ]
        refine wpAnyT_take (i := 30) (oi := { dst := some 68, op := Op.load 3 (Operand.tmp 67), type := 3, pos := _, after := #[{ on := 29, ground := Ground.data }], guard := none }) (v := .int .i64 x.d) rfl (by kernel_rfl) (by kernel_rfl) (by kernel_rfl) (by kernel_rfl) (by kernel_rfl) (fun _ _ _ h => h) (Or.inl ⟨rfl, fun W hW => ?_⟩) hH ?_
        · refine QuietRun.of_run ?_; obtain ⟨z0, z1, z2, z3⟩ := hW; go_simp
        try simp only [Act.put, List.setIfInBounds_toArray, List.set_cons_zero, List.set_cons_succ]
        refine wpAnyT_take (i := 31) (oi := { dst := some 69, op := Op.call { callee := Callee.value (Operand.func 9), args := #[Operand.tmp 68, Operand.const (Value.int IntKind.i64 5)], argTypes := #[3, 3] }, type := 3, pos := _, after := #[{ on := 30, ground := Ground.data }, { on := 25, ground := Ground.chain }], guard := none }) (v := .int .i64 (k5 : Int)) rfl (by kernel_rfl) (by kernel_rfl) (by kernel_rfl) (by kernel_rfl) (by kernel_rfl) (fun _ _ _ h => h) (Or.inl ⟨rfl, fun W hW => ?_⟩) hH ?_
        · refine QuietRun.of_call (f := 9) (args := #[.int .i64 x.d, .int .i64 5]) ?_ ?_
          · go_simp
          · exact HK5.out W
        try simp only [Act.put, List.setIfInBounds_toArray, List.set_cons_zero, List.set_cons_succ]
        refine wpAnyT_take (i := 32) (oi := { dst := some 70, op := Op.binOp BinOp.add 3 (Operand.tmp 63) (Operand.tmp 69) 3, type := 3, pos := _, after := #[{ on := 25, ground := Ground.data }, { on := 31, ground := Ground.data }], guard := none }) (v := .int .i64 s1) rfl (by kernel_rfl) (by kernel_rfl) (by kernel_rfl) (by kernel_rfl) (by kernel_rfl) (fun _ _ _ h => h) (Or.inl ⟨rfl, fun W hW => ?_⟩) hH ?_
        · refine QuietRun.of_run ?_; go_simp
        try simp only [Act.put, List.setIfInBounds_toArray, List.set_cons_zero, List.set_cons_succ]
        refine wpAnyT_ready (rs := [33]) (by kernel_rfl) (by simp) ?_
        refine AllReadyT.cons (o := { dst := some 71, op := Op.call { callee := Callee.value (Operand.func 15), args := #[Operand.tmp 38, Operand.tmp 47, Operand.const (Value.int IntKind.i64 3), Operand.tmp 55, Operand.tmp 70], argTypes := #[29, 3, 3, 3, 3] }, type := 37, pos := _, after := #[{ on := 0, ground := Ground.data }, { on := 9, ground := Ground.data }, { on := 17, ground := Ground.data }, { on := 32, ground := Ground.data }, { on := 31, ground := Ground.chain }], guard := none }) rfl (fun K hK => ?_) (AllReadyT.nil)
        go_simp
        refine HAd.out.mono ?_
        rintro e w7 ⟨u7, rfl, hn7, -, hb7⟩
        dsimp only at hn7 ⊢
        obtain ⟨ua, uc, rfl⟩ := hn7.shape
        obtain ⟨un, hun⟩ : ∃ un, X'.length = un := ⟨_, rfl⟩
        rw [hun] at hn7 ⊢
        clear hun
        have hbw := below_from (Below.refl _ wr).drew hb7
        have V7 := HV.out.below hbw
        have c13' := V7.cell
        have f13 := V7.free
        have x1' := at_below hbw x1
        have x3' := at_below hbw x3
        have x4' := at_below hbw x4
        have HVn := Lib.hid (V7.set hn7)
        have HBn := Lib.hid ((below_from HBe.out hbw).setCell (p := ⟨B13, 0, none⟩) w13l (.slice ua un uc))
        clear hbw hb7 V7 hn7
        try go_wp2_with fail
        refine hK.out _ _ (fun _ => ⟨c13', x1', x3', x4'⟩) (fun hH2 => ?_)
        clear hK K
        replace hH := hH2 (by kernel_rfl)
        clear hH2
        try simp only [Act.put, List.setIfInBounds_toArray, List.set_cons_zero, List.set_cons_succ]
        refine wpAnyT_take (i := 34) (oi := { dst := some 37, op := Op.move (Operand.tmp 71), type := 37, pos := _, after := #[{ on := 33, ground := Ground.data }], guard := none }) (v := .tuple #[.agg #[.slice ua un uc], .int .i64 at']) rfl (by kernel_rfl) (by kernel_rfl) (by kernel_rfl) (by kernel_rfl) (by kernel_rfl) (fun _ _ _ h => h) (Or.inl ⟨rfl, fun W hW => ?_⟩) hH ?_
        · refine QuietRun.of_run ?_; go_simp
        try simp only [Act.put, List.setIfInBounds_toArray, List.set_cons_zero, List.set_cons_succ]
        refine wpAnyT_take (i := 35) (oi := { dst := some 72, op := Op.extract (Operand.tmp 37) 0, type := 29, pos := _, after := #[{ on := 34, ground := Ground.data }], guard := none }) (v := .agg #[.slice ua un uc]) rfl (by kernel_rfl) (by kernel_rfl) (by kernel_rfl) (by kernel_rfl) (by kernel_rfl) (fun _ _ _ h => h) (Or.inl ⟨rfl, fun W hW => ?_⟩) hH ?_
        · refine QuietRun.of_run ?_; go_simp
        try simp only [Act.put, List.setIfInBounds_toArray, List.set_cons_zero, List.set_cons_succ]
        refine wpAnyT_take0 (i := 36) (oi := { dst := some 73, op := Op.extract (Operand.tmp 37) 1, type := 3, pos := _, after := #[{ on := 34, ground := Ground.data }, { on := 37, ground := Ground.gcOnly Departure.lateStores }], guard := none }) (v := .int .i64 at') rfl (by kernel_rfl) (by kernel_rfl) (by kernel_rfl) (by kernel_rfl) (fun _ _ _ h => h) (Or.inl ⟨rfl, fun W hW => ?_⟩) (fun _ => hH) ?_
        · refine QuietRun.of_run ?_; go_simp
        try simp only [Act.put, List.setIfInBounds_toArray, List.set_cons_zero, List.set_cons_succ]
        refine wpAnyT_ready (rs := [37]) (by kernel_rfl) (by simp) ?_
        refine AllReadyT.cons (o := { dst := none, op := Op.store 29 (Operand.tmp 13) (Operand.tmp 72), type := 0, pos := _, after := #[{ on := 35, ground := Ground.data }, { on := 33, ground := Ground.chain }, { on := 0, ground := Ground.phase }, { on := 1, ground := Ground.phase }, { on := 2, ground := Ground.phase }, { on := 3, ground := Ground.phase }, { on := 4, ground := Ground.phase }, { on := 5, ground := Ground.phase }, { on := 6, ground := Ground.phase }, { on := 7, ground := Ground.phase }, { on := 8, ground := Ground.phase }, { on := 9, ground := Ground.phase }, { on := 10, ground := Ground.phase }, { on := 11, ground := Ground.phase }, { on := 12, ground := Ground.phase }, { on := 13, ground := Ground.phase }, { on := 14, ground := Ground.phase }, { on := 15, ground := Ground.phase }, { on := 16, ground := Ground.phase }, { on := 17, ground := Ground.phase }, { on := 18, ground := Ground.phase }, { on := 19, ground := Ground.phase }, { on := 20, ground := Ground.phase }, { on := 21, ground := Ground.phase }, { on := 22, ground := Ground.phase }, { on := 23, ground := Ground.phase }, { on := 24, ground := Ground.phase }, { on := 25, ground := Ground.phase }, { on := 26, ground := Ground.phase }, { on := 27, ground := Ground.phase }, { on := 28, ground := Ground.phase }, { on := 29, ground := Ground.phase }, { on := 30, ground := Ground.phase }, { on := 31, ground := Ground.phase }, { on := 32, ground := Ground.phase }, { on := 33, ground := Ground.phase }, { on := 34, ground := Ground.phase }, { on := 35, ground := Ground.phase }, { on := 36, ground := Ground.textOnly Departure.lateStores }], guard := none }) rfl (fun K hK => ?_) (AllReadyT.nil)
        go_simp
        refine hK.out _ _ (fun h => absurd (h.symm.trans (show _ = true from by kernel_rfl)) (by decide)) (fun _ => ?_)
        clear hK K
        try simp only [Act.put, List.setIfInBounds_toArray, List.set_cons_zero, List.set_cons_succ]
        refine wpAnyT_done (by kernel_rfl) ?_ _
        -- END R10
        go_wp2_with fail
        go_roundw
        case rel =>
          first
            | exact ⟨i + 1, X', _, by go_num, by omega, by omega, by omega, HWR, HVn, HBn⟩
            | ((repeat apply Exists.intro); exact ⟨⟨i + 1, X', _, by go_num, by omega, by omega, by omega, HWR, HVn, HBn⟩, rfl⟩)
        case measure => simp [intOf]; omega
end Go.Proofs.Ythkieidcjakhgaa
