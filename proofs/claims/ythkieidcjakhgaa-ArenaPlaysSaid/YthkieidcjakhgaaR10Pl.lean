/- ArenaPlays: whatever is added, and grows, a tree is what the document says. -/
import Derived.Test.YthkieidcjakhgaaVar
import Derived.Test.YthkieidcjakhgaaDr
import Derived.Test.YthkieidcjakhgaaR10Ref
import Derived.Test.YthkieidcjakhgaaArg10
import Derived.Test.YthkieidcjakhgaaAqa
import Derived.Test.YthkieidcjakhgaaAq2
namespace Go.Proofs.Ythkieidcjakhgaa
open Go.RowKit
open Go.Proofs.Ythkieidcjakhgaa.Sq
open Go.Proofs.Ythkieidcjakhgaa.Ar
set_option linter.unusedVariables false

set_option maxHeartbeats 16000000 in
set_option maxRecDepth 100000 in
theorem walk_ArenaPlays (n0 : Int) (v0 : Value) (l0 : List Ac) (w : World) (_ : (Lit.int .i64 n0).wf = true) (h : Acts w v0 l0) :
    Calls Try.prog 3 #[.int .i64 n0, v0] w fun e w' => e = .returned (.bool true) ∧ Below w.heap.size w w' := by
  obtain ⟨a0, cap0, rfl⟩ := h.shape
  have HQ := Lib.hid (fun w' => show Below w.heap.size w w' → (fun e (w' : World) => e = Ending.returned (.bool true) ∧ Below w.heap.size w w') (.returned (.bool true)) w' from fun h => ⟨rfl, h⟩)
  obtain ⟨Q, hQ⟩ : ∃ Q, (fun e (w' : World) => e = Ending.returned (.bool true) ∧ Below w.heap.size w w') = Q := ⟨_, rfl⟩
  rw [hQ] at HQ ⊢
  obtain ⟨n, hn60, -, hwn⟩ := within_lit n0 60 60 rfl (by decide) (by decide)
  have hmx := h.size_le
  have HX := Lib.hid (fun W (hb : Below w.heap.size w W) j x (hj : l0[j]? = some x) => acts_at (h.below hb) j x hj)
  obtain ⟨M, hM⟩ : ∃ M, l0.length = M := ⟨_, rfl⟩
  rw [hM] at hmx ⊢
  simp only [maxLen] at hmx
  have HMl := Lib.hid hM
  have HWn := Lib.hid hwn
  have HK := Lib.hid (known_true aNew)
  clear h hQ hwn hM
  go_enter Try.func3, Try.ntmps3
  go_wp2_with fail
  refine (HK.out _).mono ?_
  rintro e w1 ⟨rfl, hb1⟩
  have HB1 := Lib.hid hb1
  clear hb1
  go_wp2_with fail
  refine (HWn.out _).mono ?_
  rintro e w' ⟨rfl, rfl⟩
  go_wp2_with fail
  refine (aNew (n : Int) w1).mono ?_
  rintro e w2 ⟨u2, rfl, hn2, -, hb2⟩
  obtain ⟨a2, c2, rfl⟩ : ∃ a c, u2 = .slice a 1 c := hn2.shape
  have HB2 := Lib.hid (below_from HB1.out hb2)
  have HN2 := Lib.hid hn2
  clear hn2 hb2
  go_wp2_with fail
  refine (rNew (n : Int) w2).mono ?_
  rintro e w3 ⟨u3, rfl, hn3, -, hb3⟩
  obtain ⟨a3, c3, rfl⟩ : ∃ a c, u3 = .slice a 1 c := hn3.shape
  obtain ⟨w4, hw4⟩ : ∃ w4, (w3.alloc (.cells #[.slice a2 1 c2] 27)).alloc (.cells #[.slice a3 1 c3] 29) = w4 := ⟨_, rfl⟩
  obtain ⟨B5, hB5⟩ : ∃ B5, w3.heap.size = B5 := ⟨_, rfl⟩
  obtain ⟨B6, hB6⟩ : ∃ B6, w3.heap.size + 1 = B6 := ⟨_, rfl⟩
  have hb4 : Below w3.heap.size w3 w4 := hw4 ▸ below_allocS (below_alloc w3 _) _
  have v5 : Var w4 B5 27 (.slice a2 1 c2) (newN n) := by
    rw [← hw4, ← hB5]
    exact (Var.new (HN2.out.below hb3) _).below (below_alloc _ _)
  have v6 : Var w4 B6 29 (.slice a3 1 c3) (newN n) := by
    have h := Var.new (hn3.below (below_alloc w3 (.cells #[.slice a2 1 c2] 27))) 29
    rw [size_alloc, hw4, hB6] at h
    exact h
  have n56 : B5 ≠ B6 := by omega
  have w5l : w.heap.size ≤ B5 := by have h1 := HB2.out.size; have h2 := hb3.size; omega
  have w6l : w.heap.size ≤ B6 := by omega
  have HB4 := Lib.hid (below_from HB2.out (below_from hb3 hb4))
  have HV5 := Lib.hid v5
  have HV6 := Lib.hid v6
  have HWl := Lib.hid (well_new (n : Int))
  have HW4 := Lib.hid hw4
  have HB5 := Lib.hid hB5
  have HB6 := Lib.hid hB6
  clear hn3 hb3 hb4 hw4 hB5 hB6 v5 v6 HN2
  go_upto_region 5 with fail
  rw [HW4.out, HB6.out, HB5.out]
  clear HW4 HB6 HB5
  go_wp2_with fail
  go_loopw [7] (fun iv wr => ∃ (i : Nat) (X : List Nd) (v5 v6 : Value), iv = .int .i64 i ∧ i ≤ M ∧ i ≤ 40 ∧ X.length ≤ 1 + i ∧ Hid (Well X) ∧ Hid (Var wr B5 27 v5 X) ∧ Hid (Var wr B6 29 v6 X) ∧ Hid (Below w.heap.size w wr)) (fun iv _ => M - (intOf iv).toNat)
  case atStart => exact ⟨0, newN n, _, _, rfl, Nat.zero_le _, Nat.zero_le _, by show 1 ≤ 1 + 0; decide, HWl, HV5, HV6, HB4⟩
  case round =>
    clear HV5 HV6 HWl HB4
    obtain ⟨i, X, v5, v6, rfl, hiM, hi40, hX, HWl, HV5, HV6, HBe⟩ := hrel
    obtain ⟨ta, tc, rfl⟩ := HV5.out.shape
    obtain ⟨xa, xc, rfl⟩ := HV6.out.shape
    have hpos := HWl.out.good.pos
    obtain ⟨LX, hLX⟩ : ∃ LX, X.length = LX := ⟨_, rfl⟩
    rw [hLX] at hX hpos HV5 HV6
    have HLX := Lib.hid hLX
    clear hLX
    have hex : (¬ ((i : Int) < (M : Int)) ∧ decide ((i : Int) < (M : Int)) = false ∧ decide (i < M) = false) ∨ ((i : Int) < (M : Int) ∧ ¬ ((i : Int) < 40) ∧ decide (i < M) = true ∧ decide ((i : Int) < 40) = false ∧ decide (i < 40) = false) ∨ (i < M ∧ i < 40) := by
      by_cases h1 : i < M
      · by_cases h2 : i < 40
        · exact .inr (.inr ⟨h1, h2⟩)
        · exact .inr (.inl ⟨by omega, by omega, decide_eq_true h1, decide_eq_false (by omega), decide_eq_false (by omega)⟩)
      · exact .inl ⟨by omega, decide_eq_false (by omega), decide_eq_false h1⟩
    rcases hex with ⟨e1, e2, e3⟩ | ⟨e1, e2, e3, e4, e5⟩ | ⟨hlM, hl40⟩
    · have HD := Lib.hid (HQ.out wr HBe.out)
      go_wp2_with fail
      exact HD.out
    · have HD := Lib.hid (HQ.out wr HBe.out)
      go_wp2_with fail
      exact HD.out
    · obtain ⟨x, hx⟩ : ∃ x, l0[i]? = some x := ⟨_, List.getElem?_eq_getElem (by rw [HMl.out]; exact hlM)⟩
      obtain ⟨b, off, rfl, x0, x1, x2, x3, x4⟩ := HX.out wr HBe.out i x hx
      have i1 : (i : Int) < (M : Int) := by omega
      have i2 : (i : Int) < 40 := by omega
      -- the act's own block
      obtain ⟨wa, hwa⟩ : ∃ wa, wr.alloc (.cells #[.int .i64 x.k, .int .i64 x.a, .int .i64 x.b, .int .i64 x.c, .int .i64 x.d] 32) = wa := ⟨_, rfl⟩
      obtain ⟨Ba, hBa⟩ : ∃ Ba, wr.heap.size = Ba := ⟨_, rfl⟩
      have hba : Below wr.heap.size wr wa := hwa ▸ below_alloc wr _
      have ba := heap_alloc_new wr (.cells #[.int .i64 x.k, .int .i64 x.a, .int .i64 x.b, .int .i64 x.c, .int .i64 x.d] 32)
      rw [hwa, hBa] at ba
      have V5a := HV5.out.below hba
      have V6a := HV6.out.below hba
      have HBa' := Lib.hid (below_from HBe.out hba)
      have n5a : B5 ≠ Ba := by have := HV5.out.lt; omega
      have n6a : B6 ≠ Ba := by have := HV6.out.lt; omega
      have HBlk := Lib.hid ba
      have HW := Lib.hid hwa
      have HBaE := Lib.hid hBa
      have HV5a := Lib.hid V5a
      have HV6a := Lib.hid V6a
      clear hx hwa hBa hba ba V5a V6a
      go_upto_region 9 with fail
      rw [HW.out, HBaE.out]
      clear HW HBaE x0 x1 x2 x3 x4 HV5 HV6 HBe
      have HGr := Lib.hid (fun W (hb : Below wa.heap.size wa W) => show Calls Try.prog 12 #[.agg #[.slice ta LX tc], .int .i64 0, .int .i64 0] W (Treed true X W) from by
        have h := rGrow (.slice ta LX tc) X 0 0 W (HV5a.out.below hb).nd HWl.out.good (by rw [HLX.out]; omega) (fun z hz => by have h1 := HWl.out.few z hz; rw [HLX.out] at h1; omega)
        rw [(grow_zero HWl.out).1, (grow_zero HWl.out).2] at h
        exact h)
      have HN5 := Lib.hid (fun W (hb : Below wa.heap.size wa W) => (HV5a.out.below hb).nd)
      have c5 := HV5a.out.cell
      go_cut [9, 10] (fun p q wx => ∃ B9 B10 ug, p = .pointer (some ⟨B9, 0, none⟩) ∧ q = .pointer (some ⟨B10, 0, none⟩) ∧ wa.heap.size ≤ B9 ∧ wa.heap.size ≤ B10 ∧ B9 ≠ B10 ∧ Hid (Var wx B9 27 (.slice ta LX tc) X) ∧ Hid (Var wx B10 29 ug X) ∧ Hid (Below wa.heap.size wa wx))
      case first =>
        as_aux_lemma =>
        go_wp2_with fail
        -- GEN R9
        refine wp_region_T (fun wx => wx.cell? ⟨B5, 0, none⟩ = some (.slice ta LX tc)) 7 (by kernel_rfl) ?_
        have hH : (fun wx : World => wx.cell? ⟨B5, 0, none⟩ = some (.slice ta LX tc)) wa.drew := at_drew c5
        have be := (Below.refl wa.heap.size wa).drew
        refine wpAnyT_take (i := 0) (oi := { dst := some 39, op := Op.load 27 (Operand.tmp 5), type := 27, pos := _, after := #[], guard := none }) (v := .agg #[.slice ta LX tc]) rfl (by kernel_rfl) (by kernel_rfl) (by kernel_rfl) (by kernel_rfl) (by kernel_rfl) (fun _ _ _ h => h) (Or.inl ⟨rfl, fun W hW => ?_⟩) hH ?_
        · refine QuietRun.of_run ?_; have z0 := hW; go_simp
        try simp only [Act.put, List.setIfInBounds_toArray, List.set_cons_zero, List.set_cons_succ]
        refine wpAnyT_take (i := 1) (oi := { dst := some 40, op := Op.load 27 (Operand.tmp 5), type := 27, pos := _, after := #[], guard := none }) (v := .agg #[.slice ta LX tc]) rfl (by kernel_rfl) (by kernel_rfl) (by kernel_rfl) (by kernel_rfl) (by kernel_rfl) (fun _ _ _ h => h) (Or.inl ⟨rfl, fun W hW => ?_⟩) hH ?_
        · refine QuietRun.of_run ?_; have z0 := hW; go_simp
        try simp only [Act.put, List.setIfInBounds_toArray, List.set_cons_zero, List.set_cons_succ]
        refine wpAnyT_ready (rs := [2, 4, 5]) (by kernel_rfl) (by simp) ?_
        refine AllReadyT.cons (o := { dst := some 41, op := Op.call { callee := Callee.value (Operand.func 13), args := #[Operand.tmp 40], argTypes := #[27] }, type := 29, pos := _, after := #[{ on := 1, ground := Ground.data }], guard := none }) rfl (fun K hK => ?_) (AllReadyT.cons (o := { dst := some 9, op := Op.alloc 27, type := 0, pos := _, after := #[], guard := none }) rfl (fun K hK => ?_) (AllReadyT.cons (o := { dst := some 10, op := Op.alloc 29, type := 0, pos := _, after := #[], guard := none }) rfl (fun K hK => ?_) (AllReadyT.nil)))
        · skip
          go_simp
          refine (toRef_any ta LX tc wa.drew).mono ?_
          rintro e w1 ⟨rfl, hb⟩
          have be := below_from be hb
          clear hb
          try go_wp2_with fail
          refine hK.out _ _ (fun _ => at_below be c5) (fun hH2 => ?_)
          clear hK K
          replace hH := hH2 (by kernel_rfl)
          clear hH2
          try simp only [Act.put, List.setIfInBounds_toArray, List.set_cons_zero, List.set_cons_succ]
          refine wpAnyT_ready (rs := [3, 4, 5]) (by kernel_rfl) (by simp) ?_
          refine AllReadyT.cons (o := { dst := some 42, op := Op.call { callee := Callee.value (Operand.func 12), args := #[Operand.tmp 41, Operand.const (Value.int IntKind.i64 0), Operand.const (Value.int IntKind.i64 0)], argTypes := #[29, 3, 3] }, type := 29, pos := _, after := #[{ on := 2, ground := Ground.data }, { on := 2, ground := Ground.chain }], guard := none }) rfl (fun K hK => ?_) (AllReadyT.cons (o := { dst := some 9, op := Op.alloc 27, type := 0, pos := _, after := #[], guard := none }) rfl (fun K hK => ?_) (AllReadyT.cons (o := { dst := some 10, op := Op.alloc 29, type := 0, pos := _, after := #[], guard := none }) rfl (fun K hK => ?_) (AllReadyT.nil)))
          · skip
            go_simp
            refine (HGr.out w1 be).mono ?_
            rintro e w2 ⟨ug, rfl, ng, -, hb⟩
            obtain ⟨ga, gc, rfl⟩ := ng.shape
            rw [HLX.out] at ng ⊢
            obtain ⟨ug, hug⟩ : ∃ ug, (Value.slice ga LX gc) = ug := ⟨_, rfl⟩
            have be := below_from be hb
            clear hb
            try go_wp2_with fail
            try rw [hug]
            rw [hug] at ng
            have hug2 : ∃ ga gc, ug = .slice ga LX gc := ⟨ga, gc, hug.symm⟩
            clear hug
            refine hK.out _ _ (fun _ => at_below be c5) (fun hH2 => ?_)
            clear hK K
            replace hH := hH2 (by kernel_rfl)
            clear hH2
            try simp only [Act.put, List.setIfInBounds_toArray, List.set_cons_zero, List.set_cons_succ]
            refine wpAnyT_ready (rs := [4, 5]) (by kernel_rfl) (by simp) ?_
            refine AllReadyT.cons (o := { dst := some 9, op := Op.alloc 27, type := 0, pos := _, after := #[], guard := none }) rfl (fun K hK => ?_) (AllReadyT.cons (o := { dst := some 10, op := Op.alloc 29, type := 0, pos := _, after := #[], guard := none }) rfl (fun K hK => ?_) (AllReadyT.nil))
            · skip
              go_simp
              obtain ⟨B9, hB⟩ : ∃ x, (w2).heap.size = x := ⟨_, rfl⟩
              obtain ⟨w3, hW⟩ : ∃ x, (w2).alloc (.cells #[.slice none 0 0] 27) = x := ⟨_, rfl⟩
              have hb := below_alloc (w2) (.cells #[.slice none 0 0] 27)
              have nb := heap_alloc_new (w2) (.cells #[.slice none 0 0] 27)
              rw [hW] at hb nb
              rw [hB] at nb
              have l9 : wa.heap.size ≤ B9 := by have := be.size; omega
              have ng := ng.below hb
              have be := below_from be hb
              have b9 := nb
              try rw [hW]
              try rw [hB]
              clear hb nb hW hB
              refine hK.out _ _ (fun _ => at_below be c5) (fun hH2 => ?_)
              clear hK K
              replace hH := hH2 (by kernel_rfl)
              clear hH2
              try simp only [Act.put, List.setIfInBounds_toArray, List.set_cons_zero, List.set_cons_succ]
              refine wpAnyT_ready (rs := [5]) (by kernel_rfl) (by simp) ?_
              refine AllReadyT.cons (o := { dst := some 10, op := Op.alloc 29, type := 0, pos := _, after := #[], guard := none }) rfl (fun K hK => ?_) (AllReadyT.nil)
              go_simp
              obtain ⟨B10, hB⟩ : ∃ x, (w3).heap.size = x := ⟨_, rfl⟩
              obtain ⟨w4, hW⟩ : ∃ x, (w3).alloc (.cells #[.slice none 0 0] 29) = x := ⟨_, rfl⟩
              have hb := below_alloc (w3) (.cells #[.slice none 0 0] 29)
              have nb := heap_alloc_new (w3) (.cells #[.slice none 0 0] 29)
              rw [hW] at hb nb
              rw [hB] at nb
              have l10 : wa.heap.size ≤ B10 := by have := be.size; omega
              have n910 : B9 ≠ B10 := by have := lt_of_block b9; omega
              have b9 := (hb.block B9 (lt_of_block b9)).trans b9
              have ng := ng.below hb
              have be := below_from be hb
              have b10 := nb
              try rw [hW]
              try rw [hB]
              clear hb nb hW hB
              refine hK.out _ _ (fun _ => at_below be c5) (fun hH2 => ?_)
              clear hK K
              replace hH := hH2 (by kernel_rfl)
              clear hH2
              try simp only [Act.put, List.setIfInBounds_toArray, List.set_cons_zero, List.set_cons_succ]
              refine wpAnyT_ready (rs := [6]) (by kernel_rfl) (by simp) ?_
              refine AllReadyT.cons (o := { dst := none, op := Op.store 27 (Operand.tmp 9) (Operand.tmp 39), type := 0, pos := _, after := #[{ on := 4, ground := Ground.data }, { on := 0, ground := Ground.data }, { on := 3, ground := Ground.chain }, { on := 0, ground := Ground.phase }, { on := 1, ground := Ground.textOnly Departure.lateStores }, { on := 2, ground := Ground.textOnly Departure.lateStoresUnsure }, { on := 3, ground := Ground.textOnly Departure.lateStoresUnsure }, { on := 4, ground := Ground.phase }, { on := 5, ground := Ground.phase }], guard := none }) rfl (fun K hK => ?_) (AllReadyT.nil)
              have c9 := cell_of_one b9
              have f9 := free_of_one b9
              go_simp
              have b9 := one_setCell (u := .slice ta LX tc) b9
              have b10 := (Below.heap_setCell w4 ⟨B9, 0, none⟩ (.slice ta LX tc) B10 (fun e => n910 e.symm)).trans b10
              have ng := ng.set c9 (.slice ta LX tc)
              have n9 := ((HN5.out w4 be).set c9 (.slice ta LX tc))
              have be := be.setCell (p := ⟨B9, 0, none⟩) l9 (.slice ta LX tc)
              obtain ⟨w5, hW⟩ : ∃ x, World.setCell w4 ⟨B9, 0, none⟩ (.slice ta LX tc) = x := ⟨_, rfl⟩
              rw [hW] at b9 b10 ng n9 be
              rw [hW]
              clear hW c9 f9
              refine hK.out _ _ (fun _ => at_below be c5) (fun hH2 => ?_)
              clear hK K
              replace hH := hH2 (by kernel_rfl)
              clear hH2
              try simp only [Act.put, List.setIfInBounds_toArray, List.set_cons_zero, List.set_cons_succ]
              refine wpAnyT_ready (rs := [7]) (by kernel_rfl) (by simp) ?_
              refine AllReadyT.cons (o := { dst := none, op := Op.store 29 (Operand.tmp 10) (Operand.tmp 42), type := 0, pos := _, after := #[{ on := 5, ground := Ground.data }, { on := 3, ground := Ground.data }, { on := 6, ground := Ground.chain }, { on := 0, ground := Ground.phase }, { on := 1, ground := Ground.phase }, { on := 2, ground := Ground.phase }, { on := 3, ground := Ground.phase }, { on := 4, ground := Ground.phase }, { on := 5, ground := Ground.phase }, { on := 6, ground := Ground.phase }], guard := none }) rfl (fun K hK => ?_) (AllReadyT.nil)
              have c10 := cell_of_one b10
              have f10 := free_of_one b10
              obtain ⟨ga, gc, rfl⟩ := hug2
              go_simp
              have b10 := one_setCell (u := .slice ga LX gc) b10
              have b9 := (Below.heap_setCell w5 ⟨B10, 0, none⟩ (.slice ga LX gc) B9 n910).trans b9
              have ng := ng.set c10 (.slice ga LX gc)
              have n9 := n9.set c10 (.slice ga LX gc)
              have be := be.setCell (p := ⟨B10, 0, none⟩) l10 (.slice ga LX gc)
              obtain ⟨w6, hW⟩ : ∃ x, World.setCell w5 ⟨B10, 0, none⟩ (.slice ga LX gc) = x := ⟨_, rfl⟩
              rw [hW] at b9 b10 ng n9 be
              rw [hW]
              clear hW c10 f10
              obtain ⟨ug, hug⟩ : ∃ ug, (Value.slice ga LX gc) = ug := ⟨_, rfl⟩
              rw [hug] at ng b10
              refine hK.out _ _ (fun h => absurd (h.symm.trans (show _ = true from by kernel_rfl)) (by decide)) (fun _ => ?_)
              clear hK K
              try simp only [Act.put, List.setIfInBounds_toArray, List.set_cons_zero, List.set_cons_succ]
              refine wpAnyT_done (by kernel_rfl) ?_ _
              go_wp2_with fail
              go_meet
              exact ⟨B9, B10, ug, rfl, rfl, l9, l10, n910, Lib.hid ⟨b9, n9⟩, Lib.hid ⟨b10, ng⟩, Lib.hid be⟩
            · skip
              go_simp
              obtain ⟨B10, hB⟩ : ∃ x, (w2).heap.size = x := ⟨_, rfl⟩
              obtain ⟨w7, hW⟩ : ∃ x, (w2).alloc (.cells #[.slice none 0 0] 29) = x := ⟨_, rfl⟩
              have hb := below_alloc (w2) (.cells #[.slice none 0 0] 29)
              have nb := heap_alloc_new (w2) (.cells #[.slice none 0 0] 29)
              rw [hW] at hb nb
              rw [hB] at nb
              have l10 : wa.heap.size ≤ B10 := by have := be.size; omega
              have ng := ng.below hb
              have be := below_from be hb
              have b10 := nb
              try rw [hW]
              try rw [hB]
              clear hb nb hW hB
              refine hK.out _ _ (fun _ => at_below be c5) (fun hH2 => ?_)
              clear hK K
              replace hH := hH2 (by kernel_rfl)
              clear hH2
              try simp only [Act.put, List.setIfInBounds_toArray, List.set_cons_zero, List.set_cons_succ]
              refine wpAnyT_ready (rs := [4]) (by kernel_rfl) (by simp) ?_
              refine AllReadyT.cons (o := { dst := some 9, op := Op.alloc 27, type := 0, pos := _, after := #[], guard := none }) rfl (fun K hK => ?_) (AllReadyT.nil)
              go_simp
              obtain ⟨B9, hB⟩ : ∃ x, (w7).heap.size = x := ⟨_, rfl⟩
              obtain ⟨w8, hW⟩ : ∃ x, (w7).alloc (.cells #[.slice none 0 0] 27) = x := ⟨_, rfl⟩
              have hb := below_alloc (w7) (.cells #[.slice none 0 0] 27)
              have nb := heap_alloc_new (w7) (.cells #[.slice none 0 0] 27)
              rw [hW] at hb nb
              rw [hB] at nb
              have l9 : wa.heap.size ≤ B9 := by have := be.size; omega
              have n910 : B9 ≠ B10 := by have := lt_of_block b10; omega
              have b10 := (hb.block B10 (lt_of_block b10)).trans b10
              have ng := ng.below hb
              have be := below_from be hb
              have b9 := nb
              try rw [hW]
              try rw [hB]
              clear hb nb hW hB
              refine hK.out _ _ (fun _ => at_below be c5) (fun hH2 => ?_)
              clear hK K
              replace hH := hH2 (by kernel_rfl)
              clear hH2
              try simp only [Act.put, List.setIfInBounds_toArray, List.set_cons_zero, List.set_cons_succ]
              refine wpAnyT_ready (rs := [6]) (by kernel_rfl) (by simp) ?_
              refine AllReadyT.cons (o := { dst := none, op := Op.store 27 (Operand.tmp 9) (Operand.tmp 39), type := 0, pos := _, after := #[{ on := 4, ground := Ground.data }, { on := 0, ground := Ground.data }, { on := 3, ground := Ground.chain }, { on := 0, ground := Ground.phase }, { on := 1, ground := Ground.textOnly Departure.lateStores }, { on := 2, ground := Ground.textOnly Departure.lateStoresUnsure }, { on := 3, ground := Ground.textOnly Departure.lateStoresUnsure }, { on := 4, ground := Ground.phase }, { on := 5, ground := Ground.phase }], guard := none }) rfl (fun K hK => ?_) (AllReadyT.nil)
              have c9 := cell_of_one b9
              have f9 := free_of_one b9
              go_simp
              have b9 := one_setCell (u := .slice ta LX tc) b9
              have b10 := (Below.heap_setCell w8 ⟨B9, 0, none⟩ (.slice ta LX tc) B10 (fun e => n910 e.symm)).trans b10
              have ng := ng.set c9 (.slice ta LX tc)
              have n9 := ((HN5.out w8 be).set c9 (.slice ta LX tc))
              have be := be.setCell (p := ⟨B9, 0, none⟩) l9 (.slice ta LX tc)
              obtain ⟨w9, hW⟩ : ∃ x, World.setCell w8 ⟨B9, 0, none⟩ (.slice ta LX tc) = x := ⟨_, rfl⟩
              rw [hW] at b9 b10 ng n9 be
              rw [hW]
              clear hW c9 f9
              refine hK.out _ _ (fun _ => at_below be c5) (fun hH2 => ?_)
              clear hK K
              replace hH := hH2 (by kernel_rfl)
              clear hH2
              try simp only [Act.put, List.setIfInBounds_toArray, List.set_cons_zero, List.set_cons_succ]
              refine wpAnyT_ready (rs := [7]) (by kernel_rfl) (by simp) ?_
              refine AllReadyT.cons (o := { dst := none, op := Op.store 29 (Operand.tmp 10) (Operand.tmp 42), type := 0, pos := _, after := #[{ on := 5, ground := Ground.data }, { on := 3, ground := Ground.data }, { on := 6, ground := Ground.chain }, { on := 0, ground := Ground.phase }, { on := 1, ground := Ground.phase }, { on := 2, ground := Ground.phase }, { on := 3, ground := Ground.phase }, { on := 4, ground := Ground.phase }, { on := 5, ground := Ground.phase }, { on := 6, ground := Ground.phase }], guard := none }) rfl (fun K hK => ?_) (AllReadyT.nil)
              have c10 := cell_of_one b10
              have f10 := free_of_one b10
              obtain ⟨ga, gc, rfl⟩ := hug2
              go_simp
              have b10 := one_setCell (u := .slice ga LX gc) b10
              have b9 := (Below.heap_setCell w9 ⟨B10, 0, none⟩ (.slice ga LX gc) B9 n910).trans b9
              have ng := ng.set c10 (.slice ga LX gc)
              have n9 := n9.set c10 (.slice ga LX gc)
              have be := be.setCell (p := ⟨B10, 0, none⟩) l10 (.slice ga LX gc)
              obtain ⟨w10, hW⟩ : ∃ x, World.setCell w9 ⟨B10, 0, none⟩ (.slice ga LX gc) = x := ⟨_, rfl⟩
              rw [hW] at b9 b10 ng n9 be
              rw [hW]
              clear hW c10 f10
              obtain ⟨ug, hug⟩ : ∃ ug, (Value.slice ga LX gc) = ug := ⟨_, rfl⟩
              rw [hug] at ng b10
              refine hK.out _ _ (fun h => absurd (h.symm.trans (show _ = true from by kernel_rfl)) (by decide)) (fun _ => ?_)
              clear hK K
              try simp only [Act.put, List.setIfInBounds_toArray, List.set_cons_zero, List.set_cons_succ]
              refine wpAnyT_done (by kernel_rfl) ?_ _
              go_wp2_with fail
              go_meet
              exact ⟨B9, B10, ug, rfl, rfl, l9, l10, n910, Lib.hid ⟨b9, n9⟩, Lib.hid ⟨b10, ng⟩, Lib.hid be⟩
          · skip
            go_simp
            obtain ⟨B9, hB⟩ : ∃ x, (w1).heap.size = x := ⟨_, rfl⟩
            obtain ⟨w11, hW⟩ : ∃ x, (w1).alloc (.cells #[.slice none 0 0] 27) = x := ⟨_, rfl⟩
            have hb := below_alloc (w1) (.cells #[.slice none 0 0] 27)
            have nb := heap_alloc_new (w1) (.cells #[.slice none 0 0] 27)
            rw [hW] at hb nb
            rw [hB] at nb
            have l9 : wa.heap.size ≤ B9 := by have := be.size; omega
            have be := below_from be hb
            have b9 := nb
            try rw [hW]
            try rw [hB]
            clear hb nb hW hB
            refine hK.out _ _ (fun _ => at_below be c5) (fun hH2 => ?_)
            clear hK K
            replace hH := hH2 (by kernel_rfl)
            clear hH2
            try simp only [Act.put, List.setIfInBounds_toArray, List.set_cons_zero, List.set_cons_succ]
            refine wpAnyT_ready (rs := [3, 5]) (by kernel_rfl) (by simp) ?_
            refine AllReadyT.cons (o := { dst := some 42, op := Op.call { callee := Callee.value (Operand.func 12), args := #[Operand.tmp 41, Operand.const (Value.int IntKind.i64 0), Operand.const (Value.int IntKind.i64 0)], argTypes := #[29, 3, 3] }, type := 29, pos := _, after := #[{ on := 2, ground := Ground.data }, { on := 2, ground := Ground.chain }], guard := none }) rfl (fun K hK => ?_) (AllReadyT.cons (o := { dst := some 10, op := Op.alloc 29, type := 0, pos := _, after := #[], guard := none }) rfl (fun K hK => ?_) (AllReadyT.nil))
            · skip
              go_simp
              refine (HGr.out w11 be).mono ?_
              rintro e w12 ⟨ug, rfl, ng, -, hb⟩
              obtain ⟨ga, gc, rfl⟩ := ng.shape
              rw [HLX.out] at ng ⊢
              obtain ⟨ug, hug⟩ : ∃ ug, (Value.slice ga LX gc) = ug := ⟨_, rfl⟩
              have b9 := (hb.block B9 (lt_of_block b9)).trans b9
              have be := below_from be hb
              clear hb
              try go_wp2_with fail
              try rw [hug]
              rw [hug] at ng
              have hug2 : ∃ ga gc, ug = .slice ga LX gc := ⟨ga, gc, hug.symm⟩
              clear hug
              refine hK.out _ _ (fun _ => at_below be c5) (fun hH2 => ?_)
              clear hK K
              replace hH := hH2 (by kernel_rfl)
              clear hH2
              try simp only [Act.put, List.setIfInBounds_toArray, List.set_cons_zero, List.set_cons_succ]
              refine wpAnyT_ready (rs := [5]) (by kernel_rfl) (by simp) ?_
              refine AllReadyT.cons (o := { dst := some 10, op := Op.alloc 29, type := 0, pos := _, after := #[], guard := none }) rfl (fun K hK => ?_) (AllReadyT.nil)
              go_simp
              obtain ⟨B10, hB⟩ : ∃ x, (w12).heap.size = x := ⟨_, rfl⟩
              obtain ⟨w13, hW⟩ : ∃ x, (w12).alloc (.cells #[.slice none 0 0] 29) = x := ⟨_, rfl⟩
              have hb := below_alloc (w12) (.cells #[.slice none 0 0] 29)
              have nb := heap_alloc_new (w12) (.cells #[.slice none 0 0] 29)
              rw [hW] at hb nb
              rw [hB] at nb
              have l10 : wa.heap.size ≤ B10 := by have := be.size; omega
              have n910 : B9 ≠ B10 := by have := lt_of_block b9; omega
              have b9 := (hb.block B9 (lt_of_block b9)).trans b9
              have ng := ng.below hb
              have be := below_from be hb
              have b10 := nb
              try rw [hW]
              try rw [hB]
              clear hb nb hW hB
              refine hK.out _ _ (fun _ => at_below be c5) (fun hH2 => ?_)
              clear hK K
              replace hH := hH2 (by kernel_rfl)
              clear hH2
              try simp only [Act.put, List.setIfInBounds_toArray, List.set_cons_zero, List.set_cons_succ]
              refine wpAnyT_ready (rs := [6]) (by kernel_rfl) (by simp) ?_
              refine AllReadyT.cons (o := { dst := none, op := Op.store 27 (Operand.tmp 9) (Operand.tmp 39), type := 0, pos := _, after := #[{ on := 4, ground := Ground.data }, { on := 0, ground := Ground.data }, { on := 3, ground := Ground.chain }, { on := 0, ground := Ground.phase }, { on := 1, ground := Ground.textOnly Departure.lateStores }, { on := 2, ground := Ground.textOnly Departure.lateStoresUnsure }, { on := 3, ground := Ground.textOnly Departure.lateStoresUnsure }, { on := 4, ground := Ground.phase }, { on := 5, ground := Ground.phase }], guard := none }) rfl (fun K hK => ?_) (AllReadyT.nil)
              have c9 := cell_of_one b9
              have f9 := free_of_one b9
              go_simp
              have b9 := one_setCell (u := .slice ta LX tc) b9
              have b10 := (Below.heap_setCell w13 ⟨B9, 0, none⟩ (.slice ta LX tc) B10 (fun e => n910 e.symm)).trans b10
              have ng := ng.set c9 (.slice ta LX tc)
              have n9 := ((HN5.out w13 be).set c9 (.slice ta LX tc))
              have be := be.setCell (p := ⟨B9, 0, none⟩) l9 (.slice ta LX tc)
              obtain ⟨w14, hW⟩ : ∃ x, World.setCell w13 ⟨B9, 0, none⟩ (.slice ta LX tc) = x := ⟨_, rfl⟩
              rw [hW] at b9 b10 ng n9 be
              rw [hW]
              clear hW c9 f9
              refine hK.out _ _ (fun _ => at_below be c5) (fun hH2 => ?_)
              clear hK K
              replace hH := hH2 (by kernel_rfl)
              clear hH2
              try simp only [Act.put, List.setIfInBounds_toArray, List.set_cons_zero, List.set_cons_succ]
              refine wpAnyT_ready (rs := [7]) (by kernel_rfl) (by simp) ?_
              refine AllReadyT.cons (o := { dst := none, op := Op.store 29 (Operand.tmp 10) (Operand.tmp 42), type := 0, pos := _, after := #[{ on := 5, ground := Ground.data }, { on := 3, ground := Ground.data }, { on := 6, ground := Ground.chain }, { on := 0, ground := Ground.phase }, { on := 1, ground := Ground.phase }, { on := 2, ground := Ground.phase }, { on := 3, ground := Ground.phase }, { on := 4, ground := Ground.phase }, { on := 5, ground := Ground.phase }, { on := 6, ground := Ground.phase }], guard := none }) rfl (fun K hK => ?_) (AllReadyT.nil)
              have c10 := cell_of_one b10
              have f10 := free_of_one b10
              obtain ⟨ga, gc, rfl⟩ := hug2
              go_simp
              have b10 := one_setCell (u := .slice ga LX gc) b10
              have b9 := (Below.heap_setCell w14 ⟨B10, 0, none⟩ (.slice ga LX gc) B9 n910).trans b9
              have ng := ng.set c10 (.slice ga LX gc)
              have n9 := n9.set c10 (.slice ga LX gc)
              have be := be.setCell (p := ⟨B10, 0, none⟩) l10 (.slice ga LX gc)
              obtain ⟨w15, hW⟩ : ∃ x, World.setCell w14 ⟨B10, 0, none⟩ (.slice ga LX gc) = x := ⟨_, rfl⟩
              rw [hW] at b9 b10 ng n9 be
              rw [hW]
              clear hW c10 f10
              obtain ⟨ug, hug⟩ : ∃ ug, (Value.slice ga LX gc) = ug := ⟨_, rfl⟩
              rw [hug] at ng b10
              refine hK.out _ _ (fun h => absurd (h.symm.trans (show _ = true from by kernel_rfl)) (by decide)) (fun _ => ?_)
              clear hK K
              try simp only [Act.put, List.setIfInBounds_toArray, List.set_cons_zero, List.set_cons_succ]
              refine wpAnyT_done (by kernel_rfl) ?_ _
              go_wp2_with fail
              go_meet
              exact ⟨B9, B10, ug, rfl, rfl, l9, l10, n910, Lib.hid ⟨b9, n9⟩, Lib.hid ⟨b10, ng⟩, Lib.hid be⟩
            · skip
              go_simp
              obtain ⟨B10, hB⟩ : ∃ x, (w11).heap.size = x := ⟨_, rfl⟩
              obtain ⟨w16, hW⟩ : ∃ x, (w11).alloc (.cells #[.slice none 0 0] 29) = x := ⟨_, rfl⟩
              have hb := below_alloc (w11) (.cells #[.slice none 0 0] 29)
              have nb := heap_alloc_new (w11) (.cells #[.slice none 0 0] 29)
              rw [hW] at hb nb
              rw [hB] at nb
              have l10 : wa.heap.size ≤ B10 := by have := be.size; omega
              have n910 : B9 ≠ B10 := by have := lt_of_block b9; omega
              have b9 := (hb.block B9 (lt_of_block b9)).trans b9
              have be := below_from be hb
              have b10 := nb
              try rw [hW]
              try rw [hB]
              clear hb nb hW hB
              refine hK.out _ _ (fun _ => at_below be c5) (fun hH2 => ?_)
              clear hK K
              replace hH := hH2 (by kernel_rfl)
              clear hH2
              try simp only [Act.put, List.setIfInBounds_toArray, List.set_cons_zero, List.set_cons_succ]
              refine wpAnyT_ready (rs := [3]) (by kernel_rfl) (by simp) ?_
              refine AllReadyT.cons (o := { dst := some 42, op := Op.call { callee := Callee.value (Operand.func 12), args := #[Operand.tmp 41, Operand.const (Value.int IntKind.i64 0), Operand.const (Value.int IntKind.i64 0)], argTypes := #[29, 3, 3] }, type := 29, pos := _, after := #[{ on := 2, ground := Ground.data }, { on := 2, ground := Ground.chain }], guard := none }) rfl (fun K hK => ?_) (AllReadyT.nil)
              go_simp
              refine (HGr.out w16 be).mono ?_
              rintro e w17 ⟨ug, rfl, ng, -, hb⟩
              obtain ⟨ga, gc, rfl⟩ := ng.shape
              rw [HLX.out] at ng ⊢
              obtain ⟨ug, hug⟩ : ∃ ug, (Value.slice ga LX gc) = ug := ⟨_, rfl⟩
              have b9 := (hb.block B9 (lt_of_block b9)).trans b9
              have b10 := (hb.block B10 (lt_of_block b10)).trans b10
              have be := below_from be hb
              clear hb
              try go_wp2_with fail
              try rw [hug]
              rw [hug] at ng
              have hug2 : ∃ ga gc, ug = .slice ga LX gc := ⟨ga, gc, hug.symm⟩
              clear hug
              refine hK.out _ _ (fun _ => at_below be c5) (fun hH2 => ?_)
              clear hK K
              replace hH := hH2 (by kernel_rfl)
              clear hH2
              try simp only [Act.put, List.setIfInBounds_toArray, List.set_cons_zero, List.set_cons_succ]
              refine wpAnyT_ready (rs := [6]) (by kernel_rfl) (by simp) ?_
              refine AllReadyT.cons (o := { dst := none, op := Op.store 27 (Operand.tmp 9) (Operand.tmp 39), type := 0, pos := _, after := #[{ on := 4, ground := Ground.data }, { on := 0, ground := Ground.data }, { on := 3, ground := Ground.chain }, { on := 0, ground := Ground.phase }, { on := 1, ground := Ground.textOnly Departure.lateStores }, { on := 2, ground := Ground.textOnly Departure.lateStoresUnsure }, { on := 3, ground := Ground.textOnly Departure.lateStoresUnsure }, { on := 4, ground := Ground.phase }, { on := 5, ground := Ground.phase }], guard := none }) rfl (fun K hK => ?_) (AllReadyT.nil)
              have c9 := cell_of_one b9
              have f9 := free_of_one b9
              go_simp
              have b9 := one_setCell (u := .slice ta LX tc) b9
              have b10 := (Below.heap_setCell w17 ⟨B9, 0, none⟩ (.slice ta LX tc) B10 (fun e => n910 e.symm)).trans b10
              have ng := ng.set c9 (.slice ta LX tc)
              have n9 := ((HN5.out w17 be).set c9 (.slice ta LX tc))
              have be := be.setCell (p := ⟨B9, 0, none⟩) l9 (.slice ta LX tc)
              obtain ⟨w18, hW⟩ : ∃ x, World.setCell w17 ⟨B9, 0, none⟩ (.slice ta LX tc) = x := ⟨_, rfl⟩
              rw [hW] at b9 b10 ng n9 be
              rw [hW]
              clear hW c9 f9
              refine hK.out _ _ (fun _ => at_below be c5) (fun hH2 => ?_)
              clear hK K
              replace hH := hH2 (by kernel_rfl)
              clear hH2
              try simp only [Act.put, List.setIfInBounds_toArray, List.set_cons_zero, List.set_cons_succ]
              refine wpAnyT_ready (rs := [7]) (by kernel_rfl) (by simp) ?_
              refine AllReadyT.cons (o := { dst := none, op := Op.store 29 (Operand.tmp 10) (Operand.tmp 42), type := 0, pos := _, after := #[{ on := 5, ground := Ground.data }, { on := 3, ground := Ground.data }, { on := 6, ground := Ground.chain }, { on := 0, ground := Ground.phase }, { on := 1, ground := Ground.phase }, { on := 2, ground := Ground.phase }, { on := 3, ground := Ground.phase }, { on := 4, ground := Ground.phase }, { on := 5, ground := Ground.phase }, { on := 6, ground := Ground.phase }], guard := none }) rfl (fun K hK => ?_) (AllReadyT.nil)
              have c10 := cell_of_one b10
              have f10 := free_of_one b10
              obtain ⟨ga, gc, rfl⟩ := hug2
              go_simp
              have b10 := one_setCell (u := .slice ga LX gc) b10
              have b9 := (Below.heap_setCell w18 ⟨B10, 0, none⟩ (.slice ga LX gc) B9 n910).trans b9
              have ng := ng.set c10 (.slice ga LX gc)
              have n9 := n9.set c10 (.slice ga LX gc)
              have be := be.setCell (p := ⟨B10, 0, none⟩) l10 (.slice ga LX gc)
              obtain ⟨w19, hW⟩ : ∃ x, World.setCell w18 ⟨B10, 0, none⟩ (.slice ga LX gc) = x := ⟨_, rfl⟩
              rw [hW] at b9 b10 ng n9 be
              rw [hW]
              clear hW c10 f10
              obtain ⟨ug, hug⟩ : ∃ ug, (Value.slice ga LX gc) = ug := ⟨_, rfl⟩
              rw [hug] at ng b10
              refine hK.out _ _ (fun h => absurd (h.symm.trans (show _ = true from by kernel_rfl)) (by decide)) (fun _ => ?_)
              clear hK K
              try simp only [Act.put, List.setIfInBounds_toArray, List.set_cons_zero, List.set_cons_succ]
              refine wpAnyT_done (by kernel_rfl) ?_ _
              go_wp2_with fail
              go_meet
              exact ⟨B9, B10, ug, rfl, rfl, l9, l10, n910, Lib.hid ⟨b9, n9⟩, Lib.hid ⟨b10, ng⟩, Lib.hid be⟩
          · skip
            go_simp
            obtain ⟨B10, hB⟩ : ∃ x, (w1).heap.size = x := ⟨_, rfl⟩
            obtain ⟨w20, hW⟩ : ∃ x, (w1).alloc (.cells #[.slice none 0 0] 29) = x := ⟨_, rfl⟩
            have hb := below_alloc (w1) (.cells #[.slice none 0 0] 29)
            have nb := heap_alloc_new (w1) (.cells #[.slice none 0 0] 29)
            rw [hW] at hb nb
            rw [hB] at nb
            have l10 : wa.heap.size ≤ B10 := by have := be.size; omega
            have be := below_from be hb
            have b10 := nb
            try rw [hW]
            try rw [hB]
            clear hb nb hW hB
            refine hK.out _ _ (fun _ => at_below be c5) (fun hH2 => ?_)
            clear hK K
            replace hH := hH2 (by kernel_rfl)
            clear hH2
            try simp only [Act.put, List.setIfInBounds_toArray, List.set_cons_zero, List.set_cons_succ]
            refine wpAnyT_ready (rs := [3, 4]) (by kernel_rfl) (by simp) ?_
            refine AllReadyT.cons (o := { dst := some 42, op := Op.call { callee := Callee.value (Operand.func 12), args := #[Operand.tmp 41, Operand.const (Value.int IntKind.i64 0), Operand.const (Value.int IntKind.i64 0)], argTypes := #[29, 3, 3] }, type := 29, pos := _, after := #[{ on := 2, ground := Ground.data }, { on := 2, ground := Ground.chain }], guard := none }) rfl (fun K hK => ?_) (AllReadyT.cons (o := { dst := some 9, op := Op.alloc 27, type := 0, pos := _, after := #[], guard := none }) rfl (fun K hK => ?_) (AllReadyT.nil))
            · skip
              go_simp
              refine (HGr.out w20 be).mono ?_
              rintro e w21 ⟨ug, rfl, ng, -, hb⟩
              obtain ⟨ga, gc, rfl⟩ := ng.shape
              rw [HLX.out] at ng ⊢
              obtain ⟨ug, hug⟩ : ∃ ug, (Value.slice ga LX gc) = ug := ⟨_, rfl⟩
              have b10 := (hb.block B10 (lt_of_block b10)).trans b10
              have be := below_from be hb
              clear hb
              try go_wp2_with fail
              try rw [hug]
              rw [hug] at ng
              have hug2 : ∃ ga gc, ug = .slice ga LX gc := ⟨ga, gc, hug.symm⟩
              clear hug
              refine hK.out _ _ (fun _ => at_below be c5) (fun hH2 => ?_)
              clear hK K
              replace hH := hH2 (by kernel_rfl)
              clear hH2
              try simp only [Act.put, List.setIfInBounds_toArray, List.set_cons_zero, List.set_cons_succ]
              refine wpAnyT_ready (rs := [4]) (by kernel_rfl) (by simp) ?_
              refine AllReadyT.cons (o := { dst := some 9, op := Op.alloc 27, type := 0, pos := _, after := #[], guard := none }) rfl (fun K hK => ?_) (AllReadyT.nil)
              go_simp
              obtain ⟨B9, hB⟩ : ∃ x, (w21).heap.size = x := ⟨_, rfl⟩
              obtain ⟨w22, hW⟩ : ∃ x, (w21).alloc (.cells #[.slice none 0 0] 27) = x := ⟨_, rfl⟩
              have hb := below_alloc (w21) (.cells #[.slice none 0 0] 27)
              have nb := heap_alloc_new (w21) (.cells #[.slice none 0 0] 27)
              rw [hW] at hb nb
              rw [hB] at nb
              have l9 : wa.heap.size ≤ B9 := by have := be.size; omega
              have n910 : B9 ≠ B10 := by have := lt_of_block b10; omega
              have b10 := (hb.block B10 (lt_of_block b10)).trans b10
              have ng := ng.below hb
              have be := below_from be hb
              have b9 := nb
              try rw [hW]
              try rw [hB]
              clear hb nb hW hB
              refine hK.out _ _ (fun _ => at_below be c5) (fun hH2 => ?_)
              clear hK K
              replace hH := hH2 (by kernel_rfl)
              clear hH2
              try simp only [Act.put, List.setIfInBounds_toArray, List.set_cons_zero, List.set_cons_succ]
              refine wpAnyT_ready (rs := [6]) (by kernel_rfl) (by simp) ?_
              refine AllReadyT.cons (o := { dst := none, op := Op.store 27 (Operand.tmp 9) (Operand.tmp 39), type := 0, pos := _, after := #[{ on := 4, ground := Ground.data }, { on := 0, ground := Ground.data }, { on := 3, ground := Ground.chain }, { on := 0, ground := Ground.phase }, { on := 1, ground := Ground.textOnly Departure.lateStores }, { on := 2, ground := Ground.textOnly Departure.lateStoresUnsure }, { on := 3, ground := Ground.textOnly Departure.lateStoresUnsure }, { on := 4, ground := Ground.phase }, { on := 5, ground := Ground.phase }], guard := none }) rfl (fun K hK => ?_) (AllReadyT.nil)
              have c9 := cell_of_one b9
              have f9 := free_of_one b9
              go_simp
              have b9 := one_setCell (u := .slice ta LX tc) b9
              have b10 := (Below.heap_setCell w22 ⟨B9, 0, none⟩ (.slice ta LX tc) B10 (fun e => n910 e.symm)).trans b10
              have ng := ng.set c9 (.slice ta LX tc)
              have n9 := ((HN5.out w22 be).set c9 (.slice ta LX tc))
              have be := be.setCell (p := ⟨B9, 0, none⟩) l9 (.slice ta LX tc)
              obtain ⟨w23, hW⟩ : ∃ x, World.setCell w22 ⟨B9, 0, none⟩ (.slice ta LX tc) = x := ⟨_, rfl⟩
              rw [hW] at b9 b10 ng n9 be
              rw [hW]
              clear hW c9 f9
              refine hK.out _ _ (fun _ => at_below be c5) (fun hH2 => ?_)
              clear hK K
              replace hH := hH2 (by kernel_rfl)
              clear hH2
              try simp only [Act.put, List.setIfInBounds_toArray, List.set_cons_zero, List.set_cons_succ]
              refine wpAnyT_ready (rs := [7]) (by kernel_rfl) (by simp) ?_
              refine AllReadyT.cons (o := { dst := none, op := Op.store 29 (Operand.tmp 10) (Operand.tmp 42), type := 0, pos := _, after := #[{ on := 5, ground := Ground.data }, { on := 3, ground := Ground.data }, { on := 6, ground := Ground.chain }, { on := 0, ground := Ground.phase }, { on := 1, ground := Ground.phase }, { on := 2, ground := Ground.phase }, { on := 3, ground := Ground.phase }, { on := 4, ground := Ground.phase }, { on := 5, ground := Ground.phase }, { on := 6, ground := Ground.phase }], guard := none }) rfl (fun K hK => ?_) (AllReadyT.nil)
              have c10 := cell_of_one b10
              have f10 := free_of_one b10
              obtain ⟨ga, gc, rfl⟩ := hug2
              go_simp
              have b10 := one_setCell (u := .slice ga LX gc) b10
              have b9 := (Below.heap_setCell w23 ⟨B10, 0, none⟩ (.slice ga LX gc) B9 n910).trans b9
              have ng := ng.set c10 (.slice ga LX gc)
              have n9 := n9.set c10 (.slice ga LX gc)
              have be := be.setCell (p := ⟨B10, 0, none⟩) l10 (.slice ga LX gc)
              obtain ⟨w24, hW⟩ : ∃ x, World.setCell w23 ⟨B10, 0, none⟩ (.slice ga LX gc) = x := ⟨_, rfl⟩
              rw [hW] at b9 b10 ng n9 be
              rw [hW]
              clear hW c10 f10
              obtain ⟨ug, hug⟩ : ∃ ug, (Value.slice ga LX gc) = ug := ⟨_, rfl⟩
              rw [hug] at ng b10
              refine hK.out _ _ (fun h => absurd (h.symm.trans (show _ = true from by kernel_rfl)) (by decide)) (fun _ => ?_)
              clear hK K
              try simp only [Act.put, List.setIfInBounds_toArray, List.set_cons_zero, List.set_cons_succ]
              refine wpAnyT_done (by kernel_rfl) ?_ _
              go_wp2_with fail
              go_meet
              exact ⟨B9, B10, ug, rfl, rfl, l9, l10, n910, Lib.hid ⟨b9, n9⟩, Lib.hid ⟨b10, ng⟩, Lib.hid be⟩
            · skip
              go_simp
              obtain ⟨B9, hB⟩ : ∃ x, (w20).heap.size = x := ⟨_, rfl⟩
              obtain ⟨w25, hW⟩ : ∃ x, (w20).alloc (.cells #[.slice none 0 0] 27) = x := ⟨_, rfl⟩
              have hb := below_alloc (w20) (.cells #[.slice none 0 0] 27)
              have nb := heap_alloc_new (w20) (.cells #[.slice none 0 0] 27)
              rw [hW] at hb nb
              rw [hB] at nb
              have l9 : wa.heap.size ≤ B9 := by have := be.size; omega
              have n910 : B9 ≠ B10 := by have := lt_of_block b10; omega
              have b10 := (hb.block B10 (lt_of_block b10)).trans b10
              have be := below_from be hb
              have b9 := nb
              try rw [hW]
              try rw [hB]
              clear hb nb hW hB
              refine hK.out _ _ (fun _ => at_below be c5) (fun hH2 => ?_)
              clear hK K
              replace hH := hH2 (by kernel_rfl)
              clear hH2
              try simp only [Act.put, List.setIfInBounds_toArray, List.set_cons_zero, List.set_cons_succ]
              refine wpAnyT_ready (rs := [3]) (by kernel_rfl) (by simp) ?_
              refine AllReadyT.cons (o := { dst := some 42, op := Op.call { callee := Callee.value (Operand.func 12), args := #[Operand.tmp 41, Operand.const (Value.int IntKind.i64 0), Operand.const (Value.int IntKind.i64 0)], argTypes := #[29, 3, 3] }, type := 29, pos := _, after := #[{ on := 2, ground := Ground.data }, { on := 2, ground := Ground.chain }], guard := none }) rfl (fun K hK => ?_) (AllReadyT.nil)
              go_simp
              refine (HGr.out w25 be).mono ?_
              rintro e w26 ⟨ug, rfl, ng, -, hb⟩
              obtain ⟨ga, gc, rfl⟩ := ng.shape
              rw [HLX.out] at ng ⊢
              obtain ⟨ug, hug⟩ : ∃ ug, (Value.slice ga LX gc) = ug := ⟨_, rfl⟩
              have b9 := (hb.block B9 (lt_of_block b9)).trans b9
              have b10 := (hb.block B10 (lt_of_block b10)).trans b10
              have be := below_from be hb
              clear hb
              try go_wp2_with fail
              try rw [hug]
              rw [hug] at ng
              have hug2 : ∃ ga gc, ug = .slice ga LX gc := ⟨ga, gc, hug.symm⟩
              clear hug
              refine hK.out _ _ (fun _ => at_below be c5) (fun hH2 => ?_)
              clear hK K
              replace hH := hH2 (by kernel_rfl)
              clear hH2
              try simp only [Act.put, List.setIfInBounds_toArray, List.set_cons_zero, List.set_cons_succ]
              refine wpAnyT_ready (rs := [6]) (by kernel_rfl) (by simp) ?_
              refine AllReadyT.cons (o := { dst := none, op := Op.store 27 (Operand.tmp 9) (Operand.tmp 39), type := 0, pos := _, after := #[{ on := 4, ground := Ground.data }, { on := 0, ground := Ground.data }, { on := 3, ground := Ground.chain }, { on := 0, ground := Ground.phase }, { on := 1, ground := Ground.textOnly Departure.lateStores }, { on := 2, ground := Ground.textOnly Departure.lateStoresUnsure }, { on := 3, ground := Ground.textOnly Departure.lateStoresUnsure }, { on := 4, ground := Ground.phase }, { on := 5, ground := Ground.phase }], guard := none }) rfl (fun K hK => ?_) (AllReadyT.nil)
              have c9 := cell_of_one b9
              have f9 := free_of_one b9
              go_simp
              have b9 := one_setCell (u := .slice ta LX tc) b9
              have b10 := (Below.heap_setCell w26 ⟨B9, 0, none⟩ (.slice ta LX tc) B10 (fun e => n910 e.symm)).trans b10
              have ng := ng.set c9 (.slice ta LX tc)
              have n9 := ((HN5.out w26 be).set c9 (.slice ta LX tc))
              have be := be.setCell (p := ⟨B9, 0, none⟩) l9 (.slice ta LX tc)
              obtain ⟨w27, hW⟩ : ∃ x, World.setCell w26 ⟨B9, 0, none⟩ (.slice ta LX tc) = x := ⟨_, rfl⟩
              rw [hW] at b9 b10 ng n9 be
              rw [hW]
              clear hW c9 f9
              refine hK.out _ _ (fun _ => at_below be c5) (fun hH2 => ?_)
              clear hK K
              replace hH := hH2 (by kernel_rfl)
              clear hH2
              try simp only [Act.put, List.setIfInBounds_toArray, List.set_cons_zero, List.set_cons_succ]
              refine wpAnyT_ready (rs := [7]) (by kernel_rfl) (by simp) ?_
              refine AllReadyT.cons (o := { dst := none, op := Op.store 29 (Operand.tmp 10) (Operand.tmp 42), type := 0, pos := _, after := #[{ on := 5, ground := Ground.data }, { on := 3, ground := Ground.data }, { on := 6, ground := Ground.chain }, { on := 0, ground := Ground.phase }, { on := 1, ground := Ground.phase }, { on := 2, ground := Ground.phase }, { on := 3, ground := Ground.phase }, { on := 4, ground := Ground.phase }, { on := 5, ground := Ground.phase }, { on := 6, ground := Ground.phase }], guard := none }) rfl (fun K hK => ?_) (AllReadyT.nil)
              have c10 := cell_of_one b10
              have f10 := free_of_one b10
              obtain ⟨ga, gc, rfl⟩ := hug2
              go_simp
              have b10 := one_setCell (u := .slice ga LX gc) b10
              have b9 := (Below.heap_setCell w27 ⟨B10, 0, none⟩ (.slice ga LX gc) B9 n910).trans b9
              have ng := ng.set c10 (.slice ga LX gc)
              have n9 := n9.set c10 (.slice ga LX gc)
              have be := be.setCell (p := ⟨B10, 0, none⟩) l10 (.slice ga LX gc)
              obtain ⟨w28, hW⟩ : ∃ x, World.setCell w27 ⟨B10, 0, none⟩ (.slice ga LX gc) = x := ⟨_, rfl⟩
              rw [hW] at b9 b10 ng n9 be
              rw [hW]
              clear hW c10 f10
              obtain ⟨ug, hug⟩ : ∃ ug, (Value.slice ga LX gc) = ug := ⟨_, rfl⟩
              rw [hug] at ng b10
              refine hK.out _ _ (fun h => absurd (h.symm.trans (show _ = true from by kernel_rfl)) (by decide)) (fun _ => ?_)
              clear hK K
              try simp only [Act.put, List.setIfInBounds_toArray, List.set_cons_zero, List.set_cons_succ]
              refine wpAnyT_done (by kernel_rfl) ?_ _
              go_wp2_with fail
              go_meet
              exact ⟨B9, B10, ug, rfl, rfl, l9, l10, n910, Lib.hid ⟨b9, n9⟩, Lib.hid ⟨b10, ng⟩, Lib.hid be⟩
        · skip
          go_simp
          obtain ⟨B9, hB⟩ : ∃ x, wa.heap.size = x := ⟨_, rfl⟩
          obtain ⟨w29, hW⟩ : ∃ x, (wa.alloc (.cells #[.slice none 0 0] 27)).drew = x := ⟨_, rfl⟩
          have nb : (World.drew (wa.alloc (.cells #[.slice none 0 0] 27))).heap[wa.heap.size]? = some (.cells #[.slice none 0 0] 27 (0, 0)) := heap_alloc_new wa _
          have be : Below wa.heap.size wa (World.drew (wa.alloc (.cells #[.slice none 0 0] 27))) := (below_alloc wa _).drew
          rw [hW] at be nb
          rw [hB] at nb
          have l9 : wa.heap.size ≤ B9 := by omega
          have b9 := nb
          try rw [hW]
          try rw [hB]
          clear nb hW hB
          refine hK.out _ _ (fun _ => at_below be c5) (fun hH2 => ?_)
          clear hK K
          replace hH := hH2 (by kernel_rfl)
          clear hH2
          try simp only [Act.put, List.setIfInBounds_toArray, List.set_cons_zero, List.set_cons_succ]
          refine wpAnyT_ready (rs := [2, 5]) (by kernel_rfl) (by simp) ?_
          refine AllReadyT.cons (o := { dst := some 41, op := Op.call { callee := Callee.value (Operand.func 13), args := #[Operand.tmp 40], argTypes := #[27] }, type := 29, pos := _, after := #[{ on := 1, ground := Ground.data }], guard := none }) rfl (fun K hK => ?_) (AllReadyT.cons (o := { dst := some 10, op := Op.alloc 29, type := 0, pos := _, after := #[], guard := none }) rfl (fun K hK => ?_) (AllReadyT.nil))
          · skip
            go_simp
            refine (toRef_any ta LX tc w29).mono ?_
            rintro e w30 ⟨rfl, hb⟩
            have b9 := (hb.block B9 (lt_of_block b9)).trans b9
            have be := below_from be hb
            clear hb
            try go_wp2_with fail
            refine hK.out _ _ (fun _ => at_below be c5) (fun hH2 => ?_)
            clear hK K
            replace hH := hH2 (by kernel_rfl)
            clear hH2
            try simp only [Act.put, List.setIfInBounds_toArray, List.set_cons_zero, List.set_cons_succ]
            refine wpAnyT_ready (rs := [3, 5]) (by kernel_rfl) (by simp) ?_
            refine AllReadyT.cons (o := { dst := some 42, op := Op.call { callee := Callee.value (Operand.func 12), args := #[Operand.tmp 41, Operand.const (Value.int IntKind.i64 0), Operand.const (Value.int IntKind.i64 0)], argTypes := #[29, 3, 3] }, type := 29, pos := _, after := #[{ on := 2, ground := Ground.data }, { on := 2, ground := Ground.chain }], guard := none }) rfl (fun K hK => ?_) (AllReadyT.cons (o := { dst := some 10, op := Op.alloc 29, type := 0, pos := _, after := #[], guard := none }) rfl (fun K hK => ?_) (AllReadyT.nil))
            · skip
              go_simp
              refine (HGr.out w30 be).mono ?_
              rintro e w31 ⟨ug, rfl, ng, -, hb⟩
              obtain ⟨ga, gc, rfl⟩ := ng.shape
              rw [HLX.out] at ng ⊢
              obtain ⟨ug, hug⟩ : ∃ ug, (Value.slice ga LX gc) = ug := ⟨_, rfl⟩
              have b9 := (hb.block B9 (lt_of_block b9)).trans b9
              have be := below_from be hb
              clear hb
              try go_wp2_with fail
              try rw [hug]
              rw [hug] at ng
              have hug2 : ∃ ga gc, ug = .slice ga LX gc := ⟨ga, gc, hug.symm⟩
              clear hug
              refine hK.out _ _ (fun _ => at_below be c5) (fun hH2 => ?_)
              clear hK K
              replace hH := hH2 (by kernel_rfl)
              clear hH2
              try simp only [Act.put, List.setIfInBounds_toArray, List.set_cons_zero, List.set_cons_succ]
              refine wpAnyT_ready (rs := [5]) (by kernel_rfl) (by simp) ?_
              refine AllReadyT.cons (o := { dst := some 10, op := Op.alloc 29, type := 0, pos := _, after := #[], guard := none }) rfl (fun K hK => ?_) (AllReadyT.nil)
              go_simp
              obtain ⟨B10, hB⟩ : ∃ x, (w31).heap.size = x := ⟨_, rfl⟩
              obtain ⟨w32, hW⟩ : ∃ x, (w31).alloc (.cells #[.slice none 0 0] 29) = x := ⟨_, rfl⟩
              have hb := below_alloc (w31) (.cells #[.slice none 0 0] 29)
              have nb := heap_alloc_new (w31) (.cells #[.slice none 0 0] 29)
              rw [hW] at hb nb
              rw [hB] at nb
              have l10 : wa.heap.size ≤ B10 := by have := be.size; omega
              have n910 : B9 ≠ B10 := by have := lt_of_block b9; omega
              have b9 := (hb.block B9 (lt_of_block b9)).trans b9
              have ng := ng.below hb
              have be := below_from be hb
              have b10 := nb
              try rw [hW]
              try rw [hB]
              clear hb nb hW hB
              refine hK.out _ _ (fun _ => at_below be c5) (fun hH2 => ?_)
              clear hK K
              replace hH := hH2 (by kernel_rfl)
              clear hH2
              try simp only [Act.put, List.setIfInBounds_toArray, List.set_cons_zero, List.set_cons_succ]
              refine wpAnyT_ready (rs := [6]) (by kernel_rfl) (by simp) ?_
              refine AllReadyT.cons (o := { dst := none, op := Op.store 27 (Operand.tmp 9) (Operand.tmp 39), type := 0, pos := _, after := #[{ on := 4, ground := Ground.data }, { on := 0, ground := Ground.data }, { on := 3, ground := Ground.chain }, { on := 0, ground := Ground.phase }, { on := 1, ground := Ground.textOnly Departure.lateStores }, { on := 2, ground := Ground.textOnly Departure.lateStoresUnsure }, { on := 3, ground := Ground.textOnly Departure.lateStoresUnsure }, { on := 4, ground := Ground.phase }, { on := 5, ground := Ground.phase }], guard := none }) rfl (fun K hK => ?_) (AllReadyT.nil)
              have c9 := cell_of_one b9
              have f9 := free_of_one b9
              go_simp
              have b9 := one_setCell (u := .slice ta LX tc) b9
              have b10 := (Below.heap_setCell w32 ⟨B9, 0, none⟩ (.slice ta LX tc) B10 (fun e => n910 e.symm)).trans b10
              have ng := ng.set c9 (.slice ta LX tc)
              have n9 := ((HN5.out w32 be).set c9 (.slice ta LX tc))
              have be := be.setCell (p := ⟨B9, 0, none⟩) l9 (.slice ta LX tc)
              obtain ⟨w33, hW⟩ : ∃ x, World.setCell w32 ⟨B9, 0, none⟩ (.slice ta LX tc) = x := ⟨_, rfl⟩
              rw [hW] at b9 b10 ng n9 be
              rw [hW]
              clear hW c9 f9
              refine hK.out _ _ (fun _ => at_below be c5) (fun hH2 => ?_)
              clear hK K
              replace hH := hH2 (by kernel_rfl)
              clear hH2
              try simp only [Act.put, List.setIfInBounds_toArray, List.set_cons_zero, List.set_cons_succ]
              refine wpAnyT_ready (rs := [7]) (by kernel_rfl) (by simp) ?_
              refine AllReadyT.cons (o := { dst := none, op := Op.store 29 (Operand.tmp 10) (Operand.tmp 42), type := 0, pos := _, after := #[{ on := 5, ground := Ground.data }, { on := 3, ground := Ground.data }, { on := 6, ground := Ground.chain }, { on := 0, ground := Ground.phase }, { on := 1, ground := Ground.phase }, { on := 2, ground := Ground.phase }, { on := 3, ground := Ground.phase }, { on := 4, ground := Ground.phase }, { on := 5, ground := Ground.phase }, { on := 6, ground := Ground.phase }], guard := none }) rfl (fun K hK => ?_) (AllReadyT.nil)
              have c10 := cell_of_one b10
              have f10 := free_of_one b10
              obtain ⟨ga, gc, rfl⟩ := hug2
              go_simp
              have b10 := one_setCell (u := .slice ga LX gc) b10
              have b9 := (Below.heap_setCell w33 ⟨B10, 0, none⟩ (.slice ga LX gc) B9 n910).trans b9
              have ng := ng.set c10 (.slice ga LX gc)
              have n9 := n9.set c10 (.slice ga LX gc)
              have be := be.setCell (p := ⟨B10, 0, none⟩) l10 (.slice ga LX gc)
              obtain ⟨w34, hW⟩ : ∃ x, World.setCell w33 ⟨B10, 0, none⟩ (.slice ga LX gc) = x := ⟨_, rfl⟩
              rw [hW] at b9 b10 ng n9 be
              rw [hW]
              clear hW c10 f10
              obtain ⟨ug, hug⟩ : ∃ ug, (Value.slice ga LX gc) = ug := ⟨_, rfl⟩
              rw [hug] at ng b10
              refine hK.out _ _ (fun h => absurd (h.symm.trans (show _ = true from by kernel_rfl)) (by decide)) (fun _ => ?_)
              clear hK K
              try simp only [Act.put, List.setIfInBounds_toArray, List.set_cons_zero, List.set_cons_succ]
              refine wpAnyT_done (by kernel_rfl) ?_ _
              go_wp2_with fail
              go_meet
              exact ⟨B9, B10, ug, rfl, rfl, l9, l10, n910, Lib.hid ⟨b9, n9⟩, Lib.hid ⟨b10, ng⟩, Lib.hid be⟩
            · skip
              go_simp
              obtain ⟨B10, hB⟩ : ∃ x, (w30).heap.size = x := ⟨_, rfl⟩
              obtain ⟨w35, hW⟩ : ∃ x, (w30).alloc (.cells #[.slice none 0 0] 29) = x := ⟨_, rfl⟩
              have hb := below_alloc (w30) (.cells #[.slice none 0 0] 29)
              have nb := heap_alloc_new (w30) (.cells #[.slice none 0 0] 29)
              rw [hW] at hb nb
              rw [hB] at nb
              have l10 : wa.heap.size ≤ B10 := by have := be.size; omega
              have n910 : B9 ≠ B10 := by have := lt_of_block b9; omega
              have b9 := (hb.block B9 (lt_of_block b9)).trans b9
              have be := below_from be hb
              have b10 := nb
              try rw [hW]
              try rw [hB]
              clear hb nb hW hB
              refine hK.out _ _ (fun _ => at_below be c5) (fun hH2 => ?_)
              clear hK K
              replace hH := hH2 (by kernel_rfl)
              clear hH2
              try simp only [Act.put, List.setIfInBounds_toArray, List.set_cons_zero, List.set_cons_succ]
              refine wpAnyT_ready (rs := [3]) (by kernel_rfl) (by simp) ?_
              refine AllReadyT.cons (o := { dst := some 42, op := Op.call { callee := Callee.value (Operand.func 12), args := #[Operand.tmp 41, Operand.const (Value.int IntKind.i64 0), Operand.const (Value.int IntKind.i64 0)], argTypes := #[29, 3, 3] }, type := 29, pos := _, after := #[{ on := 2, ground := Ground.data }, { on := 2, ground := Ground.chain }], guard := none }) rfl (fun K hK => ?_) (AllReadyT.nil)
              go_simp
              refine (HGr.out w35 be).mono ?_
              rintro e w36 ⟨ug, rfl, ng, -, hb⟩
              obtain ⟨ga, gc, rfl⟩ := ng.shape
              rw [HLX.out] at ng ⊢
              obtain ⟨ug, hug⟩ : ∃ ug, (Value.slice ga LX gc) = ug := ⟨_, rfl⟩
              have b9 := (hb.block B9 (lt_of_block b9)).trans b9
              have b10 := (hb.block B10 (lt_of_block b10)).trans b10
              have be := below_from be hb
              clear hb
              try go_wp2_with fail
              try rw [hug]
              rw [hug] at ng
              have hug2 : ∃ ga gc, ug = .slice ga LX gc := ⟨ga, gc, hug.symm⟩
              clear hug
              refine hK.out _ _ (fun _ => at_below be c5) (fun hH2 => ?_)
              clear hK K
              replace hH := hH2 (by kernel_rfl)
              clear hH2
              try simp only [Act.put, List.setIfInBounds_toArray, List.set_cons_zero, List.set_cons_succ]
              refine wpAnyT_ready (rs := [6]) (by kernel_rfl) (by simp) ?_
              refine AllReadyT.cons (o := { dst := none, op := Op.store 27 (Operand.tmp 9) (Operand.tmp 39), type := 0, pos := _, after := #[{ on := 4, ground := Ground.data }, { on := 0, ground := Ground.data }, { on := 3, ground := Ground.chain }, { on := 0, ground := Ground.phase }, { on := 1, ground := Ground.textOnly Departure.lateStores }, { on := 2, ground := Ground.textOnly Departure.lateStoresUnsure }, { on := 3, ground := Ground.textOnly Departure.lateStoresUnsure }, { on := 4, ground := Ground.phase }, { on := 5, ground := Ground.phase }], guard := none }) rfl (fun K hK => ?_) (AllReadyT.nil)
              have c9 := cell_of_one b9
              have f9 := free_of_one b9
              go_simp
              have b9 := one_setCell (u := .slice ta LX tc) b9
              have b10 := (Below.heap_setCell w36 ⟨B9, 0, none⟩ (.slice ta LX tc) B10 (fun e => n910 e.symm)).trans b10
              have ng := ng.set c9 (.slice ta LX tc)
              have n9 := ((HN5.out w36 be).set c9 (.slice ta LX tc))
              have be := be.setCell (p := ⟨B9, 0, none⟩) l9 (.slice ta LX tc)
              obtain ⟨w37, hW⟩ : ∃ x, World.setCell w36 ⟨B9, 0, none⟩ (.slice ta LX tc) = x := ⟨_, rfl⟩
              rw [hW] at b9 b10 ng n9 be
              rw [hW]
              clear hW c9 f9
              refine hK.out _ _ (fun _ => at_below be c5) (fun hH2 => ?_)
              clear hK K
              replace hH := hH2 (by kernel_rfl)
              clear hH2
              try simp only [Act.put, List.setIfInBounds_toArray, List.set_cons_zero, List.set_cons_succ]
              refine wpAnyT_ready (rs := [7]) (by kernel_rfl) (by simp) ?_
              refine AllReadyT.cons (o := { dst := none, op := Op.store 29 (Operand.tmp 10) (Operand.tmp 42), type := 0, pos := _, after := #[{ on := 5, ground := Ground.data }, { on := 3, ground := Ground.data }, { on := 6, ground := Ground.chain }, { on := 0, ground := Ground.phase }, { on := 1, ground := Ground.phase }, { on := 2, ground := Ground.phase }, { on := 3, ground := Ground.phase }, { on := 4, ground := Ground.phase }, { on := 5, ground := Ground.phase }, { on := 6, ground := Ground.phase }], guard := none }) rfl (fun K hK => ?_) (AllReadyT.nil)
              have c10 := cell_of_one b10
              have f10 := free_of_one b10
              obtain ⟨ga, gc, rfl⟩ := hug2
              go_simp
              have b10 := one_setCell (u := .slice ga LX gc) b10
              have b9 := (Below.heap_setCell w37 ⟨B10, 0, none⟩ (.slice ga LX gc) B9 n910).trans b9
              have ng := ng.set c10 (.slice ga LX gc)
              have n9 := n9.set c10 (.slice ga LX gc)
              have be := be.setCell (p := ⟨B10, 0, none⟩) l10 (.slice ga LX gc)
              obtain ⟨w38, hW⟩ : ∃ x, World.setCell w37 ⟨B10, 0, none⟩ (.slice ga LX gc) = x := ⟨_, rfl⟩
              rw [hW] at b9 b10 ng n9 be
              rw [hW]
              clear hW c10 f10
              obtain ⟨ug, hug⟩ : ∃ ug, (Value.slice ga LX gc) = ug := ⟨_, rfl⟩
              rw [hug] at ng b10
              refine hK.out _ _ (fun h => absurd (h.symm.trans (show _ = true from by kernel_rfl)) (by decide)) (fun _ => ?_)
              clear hK K
              try simp only [Act.put, List.setIfInBounds_toArray, List.set_cons_zero, List.set_cons_succ]
              refine wpAnyT_done (by kernel_rfl) ?_ _
              go_wp2_with fail
              go_meet
              exact ⟨B9, B10, ug, rfl, rfl, l9, l10, n910, Lib.hid ⟨b9, n9⟩, Lib.hid ⟨b10, ng⟩, Lib.hid be⟩
          · skip
            go_simp
            obtain ⟨B10, hB⟩ : ∃ x, (w29).heap.size = x := ⟨_, rfl⟩
            obtain ⟨w39, hW⟩ : ∃ x, (w29).alloc (.cells #[.slice none 0 0] 29) = x := ⟨_, rfl⟩
            have hb := below_alloc (w29) (.cells #[.slice none 0 0] 29)
            have nb := heap_alloc_new (w29) (.cells #[.slice none 0 0] 29)
            rw [hW] at hb nb
            rw [hB] at nb
            have l10 : wa.heap.size ≤ B10 := by have := be.size; omega
            have n910 : B9 ≠ B10 := by have := lt_of_block b9; omega
            have b9 := (hb.block B9 (lt_of_block b9)).trans b9
            have be := below_from be hb
            have b10 := nb
            try rw [hW]
            try rw [hB]
            clear hb nb hW hB
            refine hK.out _ _ (fun _ => at_below be c5) (fun hH2 => ?_)
            clear hK K
            replace hH := hH2 (by kernel_rfl)
            clear hH2
            try simp only [Act.put, List.setIfInBounds_toArray, List.set_cons_zero, List.set_cons_succ]
            refine wpAnyT_ready (rs := [2]) (by kernel_rfl) (by simp) ?_
            refine AllReadyT.cons (o := { dst := some 41, op := Op.call { callee := Callee.value (Operand.func 13), args := #[Operand.tmp 40], argTypes := #[27] }, type := 29, pos := _, after := #[{ on := 1, ground := Ground.data }], guard := none }) rfl (fun K hK => ?_) (AllReadyT.nil)
            go_simp
            refine (toRef_any ta LX tc w39).mono ?_
            rintro e w40 ⟨rfl, hb⟩
            have b9 := (hb.block B9 (lt_of_block b9)).trans b9
            have b10 := (hb.block B10 (lt_of_block b10)).trans b10
            have be := below_from be hb
            clear hb
            try go_wp2_with fail
            refine hK.out _ _ (fun _ => at_below be c5) (fun hH2 => ?_)
            clear hK K
            replace hH := hH2 (by kernel_rfl)
            clear hH2
            try simp only [Act.put, List.setIfInBounds_toArray, List.set_cons_zero, List.set_cons_succ]
            refine wpAnyT_ready (rs := [3]) (by kernel_rfl) (by simp) ?_
            refine AllReadyT.cons (o := { dst := some 42, op := Op.call { callee := Callee.value (Operand.func 12), args := #[Operand.tmp 41, Operand.const (Value.int IntKind.i64 0), Operand.const (Value.int IntKind.i64 0)], argTypes := #[29, 3, 3] }, type := 29, pos := _, after := #[{ on := 2, ground := Ground.data }, { on := 2, ground := Ground.chain }], guard := none }) rfl (fun K hK => ?_) (AllReadyT.nil)
            go_simp
            refine (HGr.out w40 be).mono ?_
            rintro e w41 ⟨ug, rfl, ng, -, hb⟩
            obtain ⟨ga, gc, rfl⟩ := ng.shape
            rw [HLX.out] at ng ⊢
            obtain ⟨ug, hug⟩ : ∃ ug, (Value.slice ga LX gc) = ug := ⟨_, rfl⟩
            have b9 := (hb.block B9 (lt_of_block b9)).trans b9
            have b10 := (hb.block B10 (lt_of_block b10)).trans b10
            have be := below_from be hb
            clear hb
            try go_wp2_with fail
            try rw [hug]
            rw [hug] at ng
            have hug2 : ∃ ga gc, ug = .slice ga LX gc := ⟨ga, gc, hug.symm⟩
            clear hug
            refine hK.out _ _ (fun _ => at_below be c5) (fun hH2 => ?_)
            clear hK K
            replace hH := hH2 (by kernel_rfl)
            clear hH2
            try simp only [Act.put, List.setIfInBounds_toArray, List.set_cons_zero, List.set_cons_succ]
            refine wpAnyT_ready (rs := [6]) (by kernel_rfl) (by simp) ?_
            refine AllReadyT.cons (o := { dst := none, op := Op.store 27 (Operand.tmp 9) (Operand.tmp 39), type := 0, pos := _, after := #[{ on := 4, ground := Ground.data }, { on := 0, ground := Ground.data }, { on := 3, ground := Ground.chain }, { on := 0, ground := Ground.phase }, { on := 1, ground := Ground.textOnly Departure.lateStores }, { on := 2, ground := Ground.textOnly Departure.lateStoresUnsure }, { on := 3, ground := Ground.textOnly Departure.lateStoresUnsure }, { on := 4, ground := Ground.phase }, { on := 5, ground := Ground.phase }], guard := none }) rfl (fun K hK => ?_) (AllReadyT.nil)
            have c9 := cell_of_one b9
            have f9 := free_of_one b9
            go_simp
            have b9 := one_setCell (u := .slice ta LX tc) b9
            have b10 := (Below.heap_setCell w41 ⟨B9, 0, none⟩ (.slice ta LX tc) B10 (fun e => n910 e.symm)).trans b10
            have ng := ng.set c9 (.slice ta LX tc)
            have n9 := ((HN5.out w41 be).set c9 (.slice ta LX tc))
            have be := be.setCell (p := ⟨B9, 0, none⟩) l9 (.slice ta LX tc)
            obtain ⟨w42, hW⟩ : ∃ x, World.setCell w41 ⟨B9, 0, none⟩ (.slice ta LX tc) = x := ⟨_, rfl⟩
            rw [hW] at b9 b10 ng n9 be
            rw [hW]
            clear hW c9 f9
            refine hK.out _ _ (fun _ => at_below be c5) (fun hH2 => ?_)
            clear hK K
            replace hH := hH2 (by kernel_rfl)
            clear hH2
            try simp only [Act.put, List.setIfInBounds_toArray, List.set_cons_zero, List.set_cons_succ]
            refine wpAnyT_ready (rs := [7]) (by kernel_rfl) (by simp) ?_
            refine AllReadyT.cons (o := { dst := none, op := Op.store 29 (Operand.tmp 10) (Operand.tmp 42), type := 0, pos := _, after := #[{ on := 5, ground := Ground.data }, { on := 3, ground := Ground.data }, { on := 6, ground := Ground.chain }, { on := 0, ground := Ground.phase }, { on := 1, ground := Ground.phase }, { on := 2, ground := Ground.phase }, { on := 3, ground := Ground.phase }, { on := 4, ground := Ground.phase }, { on := 5, ground := Ground.phase }, { on := 6, ground := Ground.phase }], guard := none }) rfl (fun K hK => ?_) (AllReadyT.nil)
            have c10 := cell_of_one b10
            have f10 := free_of_one b10
            obtain ⟨ga, gc, rfl⟩ := hug2
            go_simp
            have b10 := one_setCell (u := .slice ga LX gc) b10
            have b9 := (Below.heap_setCell w42 ⟨B10, 0, none⟩ (.slice ga LX gc) B9 n910).trans b9
            have ng := ng.set c10 (.slice ga LX gc)
            have n9 := n9.set c10 (.slice ga LX gc)
            have be := be.setCell (p := ⟨B10, 0, none⟩) l10 (.slice ga LX gc)
            obtain ⟨w43, hW⟩ : ∃ x, World.setCell w42 ⟨B10, 0, none⟩ (.slice ga LX gc) = x := ⟨_, rfl⟩
            rw [hW] at b9 b10 ng n9 be
            rw [hW]
            clear hW c10 f10
            obtain ⟨ug, hug⟩ : ∃ ug, (Value.slice ga LX gc) = ug := ⟨_, rfl⟩
            rw [hug] at ng b10
            refine hK.out _ _ (fun h => absurd (h.symm.trans (show _ = true from by kernel_rfl)) (by decide)) (fun _ => ?_)
            clear hK K
            try simp only [Act.put, List.setIfInBounds_toArray, List.set_cons_zero, List.set_cons_succ]
            refine wpAnyT_done (by kernel_rfl) ?_ _
            go_wp2_with fail
            go_meet
            exact ⟨B9, B10, ug, rfl, rfl, l9, l10, n910, Lib.hid ⟨b9, n9⟩, Lib.hid ⟨b10, ng⟩, Lib.hid be⟩
        · skip
          go_simp
          obtain ⟨B10, hB⟩ : ∃ x, wa.heap.size = x := ⟨_, rfl⟩
          obtain ⟨w44, hW⟩ : ∃ x, (wa.alloc (.cells #[.slice none 0 0] 29)).drew = x := ⟨_, rfl⟩
          have nb : (World.drew (wa.alloc (.cells #[.slice none 0 0] 29))).heap[wa.heap.size]? = some (.cells #[.slice none 0 0] 29 (0, 0)) := heap_alloc_new wa _
          have be : Below wa.heap.size wa (World.drew (wa.alloc (.cells #[.slice none 0 0] 29))) := (below_alloc wa _).drew
          rw [hW] at be nb
          rw [hB] at nb
          have l10 : wa.heap.size ≤ B10 := by omega
          have b10 := nb
          try rw [hW]
          try rw [hB]
          clear nb hW hB
          refine hK.out _ _ (fun _ => at_below be c5) (fun hH2 => ?_)
          clear hK K
          replace hH := hH2 (by kernel_rfl)
          clear hH2
          try simp only [Act.put, List.setIfInBounds_toArray, List.set_cons_zero, List.set_cons_succ]
          refine wpAnyT_ready (rs := [2, 4]) (by kernel_rfl) (by simp) ?_
          refine AllReadyT.cons (o := { dst := some 41, op := Op.call { callee := Callee.value (Operand.func 13), args := #[Operand.tmp 40], argTypes := #[27] }, type := 29, pos := _, after := #[{ on := 1, ground := Ground.data }], guard := none }) rfl (fun K hK => ?_) (AllReadyT.cons (o := { dst := some 9, op := Op.alloc 27, type := 0, pos := _, after := #[], guard := none }) rfl (fun K hK => ?_) (AllReadyT.nil))
          · skip
            go_simp
            refine (toRef_any ta LX tc w44).mono ?_
            rintro e w45 ⟨rfl, hb⟩
            have b10 := (hb.block B10 (lt_of_block b10)).trans b10
            have be := below_from be hb
            clear hb
            try go_wp2_with fail
            refine hK.out _ _ (fun _ => at_below be c5) (fun hH2 => ?_)
            clear hK K
            replace hH := hH2 (by kernel_rfl)
            clear hH2
            try simp only [Act.put, List.setIfInBounds_toArray, List.set_cons_zero, List.set_cons_succ]
            refine wpAnyT_ready (rs := [3, 4]) (by kernel_rfl) (by simp) ?_
            refine AllReadyT.cons (o := { dst := some 42, op := Op.call { callee := Callee.value (Operand.func 12), args := #[Operand.tmp 41, Operand.const (Value.int IntKind.i64 0), Operand.const (Value.int IntKind.i64 0)], argTypes := #[29, 3, 3] }, type := 29, pos := _, after := #[{ on := 2, ground := Ground.data }, { on := 2, ground := Ground.chain }], guard := none }) rfl (fun K hK => ?_) (AllReadyT.cons (o := { dst := some 9, op := Op.alloc 27, type := 0, pos := _, after := #[], guard := none }) rfl (fun K hK => ?_) (AllReadyT.nil))
            · skip
              go_simp
              refine (HGr.out w45 be).mono ?_
              rintro e w46 ⟨ug, rfl, ng, -, hb⟩
              obtain ⟨ga, gc, rfl⟩ := ng.shape
              rw [HLX.out] at ng ⊢
              obtain ⟨ug, hug⟩ : ∃ ug, (Value.slice ga LX gc) = ug := ⟨_, rfl⟩
              have b10 := (hb.block B10 (lt_of_block b10)).trans b10
              have be := below_from be hb
              clear hb
              try go_wp2_with fail
              try rw [hug]
              rw [hug] at ng
              have hug2 : ∃ ga gc, ug = .slice ga LX gc := ⟨ga, gc, hug.symm⟩
              clear hug
              refine hK.out _ _ (fun _ => at_below be c5) (fun hH2 => ?_)
              clear hK K
              replace hH := hH2 (by kernel_rfl)
              clear hH2
              try simp only [Act.put, List.setIfInBounds_toArray, List.set_cons_zero, List.set_cons_succ]
              refine wpAnyT_ready (rs := [4]) (by kernel_rfl) (by simp) ?_
              refine AllReadyT.cons (o := { dst := some 9, op := Op.alloc 27, type := 0, pos := _, after := #[], guard := none }) rfl (fun K hK => ?_) (AllReadyT.nil)
              go_simp
              obtain ⟨B9, hB⟩ : ∃ x, (w46).heap.size = x := ⟨_, rfl⟩
              obtain ⟨w47, hW⟩ : ∃ x, (w46).alloc (.cells #[.slice none 0 0] 27) = x := ⟨_, rfl⟩
              have hb := below_alloc (w46) (.cells #[.slice none 0 0] 27)
              have nb := heap_alloc_new (w46) (.cells #[.slice none 0 0] 27)
              rw [hW] at hb nb
              rw [hB] at nb
              have l9 : wa.heap.size ≤ B9 := by have := be.size; omega
              have n910 : B9 ≠ B10 := by have := lt_of_block b10; omega
              have b10 := (hb.block B10 (lt_of_block b10)).trans b10
              have ng := ng.below hb
              have be := below_from be hb
              have b9 := nb
              try rw [hW]
              try rw [hB]
              clear hb nb hW hB
              refine hK.out _ _ (fun _ => at_below be c5) (fun hH2 => ?_)
              clear hK K
              replace hH := hH2 (by kernel_rfl)
              clear hH2
              try simp only [Act.put, List.setIfInBounds_toArray, List.set_cons_zero, List.set_cons_succ]
              refine wpAnyT_ready (rs := [6]) (by kernel_rfl) (by simp) ?_
              refine AllReadyT.cons (o := { dst := none, op := Op.store 27 (Operand.tmp 9) (Operand.tmp 39), type := 0, pos := _, after := #[{ on := 4, ground := Ground.data }, { on := 0, ground := Ground.data }, { on := 3, ground := Ground.chain }, { on := 0, ground := Ground.phase }, { on := 1, ground := Ground.textOnly Departure.lateStores }, { on := 2, ground := Ground.textOnly Departure.lateStoresUnsure }, { on := 3, ground := Ground.textOnly Departure.lateStoresUnsure }, { on := 4, ground := Ground.phase }, { on := 5, ground := Ground.phase }], guard := none }) rfl (fun K hK => ?_) (AllReadyT.nil)
              have c9 := cell_of_one b9
              have f9 := free_of_one b9
              go_simp
              have b9 := one_setCell (u := .slice ta LX tc) b9
              have b10 := (Below.heap_setCell w47 ⟨B9, 0, none⟩ (.slice ta LX tc) B10 (fun e => n910 e.symm)).trans b10
              have ng := ng.set c9 (.slice ta LX tc)
              have n9 := ((HN5.out w47 be).set c9 (.slice ta LX tc))
              have be := be.setCell (p := ⟨B9, 0, none⟩) l9 (.slice ta LX tc)
              obtain ⟨w48, hW⟩ : ∃ x, World.setCell w47 ⟨B9, 0, none⟩ (.slice ta LX tc) = x := ⟨_, rfl⟩
              rw [hW] at b9 b10 ng n9 be
              rw [hW]
              clear hW c9 f9
              refine hK.out _ _ (fun _ => at_below be c5) (fun hH2 => ?_)
              clear hK K
              replace hH := hH2 (by kernel_rfl)
              clear hH2
              try simp only [Act.put, List.setIfInBounds_toArray, List.set_cons_zero, List.set_cons_succ]
              refine wpAnyT_ready (rs := [7]) (by kernel_rfl) (by simp) ?_
              refine AllReadyT.cons (o := { dst := none, op := Op.store 29 (Operand.tmp 10) (Operand.tmp 42), type := 0, pos := _, after := #[{ on := 5, ground := Ground.data }, { on := 3, ground := Ground.data }, { on := 6, ground := Ground.chain }, { on := 0, ground := Ground.phase }, { on := 1, ground := Ground.phase }, { on := 2, ground := Ground.phase }, { on := 3, ground := Ground.phase }, { on := 4, ground := Ground.phase }, { on := 5, ground := Ground.phase }, { on := 6, ground := Ground.phase }], guard := none }) rfl (fun K hK => ?_) (AllReadyT.nil)
              have c10 := cell_of_one b10
              have f10 := free_of_one b10
              obtain ⟨ga, gc, rfl⟩ := hug2
              go_simp
              have b10 := one_setCell (u := .slice ga LX gc) b10
              have b9 := (Below.heap_setCell w48 ⟨B10, 0, none⟩ (.slice ga LX gc) B9 n910).trans b9
              have ng := ng.set c10 (.slice ga LX gc)
              have n9 := n9.set c10 (.slice ga LX gc)
              have be := be.setCell (p := ⟨B10, 0, none⟩) l10 (.slice ga LX gc)
              obtain ⟨w49, hW⟩ : ∃ x, World.setCell w48 ⟨B10, 0, none⟩ (.slice ga LX gc) = x := ⟨_, rfl⟩
              rw [hW] at b9 b10 ng n9 be
              rw [hW]
              clear hW c10 f10
              obtain ⟨ug, hug⟩ : ∃ ug, (Value.slice ga LX gc) = ug := ⟨_, rfl⟩
              rw [hug] at ng b10
              refine hK.out _ _ (fun h => absurd (h.symm.trans (show _ = true from by kernel_rfl)) (by decide)) (fun _ => ?_)
              clear hK K
              try simp only [Act.put, List.setIfInBounds_toArray, List.set_cons_zero, List.set_cons_succ]
              refine wpAnyT_done (by kernel_rfl) ?_ _
              go_wp2_with fail
              go_meet
              exact ⟨B9, B10, ug, rfl, rfl, l9, l10, n910, Lib.hid ⟨b9, n9⟩, Lib.hid ⟨b10, ng⟩, Lib.hid be⟩
            · skip
              go_simp
              obtain ⟨B9, hB⟩ : ∃ x, (w45).heap.size = x := ⟨_, rfl⟩
              obtain ⟨w50, hW⟩ : ∃ x, (w45).alloc (.cells #[.slice none 0 0] 27) = x := ⟨_, rfl⟩
              have hb := below_alloc (w45) (.cells #[.slice none 0 0] 27)
              have nb := heap_alloc_new (w45) (.cells #[.slice none 0 0] 27)
              rw [hW] at hb nb
              rw [hB] at nb
              have l9 : wa.heap.size ≤ B9 := by have := be.size; omega
              have n910 : B9 ≠ B10 := by have := lt_of_block b10; omega
              have b10 := (hb.block B10 (lt_of_block b10)).trans b10
              have be := below_from be hb
              have b9 := nb
              try rw [hW]
              try rw [hB]
              clear hb nb hW hB
              refine hK.out _ _ (fun _ => at_below be c5) (fun hH2 => ?_)
              clear hK K
              replace hH := hH2 (by kernel_rfl)
              clear hH2
              try simp only [Act.put, List.setIfInBounds_toArray, List.set_cons_zero, List.set_cons_succ]
              refine wpAnyT_ready (rs := [3]) (by kernel_rfl) (by simp) ?_
              refine AllReadyT.cons (o := { dst := some 42, op := Op.call { callee := Callee.value (Operand.func 12), args := #[Operand.tmp 41, Operand.const (Value.int IntKind.i64 0), Operand.const (Value.int IntKind.i64 0)], argTypes := #[29, 3, 3] }, type := 29, pos := _, after := #[{ on := 2, ground := Ground.data }, { on := 2, ground := Ground.chain }], guard := none }) rfl (fun K hK => ?_) (AllReadyT.nil)
              go_simp
              refine (HGr.out w50 be).mono ?_
              rintro e w51 ⟨ug, rfl, ng, -, hb⟩
              obtain ⟨ga, gc, rfl⟩ := ng.shape
              rw [HLX.out] at ng ⊢
              obtain ⟨ug, hug⟩ : ∃ ug, (Value.slice ga LX gc) = ug := ⟨_, rfl⟩
              have b9 := (hb.block B9 (lt_of_block b9)).trans b9
              have b10 := (hb.block B10 (lt_of_block b10)).trans b10
              have be := below_from be hb
              clear hb
              try go_wp2_with fail
              try rw [hug]
              rw [hug] at ng
              have hug2 : ∃ ga gc, ug = .slice ga LX gc := ⟨ga, gc, hug.symm⟩
              clear hug
              refine hK.out _ _ (fun _ => at_below be c5) (fun hH2 => ?_)
              clear hK K
              replace hH := hH2 (by kernel_rfl)
              clear hH2
              try simp only [Act.put, List.setIfInBounds_toArray, List.set_cons_zero, List.set_cons_succ]
              refine wpAnyT_ready (rs := [6]) (by kernel_rfl) (by simp) ?_
              refine AllReadyT.cons (o := { dst := none, op := Op.store 27 (Operand.tmp 9) (Operand.tmp 39), type := 0, pos := _, after := #[{ on := 4, ground := Ground.data }, { on := 0, ground := Ground.data }, { on := 3, ground := Ground.chain }, { on := 0, ground := Ground.phase }, { on := 1, ground := Ground.textOnly Departure.lateStores }, { on := 2, ground := Ground.textOnly Departure.lateStoresUnsure }, { on := 3, ground := Ground.textOnly Departure.lateStoresUnsure }, { on := 4, ground := Ground.phase }, { on := 5, ground := Ground.phase }], guard := none }) rfl (fun K hK => ?_) (AllReadyT.nil)
              have c9 := cell_of_one b9
              have f9 := free_of_one b9
              go_simp
              have b9 := one_setCell (u := .slice ta LX tc) b9
              have b10 := (Below.heap_setCell w51 ⟨B9, 0, none⟩ (.slice ta LX tc) B10 (fun e => n910 e.symm)).trans b10
              have ng := ng.set c9 (.slice ta LX tc)
              have n9 := ((HN5.out w51 be).set c9 (.slice ta LX tc))
              have be := be.setCell (p := ⟨B9, 0, none⟩) l9 (.slice ta LX tc)
              obtain ⟨w52, hW⟩ : ∃ x, World.setCell w51 ⟨B9, 0, none⟩ (.slice ta LX tc) = x := ⟨_, rfl⟩
              rw [hW] at b9 b10 ng n9 be
              rw [hW]
              clear hW c9 f9
              refine hK.out _ _ (fun _ => at_below be c5) (fun hH2 => ?_)
              clear hK K
              replace hH := hH2 (by kernel_rfl)
              clear hH2
              try simp only [Act.put, List.setIfInBounds_toArray, List.set_cons_zero, List.set_cons_succ]
              refine wpAnyT_ready (rs := [7]) (by kernel_rfl) (by simp) ?_
              refine AllReadyT.cons (o := { dst := none, op := Op.store 29 (Operand.tmp 10) (Operand.tmp 42), type := 0, pos := _, after := #[{ on := 5, ground := Ground.data }, { on := 3, ground := Ground.data }, { on := 6, ground := Ground.chain }, { on := 0, ground := Ground.phase }, { on := 1, ground := Ground.phase }, { on := 2, ground := Ground.phase }, { on := 3, ground := Ground.phase }, { on := 4, ground := Ground.phase }, { on := 5, ground := Ground.phase }, { on := 6, ground := Ground.phase }], guard := none }) rfl (fun K hK => ?_) (AllReadyT.nil)
              have c10 := cell_of_one b10
              have f10 := free_of_one b10
              obtain ⟨ga, gc, rfl⟩ := hug2
              go_simp
              have b10 := one_setCell (u := .slice ga LX gc) b10
              have b9 := (Below.heap_setCell w52 ⟨B10, 0, none⟩ (.slice ga LX gc) B9 n910).trans b9
              have ng := ng.set c10 (.slice ga LX gc)
              have n9 := n9.set c10 (.slice ga LX gc)
              have be := be.setCell (p := ⟨B10, 0, none⟩) l10 (.slice ga LX gc)
              obtain ⟨w53, hW⟩ : ∃ x, World.setCell w52 ⟨B10, 0, none⟩ (.slice ga LX gc) = x := ⟨_, rfl⟩
              rw [hW] at b9 b10 ng n9 be
              rw [hW]
              clear hW c10 f10
              obtain ⟨ug, hug⟩ : ∃ ug, (Value.slice ga LX gc) = ug := ⟨_, rfl⟩
              rw [hug] at ng b10
              refine hK.out _ _ (fun h => absurd (h.symm.trans (show _ = true from by kernel_rfl)) (by decide)) (fun _ => ?_)
              clear hK K
              try simp only [Act.put, List.setIfInBounds_toArray, List.set_cons_zero, List.set_cons_succ]
              refine wpAnyT_done (by kernel_rfl) ?_ _
              go_wp2_with fail
              go_meet
              exact ⟨B9, B10, ug, rfl, rfl, l9, l10, n910, Lib.hid ⟨b9, n9⟩, Lib.hid ⟨b10, ng⟩, Lib.hid be⟩
          · skip
            go_simp
            obtain ⟨B9, hB⟩ : ∃ x, (w44).heap.size = x := ⟨_, rfl⟩
            obtain ⟨w54, hW⟩ : ∃ x, (w44).alloc (.cells #[.slice none 0 0] 27) = x := ⟨_, rfl⟩
            have hb := below_alloc (w44) (.cells #[.slice none 0 0] 27)
            have nb := heap_alloc_new (w44) (.cells #[.slice none 0 0] 27)
            rw [hW] at hb nb
            rw [hB] at nb
            have l9 : wa.heap.size ≤ B9 := by have := be.size; omega
            have n910 : B9 ≠ B10 := by have := lt_of_block b10; omega
            have b10 := (hb.block B10 (lt_of_block b10)).trans b10
            have be := below_from be hb
            have b9 := nb
            try rw [hW]
            try rw [hB]
            clear hb nb hW hB
            refine hK.out _ _ (fun _ => at_below be c5) (fun hH2 => ?_)
            clear hK K
            replace hH := hH2 (by kernel_rfl)
            clear hH2
            try simp only [Act.put, List.setIfInBounds_toArray, List.set_cons_zero, List.set_cons_succ]
            refine wpAnyT_ready (rs := [2]) (by kernel_rfl) (by simp) ?_
            refine AllReadyT.cons (o := { dst := some 41, op := Op.call { callee := Callee.value (Operand.func 13), args := #[Operand.tmp 40], argTypes := #[27] }, type := 29, pos := _, after := #[{ on := 1, ground := Ground.data }], guard := none }) rfl (fun K hK => ?_) (AllReadyT.nil)
            go_simp
            refine (toRef_any ta LX tc w54).mono ?_
            rintro e w55 ⟨rfl, hb⟩
            have b9 := (hb.block B9 (lt_of_block b9)).trans b9
            have b10 := (hb.block B10 (lt_of_block b10)).trans b10
            have be := below_from be hb
            clear hb
            try go_wp2_with fail
            refine hK.out _ _ (fun _ => at_below be c5) (fun hH2 => ?_)
            clear hK K
            replace hH := hH2 (by kernel_rfl)
            clear hH2
            try simp only [Act.put, List.setIfInBounds_toArray, List.set_cons_zero, List.set_cons_succ]
            refine wpAnyT_ready (rs := [3]) (by kernel_rfl) (by simp) ?_
            refine AllReadyT.cons (o := { dst := some 42, op := Op.call { callee := Callee.value (Operand.func 12), args := #[Operand.tmp 41, Operand.const (Value.int IntKind.i64 0), Operand.const (Value.int IntKind.i64 0)], argTypes := #[29, 3, 3] }, type := 29, pos := _, after := #[{ on := 2, ground := Ground.data }, { on := 2, ground := Ground.chain }], guard := none }) rfl (fun K hK => ?_) (AllReadyT.nil)
            go_simp
            refine (HGr.out w55 be).mono ?_
            rintro e w56 ⟨ug, rfl, ng, -, hb⟩
            obtain ⟨ga, gc, rfl⟩ := ng.shape
            rw [HLX.out] at ng ⊢
            obtain ⟨ug, hug⟩ : ∃ ug, (Value.slice ga LX gc) = ug := ⟨_, rfl⟩
            have b9 := (hb.block B9 (lt_of_block b9)).trans b9
            have b10 := (hb.block B10 (lt_of_block b10)).trans b10
            have be := below_from be hb
            clear hb
            try go_wp2_with fail
            try rw [hug]
            rw [hug] at ng
            have hug2 : ∃ ga gc, ug = .slice ga LX gc := ⟨ga, gc, hug.symm⟩
            clear hug
            refine hK.out _ _ (fun _ => at_below be c5) (fun hH2 => ?_)
            clear hK K
            replace hH := hH2 (by kernel_rfl)
            clear hH2
            try simp only [Act.put, List.setIfInBounds_toArray, List.set_cons_zero, List.set_cons_succ]
            refine wpAnyT_ready (rs := [6]) (by kernel_rfl) (by simp) ?_
            refine AllReadyT.cons (o := { dst := none, op := Op.store 27 (Operand.tmp 9) (Operand.tmp 39), type := 0, pos := _, after := #[{ on := 4, ground := Ground.data }, { on := 0, ground := Ground.data }, { on := 3, ground := Ground.chain }, { on := 0, ground := Ground.phase }, { on := 1, ground := Ground.textOnly Departure.lateStores }, { on := 2, ground := Ground.textOnly Departure.lateStoresUnsure }, { on := 3, ground := Ground.textOnly Departure.lateStoresUnsure }, { on := 4, ground := Ground.phase }, { on := 5, ground := Ground.phase }], guard := none }) rfl (fun K hK => ?_) (AllReadyT.nil)
            have c9 := cell_of_one b9
            have f9 := free_of_one b9
            go_simp
            have b9 := one_setCell (u := .slice ta LX tc) b9
            have b10 := (Below.heap_setCell w56 ⟨B9, 0, none⟩ (.slice ta LX tc) B10 (fun e => n910 e.symm)).trans b10
            have ng := ng.set c9 (.slice ta LX tc)
            have n9 := ((HN5.out w56 be).set c9 (.slice ta LX tc))
            have be := be.setCell (p := ⟨B9, 0, none⟩) l9 (.slice ta LX tc)
            obtain ⟨w57, hW⟩ : ∃ x, World.setCell w56 ⟨B9, 0, none⟩ (.slice ta LX tc) = x := ⟨_, rfl⟩
            rw [hW] at b9 b10 ng n9 be
            rw [hW]
            clear hW c9 f9
            refine hK.out _ _ (fun _ => at_below be c5) (fun hH2 => ?_)
            clear hK K
            replace hH := hH2 (by kernel_rfl)
            clear hH2
            try simp only [Act.put, List.setIfInBounds_toArray, List.set_cons_zero, List.set_cons_succ]
            refine wpAnyT_ready (rs := [7]) (by kernel_rfl) (by simp) ?_
            refine AllReadyT.cons (o := { dst := none, op := Op.store 29 (Operand.tmp 10) (Operand.tmp 42), type := 0, pos := _, after := #[{ on := 5, ground := Ground.data }, { on := 3, ground := Ground.data }, { on := 6, ground := Ground.chain }, { on := 0, ground := Ground.phase }, { on := 1, ground := Ground.phase }, { on := 2, ground := Ground.phase }, { on := 3, ground := Ground.phase }, { on := 4, ground := Ground.phase }, { on := 5, ground := Ground.phase }, { on := 6, ground := Ground.phase }], guard := none }) rfl (fun K hK => ?_) (AllReadyT.nil)
            have c10 := cell_of_one b10
            have f10 := free_of_one b10
            obtain ⟨ga, gc, rfl⟩ := hug2
            go_simp
            have b10 := one_setCell (u := .slice ga LX gc) b10
            have b9 := (Below.heap_setCell w57 ⟨B10, 0, none⟩ (.slice ga LX gc) B9 n910).trans b9
            have ng := ng.set c10 (.slice ga LX gc)
            have n9 := n9.set c10 (.slice ga LX gc)
            have be := be.setCell (p := ⟨B10, 0, none⟩) l10 (.slice ga LX gc)
            obtain ⟨w58, hW⟩ : ∃ x, World.setCell w57 ⟨B10, 0, none⟩ (.slice ga LX gc) = x := ⟨_, rfl⟩
            rw [hW] at b9 b10 ng n9 be
            rw [hW]
            clear hW c10 f10
            obtain ⟨ug, hug⟩ : ∃ ug, (Value.slice ga LX gc) = ug := ⟨_, rfl⟩
            rw [hug] at ng b10
            refine hK.out _ _ (fun h => absurd (h.symm.trans (show _ = true from by kernel_rfl)) (by decide)) (fun _ => ?_)
            clear hK K
            try simp only [Act.put, List.setIfInBounds_toArray, List.set_cons_zero, List.set_cons_succ]
            refine wpAnyT_done (by kernel_rfl) ?_ _
            go_wp2_with fail
            go_meet
            exact ⟨B9, B10, ug, rfl, rfl, l9, l10, n910, Lib.hid ⟨b9, n9⟩, Lib.hid ⟨b10, ng⟩, Lib.hid be⟩
        -- END R9
      case rest =>
      obtain ⟨B9, B10, ug, rfl, rfl, l9, l10, n910, HV9, HV10, HB9⟩ := hcut
      rename World => wb
      clear c5 HGr HN5
      have V5 := HV5a.out.below HB9.out
      have V6 := HV6a.out.below HB9.out
      have ba := (HB9.out.block Ba (lt_of_block HBlk.out)).trans HBlk.out
      have HBb := Lib.hid (below_from HBa'.out HB9.out)
      have n59 : B5 ≠ B9 := by have := HV5a.out.lt; omega
      have n69 : B6 ≠ B9 := by have := HV6a.out.lt; omega
      have n510 : B5 ≠ B10 := by have := HV5a.out.lt; omega
      have n610 : B6 ≠ B10 := by have := HV6a.out.lt; omega
      have HV5b := Lib.hid V5
      have HV6b := Lib.hid V6
      have HBlb := Lib.hid ba
      have k0 := Joins.cell_of_block ba 0
      clear V5 V6 ba HV5a HV6a HBa' HBlk HB9
      obtain ⟨k8, hk8, -, hw8⟩ := within_lit x.k 8 8 rfl (by decide) (by decide)
      obtain ⟨m1, hm1⟩ : ∃ m1 : Nat, LX + 2 = m1 := ⟨_, rfl⟩
      obtain ⟨m2, hm2⟩ : ∃ m2 : Nat, n + 2 = m2 := ⟨_, rfl⟩
      obtain ⟨k1, hk1, -, hw1⟩ := within_lit x.a m1 (m1 : Int) rfl (by omega) (by omega)
      obtain ⟨k2, hk2, -, hw2⟩ := within_lit x.c m2 (m2 : Int) rfl (by omega) (by omega)
      have hmb1 : m1 ≤ 50 := by omega
      have hmb2 : m2 ≤ 62 := by omega
      have HK8 := Lib.hid hw8
      have HK1 := Lib.hid hw1
      have HK2 := Lib.hid hw2
      have em1 : IntKind.i64.wrap ((LX : Int) + 2) = (m1 : Int) := by rw [show (LX : Int) + 2 = (m1 : Int) by omega]; exact IntWalk.i64_in _ (by omega)
      have em2 : IntKind.i64.wrap ((n : Int) + 2) = (m2 : Int) := by rw [show (n : Int) + 2 = (m2 : Int) by omega]; exact IntWalk.i64_in _ (by omega)
      obtain ⟨up, hup⟩ : ∃ up : Int, (k1 : Int) - 1 = up := ⟨_, rfl⟩
      have eup : IntKind.i64.wrap ((k1 : Int) - 1) = up := by rw [hup]; exact IntWalk.i64_in _ (by omega)
      have Eu := Lib.hid hup
      have Em1 := Lib.hid hm1
      have Em2 := Lib.hid hm2
      clear hw8 hw1 hw2 hup hm1 hm2
      go_upto_region 10 with fail
      go_wp2_with fail
      refine (HK8.out _).mono ?_
      rintro e w' ⟨rfl, rfl⟩
      clear k0
      go_upto_if 46 with fail
      go_cut [] (fun wx => ∃ X' v5' v6', Hid (Well X') ∧ X'.length ≤ LX + 1 ∧ Hid (Var wx B5 27 v5' X') ∧ Hid (Var wx B6 29 v6' X') ∧ Hid (Var wx B9 27 (.slice ta LX tc) X) ∧ Hid (Var wx B10 29 ug X) ∧ Hid (Below w.heap.size w wx))
      case first =>
        by_cases q8 : k8 < 6
        · have q8i : (k8 : Int) < 6 := by omega
          obtain ⟨fr, hfr⟩ : ∃ fr : Int, (k2 : Int) - 1 = fr := ⟨_, rfl⟩
          have efr : IntKind.i64.wrap ((k2 : Int) - 1) = fr := by rw [hfr]; exact IntWalk.i64_in _ (by omega)
          have Ef := Lib.hid hfr
          have y1 := Joins.cell_of_block HBlb.out 1
          have y3 := Joins.cell_of_block HBlb.out 3
          have c6 := HV6b.out.cell
          clear hfr
          go_wp2_with fail
          -- GEN R11
          refine wp_region_T (fun wx => wx.cell? ⟨B6, 0, none⟩ = some (.slice xa LX xc) ∧ wx.cell? ⟨Ba, 1, none⟩ = some (.int .i64 x.a) ∧ wx.cell? ⟨Ba, 3, none⟩ = some (.int .i64 x.c)) 15 (by kernel_rfl) ?_
          have hH : (fun wx : World => wx.cell? ⟨B6, 0, none⟩ = some (.slice xa LX xc) ∧ wx.cell? ⟨Ba, 1, none⟩ = some (.int .i64 x.a) ∧ wx.cell? ⟨Ba, 3, none⟩ = some (.int .i64 x.c)) wb.drew := ⟨at_drew c6, at_drew y1, at_drew y3⟩
          refine wpAnyT_take (i := 0) (oi := { dst := some 47, op := Op.fieldAddr 32 (Operand.tmp 8) 1, type := 0, pos := _, after := #[], guard := none }) (v := .pointer (some ⟨Ba, 1, none⟩)) rfl (by kernel_rfl) (by kernel_rfl) (by kernel_rfl) (by kernel_rfl) (by kernel_rfl) (fun _ _ _ h => h) (Or.inl ⟨rfl, fun W hW => ?_⟩) hH ?_
          · refine QuietRun.of_run ?_; go_simp
          try simp only [Act.put, List.setIfInBounds_toArray, List.set_cons_zero, List.set_cons_succ]
          refine wpAnyT_take (i := 1) (oi := { dst := some 48, op := Op.load 3 (Operand.tmp 47), type := 3, pos := _, after := #[{ on := 0, ground := Ground.data }], guard := none }) (v := .int .i64 x.a) rfl (by kernel_rfl) (by kernel_rfl) (by kernel_rfl) (by kernel_rfl) (by kernel_rfl) (fun _ _ _ h => h) (Or.inl ⟨rfl, fun W hW => ?_⟩) hH ?_
          · refine QuietRun.of_run ?_; obtain ⟨z0, z1, z2⟩ := hW; go_simp
          try simp only [Act.put, List.setIfInBounds_toArray, List.set_cons_zero, List.set_cons_succ]
          refine wpAnyT_take (i := 2) (oi := { dst := some 49, op := Op.fieldAddr 29 (Operand.tmp 6) 0, type := 0, pos := _, after := #[], guard := none }) (v := .pointer (some ⟨B6, 0, none⟩)) rfl (by kernel_rfl) (by kernel_rfl) (by kernel_rfl) (by kernel_rfl) (by kernel_rfl) (fun _ _ _ h => h) (Or.inl ⟨rfl, fun W hW => ?_⟩) hH ?_
          · refine QuietRun.of_run ?_; go_simp
          try simp only [Act.put, List.setIfInBounds_toArray, List.set_cons_zero, List.set_cons_succ]
          refine wpAnyT_take (i := 3) (oi := { dst := some 50, op := Op.load 25 (Operand.tmp 49), type := 25, pos := _, after := #[{ on := 2, ground := Ground.data }], guard := none }) (v := .slice xa LX xc) rfl (by kernel_rfl) (by kernel_rfl) (by kernel_rfl) (by kernel_rfl) (by kernel_rfl) (fun _ _ _ h => h) (Or.inl ⟨rfl, fun W hW => ?_⟩) hH ?_
          · refine QuietRun.of_run ?_; obtain ⟨z0, z1, z2⟩ := hW; go_simp
          try simp only [Act.put, List.setIfInBounds_toArray, List.set_cons_zero, List.set_cons_succ]
          refine wpAnyT_take (i := 4) (oi := { dst := some 51, op := Op.call { callee := Callee.builtin Builtin.len, args := #[Operand.tmp 50], argTypes := #[25] }, type := 3, pos := _, after := #[{ on := 3, ground := Ground.data }], guard := none }) (v := .int .i64 (LX : Int)) rfl (by kernel_rfl) (by kernel_rfl) (by kernel_rfl) (by kernel_rfl) (by kernel_rfl) (fun _ _ _ h => h) (Or.inl ⟨rfl, fun W hW => ?_⟩) hH ?_
          · refine QuietRun.of_run ?_; go_simp
          try simp only [Act.put, List.setIfInBounds_toArray, List.set_cons_zero, List.set_cons_succ]
          refine wpAnyT_take (i := 5) (oi := { dst := some 52, op := Op.binOp BinOp.add 3 (Operand.tmp 51) (Operand.const (Value.int IntKind.i64 2)) 3, type := 3, pos := _, after := #[{ on := 4, ground := Ground.data }], guard := none }) (v := .int .i64 (m1 : Int)) rfl (by kernel_rfl) (by kernel_rfl) (by kernel_rfl) (by kernel_rfl) (by kernel_rfl) (fun _ _ _ h => h) (Or.inl ⟨rfl, fun W hW => ?_⟩) hH ?_
          · refine QuietRun.of_run ?_; go_simp
          try simp only [Act.put, List.setIfInBounds_toArray, List.set_cons_zero, List.set_cons_succ]
          refine wpAnyT_take (i := 6) (oi := { dst := some 53, op := Op.call { callee := Callee.value (Operand.func 9), args := #[Operand.tmp 48, Operand.tmp 52], argTypes := #[3, 3] }, type := 3, pos := _, after := #[{ on := 1, ground := Ground.data }, { on := 5, ground := Ground.data }], guard := none }) (v := .int .i64 (k1 : Int)) rfl (by kernel_rfl) (by kernel_rfl) (by kernel_rfl) (by kernel_rfl) (by kernel_rfl) (fun _ _ _ h => h) (Or.inl ⟨rfl, fun W hW => ?_⟩) hH ?_
          · refine QuietRun.of_call (f := 9) (args := #[.int .i64 x.a, .int .i64 (m1 : Int)]) ?_ ?_
            · go_simp
            · exact HK1.out W
          try simp only [Act.put, List.setIfInBounds_toArray, List.set_cons_zero, List.set_cons_succ]
          refine wpAnyT_take (i := 7) (oi := { dst := some 54, op := Op.binOp BinOp.sub 3 (Operand.tmp 53) (Operand.const (Value.int IntKind.i64 1)) 3, type := 3, pos := _, after := #[{ on := 6, ground := Ground.data }], guard := none }) (v := .int .i64 up) rfl (by kernel_rfl) (by kernel_rfl) (by kernel_rfl) (by kernel_rfl) (by kernel_rfl) (fun _ _ _ h => h) (Or.inl ⟨rfl, fun W hW => ?_⟩) hH ?_
          · refine QuietRun.of_run ?_; go_simp
          try simp only [Act.put, List.setIfInBounds_toArray, List.set_cons_zero, List.set_cons_succ]
          refine wpAnyT_take (i := 8) (oi := { dst := some 55, op := Op.fieldAddr 32 (Operand.tmp 8) 3, type := 0, pos := _, after := #[], guard := none }) (v := .pointer (some ⟨Ba, 3, none⟩)) rfl (by kernel_rfl) (by kernel_rfl) (by kernel_rfl) (by kernel_rfl) (by kernel_rfl) (fun _ _ _ h => h) (Or.inl ⟨rfl, fun W hW => ?_⟩) hH ?_
          · refine QuietRun.of_run ?_; go_simp
          try simp only [Act.put, List.setIfInBounds_toArray, List.set_cons_zero, List.set_cons_succ]
          refine wpAnyT_take (i := 9) (oi := { dst := some 56, op := Op.load 3 (Operand.tmp 55), type := 3, pos := _, after := #[{ on := 8, ground := Ground.data }], guard := none }) (v := .int .i64 x.c) rfl (by kernel_rfl) (by kernel_rfl) (by kernel_rfl) (by kernel_rfl) (by kernel_rfl) (fun _ _ _ h => h) (Or.inl ⟨rfl, fun W hW => ?_⟩) hH ?_
          · refine QuietRun.of_run ?_; obtain ⟨z0, z1, z2⟩ := hW; go_simp
          try simp only [Act.put, List.setIfInBounds_toArray, List.set_cons_zero, List.set_cons_succ]
          refine wpAnyT_take (i := 10) (oi := { dst := some 57, op := Op.move (Operand.tmp 0), type := 3, pos := _, after := #[], guard := none }) (v := .int .i64 (n : Int)) rfl (by kernel_rfl) (by kernel_rfl) (by kernel_rfl) (by kernel_rfl) (by kernel_rfl) (fun _ _ _ h => h) (Or.inl ⟨rfl, fun W hW => ?_⟩) hH ?_
          · refine QuietRun.of_run ?_; go_simp
          try simp only [Act.put, List.setIfInBounds_toArray, List.set_cons_zero, List.set_cons_succ]
          refine wpAnyT_take (i := 11) (oi := { dst := some 58, op := Op.binOp BinOp.add 3 (Operand.tmp 57) (Operand.const (Value.int IntKind.i64 2)) 3, type := 3, pos := _, after := #[{ on := 10, ground := Ground.data }], guard := none }) (v := .int .i64 (m2 : Int)) rfl (by kernel_rfl) (by kernel_rfl) (by kernel_rfl) (by kernel_rfl) (by kernel_rfl) (fun _ _ _ h => h) (Or.inl ⟨rfl, fun W hW => ?_⟩) hH ?_
          · refine QuietRun.of_run ?_; go_simp
          try simp only [Act.put, List.setIfInBounds_toArray, List.set_cons_zero, List.set_cons_succ]
          refine wpAnyT_take (i := 12) (oi := { dst := some 59, op := Op.call { callee := Callee.value (Operand.func 9), args := #[Operand.tmp 56, Operand.tmp 58], argTypes := #[3, 3] }, type := 3, pos := _, after := #[{ on := 9, ground := Ground.data }, { on := 11, ground := Ground.data }, { on := 6, ground := Ground.chain }], guard := none }) (v := .int .i64 (k2 : Int)) rfl (by kernel_rfl) (by kernel_rfl) (by kernel_rfl) (by kernel_rfl) (by kernel_rfl) (fun _ _ _ h => h) (Or.inl ⟨rfl, fun W hW => ?_⟩) hH ?_
          · refine QuietRun.of_call (f := 9) (args := #[.int .i64 x.c, .int .i64 (m2 : Int)]) ?_ ?_
            · go_simp
            · exact HK2.out W
          try simp only [Act.put, List.setIfInBounds_toArray, List.set_cons_zero, List.set_cons_succ]
          refine wpAnyT_take (i := 13) (oi := { dst := some 60, op := Op.binOp BinOp.sub 3 (Operand.tmp 59) (Operand.const (Value.int IntKind.i64 1)) 3, type := 3, pos := _, after := #[{ on := 12, ground := Ground.data }, { on := 14, ground := Ground.gcOnly Departure.lateStores }], guard := none }) (v := .int .i64 fr) rfl (by kernel_rfl) (by kernel_rfl) (by kernel_rfl) (by kernel_rfl) (by kernel_rfl) (fun _ _ _ h => h) (Or.inl ⟨rfl, fun W hW => ?_⟩) hH ?_
          · refine QuietRun.of_run ?_; go_simp
          try simp only [Act.put, List.setIfInBounds_toArray, List.set_cons_zero, List.set_cons_succ]
          refine wpAnyT_ready (rs := [14]) (by kernel_rfl) (by simp) ?_
          refine AllReadyT.cons (o := { dst := some 11, op := Op.assign (Operand.tmp 54), type := 3, pos := _, after := #[{ on := 7, ground := Ground.data }, { on := 12, ground := Ground.chain }, { on := 0, ground := Ground.phase }, { on := 1, ground := Ground.phase }, { on := 2, ground := Ground.phase }, { on := 3, ground := Ground.phase }, { on := 4, ground := Ground.phase }, { on := 5, ground := Ground.phase }, { on := 6, ground := Ground.phase }, { on := 7, ground := Ground.phase }, { on := 8, ground := Ground.textOnly Departure.lateStores }, { on := 9, ground := Ground.textOnly Departure.lateStores }, { on := 10, ground := Ground.textOnly Departure.lateStores }, { on := 11, ground := Ground.textOnly Departure.lateStores }, { on := 12, ground := Ground.textOnly Departure.lateStoresUnsure }, { on := 13, ground := Ground.textOnly Departure.lateStores }], guard := none }) rfl (fun K hK => ?_) (AllReadyT.nil)
          go_simp
          refine hK.out _ _ (fun _ => hH) (fun hH2 => ?_)
          clear hK K
          replace hH := hH2 (by kernel_rfl)
          clear hH2
          try simp only [Act.put, List.setIfInBounds_toArray, List.set_cons_zero, List.set_cons_succ]
          refine wpAnyT_ready (rs := [15]) (by kernel_rfl) (by simp) ?_
          refine AllReadyT.cons (o := { dst := some 12, op := Op.assign (Operand.tmp 60), type := 3, pos := _, after := #[{ on := 13, ground := Ground.data }, { on := 14, ground := Ground.chain }, { on := 0, ground := Ground.phase }, { on := 1, ground := Ground.phase }, { on := 2, ground := Ground.phase }, { on := 3, ground := Ground.phase }, { on := 4, ground := Ground.phase }, { on := 5, ground := Ground.phase }, { on := 6, ground := Ground.phase }, { on := 7, ground := Ground.phase }, { on := 8, ground := Ground.phase }, { on := 9, ground := Ground.phase }, { on := 10, ground := Ground.phase }, { on := 11, ground := Ground.phase }, { on := 12, ground := Ground.phase }, { on := 13, ground := Ground.phase }, { on := 14, ground := Ground.phase }], guard := none }) rfl (fun K hK => ?_) (AllReadyT.nil)
          go_simp
          refine hK.out _ _ (fun h => absurd (h.symm.trans (show _ = true from by kernel_rfl)) (by decide)) (fun _ => ?_)
          clear hK K
          try simp only [Act.put, List.setIfInBounds_toArray, List.set_cons_zero, List.set_cons_succ]
          refine wpAnyT_done (by kernel_rfl) ?_ _
          -- END R11
          obtain ⟨wc, hwc⟩ : ∃ wc, wb.drew = wc := ⟨_, rfl⟩
          have hbc : Below wb.heap.size wb wc := by rw [← hwc]; exact (Below.refl _ _).drew
          have V5c := HV5b.out.below hbc
          have V6c := HV6b.out.below hbc
          have V9c := HV9.out.below hbc
          have V10c := HV10.out.below hbc
          have bac := (hbc.block Ba (lt_of_block HBlb.out)).trans HBlb.out
          have HBc := Lib.hid (below_from HBb.out hbc)
          rw [hwc]
          clear hwc hbc y1 y3 c6 em1 em2 eup efr
          obtain ⟨k12, hk12, -, hw12⟩ := within_lit x.b 12 12 rfl (by decide) (by decide)
          obtain ⟨k9, hk9, -, hw9⟩ := within_lit x.d 9 9 rfl (by decide) (by decide)
          have HK12 := Lib.hid hw12
          have HK9 := Lib.hid hw9
          obtain ⟨kd, hkd⟩ : ∃ kd : Int, (1 : Int) + (k12 : Int) = kd := ⟨_, rfl⟩
          obtain ⟨s1, hs1⟩ : ∃ s1 : Int, fr + (k9 : Int) = s1 := ⟨_, rfl⟩
          obtain ⟨to', hto⟩ : ∃ t : Int, s1 - 1 = t := ⟨_, rfl⟩
          have hf0 := Ef.out
          have ekd : IntKind.i64.wrap ((1 : Int) + (k12 : Int)) = kd := by rw [hkd]; exact IntWalk.i64_in _ (by omega)
          have es1 : IntKind.i64.wrap (fr + (k9 : Int)) = s1 := by rw [hs1]; exact IntWalk.i64_in _ (by omega)
          have eto : IntKind.i64.wrap (s1 - 1) = to' := by rw [hto]; exact IntWalk.i64_in _ (by omega)
          have HV5c := Lib.hid V5c
          have HV6c := Lib.hid V6c
          have HV9c := Lib.hid V9c
          have HV10c := Lib.hid V10c
          have HBac := Lib.hid bac
          have c5 := V5c.cell
          have y2 := Joins.cell_of_block bac 2
          have y4 := Joins.cell_of_block bac 4
          have hfew : ∀ z ∈ X, z.ks.length ≤ 200 := fun z hz => by have h1 := HWl.out.few z hz; rw [HLX.out] at h1; omega
          have hlen : X.length ≤ 200 := by rw [HLX.out]; omega
          have hwR := well_add HWl.out up kd fr to'
          have hlR := len_add HWl.out.good up kd fr to'
          rw [HLX.out] at hlR
          have HAd := Lib.hid (fun W (hb : Below wc.heap.size wc W) => aAdd (.slice ta LX tc) X up kd fr to' W (HV5c.out.below hb).nd HWl.out.good hlen hfew)
          have HRd := Lib.hid (fun W (h : Nodes W (.slice xa LX xc) X) => rAdd (.slice xa LX xc) X up kd fr to' W h HWl.out.good (by omega) (fun z hz => Nat.le_trans (hfew z hz) (by omega)))
          obtain ⟨R, hR⟩ : ∃ R, addN X up kd fr to' = R := ⟨_, rfl⟩
          rw [hR] at HAd HRd hwR hlR
          have HWR := Lib.hid hwR
          obtain ⟨X', at', hRR⟩ : ∃ X' at', R = (X', at') := ⟨R.1, R.2, rfl⟩
          subst hRR
          clear hw12 hw9 hkd hs1 hto hf0 V5c V6c V9c V10c bac hfew hlen hwR hR
          dsimp only at hlR HAd HRd HWR
          go_upto_region 12 with fail
          go_cut [13, 14] (fun p q wx => ∃ B13 u13, p = .pointer (some ⟨B13, 0, none⟩) ∧ q = .int .i64 at' ∧ wc.heap.size ≤ B13 ∧ Hid (Var wx B13 27 u13 X') ∧ Hid (Below wc.heap.size wc wx))
          case first =>
            as_aux_lemma =>
            go_wp2_with fail
            -- GEN R12
            refine wp_region_T (fun wx => wx.cell? ⟨B5, 0, none⟩ = some (.slice ta LX tc) ∧ wx.cell? ⟨Ba, 2, none⟩ = some (.int .i64 x.b) ∧ wx.cell? ⟨Ba, 4, none⟩ = some (.int .i64 x.d)) 19 (by kernel_rfl) ?_
            have hH : (fun wx : World => wx.cell? ⟨B5, 0, none⟩ = some (.slice ta LX tc) ∧ wx.cell? ⟨Ba, 2, none⟩ = some (.int .i64 x.b) ∧ wx.cell? ⟨Ba, 4, none⟩ = some (.int .i64 x.d)) wc.drew := ⟨at_drew c5, at_drew y2, at_drew y4⟩
            have be := (Below.refl wc.heap.size wc).drew
            refine wpAnyT_take (i := 0) (oi := { dst := some 62, op := Op.load 27 (Operand.tmp 5), type := 27, pos := _, after := #[], guard := none }) (v := .agg #[.slice ta LX tc]) rfl (by kernel_rfl) (by kernel_rfl) (by kernel_rfl) (by kernel_rfl) (by kernel_rfl) (fun _ _ _ h => h) (Or.inl ⟨rfl, fun W hW => ?_⟩) hH ?_
            · refine QuietRun.of_run ?_; obtain ⟨z0, z1, z2⟩ := hW; go_simp
            try simp only [Act.put, List.setIfInBounds_toArray, List.set_cons_zero, List.set_cons_succ]
            refine wpAnyT_take (i := 1) (oi := { dst := some 63, op := Op.move (Operand.tmp 11), type := 3, pos := _, after := #[], guard := none }) (v := .int .i64 up) rfl (by kernel_rfl) (by kernel_rfl) (by kernel_rfl) (by kernel_rfl) (by kernel_rfl) (fun _ _ _ h => h) (Or.inl ⟨rfl, fun W hW => ?_⟩) hH ?_
            · refine QuietRun.of_run ?_; go_simp
            try simp only [Act.put, List.setIfInBounds_toArray, List.set_cons_zero, List.set_cons_succ]
            refine wpAnyT_take (i := 2) (oi := { dst := some 64, op := Op.fieldAddr 32 (Operand.tmp 8) 2, type := 0, pos := _, after := #[], guard := none }) (v := .pointer (some ⟨Ba, 2, none⟩)) rfl (by kernel_rfl) (by kernel_rfl) (by kernel_rfl) (by kernel_rfl) (by kernel_rfl) (fun _ _ _ h => h) (Or.inl ⟨rfl, fun W hW => ?_⟩) hH ?_
            · refine QuietRun.of_run ?_; go_simp
            try simp only [Act.put, List.setIfInBounds_toArray, List.set_cons_zero, List.set_cons_succ]
            refine wpAnyT_take (i := 3) (oi := { dst := some 65, op := Op.load 3 (Operand.tmp 64), type := 3, pos := _, after := #[{ on := 2, ground := Ground.data }], guard := none }) (v := .int .i64 x.b) rfl (by kernel_rfl) (by kernel_rfl) (by kernel_rfl) (by kernel_rfl) (by kernel_rfl) (fun _ _ _ h => h) (Or.inl ⟨rfl, fun W hW => ?_⟩) hH ?_
            · refine QuietRun.of_run ?_; obtain ⟨z0, z1, z2⟩ := hW; go_simp
            try simp only [Act.put, List.setIfInBounds_toArray, List.set_cons_zero, List.set_cons_succ]
            refine wpAnyT_take (i := 4) (oi := { dst := some 66, op := Op.call { callee := Callee.value (Operand.func 9), args := #[Operand.tmp 65, Operand.const (Value.int IntKind.i64 12)], argTypes := #[3, 3] }, type := 3, pos := _, after := #[{ on := 3, ground := Ground.data }], guard := none }) (v := .int .i64 (k12 : Int)) rfl (by kernel_rfl) (by kernel_rfl) (by kernel_rfl) (by kernel_rfl) (by kernel_rfl) (fun _ _ _ h => h) (Or.inl ⟨rfl, fun W hW => ?_⟩) hH ?_
            · refine QuietRun.of_call (f := 9) (args := #[.int .i64 x.b, .int .i64 12]) ?_ ?_
              · go_simp
              · exact HK12.out W
            try simp only [Act.put, List.setIfInBounds_toArray, List.set_cons_zero, List.set_cons_succ]
            refine wpAnyT_take (i := 5) (oi := { dst := some 67, op := Op.binOp BinOp.add 3 (Operand.const (Value.int IntKind.i64 1)) (Operand.tmp 66) 3, type := 3, pos := _, after := #[{ on := 4, ground := Ground.data }], guard := none }) (v := .int .i64 kd) rfl (by kernel_rfl) (by kernel_rfl) (by kernel_rfl) (by kernel_rfl) (by kernel_rfl) (fun _ _ _ h => h) (Or.inl ⟨rfl, fun W hW => ?_⟩) hH ?_
            · refine QuietRun.of_run ?_; go_simp
            try simp only [Act.put, List.setIfInBounds_toArray, List.set_cons_zero, List.set_cons_succ]
            refine wpAnyT_take (i := 6) (oi := { dst := some 68, op := Op.move (Operand.tmp 12), type := 3, pos := _, after := #[], guard := none }) (v := .int .i64 fr) rfl (by kernel_rfl) (by kernel_rfl) (by kernel_rfl) (by kernel_rfl) (by kernel_rfl) (fun _ _ _ h => h) (Or.inl ⟨rfl, fun W hW => ?_⟩) hH ?_
            · refine QuietRun.of_run ?_; go_simp
            try simp only [Act.put, List.setIfInBounds_toArray, List.set_cons_zero, List.set_cons_succ]
            refine wpAnyT_take (i := 7) (oi := { dst := some 69, op := Op.move (Operand.tmp 12), type := 3, pos := _, after := #[], guard := none }) (v := .int .i64 fr) rfl (by kernel_rfl) (by kernel_rfl) (by kernel_rfl) (by kernel_rfl) (by kernel_rfl) (fun _ _ _ h => h) (Or.inl ⟨rfl, fun W hW => ?_⟩) hH ?_
            · refine QuietRun.of_run ?_; go_simp
            try simp only [Act.put, List.setIfInBounds_toArray, List.set_cons_zero, List.set_cons_succ]
            refine wpAnyT_take (i := 8) (oi := { dst := some 70, op := Op.fieldAddr 32 (Operand.tmp 8) 4, type := 0, pos := _, after := #[], guard := none }) (v := .pointer (some ⟨Ba, 4, none⟩)) rfl (by kernel_rfl) (by kernel_rfl) (by kernel_rfl) (by kernel_rfl) (by kernel_rfl) (fun _ _ _ h => h) (Or.inl ⟨rfl, fun W hW => ?_⟩) hH ?_
            · refine QuietRun.of_run ?_; go_simp
            try simp only [Act.put, List.setIfInBounds_toArray, List.set_cons_zero, List.set_cons_succ]
            refine wpAnyT_take (i := 9) (oi := { dst := some 71, op := Op.load 3 (Operand.tmp 70), type := 3, pos := _, after := #[{ on := 8, ground := Ground.data }], guard := none }) (v := .int .i64 x.d) rfl (by kernel_rfl) (by kernel_rfl) (by kernel_rfl) (by kernel_rfl) (by kernel_rfl) (fun _ _ _ h => h) (Or.inl ⟨rfl, fun W hW => ?_⟩) hH ?_
            · refine QuietRun.of_run ?_; obtain ⟨z0, z1, z2⟩ := hW; go_simp
            try simp only [Act.put, List.setIfInBounds_toArray, List.set_cons_zero, List.set_cons_succ]
            refine wpAnyT_take (i := 10) (oi := { dst := some 72, op := Op.call { callee := Callee.value (Operand.func 9), args := #[Operand.tmp 71, Operand.const (Value.int IntKind.i64 9)], argTypes := #[3, 3] }, type := 3, pos := _, after := #[{ on := 9, ground := Ground.data }, { on := 4, ground := Ground.chain }], guard := none }) (v := .int .i64 (k9 : Int)) rfl (by kernel_rfl) (by kernel_rfl) (by kernel_rfl) (by kernel_rfl) (by kernel_rfl) (fun _ _ _ h => h) (Or.inl ⟨rfl, fun W hW => ?_⟩) hH ?_
            · refine QuietRun.of_call (f := 9) (args := #[.int .i64 x.d, .int .i64 9]) ?_ ?_
              · go_simp
              · exact HK9.out W
            try simp only [Act.put, List.setIfInBounds_toArray, List.set_cons_zero, List.set_cons_succ]
            refine wpAnyT_take (i := 11) (oi := { dst := some 73, op := Op.binOp BinOp.add 3 (Operand.tmp 69) (Operand.tmp 72) 3, type := 3, pos := _, after := #[{ on := 7, ground := Ground.data }, { on := 10, ground := Ground.data }], guard := none }) (v := .int .i64 s1) rfl (by kernel_rfl) (by kernel_rfl) (by kernel_rfl) (by kernel_rfl) (by kernel_rfl) (fun _ _ _ h => h) (Or.inl ⟨rfl, fun W hW => ?_⟩) hH ?_
            · refine QuietRun.of_run ?_; go_simp
            try simp only [Act.put, List.setIfInBounds_toArray, List.set_cons_zero, List.set_cons_succ]
            refine wpAnyT_take (i := 12) (oi := { dst := some 74, op := Op.binOp BinOp.sub 3 (Operand.tmp 73) (Operand.const (Value.int IntKind.i64 1)) 3, type := 3, pos := _, after := #[{ on := 11, ground := Ground.data }], guard := none }) (v := .int .i64 to') rfl (by kernel_rfl) (by kernel_rfl) (by kernel_rfl) (by kernel_rfl) (by kernel_rfl) (fun _ _ _ h => h) (Or.inl ⟨rfl, fun W hW => ?_⟩) hH ?_
            · refine QuietRun.of_run ?_; go_simp
            try simp only [Act.put, List.setIfInBounds_toArray, List.set_cons_zero, List.set_cons_succ]
            refine wpAnyT_ready (rs := [13, 17]) (by kernel_rfl) (by simp) ?_
            refine AllReadyT.cons (o := { dst := some 75, op := Op.call { callee := Callee.value (Operand.func 14), args := #[Operand.tmp 62, Operand.tmp 63, Operand.tmp 67, Operand.tmp 68, Operand.tmp 74], argTypes := #[27, 3, 3, 3, 3] }, type := 35, pos := _, after := #[{ on := 0, ground := Ground.data }, { on := 1, ground := Ground.data }, { on := 5, ground := Ground.data }, { on := 6, ground := Ground.data }, { on := 12, ground := Ground.data }, { on := 10, ground := Ground.chain }], guard := none }) rfl (fun K hK => ?_) (AllReadyT.cons (o := { dst := some 13, op := Op.alloc 27, type := 0, pos := _, after := #[], guard := none }) rfl (fun K hK => ?_) (AllReadyT.nil))
            · skip
              go_simp
              refine (HAd.out (wc.drew) be).mono ?_
              rintro e wn1 ⟨u, rfl, na, -, hb⟩
              dsimp only at na ⊢
              obtain ⟨ua, uc, rfl⟩ := na.shape
              obtain ⟨un, hun⟩ : ∃ un, X'.length = un := ⟨_, rfl⟩
              rw [hun] at na ⊢
              clear hun
              have be := below_from be hb
              clear hb
              try go_wp2_with fail
              refine hK.out _ _ (fun _ => ⟨at_below be c5, at_below be y2, at_below be y4⟩) (fun hH2 => ?_)
              clear hK K
              replace hH := hH2 (by kernel_rfl)
              clear hH2
              try simp only [Act.put, List.setIfInBounds_toArray, List.set_cons_zero, List.set_cons_succ]
              refine wpAnyT_take (i := 14) (oi := { dst := some 61, op := Op.move (Operand.tmp 75), type := 35, pos := _, after := #[{ on := 13, ground := Ground.data }], guard := none }) (v := .tuple #[.agg #[.slice ua un uc], .int .i64 at']) rfl (by kernel_rfl) (by kernel_rfl) (by kernel_rfl) (by kernel_rfl) (by kernel_rfl) (fun _ _ _ h => h) (Or.inl ⟨rfl, fun W hW => ?_⟩) hH ?_
              · refine QuietRun.of_run ?_; go_simp
              try simp only [Act.put, List.setIfInBounds_toArray, List.set_cons_zero, List.set_cons_succ]
              refine wpAnyT_take (i := 15) (oi := { dst := some 76, op := Op.extract (Operand.tmp 61) 0, type := 27, pos := _, after := #[{ on := 14, ground := Ground.data }], guard := none }) (v := .agg #[.slice ua un uc]) rfl (by kernel_rfl) (by kernel_rfl) (by kernel_rfl) (by kernel_rfl) (by kernel_rfl) (fun _ _ _ h => h) (Or.inl ⟨rfl, fun W hW => ?_⟩) hH ?_
              · refine QuietRun.of_run ?_; go_simp
              try simp only [Act.put, List.setIfInBounds_toArray, List.set_cons_zero, List.set_cons_succ]
              refine wpAnyT_take (i := 16) (oi := { dst := some 77, op := Op.extract (Operand.tmp 61) 1, type := 3, pos := _, after := #[{ on := 14, ground := Ground.data }, { on := 18, ground := Ground.gcOnly Departure.lateStores }], guard := none }) (v := .int .i64 at') rfl (by kernel_rfl) (by kernel_rfl) (by kernel_rfl) (by kernel_rfl) (by kernel_rfl) (fun _ _ _ h => h) (Or.inl ⟨rfl, fun W hW => ?_⟩) hH ?_
              · refine QuietRun.of_run ?_; go_simp
              try simp only [Act.put, List.setIfInBounds_toArray, List.set_cons_zero, List.set_cons_succ]
              refine wpAnyT_ready (rs := [17]) (by kernel_rfl) (by simp) ?_
              refine AllReadyT.cons (o := { dst := some 13, op := Op.alloc 27, type := 0, pos := _, after := #[], guard := none }) rfl (fun K hK => ?_) (AllReadyT.nil)
              go_simp
              obtain ⟨B13, hB⟩ : ∃ x, (wn1).heap.size = x := ⟨_, rfl⟩
              obtain ⟨wn2, hW⟩ : ∃ x, (wn1).alloc (.cells #[.slice none 0 0] 27) = x := ⟨_, rfl⟩
              have hb := below_alloc (wn1) (.cells #[.slice none 0 0] 27)
              have nb := heap_alloc_new (wn1) (.cells #[.slice none 0 0] 27)
              rw [hW] at hb nb
              rw [hB] at nb
              have lb : wc.heap.size ≤ B13 := by have := be.size; omega
              have na := na.below hb
              have be := below_from be hb
              have bb := nb
              try rw [hW]
              try rw [hB]
              clear hb nb hW hB
              refine hK.out _ _ (fun _ => ⟨at_below be c5, at_below be y2, at_below be y4⟩) (fun hH2 => ?_)
              clear hK K
              replace hH := hH2 (by kernel_rfl)
              clear hH2
              try simp only [Act.put, List.setIfInBounds_toArray, List.set_cons_zero, List.set_cons_succ]
              refine wpAnyT_ready (rs := [18]) (by kernel_rfl) (by simp) ?_
              refine AllReadyT.cons (o := { dst := none, op := Op.store 27 (Operand.tmp 13) (Operand.tmp 76), type := 0, pos := _, after := #[{ on := 17, ground := Ground.data }, { on := 15, ground := Ground.data }, { on := 13, ground := Ground.chain }, { on := 0, ground := Ground.phase }, { on := 1, ground := Ground.phase }, { on := 2, ground := Ground.phase }, { on := 3, ground := Ground.phase }, { on := 4, ground := Ground.phase }, { on := 5, ground := Ground.phase }, { on := 6, ground := Ground.phase }, { on := 7, ground := Ground.phase }, { on := 8, ground := Ground.phase }, { on := 9, ground := Ground.phase }, { on := 10, ground := Ground.phase }, { on := 11, ground := Ground.phase }, { on := 12, ground := Ground.phase }, { on := 13, ground := Ground.phase }, { on := 14, ground := Ground.phase }, { on := 15, ground := Ground.phase }, { on := 16, ground := Ground.textOnly Departure.lateStores }, { on := 17, ground := Ground.phase }], guard := none }) rfl (fun K hK => ?_) (AllReadyT.nil)
              have cb := cell_of_one bb
              have fb := free_of_one bb
              go_simp
              have bb := one_setCell (u := .slice ua un uc) bb
              have na := na.set cb (.slice ua un uc)
              have be := be.setCell (p := ⟨B13, 0, none⟩) lb (.slice ua un uc)
              obtain ⟨wn3, hW⟩ : ∃ x, World.setCell wn2 ⟨B13, 0, none⟩ (.slice ua un uc) = x := ⟨_, rfl⟩
              rw [hW] at bb na be
              rw [hW]
              clear hW cb fb
              refine hK.out _ _ (fun _ => ⟨at_below be c5, at_below be y2, at_below be y4⟩) (fun hH2 => ?_)
              clear hK K
              replace hH := hH2 (by kernel_rfl)
              clear hH2
              try simp only [Act.put, List.setIfInBounds_toArray, List.set_cons_zero, List.set_cons_succ]
              refine wpAnyT_ready (rs := [19]) (by kernel_rfl) (by simp) ?_
              refine AllReadyT.cons (o := { dst := some 14, op := Op.assign (Operand.tmp 77), type := 3, pos := _, after := #[{ on := 16, ground := Ground.data }, { on := 18, ground := Ground.chain }, { on := 0, ground := Ground.phase }, { on := 1, ground := Ground.phase }, { on := 2, ground := Ground.phase }, { on := 3, ground := Ground.phase }, { on := 4, ground := Ground.phase }, { on := 5, ground := Ground.phase }, { on := 6, ground := Ground.phase }, { on := 7, ground := Ground.phase }, { on := 8, ground := Ground.phase }, { on := 9, ground := Ground.phase }, { on := 10, ground := Ground.phase }, { on := 11, ground := Ground.phase }, { on := 12, ground := Ground.phase }, { on := 13, ground := Ground.phase }, { on := 14, ground := Ground.phase }, { on := 15, ground := Ground.phase }, { on := 16, ground := Ground.phase }, { on := 17, ground := Ground.phase }, { on := 18, ground := Ground.phase }], guard := none }) rfl (fun K hK => ?_) (AllReadyT.nil)
              go_simp
              refine hK.out _ _ (fun h => absurd (h.symm.trans (show _ = true from by kernel_rfl)) (by decide)) (fun _ => ?_)
              clear hK K
              try simp only [Act.put, List.setIfInBounds_toArray, List.set_cons_zero, List.set_cons_succ]
              refine wpAnyT_done (by kernel_rfl) ?_ _
              go_wp2_with fail
              go_meet
              exact ⟨B13, .slice ua un uc, rfl, rfl, lb, Lib.hid ⟨bb, na⟩, Lib.hid be⟩
            · skip
              go_simp
              obtain ⟨B13, hB⟩ : ∃ x, wc.heap.size = x := ⟨_, rfl⟩
              obtain ⟨wn5, hW⟩ : ∃ x, (wc.alloc (.cells #[.slice none 0 0] 27)).drew = x := ⟨_, rfl⟩
              have bb : (World.drew (wc.alloc (.cells #[.slice none 0 0] 27))).heap[wc.heap.size]? = some (.cells #[.slice none 0 0] 27 (0, 0)) := heap_alloc_new wc _
              have be : Below wc.heap.size wc (World.drew (wc.alloc (.cells #[.slice none 0 0] 27))) := (below_alloc wc _).drew
              rw [hW] at be bb
              rw [hB] at bb
              have lb : wc.heap.size ≤ B13 := by omega
              try rw [hW]
              try rw [hB]
              clear hW hB
              refine hK.out _ _ (fun _ => ⟨at_below be c5, at_below be y2, at_below be y4⟩) (fun hH2 => ?_)
              clear hK K
              replace hH := hH2 (by kernel_rfl)
              clear hH2
              try simp only [Act.put, List.setIfInBounds_toArray, List.set_cons_zero, List.set_cons_succ]
              refine wpAnyT_ready (rs := [13]) (by kernel_rfl) (by simp) ?_
              refine AllReadyT.cons (o := { dst := some 75, op := Op.call { callee := Callee.value (Operand.func 14), args := #[Operand.tmp 62, Operand.tmp 63, Operand.tmp 67, Operand.tmp 68, Operand.tmp 74], argTypes := #[27, 3, 3, 3, 3] }, type := 35, pos := _, after := #[{ on := 0, ground := Ground.data }, { on := 1, ground := Ground.data }, { on := 5, ground := Ground.data }, { on := 6, ground := Ground.data }, { on := 12, ground := Ground.data }, { on := 10, ground := Ground.chain }], guard := none }) rfl (fun K hK => ?_) (AllReadyT.nil)
              go_simp
              refine (HAd.out (wn5) be).mono ?_
              rintro e wn6 ⟨u, rfl, na, -, hb⟩
              dsimp only at na ⊢
              obtain ⟨ua, uc, rfl⟩ := na.shape
              obtain ⟨un, hun⟩ : ∃ un, X'.length = un := ⟨_, rfl⟩
              rw [hun] at na ⊢
              clear hun
              have bb := (hb.block B13 (lt_of_block bb)).trans bb
              have be := below_from be hb
              clear hb
              try go_wp2_with fail
              refine hK.out _ _ (fun _ => ⟨at_below be c5, at_below be y2, at_below be y4⟩) (fun hH2 => ?_)
              clear hK K
              replace hH := hH2 (by kernel_rfl)
              clear hH2
              try simp only [Act.put, List.setIfInBounds_toArray, List.set_cons_zero, List.set_cons_succ]
              refine wpAnyT_take (i := 14) (oi := { dst := some 61, op := Op.move (Operand.tmp 75), type := 35, pos := _, after := #[{ on := 13, ground := Ground.data }], guard := none }) (v := .tuple #[.agg #[.slice ua un uc], .int .i64 at']) rfl (by kernel_rfl) (by kernel_rfl) (by kernel_rfl) (by kernel_rfl) (by kernel_rfl) (fun _ _ _ h => h) (Or.inl ⟨rfl, fun W hW => ?_⟩) hH ?_
              · refine QuietRun.of_run ?_; go_simp
              try simp only [Act.put, List.setIfInBounds_toArray, List.set_cons_zero, List.set_cons_succ]
              refine wpAnyT_take (i := 15) (oi := { dst := some 76, op := Op.extract (Operand.tmp 61) 0, type := 27, pos := _, after := #[{ on := 14, ground := Ground.data }], guard := none }) (v := .agg #[.slice ua un uc]) rfl (by kernel_rfl) (by kernel_rfl) (by kernel_rfl) (by kernel_rfl) (by kernel_rfl) (fun _ _ _ h => h) (Or.inl ⟨rfl, fun W hW => ?_⟩) hH ?_
              · refine QuietRun.of_run ?_; go_simp
              try simp only [Act.put, List.setIfInBounds_toArray, List.set_cons_zero, List.set_cons_succ]
              refine wpAnyT_take (i := 16) (oi := { dst := some 77, op := Op.extract (Operand.tmp 61) 1, type := 3, pos := _, after := #[{ on := 14, ground := Ground.data }, { on := 18, ground := Ground.gcOnly Departure.lateStores }], guard := none }) (v := .int .i64 at') rfl (by kernel_rfl) (by kernel_rfl) (by kernel_rfl) (by kernel_rfl) (by kernel_rfl) (fun _ _ _ h => h) (Or.inl ⟨rfl, fun W hW => ?_⟩) hH ?_
              · refine QuietRun.of_run ?_; go_simp
              try simp only [Act.put, List.setIfInBounds_toArray, List.set_cons_zero, List.set_cons_succ]
              refine wpAnyT_ready (rs := [18]) (by kernel_rfl) (by simp) ?_
              refine AllReadyT.cons (o := { dst := none, op := Op.store 27 (Operand.tmp 13) (Operand.tmp 76), type := 0, pos := _, after := #[{ on := 17, ground := Ground.data }, { on := 15, ground := Ground.data }, { on := 13, ground := Ground.chain }, { on := 0, ground := Ground.phase }, { on := 1, ground := Ground.phase }, { on := 2, ground := Ground.phase }, { on := 3, ground := Ground.phase }, { on := 4, ground := Ground.phase }, { on := 5, ground := Ground.phase }, { on := 6, ground := Ground.phase }, { on := 7, ground := Ground.phase }, { on := 8, ground := Ground.phase }, { on := 9, ground := Ground.phase }, { on := 10, ground := Ground.phase }, { on := 11, ground := Ground.phase }, { on := 12, ground := Ground.phase }, { on := 13, ground := Ground.phase }, { on := 14, ground := Ground.phase }, { on := 15, ground := Ground.phase }, { on := 16, ground := Ground.textOnly Departure.lateStores }, { on := 17, ground := Ground.phase }], guard := none }) rfl (fun K hK => ?_) (AllReadyT.nil)
              have cb := cell_of_one bb
              have fb := free_of_one bb
              go_simp
              have bb := one_setCell (u := .slice ua un uc) bb
              have na := na.set cb (.slice ua un uc)
              have be := be.setCell (p := ⟨B13, 0, none⟩) lb (.slice ua un uc)
              obtain ⟨wn7, hW⟩ : ∃ x, World.setCell wn6 ⟨B13, 0, none⟩ (.slice ua un uc) = x := ⟨_, rfl⟩
              rw [hW] at bb na be
              rw [hW]
              clear hW cb fb
              refine hK.out _ _ (fun _ => ⟨at_below be c5, at_below be y2, at_below be y4⟩) (fun hH2 => ?_)
              clear hK K
              replace hH := hH2 (by kernel_rfl)
              clear hH2
              try simp only [Act.put, List.setIfInBounds_toArray, List.set_cons_zero, List.set_cons_succ]
              refine wpAnyT_ready (rs := [19]) (by kernel_rfl) (by simp) ?_
              refine AllReadyT.cons (o := { dst := some 14, op := Op.assign (Operand.tmp 77), type := 3, pos := _, after := #[{ on := 16, ground := Ground.data }, { on := 18, ground := Ground.chain }, { on := 0, ground := Ground.phase }, { on := 1, ground := Ground.phase }, { on := 2, ground := Ground.phase }, { on := 3, ground := Ground.phase }, { on := 4, ground := Ground.phase }, { on := 5, ground := Ground.phase }, { on := 6, ground := Ground.phase }, { on := 7, ground := Ground.phase }, { on := 8, ground := Ground.phase }, { on := 9, ground := Ground.phase }, { on := 10, ground := Ground.phase }, { on := 11, ground := Ground.phase }, { on := 12, ground := Ground.phase }, { on := 13, ground := Ground.phase }, { on := 14, ground := Ground.phase }, { on := 15, ground := Ground.phase }, { on := 16, ground := Ground.phase }, { on := 17, ground := Ground.phase }, { on := 18, ground := Ground.phase }], guard := none }) rfl (fun K hK => ?_) (AllReadyT.nil)
              go_simp
              refine hK.out _ _ (fun h => absurd (h.symm.trans (show _ = true from by kernel_rfl)) (by decide)) (fun _ => ?_)
              clear hK K
              try simp only [Act.put, List.setIfInBounds_toArray, List.set_cons_zero, List.set_cons_succ]
              refine wpAnyT_done (by kernel_rfl) ?_ _
              go_wp2_with fail
              go_meet
              exact ⟨B13, .slice ua un uc, rfl, rfl, lb, Lib.hid ⟨bb, na⟩, Lib.hid be⟩
            -- END R12
          case rest =>
          obtain ⟨B13, u13, rfl, rfl, l13, HV13, HB13⟩ := hcut
          rename World => wd
          have HV6d := Lib.hid (HV6c.out.below HB13.out)
          have bad := (HB13.out.block Ba (lt_of_block HBac.out)).trans HBac.out
          clear c5 y2 y4
          have c6 := HV6d.out.cell
          have y2 := Joins.cell_of_block bad 2
          have y4 := Joins.cell_of_block bad 4
          go_upto_region 13 with fail
          go_cut [15, 16] (fun p q wx => ∃ B15 u15, p = .pointer (some ⟨B15, 0, none⟩) ∧ q = .int .i64 at' ∧ wd.heap.size ≤ B15 ∧ Hid (Var wx B15 29 u15 X') ∧ Hid (Below wd.heap.size wd wx))
          case first =>
            as_aux_lemma =>
            go_wp2_with fail
            -- GEN R13
            refine wp_region_T (fun wx => wx.cell? ⟨B6, 0, none⟩ = some (.slice xa LX xc) ∧ wx.cell? ⟨Ba, 2, none⟩ = some (.int .i64 x.b) ∧ wx.cell? ⟨Ba, 4, none⟩ = some (.int .i64 x.d)) 19 (by kernel_rfl) ?_
            have hH : (fun wx : World => wx.cell? ⟨B6, 0, none⟩ = some (.slice xa LX xc) ∧ wx.cell? ⟨Ba, 2, none⟩ = some (.int .i64 x.b) ∧ wx.cell? ⟨Ba, 4, none⟩ = some (.int .i64 x.d)) wd.drew := ⟨at_drew c6, at_drew y2, at_drew y4⟩
            have be := (Below.refl wd.heap.size wd).drew
            refine wpAnyT_take (i := 0) (oi := { dst := some 79, op := Op.load 29 (Operand.tmp 6), type := 29, pos := _, after := #[], guard := none }) (v := .agg #[.slice xa LX xc]) rfl (by kernel_rfl) (by kernel_rfl) (by kernel_rfl) (by kernel_rfl) (by kernel_rfl) (fun _ _ _ h => h) (Or.inl ⟨rfl, fun W hW => ?_⟩) hH ?_
            · refine QuietRun.of_run ?_; obtain ⟨z0, z1, z2⟩ := hW; go_simp
            try simp only [Act.put, List.setIfInBounds_toArray, List.set_cons_zero, List.set_cons_succ]
            refine wpAnyT_take (i := 1) (oi := { dst := some 80, op := Op.move (Operand.tmp 11), type := 3, pos := _, after := #[], guard := none }) (v := .int .i64 up) rfl (by kernel_rfl) (by kernel_rfl) (by kernel_rfl) (by kernel_rfl) (by kernel_rfl) (fun _ _ _ h => h) (Or.inl ⟨rfl, fun W hW => ?_⟩) hH ?_
            · refine QuietRun.of_run ?_; go_simp
            try simp only [Act.put, List.setIfInBounds_toArray, List.set_cons_zero, List.set_cons_succ]
            refine wpAnyT_take (i := 2) (oi := { dst := some 81, op := Op.fieldAddr 32 (Operand.tmp 8) 2, type := 0, pos := _, after := #[], guard := none }) (v := .pointer (some ⟨Ba, 2, none⟩)) rfl (by kernel_rfl) (by kernel_rfl) (by kernel_rfl) (by kernel_rfl) (by kernel_rfl) (fun _ _ _ h => h) (Or.inl ⟨rfl, fun W hW => ?_⟩) hH ?_
            · refine QuietRun.of_run ?_; go_simp
            try simp only [Act.put, List.setIfInBounds_toArray, List.set_cons_zero, List.set_cons_succ]
            refine wpAnyT_take (i := 3) (oi := { dst := some 82, op := Op.load 3 (Operand.tmp 81), type := 3, pos := _, after := #[{ on := 2, ground := Ground.data }], guard := none }) (v := .int .i64 x.b) rfl (by kernel_rfl) (by kernel_rfl) (by kernel_rfl) (by kernel_rfl) (by kernel_rfl) (fun _ _ _ h => h) (Or.inl ⟨rfl, fun W hW => ?_⟩) hH ?_
            · refine QuietRun.of_run ?_; obtain ⟨z0, z1, z2⟩ := hW; go_simp
            try simp only [Act.put, List.setIfInBounds_toArray, List.set_cons_zero, List.set_cons_succ]
            refine wpAnyT_take (i := 4) (oi := { dst := some 83, op := Op.call { callee := Callee.value (Operand.func 9), args := #[Operand.tmp 82, Operand.const (Value.int IntKind.i64 12)], argTypes := #[3, 3] }, type := 3, pos := _, after := #[{ on := 3, ground := Ground.data }], guard := none }) (v := .int .i64 (k12 : Int)) rfl (by kernel_rfl) (by kernel_rfl) (by kernel_rfl) (by kernel_rfl) (by kernel_rfl) (fun _ _ _ h => h) (Or.inl ⟨rfl, fun W hW => ?_⟩) hH ?_
            · refine QuietRun.of_call (f := 9) (args := #[.int .i64 x.b, .int .i64 12]) ?_ ?_
              · go_simp
              · exact HK12.out W
            try simp only [Act.put, List.setIfInBounds_toArray, List.set_cons_zero, List.set_cons_succ]
            refine wpAnyT_take (i := 5) (oi := { dst := some 84, op := Op.binOp BinOp.add 3 (Operand.const (Value.int IntKind.i64 1)) (Operand.tmp 83) 3, type := 3, pos := _, after := #[{ on := 4, ground := Ground.data }], guard := none }) (v := .int .i64 kd) rfl (by kernel_rfl) (by kernel_rfl) (by kernel_rfl) (by kernel_rfl) (by kernel_rfl) (fun _ _ _ h => h) (Or.inl ⟨rfl, fun W hW => ?_⟩) hH ?_
            · refine QuietRun.of_run ?_; go_simp
            try simp only [Act.put, List.setIfInBounds_toArray, List.set_cons_zero, List.set_cons_succ]
            refine wpAnyT_take (i := 6) (oi := { dst := some 85, op := Op.move (Operand.tmp 12), type := 3, pos := _, after := #[], guard := none }) (v := .int .i64 fr) rfl (by kernel_rfl) (by kernel_rfl) (by kernel_rfl) (by kernel_rfl) (by kernel_rfl) (fun _ _ _ h => h) (Or.inl ⟨rfl, fun W hW => ?_⟩) hH ?_
            · refine QuietRun.of_run ?_; go_simp
            try simp only [Act.put, List.setIfInBounds_toArray, List.set_cons_zero, List.set_cons_succ]
            refine wpAnyT_take (i := 7) (oi := { dst := some 86, op := Op.move (Operand.tmp 12), type := 3, pos := _, after := #[], guard := none }) (v := .int .i64 fr) rfl (by kernel_rfl) (by kernel_rfl) (by kernel_rfl) (by kernel_rfl) (by kernel_rfl) (fun _ _ _ h => h) (Or.inl ⟨rfl, fun W hW => ?_⟩) hH ?_
            · refine QuietRun.of_run ?_; go_simp
            try simp only [Act.put, List.setIfInBounds_toArray, List.set_cons_zero, List.set_cons_succ]
            refine wpAnyT_take (i := 8) (oi := { dst := some 87, op := Op.fieldAddr 32 (Operand.tmp 8) 4, type := 0, pos := _, after := #[], guard := none }) (v := .pointer (some ⟨Ba, 4, none⟩)) rfl (by kernel_rfl) (by kernel_rfl) (by kernel_rfl) (by kernel_rfl) (by kernel_rfl) (fun _ _ _ h => h) (Or.inl ⟨rfl, fun W hW => ?_⟩) hH ?_
            · refine QuietRun.of_run ?_; go_simp
            try simp only [Act.put, List.setIfInBounds_toArray, List.set_cons_zero, List.set_cons_succ]
            refine wpAnyT_take (i := 9) (oi := { dst := some 88, op := Op.load 3 (Operand.tmp 87), type := 3, pos := _, after := #[{ on := 8, ground := Ground.data }], guard := none }) (v := .int .i64 x.d) rfl (by kernel_rfl) (by kernel_rfl) (by kernel_rfl) (by kernel_rfl) (by kernel_rfl) (fun _ _ _ h => h) (Or.inl ⟨rfl, fun W hW => ?_⟩) hH ?_
            · refine QuietRun.of_run ?_; obtain ⟨z0, z1, z2⟩ := hW; go_simp
            try simp only [Act.put, List.setIfInBounds_toArray, List.set_cons_zero, List.set_cons_succ]
            refine wpAnyT_take (i := 10) (oi := { dst := some 89, op := Op.call { callee := Callee.value (Operand.func 9), args := #[Operand.tmp 88, Operand.const (Value.int IntKind.i64 9)], argTypes := #[3, 3] }, type := 3, pos := _, after := #[{ on := 9, ground := Ground.data }, { on := 4, ground := Ground.chain }], guard := none }) (v := .int .i64 (k9 : Int)) rfl (by kernel_rfl) (by kernel_rfl) (by kernel_rfl) (by kernel_rfl) (by kernel_rfl) (fun _ _ _ h => h) (Or.inl ⟨rfl, fun W hW => ?_⟩) hH ?_
            · refine QuietRun.of_call (f := 9) (args := #[.int .i64 x.d, .int .i64 9]) ?_ ?_
              · go_simp
              · exact HK9.out W
            try simp only [Act.put, List.setIfInBounds_toArray, List.set_cons_zero, List.set_cons_succ]
            refine wpAnyT_take (i := 11) (oi := { dst := some 90, op := Op.binOp BinOp.add 3 (Operand.tmp 86) (Operand.tmp 89) 3, type := 3, pos := _, after := #[{ on := 7, ground := Ground.data }, { on := 10, ground := Ground.data }], guard := none }) (v := .int .i64 s1) rfl (by kernel_rfl) (by kernel_rfl) (by kernel_rfl) (by kernel_rfl) (by kernel_rfl) (fun _ _ _ h => h) (Or.inl ⟨rfl, fun W hW => ?_⟩) hH ?_
            · refine QuietRun.of_run ?_; go_simp
            try simp only [Act.put, List.setIfInBounds_toArray, List.set_cons_zero, List.set_cons_succ]
            refine wpAnyT_take (i := 12) (oi := { dst := some 91, op := Op.binOp BinOp.sub 3 (Operand.tmp 90) (Operand.const (Value.int IntKind.i64 1)) 3, type := 3, pos := _, after := #[{ on := 11, ground := Ground.data }], guard := none }) (v := .int .i64 to') rfl (by kernel_rfl) (by kernel_rfl) (by kernel_rfl) (by kernel_rfl) (by kernel_rfl) (fun _ _ _ h => h) (Or.inl ⟨rfl, fun W hW => ?_⟩) hH ?_
            · refine QuietRun.of_run ?_; go_simp
            try simp only [Act.put, List.setIfInBounds_toArray, List.set_cons_zero, List.set_cons_succ]
            refine wpAnyT_ready (rs := [13, 17]) (by kernel_rfl) (by simp) ?_
            refine AllReadyT.cons (o := { dst := some 92, op := Op.call { callee := Callee.value (Operand.func 15), args := #[Operand.tmp 79, Operand.tmp 80, Operand.tmp 84, Operand.tmp 85, Operand.tmp 91], argTypes := #[29, 3, 3, 3, 3] }, type := 37, pos := _, after := #[{ on := 0, ground := Ground.data }, { on := 1, ground := Ground.data }, { on := 5, ground := Ground.data }, { on := 6, ground := Ground.data }, { on := 12, ground := Ground.data }, { on := 10, ground := Ground.chain }], guard := none }) rfl (fun K hK => ?_) (AllReadyT.cons (o := { dst := some 15, op := Op.alloc 29, type := 0, pos := _, after := #[], guard := none }) rfl (fun K hK => ?_) (AllReadyT.nil))
            · skip
              go_simp
              refine (HRd.out (wd.drew) (HV6d.out.below be).nd).mono ?_
              rintro e wn1 ⟨u, rfl, na, -, hb⟩
              dsimp only at na ⊢
              obtain ⟨ua, uc, rfl⟩ := na.shape
              obtain ⟨un, hun⟩ : ∃ un, X'.length = un := ⟨_, rfl⟩
              rw [hun] at na ⊢
              clear hun
              have be := below_from be hb
              clear hb
              try go_wp2_with fail
              refine hK.out _ _ (fun _ => ⟨at_below be c6, at_below be y2, at_below be y4⟩) (fun hH2 => ?_)
              clear hK K
              replace hH := hH2 (by kernel_rfl)
              clear hH2
              try simp only [Act.put, List.setIfInBounds_toArray, List.set_cons_zero, List.set_cons_succ]
              refine wpAnyT_take (i := 14) (oi := { dst := some 78, op := Op.move (Operand.tmp 92), type := 37, pos := _, after := #[{ on := 13, ground := Ground.data }], guard := none }) (v := .tuple #[.agg #[.slice ua un uc], .int .i64 at']) rfl (by kernel_rfl) (by kernel_rfl) (by kernel_rfl) (by kernel_rfl) (by kernel_rfl) (fun _ _ _ h => h) (Or.inl ⟨rfl, fun W hW => ?_⟩) hH ?_
              · refine QuietRun.of_run ?_; go_simp
              try simp only [Act.put, List.setIfInBounds_toArray, List.set_cons_zero, List.set_cons_succ]
              refine wpAnyT_take (i := 15) (oi := { dst := some 93, op := Op.extract (Operand.tmp 78) 0, type := 29, pos := _, after := #[{ on := 14, ground := Ground.data }], guard := none }) (v := .agg #[.slice ua un uc]) rfl (by kernel_rfl) (by kernel_rfl) (by kernel_rfl) (by kernel_rfl) (by kernel_rfl) (fun _ _ _ h => h) (Or.inl ⟨rfl, fun W hW => ?_⟩) hH ?_
              · refine QuietRun.of_run ?_; go_simp
              try simp only [Act.put, List.setIfInBounds_toArray, List.set_cons_zero, List.set_cons_succ]
              refine wpAnyT_take (i := 16) (oi := { dst := some 94, op := Op.extract (Operand.tmp 78) 1, type := 3, pos := _, after := #[{ on := 14, ground := Ground.data }, { on := 18, ground := Ground.gcOnly Departure.lateStores }], guard := none }) (v := .int .i64 at') rfl (by kernel_rfl) (by kernel_rfl) (by kernel_rfl) (by kernel_rfl) (by kernel_rfl) (fun _ _ _ h => h) (Or.inl ⟨rfl, fun W hW => ?_⟩) hH ?_
              · refine QuietRun.of_run ?_; go_simp
              try simp only [Act.put, List.setIfInBounds_toArray, List.set_cons_zero, List.set_cons_succ]
              refine wpAnyT_ready (rs := [17]) (by kernel_rfl) (by simp) ?_
              refine AllReadyT.cons (o := { dst := some 15, op := Op.alloc 29, type := 0, pos := _, after := #[], guard := none }) rfl (fun K hK => ?_) (AllReadyT.nil)
              go_simp
              obtain ⟨B15, hB⟩ : ∃ x, (wn1).heap.size = x := ⟨_, rfl⟩
              obtain ⟨wn2, hW⟩ : ∃ x, (wn1).alloc (.cells #[.slice none 0 0] 29) = x := ⟨_, rfl⟩
              have hb := below_alloc (wn1) (.cells #[.slice none 0 0] 29)
              have nb := heap_alloc_new (wn1) (.cells #[.slice none 0 0] 29)
              rw [hW] at hb nb
              rw [hB] at nb
              have lb : wd.heap.size ≤ B15 := by have := be.size; omega
              have na := na.below hb
              have be := below_from be hb
              have bb := nb
              try rw [hW]
              try rw [hB]
              clear hb nb hW hB
              refine hK.out _ _ (fun _ => ⟨at_below be c6, at_below be y2, at_below be y4⟩) (fun hH2 => ?_)
              clear hK K
              replace hH := hH2 (by kernel_rfl)
              clear hH2
              try simp only [Act.put, List.setIfInBounds_toArray, List.set_cons_zero, List.set_cons_succ]
              refine wpAnyT_ready (rs := [18]) (by kernel_rfl) (by simp) ?_
              refine AllReadyT.cons (o := { dst := none, op := Op.store 29 (Operand.tmp 15) (Operand.tmp 93), type := 0, pos := _, after := #[{ on := 17, ground := Ground.data }, { on := 15, ground := Ground.data }, { on := 13, ground := Ground.chain }, { on := 0, ground := Ground.phase }, { on := 1, ground := Ground.phase }, { on := 2, ground := Ground.phase }, { on := 3, ground := Ground.phase }, { on := 4, ground := Ground.phase }, { on := 5, ground := Ground.phase }, { on := 6, ground := Ground.phase }, { on := 7, ground := Ground.phase }, { on := 8, ground := Ground.phase }, { on := 9, ground := Ground.phase }, { on := 10, ground := Ground.phase }, { on := 11, ground := Ground.phase }, { on := 12, ground := Ground.phase }, { on := 13, ground := Ground.phase }, { on := 14, ground := Ground.phase }, { on := 15, ground := Ground.phase }, { on := 16, ground := Ground.textOnly Departure.lateStores }, { on := 17, ground := Ground.phase }], guard := none }) rfl (fun K hK => ?_) (AllReadyT.nil)
              have cb := cell_of_one bb
              have fb := free_of_one bb
              go_simp
              have bb := one_setCell (u := .slice ua un uc) bb
              have na := na.set cb (.slice ua un uc)
              have be := be.setCell (p := ⟨B15, 0, none⟩) lb (.slice ua un uc)
              obtain ⟨wn3, hW⟩ : ∃ x, World.setCell wn2 ⟨B15, 0, none⟩ (.slice ua un uc) = x := ⟨_, rfl⟩
              rw [hW] at bb na be
              rw [hW]
              clear hW cb fb
              refine hK.out _ _ (fun _ => ⟨at_below be c6, at_below be y2, at_below be y4⟩) (fun hH2 => ?_)
              clear hK K
              replace hH := hH2 (by kernel_rfl)
              clear hH2
              try simp only [Act.put, List.setIfInBounds_toArray, List.set_cons_zero, List.set_cons_succ]
              refine wpAnyT_ready (rs := [19]) (by kernel_rfl) (by simp) ?_
              refine AllReadyT.cons (o := { dst := some 16, op := Op.assign (Operand.tmp 94), type := 3, pos := _, after := #[{ on := 16, ground := Ground.data }, { on := 18, ground := Ground.chain }, { on := 0, ground := Ground.phase }, { on := 1, ground := Ground.phase }, { on := 2, ground := Ground.phase }, { on := 3, ground := Ground.phase }, { on := 4, ground := Ground.phase }, { on := 5, ground := Ground.phase }, { on := 6, ground := Ground.phase }, { on := 7, ground := Ground.phase }, { on := 8, ground := Ground.phase }, { on := 9, ground := Ground.phase }, { on := 10, ground := Ground.phase }, { on := 11, ground := Ground.phase }, { on := 12, ground := Ground.phase }, { on := 13, ground := Ground.phase }, { on := 14, ground := Ground.phase }, { on := 15, ground := Ground.phase }, { on := 16, ground := Ground.phase }, { on := 17, ground := Ground.phase }, { on := 18, ground := Ground.phase }], guard := none }) rfl (fun K hK => ?_) (AllReadyT.nil)
              go_simp
              refine hK.out _ _ (fun h => absurd (h.symm.trans (show _ = true from by kernel_rfl)) (by decide)) (fun _ => ?_)
              clear hK K
              try simp only [Act.put, List.setIfInBounds_toArray, List.set_cons_zero, List.set_cons_succ]
              refine wpAnyT_done (by kernel_rfl) ?_ _
              go_wp2_with fail
              go_meet
              exact ⟨B15, .slice ua un uc, rfl, rfl, lb, Lib.hid ⟨bb, na⟩, Lib.hid be⟩
            · skip
              go_simp
              obtain ⟨B15, hB⟩ : ∃ x, wd.heap.size = x := ⟨_, rfl⟩
              obtain ⟨wn5, hW⟩ : ∃ x, (wd.alloc (.cells #[.slice none 0 0] 29)).drew = x := ⟨_, rfl⟩
              have bb : (World.drew (wd.alloc (.cells #[.slice none 0 0] 29))).heap[wd.heap.size]? = some (.cells #[.slice none 0 0] 29 (0, 0)) := heap_alloc_new wd _
              have be : Below wd.heap.size wd (World.drew (wd.alloc (.cells #[.slice none 0 0] 29))) := (below_alloc wd _).drew
              rw [hW] at be bb
              rw [hB] at bb
              have lb : wd.heap.size ≤ B15 := by omega
              try rw [hW]
              try rw [hB]
              clear hW hB
              refine hK.out _ _ (fun _ => ⟨at_below be c6, at_below be y2, at_below be y4⟩) (fun hH2 => ?_)
              clear hK K
              replace hH := hH2 (by kernel_rfl)
              clear hH2
              try simp only [Act.put, List.setIfInBounds_toArray, List.set_cons_zero, List.set_cons_succ]
              refine wpAnyT_ready (rs := [13]) (by kernel_rfl) (by simp) ?_
              refine AllReadyT.cons (o := { dst := some 92, op := Op.call { callee := Callee.value (Operand.func 15), args := #[Operand.tmp 79, Operand.tmp 80, Operand.tmp 84, Operand.tmp 85, Operand.tmp 91], argTypes := #[29, 3, 3, 3, 3] }, type := 37, pos := _, after := #[{ on := 0, ground := Ground.data }, { on := 1, ground := Ground.data }, { on := 5, ground := Ground.data }, { on := 6, ground := Ground.data }, { on := 12, ground := Ground.data }, { on := 10, ground := Ground.chain }], guard := none }) rfl (fun K hK => ?_) (AllReadyT.nil)
              go_simp
              refine (HRd.out (wn5) (HV6d.out.below be).nd).mono ?_
              rintro e wn6 ⟨u, rfl, na, -, hb⟩
              dsimp only at na ⊢
              obtain ⟨ua, uc, rfl⟩ := na.shape
              obtain ⟨un, hun⟩ : ∃ un, X'.length = un := ⟨_, rfl⟩
              rw [hun] at na ⊢
              clear hun
              have bb := (hb.block B15 (lt_of_block bb)).trans bb
              have be := below_from be hb
              clear hb
              try go_wp2_with fail
              refine hK.out _ _ (fun _ => ⟨at_below be c6, at_below be y2, at_below be y4⟩) (fun hH2 => ?_)
              clear hK K
              replace hH := hH2 (by kernel_rfl)
              clear hH2
              try simp only [Act.put, List.setIfInBounds_toArray, List.set_cons_zero, List.set_cons_succ]
              refine wpAnyT_take (i := 14) (oi := { dst := some 78, op := Op.move (Operand.tmp 92), type := 37, pos := _, after := #[{ on := 13, ground := Ground.data }], guard := none }) (v := .tuple #[.agg #[.slice ua un uc], .int .i64 at']) rfl (by kernel_rfl) (by kernel_rfl) (by kernel_rfl) (by kernel_rfl) (by kernel_rfl) (fun _ _ _ h => h) (Or.inl ⟨rfl, fun W hW => ?_⟩) hH ?_
              · refine QuietRun.of_run ?_; go_simp
              try simp only [Act.put, List.setIfInBounds_toArray, List.set_cons_zero, List.set_cons_succ]
              refine wpAnyT_take (i := 15) (oi := { dst := some 93, op := Op.extract (Operand.tmp 78) 0, type := 29, pos := _, after := #[{ on := 14, ground := Ground.data }], guard := none }) (v := .agg #[.slice ua un uc]) rfl (by kernel_rfl) (by kernel_rfl) (by kernel_rfl) (by kernel_rfl) (by kernel_rfl) (fun _ _ _ h => h) (Or.inl ⟨rfl, fun W hW => ?_⟩) hH ?_
              · refine QuietRun.of_run ?_; go_simp
              try simp only [Act.put, List.setIfInBounds_toArray, List.set_cons_zero, List.set_cons_succ]
              refine wpAnyT_take (i := 16) (oi := { dst := some 94, op := Op.extract (Operand.tmp 78) 1, type := 3, pos := _, after := #[{ on := 14, ground := Ground.data }, { on := 18, ground := Ground.gcOnly Departure.lateStores }], guard := none }) (v := .int .i64 at') rfl (by kernel_rfl) (by kernel_rfl) (by kernel_rfl) (by kernel_rfl) (by kernel_rfl) (fun _ _ _ h => h) (Or.inl ⟨rfl, fun W hW => ?_⟩) hH ?_
              · refine QuietRun.of_run ?_; go_simp
              try simp only [Act.put, List.setIfInBounds_toArray, List.set_cons_zero, List.set_cons_succ]
              refine wpAnyT_ready (rs := [18]) (by kernel_rfl) (by simp) ?_
              refine AllReadyT.cons (o := { dst := none, op := Op.store 29 (Operand.tmp 15) (Operand.tmp 93), type := 0, pos := _, after := #[{ on := 17, ground := Ground.data }, { on := 15, ground := Ground.data }, { on := 13, ground := Ground.chain }, { on := 0, ground := Ground.phase }, { on := 1, ground := Ground.phase }, { on := 2, ground := Ground.phase }, { on := 3, ground := Ground.phase }, { on := 4, ground := Ground.phase }, { on := 5, ground := Ground.phase }, { on := 6, ground := Ground.phase }, { on := 7, ground := Ground.phase }, { on := 8, ground := Ground.phase }, { on := 9, ground := Ground.phase }, { on := 10, ground := Ground.phase }, { on := 11, ground := Ground.phase }, { on := 12, ground := Ground.phase }, { on := 13, ground := Ground.phase }, { on := 14, ground := Ground.phase }, { on := 15, ground := Ground.phase }, { on := 16, ground := Ground.textOnly Departure.lateStores }, { on := 17, ground := Ground.phase }], guard := none }) rfl (fun K hK => ?_) (AllReadyT.nil)
              have cb := cell_of_one bb
              have fb := free_of_one bb
              go_simp
              have bb := one_setCell (u := .slice ua un uc) bb
              have na := na.set cb (.slice ua un uc)
              have be := be.setCell (p := ⟨B15, 0, none⟩) lb (.slice ua un uc)
              obtain ⟨wn7, hW⟩ : ∃ x, World.setCell wn6 ⟨B15, 0, none⟩ (.slice ua un uc) = x := ⟨_, rfl⟩
              rw [hW] at bb na be
              rw [hW]
              clear hW cb fb
              refine hK.out _ _ (fun _ => ⟨at_below be c6, at_below be y2, at_below be y4⟩) (fun hH2 => ?_)
              clear hK K
              replace hH := hH2 (by kernel_rfl)
              clear hH2
              try simp only [Act.put, List.setIfInBounds_toArray, List.set_cons_zero, List.set_cons_succ]
              refine wpAnyT_ready (rs := [19]) (by kernel_rfl) (by simp) ?_
              refine AllReadyT.cons (o := { dst := some 16, op := Op.assign (Operand.tmp 94), type := 3, pos := _, after := #[{ on := 16, ground := Ground.data }, { on := 18, ground := Ground.chain }, { on := 0, ground := Ground.phase }, { on := 1, ground := Ground.phase }, { on := 2, ground := Ground.phase }, { on := 3, ground := Ground.phase }, { on := 4, ground := Ground.phase }, { on := 5, ground := Ground.phase }, { on := 6, ground := Ground.phase }, { on := 7, ground := Ground.phase }, { on := 8, ground := Ground.phase }, { on := 9, ground := Ground.phase }, { on := 10, ground := Ground.phase }, { on := 11, ground := Ground.phase }, { on := 12, ground := Ground.phase }, { on := 13, ground := Ground.phase }, { on := 14, ground := Ground.phase }, { on := 15, ground := Ground.phase }, { on := 16, ground := Ground.phase }, { on := 17, ground := Ground.phase }, { on := 18, ground := Ground.phase }], guard := none }) rfl (fun K hK => ?_) (AllReadyT.nil)
              go_simp
              refine hK.out _ _ (fun h => absurd (h.symm.trans (show _ = true from by kernel_rfl)) (by decide)) (fun _ => ?_)
              clear hK K
              try simp only [Act.put, List.setIfInBounds_toArray, List.set_cons_zero, List.set_cons_succ]
              refine wpAnyT_done (by kernel_rfl) ?_ _
              go_wp2_with fail
              go_meet
              exact ⟨B15, .slice ua un uc, rfl, rfl, lb, Lib.hid ⟨bb, na⟩, Lib.hid be⟩
            -- END R13
          case rest =>
          obtain ⟨B15, u15, rfl, rfl, l15, HV15, HB15⟩ := hcut
          rename World => we
          clear c6 y2 y4 ekd es1 eto
          have V13e := HV13.out.below HB15.out
          have V15e := HV15.out
          have hce := below_from HB13.out HB15.out
          have V5e := HV5c.out.below hce
          have V6e := HV6c.out.below hce
          have V9e := HV9c.out.below hce
          have V10e := HV10c.out.below hce
          have n513 : B5 ≠ B13 := by have := HV5c.out.lt; omega
          have n515 : B5 ≠ B15 := by have := HV5c.out.lt; have := HB13.out.size; omega
          have n613 : B6 ≠ B13 := by have := HV6c.out.lt; omega
          have HBe2 := Lib.hid (below_from HBc.out hce)
          obtain ⟨p13, q13, rfl⟩ := V13e.shape
          obtain ⟨p15, q15, rfl⟩ := V15e.shape
          obtain ⟨LN, hLN⟩ : ∃ LN, X'.length = LN := ⟨_, rfl⟩
          rw [hLN] at V13e V15e hlR
          have HLN := Lib.hid hLN
          have HX5 := Lib.hid (V5e.set V13e.nd)
          have h6' := V6e.other V5e (fun e => n56 e.symm) (.slice p13 LN q13)
          have h15' := V15e.other V5e (fun e => n515 e.symm) (.slice p13 LN q13)
          have HX6 := Lib.hid (h6'.set h15'.nd)
          have h5' := HX5.out.other h6' n56 (.slice p15 LN q15)
          have HX5f := Lib.hid h5'
          have h9' := (V9e.other V5e (fun e => n59 e.symm) (.slice p13 LN q13)).other h6' (fun e => n69 e.symm) (.slice p15 LN q15)
          have h10' := (V10e.other V5e (fun e => n510 e.symm) (.slice p13 LN q13)).other h6' (fun e => n610 e.symm) (.slice p15 LN q15)
          have HX9 := Lib.hid h9'
          have HX10 := Lib.hid h10'
          have HBf := Lib.hid ((HBe2.out.setCell (p := ⟨B5, 0, none⟩) w5l (.slice p13 LN q13)).setCell (p := ⟨B6, 0, none⟩) w6l (.slice p15 LN q15))
          have c5 := V5e.cell
          have f5 := V5e.free
          have c6 := V6e.cell
          have f6 := V6e.free
          have c6s := h6'.cell
          have f6s := h6'.free
          have c13 := V13e.cell
          have c15 := V15e.cell
          clear V13e V15e V5e V6e V9e V10e hce h6' h15' h5' h9' h10' hLN
          go_wp2_with fail
          -- GEN R16
          refine wp_region_T (fun wx => wx.cell? ⟨B13, 0, none⟩ = some (.slice p13 LN q13) ∧ wx.cell? ⟨B15, 0, none⟩ = some (.slice p15 LN q15)) 3 (by kernel_rfl) ?_
          have hH : (fun wx : World => wx.cell? ⟨B13, 0, none⟩ = some (.slice p13 LN q13) ∧ wx.cell? ⟨B15, 0, none⟩ = some (.slice p15 LN q15)) we.drew := ⟨at_drew c13, at_drew c15⟩
          refine wpAnyT_take (i := 0) (oi := { dst := some 98, op := Op.load 27 (Operand.tmp 13), type := 27, pos := _, after := #[], guard := none }) (v := .agg #[.slice p13 LN q13]) rfl (by kernel_rfl) (by kernel_rfl) (by kernel_rfl) (by kernel_rfl) (by kernel_rfl) (fun _ _ _ h => h) (Or.inl ⟨rfl, fun W hW => ?_⟩) hH ?_
          · refine QuietRun.of_run ?_; obtain ⟨z0, z1⟩ := hW; go_simp
          try simp only [Act.put, List.setIfInBounds_toArray, List.set_cons_zero, List.set_cons_succ]
          refine wpAnyT_take (i := 1) (oi := { dst := some 99, op := Op.load 29 (Operand.tmp 15), type := 29, pos := _, after := #[{ on := 2, ground := Ground.gcOnly Departure.lateStores }], guard := none }) (v := .agg #[.slice p15 LN q15]) rfl (by kernel_rfl) (by kernel_rfl) (by kernel_rfl) (by kernel_rfl) (by kernel_rfl) (fun _ _ _ h => h) (Or.inl ⟨rfl, fun W hW => ?_⟩) hH ?_
          · refine QuietRun.of_run ?_; obtain ⟨z0, z1⟩ := hW; go_simp
          try simp only [Act.put, List.setIfInBounds_toArray, List.set_cons_zero, List.set_cons_succ]
          refine wpAnyT_ready (rs := [2]) (by kernel_rfl) (by simp) ?_
          refine AllReadyT.cons (o := { dst := none, op := Op.store 27 (Operand.tmp 5) (Operand.tmp 98), type := 0, pos := _, after := #[{ on := 0, ground := Ground.data }, { on := 0, ground := Ground.phase }, { on := 1, ground := Ground.textOnly Departure.lateStores }], guard := none }) rfl (fun K hK => ?_) (AllReadyT.nil)
          go_simp
          refine hK.out _ _ (fun _ => ⟨at_drew (at_far n513 c13), at_drew (at_far n515 c15)⟩) (fun hH2 => ?_)
          clear hK K
          replace hH := hH2 (by kernel_rfl)
          clear hH2
          try simp only [Act.put, List.setIfInBounds_toArray, List.set_cons_zero, List.set_cons_succ]
          refine wpAnyT_ready (rs := [3]) (by kernel_rfl) (by simp) ?_
          refine AllReadyT.cons (o := { dst := none, op := Op.store 29 (Operand.tmp 6) (Operand.tmp 99), type := 0, pos := _, after := #[{ on := 1, ground := Ground.data }, { on := 2, ground := Ground.chain }, { on := 0, ground := Ground.phase }, { on := 1, ground := Ground.phase }, { on := 2, ground := Ground.phase }], guard := none }) rfl (fun K hK => ?_) (AllReadyT.nil)
          go_simp
          refine hK.out _ _ (fun h => absurd (h.symm.trans (show _ = true from by kernel_rfl)) (by decide)) (fun _ => ?_)
          clear hK K
          try simp only [Act.put, List.setIfInBounds_toArray, List.set_cons_zero, List.set_cons_succ]
          refine wpAnyT_done (by kernel_rfl) ?_ _
          -- END R16
          go_wp2_with fail
          go_meet
          exact ⟨X', .slice p13 LN q13, .slice p15 LN q15, HWR, by rw [HLN.out]; exact hlR, Lib.hid (by first | exact HX5f.out | exact HX5f.out.below (Below.refl _ _).drew), Lib.hid (by first | exact HX6.out | exact HX6.out.below (Below.refl _ _).drew), Lib.hid (by first | exact HX9.out | exact HX9.out.below (Below.refl _ _).drew), Lib.hid (by first | exact HX10.out | exact HX10.out.below (Below.refl _ _).drew), Lib.hid (by first | exact HBf.out | exact HBf.out.drew)⟩
        · as_aux_lemma =>
          have q8i : ¬ ((k8 : Int) < 6) := by omega
          have c5 := HV5b.out.cell
          have f5 := HV5b.out.free
          have c6 := HV6b.out.cell
          have y1 := Joins.cell_of_block HBlb.out 1
          have y3 := Joins.cell_of_block HBlb.out 3
          have hfew : ∀ z ∈ X, z.ks.length ≤ 200 := fun z hz => by have h1 := HWl.out.few z hz; rw [HLX.out] at h1; omega
          have hlen : X.length ≤ 200 := by rw [HLX.out]; omega
          have hwR := well_grow HWl.out up k2
          have hlR := len_grow HWl.out.good up k2
          rw [HLX.out] at hlR
          have HAg := Lib.hid (aGrow (.slice ta LX tc) X up k2 wb.drew (HV5b.out.below (Below.refl _ _).drew).nd HWl.out.good hlen hfew)
          have HRg := Lib.hid (fun W (h : Nodes W (.slice xa LX xc) X) => rGrow (.slice xa LX xc) X up k2 W h HWl.out.good (by omega) (fun z hz => Nat.le_trans (hfew z hz) (by omega)))
          obtain ⟨X', hR⟩ : ∃ X', growN X up k2 = X' := ⟨_, rfl⟩
          rw [hR] at HAg HRg hwR hlR
          have HWR := Lib.hid hwR
          have HLR := Lib.hid hlR
          clear hfew hlen hwR hR hlR
          go_wp2_with fail
          -- GEN R17
          refine wp_region_T (fun wx => wx.cell? ⟨B6, 0, none⟩ = some (.slice xa LX xc) ∧ wx.cell? ⟨Ba, 1, none⟩ = some (.int .i64 x.a) ∧ wx.cell? ⟨Ba, 3, none⟩ = some (.int .i64 x.c)) 31 (by kernel_rfl) ?_
          have hH : (fun wx : World => wx.cell? ⟨B6, 0, none⟩ = some (.slice xa LX xc) ∧ wx.cell? ⟨Ba, 1, none⟩ = some (.int .i64 x.a) ∧ wx.cell? ⟨Ba, 3, none⟩ = some (.int .i64 x.c)) wb.drew := ⟨at_drew c6, at_drew y1, at_drew y3⟩
          have be := (Below.refl wb.heap.size wb).drew
          refine wpAnyT_take (i := 1) (oi := { dst := some 101, op := Op.fieldAddr 32 (Operand.tmp 8) 1, type := 0, pos := _, after := #[], guard := none }) (v := .pointer (some ⟨Ba, 1, none⟩)) rfl (by kernel_rfl) (by kernel_rfl) (by kernel_rfl) (by kernel_rfl) (by kernel_rfl) (fun _ _ _ h => h) (Or.inl ⟨rfl, fun W hW => ?_⟩) hH ?_
          · refine QuietRun.of_run ?_; go_simp
          try simp only [Act.put, List.setIfInBounds_toArray, List.set_cons_zero, List.set_cons_succ]
          refine wpAnyT_take (i := 2) (oi := { dst := some 102, op := Op.load 3 (Operand.tmp 101), type := 3, pos := _, after := #[{ on := 1, ground := Ground.data }], guard := none }) (v := .int .i64 x.a) rfl (by kernel_rfl) (by kernel_rfl) (by kernel_rfl) (by kernel_rfl) (by kernel_rfl) (fun _ _ _ h => h) (Or.inl ⟨rfl, fun W hW => ?_⟩) hH ?_
          · refine QuietRun.of_run ?_; obtain ⟨z0, z1, z2⟩ := hW; go_simp
          try simp only [Act.put, List.setIfInBounds_toArray, List.set_cons_zero, List.set_cons_succ]
          refine wpAnyT_take (i := 3) (oi := { dst := some 103, op := Op.fieldAddr 29 (Operand.tmp 6) 0, type := 0, pos := _, after := #[], guard := none }) (v := .pointer (some ⟨B6, 0, none⟩)) rfl (by kernel_rfl) (by kernel_rfl) (by kernel_rfl) (by kernel_rfl) (by kernel_rfl) (fun _ _ _ h => h) (Or.inl ⟨rfl, fun W hW => ?_⟩) hH ?_
          · refine QuietRun.of_run ?_; go_simp
          try simp only [Act.put, List.setIfInBounds_toArray, List.set_cons_zero, List.set_cons_succ]
          refine wpAnyT_take (i := 4) (oi := { dst := some 104, op := Op.load 25 (Operand.tmp 103), type := 25, pos := _, after := #[{ on := 3, ground := Ground.data }], guard := none }) (v := .slice xa LX xc) rfl (by kernel_rfl) (by kernel_rfl) (by kernel_rfl) (by kernel_rfl) (by kernel_rfl) (fun _ _ _ h => h) (Or.inl ⟨rfl, fun W hW => ?_⟩) hH ?_
          · refine QuietRun.of_run ?_; obtain ⟨z0, z1, z2⟩ := hW; go_simp
          try simp only [Act.put, List.setIfInBounds_toArray, List.set_cons_zero, List.set_cons_succ]
          refine wpAnyT_take (i := 5) (oi := { dst := some 105, op := Op.call { callee := Callee.builtin Builtin.len, args := #[Operand.tmp 104], argTypes := #[25] }, type := 3, pos := _, after := #[{ on := 4, ground := Ground.data }], guard := none }) (v := .int .i64 (LX : Int)) rfl (by kernel_rfl) (by kernel_rfl) (by kernel_rfl) (by kernel_rfl) (by kernel_rfl) (fun _ _ _ h => h) (Or.inl ⟨rfl, fun W hW => ?_⟩) hH ?_
          · refine QuietRun.of_run ?_; go_simp
          try simp only [Act.put, List.setIfInBounds_toArray, List.set_cons_zero, List.set_cons_succ]
          refine wpAnyT_take (i := 6) (oi := { dst := some 106, op := Op.binOp BinOp.add 3 (Operand.tmp 105) (Operand.const (Value.int IntKind.i64 2)) 3, type := 3, pos := _, after := #[{ on := 5, ground := Ground.data }], guard := none }) (v := .int .i64 (m1 : Int)) rfl (by kernel_rfl) (by kernel_rfl) (by kernel_rfl) (by kernel_rfl) (by kernel_rfl) (fun _ _ _ h => h) (Or.inl ⟨rfl, fun W hW => ?_⟩) hH ?_
          · refine QuietRun.of_run ?_; go_simp
          try simp only [Act.put, List.setIfInBounds_toArray, List.set_cons_zero, List.set_cons_succ]
          refine wpAnyT_take (i := 7) (oi := { dst := some 107, op := Op.call { callee := Callee.value (Operand.func 9), args := #[Operand.tmp 102, Operand.tmp 106], argTypes := #[3, 3] }, type := 3, pos := _, after := #[{ on := 2, ground := Ground.data }, { on := 6, ground := Ground.data }], guard := none }) (v := .int .i64 (k1 : Int)) rfl (by kernel_rfl) (by kernel_rfl) (by kernel_rfl) (by kernel_rfl) (by kernel_rfl) (fun _ _ _ h => h) (Or.inl ⟨rfl, fun W hW => ?_⟩) hH ?_
          · refine QuietRun.of_call (f := 9) (args := #[.int .i64 x.a, .int .i64 (m1 : Int)]) ?_ ?_
            · go_simp
            · exact HK1.out W
          try simp only [Act.put, List.setIfInBounds_toArray, List.set_cons_zero, List.set_cons_succ]
          refine wpAnyT_take (i := 8) (oi := { dst := some 108, op := Op.binOp BinOp.sub 3 (Operand.tmp 107) (Operand.const (Value.int IntKind.i64 1)) 3, type := 3, pos := _, after := #[{ on := 7, ground := Ground.data }], guard := none }) (v := .int .i64 up) rfl (by kernel_rfl) (by kernel_rfl) (by kernel_rfl) (by kernel_rfl) (by kernel_rfl) (fun _ _ _ h => h) (Or.inl ⟨rfl, fun W hW => ?_⟩) hH ?_
          · refine QuietRun.of_run ?_; go_simp
          try simp only [Act.put, List.setIfInBounds_toArray, List.set_cons_zero, List.set_cons_succ]
          refine wpAnyT_take (i := 9) (oi := { dst := some 109, op := Op.fieldAddr 32 (Operand.tmp 8) 3, type := 0, pos := _, after := #[], guard := none }) (v := .pointer (some ⟨Ba, 3, none⟩)) rfl (by kernel_rfl) (by kernel_rfl) (by kernel_rfl) (by kernel_rfl) (by kernel_rfl) (fun _ _ _ h => h) (Or.inl ⟨rfl, fun W hW => ?_⟩) hH ?_
          · refine QuietRun.of_run ?_; go_simp
          try simp only [Act.put, List.setIfInBounds_toArray, List.set_cons_zero, List.set_cons_succ]
          refine wpAnyT_take (i := 10) (oi := { dst := some 110, op := Op.load 3 (Operand.tmp 109), type := 3, pos := _, after := #[{ on := 9, ground := Ground.data }], guard := none }) (v := .int .i64 x.c) rfl (by kernel_rfl) (by kernel_rfl) (by kernel_rfl) (by kernel_rfl) (by kernel_rfl) (fun _ _ _ h => h) (Or.inl ⟨rfl, fun W hW => ?_⟩) hH ?_
          · refine QuietRun.of_run ?_; obtain ⟨z0, z1, z2⟩ := hW; go_simp
          try simp only [Act.put, List.setIfInBounds_toArray, List.set_cons_zero, List.set_cons_succ]
          refine wpAnyT_take (i := 11) (oi := { dst := some 111, op := Op.move (Operand.tmp 0), type := 3, pos := _, after := #[], guard := none }) (v := .int .i64 (n : Int)) rfl (by kernel_rfl) (by kernel_rfl) (by kernel_rfl) (by kernel_rfl) (by kernel_rfl) (fun _ _ _ h => h) (Or.inl ⟨rfl, fun W hW => ?_⟩) hH ?_
          · refine QuietRun.of_run ?_; go_simp
          try simp only [Act.put, List.setIfInBounds_toArray, List.set_cons_zero, List.set_cons_succ]
          refine wpAnyT_take (i := 12) (oi := { dst := some 112, op := Op.binOp BinOp.add 3 (Operand.tmp 111) (Operand.const (Value.int IntKind.i64 2)) 3, type := 3, pos := _, after := #[{ on := 11, ground := Ground.data }], guard := none }) (v := .int .i64 (m2 : Int)) rfl (by kernel_rfl) (by kernel_rfl) (by kernel_rfl) (by kernel_rfl) (by kernel_rfl) (fun _ _ _ h => h) (Or.inl ⟨rfl, fun W hW => ?_⟩) hH ?_
          · refine QuietRun.of_run ?_; go_simp
          try simp only [Act.put, List.setIfInBounds_toArray, List.set_cons_zero, List.set_cons_succ]
          refine wpAnyT_take (i := 13) (oi := { dst := some 113, op := Op.call { callee := Callee.value (Operand.func 9), args := #[Operand.tmp 110, Operand.tmp 112], argTypes := #[3, 3] }, type := 3, pos := _, after := #[{ on := 10, ground := Ground.data }, { on := 12, ground := Ground.data }, { on := 7, ground := Ground.chain }], guard := none }) (v := .int .i64 (k2 : Int)) rfl (by kernel_rfl) (by kernel_rfl) (by kernel_rfl) (by kernel_rfl) (by kernel_rfl) (fun _ _ _ h => h) (Or.inl ⟨rfl, fun W hW => ?_⟩) hH ?_
          · refine QuietRun.of_call (f := 9) (args := #[.int .i64 x.c, .int .i64 (m2 : Int)]) ?_ ?_
            · go_simp
            · exact HK2.out W
          try simp only [Act.put, List.setIfInBounds_toArray, List.set_cons_zero, List.set_cons_succ]
          refine wpAnyT_take (i := 15) (oi := { dst := some 115, op := Op.load 29 (Operand.tmp 6), type := 29, pos := _, after := #[], guard := none }) (v := .agg #[.slice xa LX xc]) rfl (by kernel_rfl) (by kernel_rfl) (by kernel_rfl) (by kernel_rfl) (by kernel_rfl) (fun _ _ _ h => h) (Or.inl ⟨rfl, fun W hW => ?_⟩) hH ?_
          · refine QuietRun.of_run ?_; obtain ⟨z0, z1, z2⟩ := hW; go_simp
          try simp only [Act.put, List.setIfInBounds_toArray, List.set_cons_zero, List.set_cons_succ]
          refine wpAnyT_take (i := 16) (oi := { dst := some 116, op := Op.fieldAddr 32 (Operand.tmp 8) 1, type := 0, pos := _, after := #[], guard := none }) (v := .pointer (some ⟨Ba, 1, none⟩)) rfl (by kernel_rfl) (by kernel_rfl) (by kernel_rfl) (by kernel_rfl) (by kernel_rfl) (fun _ _ _ h => h) (Or.inl ⟨rfl, fun W hW => ?_⟩) hH ?_
          · refine QuietRun.of_run ?_; go_simp
          try simp only [Act.put, List.setIfInBounds_toArray, List.set_cons_zero, List.set_cons_succ]
          refine wpAnyT_take (i := 17) (oi := { dst := some 117, op := Op.load 3 (Operand.tmp 116), type := 3, pos := _, after := #[{ on := 16, ground := Ground.data }], guard := none }) (v := .int .i64 x.a) rfl (by kernel_rfl) (by kernel_rfl) (by kernel_rfl) (by kernel_rfl) (by kernel_rfl) (fun _ _ _ h => h) (Or.inl ⟨rfl, fun W hW => ?_⟩) hH ?_
          · refine QuietRun.of_run ?_; obtain ⟨z0, z1, z2⟩ := hW; go_simp
          try simp only [Act.put, List.setIfInBounds_toArray, List.set_cons_zero, List.set_cons_succ]
          refine wpAnyT_take (i := 18) (oi := { dst := some 118, op := Op.fieldAddr 29 (Operand.tmp 6) 0, type := 0, pos := _, after := #[], guard := none }) (v := .pointer (some ⟨B6, 0, none⟩)) rfl (by kernel_rfl) (by kernel_rfl) (by kernel_rfl) (by kernel_rfl) (by kernel_rfl) (fun _ _ _ h => h) (Or.inl ⟨rfl, fun W hW => ?_⟩) hH ?_
          · refine QuietRun.of_run ?_; go_simp
          try simp only [Act.put, List.setIfInBounds_toArray, List.set_cons_zero, List.set_cons_succ]
          refine wpAnyT_take (i := 19) (oi := { dst := some 119, op := Op.load 25 (Operand.tmp 118), type := 25, pos := _, after := #[{ on := 18, ground := Ground.data }], guard := none }) (v := .slice xa LX xc) rfl (by kernel_rfl) (by kernel_rfl) (by kernel_rfl) (by kernel_rfl) (by kernel_rfl) (fun _ _ _ h => h) (Or.inl ⟨rfl, fun W hW => ?_⟩) hH ?_
          · refine QuietRun.of_run ?_; obtain ⟨z0, z1, z2⟩ := hW; go_simp
          try simp only [Act.put, List.setIfInBounds_toArray, List.set_cons_zero, List.set_cons_succ]
          refine wpAnyT_take (i := 20) (oi := { dst := some 120, op := Op.call { callee := Callee.builtin Builtin.len, args := #[Operand.tmp 119], argTypes := #[25] }, type := 3, pos := _, after := #[{ on := 19, ground := Ground.data }], guard := none }) (v := .int .i64 (LX : Int)) rfl (by kernel_rfl) (by kernel_rfl) (by kernel_rfl) (by kernel_rfl) (by kernel_rfl) (fun _ _ _ h => h) (Or.inl ⟨rfl, fun W hW => ?_⟩) hH ?_
          · refine QuietRun.of_run ?_; go_simp
          try simp only [Act.put, List.setIfInBounds_toArray, List.set_cons_zero, List.set_cons_succ]
          refine wpAnyT_take (i := 21) (oi := { dst := some 121, op := Op.binOp BinOp.add 3 (Operand.tmp 120) (Operand.const (Value.int IntKind.i64 2)) 3, type := 3, pos := _, after := #[{ on := 20, ground := Ground.data }], guard := none }) (v := .int .i64 (m1 : Int)) rfl (by kernel_rfl) (by kernel_rfl) (by kernel_rfl) (by kernel_rfl) (by kernel_rfl) (fun _ _ _ h => h) (Or.inl ⟨rfl, fun W hW => ?_⟩) hH ?_
          · refine QuietRun.of_run ?_; go_simp
          try simp only [Act.put, List.setIfInBounds_toArray, List.set_cons_zero, List.set_cons_succ]
          refine wpAnyT_take (i := 24) (oi := { dst := some 124, op := Op.fieldAddr 32 (Operand.tmp 8) 3, type := 0, pos := _, after := #[], guard := none }) (v := .pointer (some ⟨Ba, 3, none⟩)) rfl (by kernel_rfl) (by kernel_rfl) (by kernel_rfl) (by kernel_rfl) (by kernel_rfl) (fun _ _ _ h => h) (Or.inl ⟨rfl, fun W hW => ?_⟩) hH ?_
          · refine QuietRun.of_run ?_; go_simp
          try simp only [Act.put, List.setIfInBounds_toArray, List.set_cons_zero, List.set_cons_succ]
          refine wpAnyT_take (i := 25) (oi := { dst := some 125, op := Op.load 3 (Operand.tmp 124), type := 3, pos := _, after := #[{ on := 24, ground := Ground.data }], guard := none }) (v := .int .i64 x.c) rfl (by kernel_rfl) (by kernel_rfl) (by kernel_rfl) (by kernel_rfl) (by kernel_rfl) (fun _ _ _ h => h) (Or.inl ⟨rfl, fun W hW => ?_⟩) hH ?_
          · refine QuietRun.of_run ?_; obtain ⟨z0, z1, z2⟩ := hW; go_simp
          try simp only [Act.put, List.setIfInBounds_toArray, List.set_cons_zero, List.set_cons_succ]
          refine wpAnyT_take (i := 26) (oi := { dst := some 126, op := Op.move (Operand.tmp 0), type := 3, pos := _, after := #[], guard := none }) (v := .int .i64 (n : Int)) rfl (by kernel_rfl) (by kernel_rfl) (by kernel_rfl) (by kernel_rfl) (by kernel_rfl) (fun _ _ _ h => h) (Or.inl ⟨rfl, fun W hW => ?_⟩) hH ?_
          · refine QuietRun.of_run ?_; go_simp
          try simp only [Act.put, List.setIfInBounds_toArray, List.set_cons_zero, List.set_cons_succ]
          refine wpAnyT_take (i := 27) (oi := { dst := some 127, op := Op.binOp BinOp.add 3 (Operand.tmp 126) (Operand.const (Value.int IntKind.i64 2)) 3, type := 3, pos := _, after := #[{ on := 26, ground := Ground.data }], guard := none }) (v := .int .i64 (m2 : Int)) rfl (by kernel_rfl) (by kernel_rfl) (by kernel_rfl) (by kernel_rfl) (by kernel_rfl) (fun _ _ _ h => h) (Or.inl ⟨rfl, fun W hW => ?_⟩) hH ?_
          · refine QuietRun.of_run ?_; go_simp
          try simp only [Act.put, List.setIfInBounds_toArray, List.set_cons_zero, List.set_cons_succ]
          refine wpAnyT_ready (rs := [0]) (by kernel_rfl) (by simp) ?_
          refine AllReadyT.cons (o := { dst := some 100, op := Op.load 27 (Operand.tmp 5), type := 27, pos := _, after := #[], guard := none }) rfl (fun K hK => ?_) (AllReadyT.nil)
          have c5d := at_drew c5
          go_simp
          refine hK.out _ _ (fun _ => ⟨at_below be c6, at_below be y1, at_below be y3⟩) (fun hH2 => ?_)
          clear hK K
          replace hH := hH2 (by kernel_rfl)
          clear hH2
          try simp only [Act.put, List.setIfInBounds_toArray, List.set_cons_zero, List.set_cons_succ]
          refine wpAnyT_ready (rs := [14]) (by kernel_rfl) (by simp) ?_
          refine AllReadyT.cons (o := { dst := some 114, op := Op.call { callee := Callee.value (Operand.func 16), args := #[Operand.tmp 100, Operand.tmp 108, Operand.tmp 113], argTypes := #[27, 3, 3] }, type := 27, pos := _, after := #[{ on := 0, ground := Ground.data }, { on := 8, ground := Ground.data }, { on := 13, ground := Ground.data }, { on := 13, ground := Ground.chain }], guard := none }) rfl (fun K hK => ?_) (AllReadyT.nil)
          go_simp
          refine HAg.out.mono ?_
          rintro e w7 ⟨u7, rfl, n7, -, hb⟩
          obtain ⟨p7, q7, rfl⟩ := n7.shape
          rw [HLR.out] at n7 ⊢
          have be := below_from be hb
          clear hb
          try go_wp2_with fail
          refine hK.out _ _ (fun _ => ⟨at_below be c6, at_below be y1, at_below be y3⟩) (fun hH2 => ?_)
          clear hK K
          replace hH := hH2 (by kernel_rfl)
          clear hH2
          try simp only [Act.put, List.setIfInBounds_toArray, List.set_cons_zero, List.set_cons_succ]
          refine wpAnyT_take (i := 22) (oi := { dst := some 122, op := Op.call { callee := Callee.value (Operand.func 9), args := #[Operand.tmp 117, Operand.tmp 121], argTypes := #[3, 3] }, type := 3, pos := _, after := #[{ on := 17, ground := Ground.data }, { on := 21, ground := Ground.data }, { on := 14, ground := Ground.chain }], guard := none }) (v := .int .i64 (k1 : Int)) rfl (by kernel_rfl) (by kernel_rfl) (by kernel_rfl) (by kernel_rfl) (by kernel_rfl) (fun _ _ _ h => h) (Or.inl ⟨rfl, fun W hW => ?_⟩) hH ?_
          · refine QuietRun.of_call (f := 9) (args := #[.int .i64 x.a, .int .i64 (m1 : Int)]) ?_ ?_
            · go_simp
            · exact HK1.out W
          try simp only [Act.put, List.setIfInBounds_toArray, List.set_cons_zero, List.set_cons_succ]
          refine wpAnyT_take (i := 23) (oi := { dst := some 123, op := Op.binOp BinOp.sub 3 (Operand.tmp 122) (Operand.const (Value.int IntKind.i64 1)) 3, type := 3, pos := _, after := #[{ on := 22, ground := Ground.data }], guard := none }) (v := .int .i64 up) rfl (by kernel_rfl) (by kernel_rfl) (by kernel_rfl) (by kernel_rfl) (by kernel_rfl) (fun _ _ _ h => h) (Or.inl ⟨rfl, fun W hW => ?_⟩) hH ?_
          · refine QuietRun.of_run ?_; go_simp
          try simp only [Act.put, List.setIfInBounds_toArray, List.set_cons_zero, List.set_cons_succ]
          refine wpAnyT_take (i := 28) (oi := { dst := some 128, op := Op.call { callee := Callee.value (Operand.func 9), args := #[Operand.tmp 125, Operand.tmp 127], argTypes := #[3, 3] }, type := 3, pos := _, after := #[{ on := 25, ground := Ground.data }, { on := 27, ground := Ground.data }, { on := 22, ground := Ground.chain }], guard := none }) (v := .int .i64 (k2 : Int)) rfl (by kernel_rfl) (by kernel_rfl) (by kernel_rfl) (by kernel_rfl) (by kernel_rfl) (fun _ _ _ h => h) (Or.inl ⟨rfl, fun W hW => ?_⟩) hH ?_
          · refine QuietRun.of_call (f := 9) (args := #[.int .i64 x.c, .int .i64 (m2 : Int)]) ?_ ?_
            · go_simp
            · exact HK2.out W
          try simp only [Act.put, List.setIfInBounds_toArray, List.set_cons_zero, List.set_cons_succ]
          refine wpAnyT_ready (rs := [29]) (by kernel_rfl) (by simp) ?_
          refine AllReadyT.cons (o := { dst := some 129, op := Op.call { callee := Callee.value (Operand.func 12), args := #[Operand.tmp 115, Operand.tmp 123, Operand.tmp 128], argTypes := #[29, 3, 3] }, type := 29, pos := _, after := #[{ on := 15, ground := Ground.data }, { on := 23, ground := Ground.data }, { on := 28, ground := Ground.data }, { on := 28, ground := Ground.chain }], guard := none }) rfl (fun K hK => ?_) (AllReadyT.nil)
          go_simp
          refine (HRg.out w7 (HV6b.out.below be).nd).mono ?_
          rintro e w8 ⟨u8, rfl, n8, -, hb⟩
          obtain ⟨p8, q8', rfl⟩ := n8.shape
          rw [HLR.out] at n8 ⊢
          have n7 := n7.below hb
          have be := below_from be hb
          clear hb
          have V5y := HV5b.out.below be
          have V6y := HV6b.out.below be
          have V9y := HV9.out.below be
          have V10y := HV10.out.below be
          try go_wp2_with fail
          refine hK.out _ _ (fun _ => ⟨at_below be c6, at_below be y1, at_below be y3⟩) (fun hH2 => ?_)
          clear hK K
          replace hH := hH2 (by kernel_rfl)
          clear hH2
          try simp only [Act.put, List.setIfInBounds_toArray, List.set_cons_zero, List.set_cons_succ]
          refine wpAnyT_ready (rs := [30]) (by kernel_rfl) (by simp) ?_
          refine AllReadyT.cons (o := { dst := none, op := Op.store 27 (Operand.tmp 5) (Operand.tmp 114), type := 0, pos := _, after := #[{ on := 14, ground := Ground.data }, { on := 29, ground := Ground.chain }, { on := 0, ground := Ground.phase }, { on := 1, ground := Ground.phase }, { on := 2, ground := Ground.phase }, { on := 3, ground := Ground.phase }, { on := 4, ground := Ground.phase }, { on := 5, ground := Ground.phase }, { on := 6, ground := Ground.phase }, { on := 7, ground := Ground.phase }, { on := 8, ground := Ground.phase }, { on := 9, ground := Ground.phase }, { on := 10, ground := Ground.phase }, { on := 11, ground := Ground.phase }, { on := 12, ground := Ground.phase }, { on := 13, ground := Ground.phase }, { on := 14, ground := Ground.phase }, { on := 15, ground := Ground.textOnly Departure.lateStores }, { on := 16, ground := Ground.textOnly Departure.lateStores }, { on := 17, ground := Ground.textOnly Departure.lateStores }, { on := 18, ground := Ground.textOnly Departure.lateStores }, { on := 19, ground := Ground.textOnly Departure.lateStores }, { on := 20, ground := Ground.textOnly Departure.lateStoresUnsure }, { on := 21, ground := Ground.textOnly Departure.lateStores }, { on := 22, ground := Ground.textOnly Departure.lateStoresUnsure }, { on := 23, ground := Ground.textOnly Departure.lateStores }, { on := 24, ground := Ground.textOnly Departure.lateStores }, { on := 25, ground := Ground.textOnly Departure.lateStores }, { on := 26, ground := Ground.textOnly Departure.lateStores }, { on := 27, ground := Ground.textOnly Departure.lateStores }, { on := 28, ground := Ground.textOnly Departure.lateStoresUnsure }, { on := 29, ground := Ground.textOnly Departure.lateStoresUnsure }], guard := none }) rfl (fun K hK => ?_) (AllReadyT.nil)
          have c5y := V5y.cell
          have f5y := V5y.free
          go_simp
          have n8s := nodes_set n8 V5y (.slice p7 LX q7)
          have V5s := V5y.set n7
          have V6s := V6y.other V5y (fun e => n56 e.symm) (.slice p7 LX q7)
          have V9s := V9y.other V5y (fun e => n59 e.symm) (.slice p7 LX q7)
          have V10s := V10y.other V5y (fun e => n510 e.symm) (.slice p7 LX q7)
          have d1 := at_far (o := 0) (v := .slice p7 LX q7) n5a (at_below be y1)
          have d3 := at_far (o := 0) (v := .slice p7 LX q7) n5a (at_below be y3)
          clear c5y f5y
          refine hK.out _ _ (fun _ => ⟨V6s.cell, d1, d3⟩) (fun hH2 => ?_)
          clear hK K
          replace hH := hH2 (by kernel_rfl)
          clear hH2
          try simp only [Act.put, List.setIfInBounds_toArray, List.set_cons_zero, List.set_cons_succ]
          refine wpAnyT_ready (rs := [31]) (by kernel_rfl) (by simp) ?_
          refine AllReadyT.cons (o := { dst := none, op := Op.store 29 (Operand.tmp 6) (Operand.tmp 129), type := 0, pos := _, after := #[{ on := 29, ground := Ground.data }, { on := 30, ground := Ground.chain }, { on := 0, ground := Ground.phase }, { on := 1, ground := Ground.phase }, { on := 2, ground := Ground.phase }, { on := 3, ground := Ground.phase }, { on := 4, ground := Ground.phase }, { on := 5, ground := Ground.phase }, { on := 6, ground := Ground.phase }, { on := 7, ground := Ground.phase }, { on := 8, ground := Ground.phase }, { on := 9, ground := Ground.phase }, { on := 10, ground := Ground.phase }, { on := 11, ground := Ground.phase }, { on := 12, ground := Ground.phase }, { on := 13, ground := Ground.phase }, { on := 14, ground := Ground.phase }, { on := 15, ground := Ground.phase }, { on := 16, ground := Ground.phase }, { on := 17, ground := Ground.phase }, { on := 18, ground := Ground.phase }, { on := 19, ground := Ground.phase }, { on := 20, ground := Ground.phase }, { on := 21, ground := Ground.phase }, { on := 22, ground := Ground.phase }, { on := 23, ground := Ground.phase }, { on := 24, ground := Ground.phase }, { on := 25, ground := Ground.phase }, { on := 26, ground := Ground.phase }, { on := 27, ground := Ground.phase }, { on := 28, ground := Ground.phase }, { on := 29, ground := Ground.phase }, { on := 30, ground := Ground.phase }], guard := none }) rfl (fun K hK => ?_) (AllReadyT.nil)
          have c6y := V6s.cell
          have f6y := V6s.free
          go_simp
          have V6z := V6s.set n8s
          have V5z := V5s.other V6s n56 (.slice p8 LX q8')
          have V9z := V9s.other V6s (fun e => n69 e.symm) (.slice p8 LX q8')
          have V10z := V10s.other V6s (fun e => n610 e.symm) (.slice p8 LX q8')
          have HBz := ((below_from HBb.out be).setCell (p := ⟨B5, 0, none⟩) w5l (.slice p7 LX q7)).setCell (p := ⟨B6, 0, none⟩) w6l (.slice p8 LX q8')
          clear c6y f6y
          refine hK.out _ _ (fun h => absurd (h.symm.trans (show _ = true from by kernel_rfl)) (by decide)) (fun _ => ?_)
          clear hK K
          try simp only [Act.put, List.setIfInBounds_toArray, List.set_cons_zero, List.set_cons_succ]
          refine wpAnyT_done (by kernel_rfl) ?_ _
          -- END R17
          go_wp2_with fail
          go_meet
          exact ⟨X', .slice p7 LX q7, .slice p8 LX q8', HWR, by rw [HLR.out]; omega, Lib.hid V5z, Lib.hid V6z, Lib.hid V9z, Lib.hid V10z, Lib.hid HBz⟩
      case rest =>
      obtain ⟨X', v5', v6', HWl', hX', HV5', HV6', HV9', HV10', HBe'⟩ := hcut
      rename World => wf
      clear HV5b HV6b HV9 HV10 HBb HBlb em1 em2 eup
      obtain ⟨p5, q5, rfl⟩ := HV5'.out.shape
      obtain ⟨p6, q6, rfl⟩ := HV6'.out.shape
      obtain ⟨p10, q10, rfl⟩ := HV10'.out.shape
      obtain ⟨LN, hLN⟩ : ∃ LN, X'.length = LN := ⟨_, rfl⟩
      rw [hLN] at HV5' HV6' hX'
      rw [HLX.out] at HV10'
      have HLN := Lib.hid hLN
      have c5 := HV5'.out.cell
      have c6 := HV6'.out.cell
      have c9 := HV9'.out.cell
      have c10 := HV10'.out.cell
      have hfew' : ∀ z ∈ X', z.ks.length ≤ 1000 := fun z hz => by have h1 := HWl'.out.few z hz; omega
      have hfew : ∀ z ∈ X, z.ks.length ≤ 1000 := fun z hz => by have h1 := HWl.out.few z hz; rw [HLX.out] at h1; omega
      have HSa := Lib.hid (fun W (hb : Below wf.heap.size wf W) => show Calls Try.prog 17 #[.agg #[.slice p5 LN q5], .agg #[.slice p6 LN q6]] W (fun e w' => e = .returned (.bool true) ∧ Below W.heap.size W w') from by
        have h := rSame (.slice p5 LN q5) (.slice p6 LN q6) X' X' W (HV5'.out.below hb).nd (HV6'.out.below hb).nd (by omega) (by omega) hfew' hfew'
        rw [same_refl] at h
        exact h)
      have HSb := Lib.hid (fun W (hb : Below wf.heap.size wf W) => show Calls Try.prog 17 #[.agg #[.slice ta LX tc], .agg #[.slice p10 LX q10]] W (fun e w' => e = .returned (.bool true) ∧ Below W.heap.size W w') from by
        have h := rSame (.slice ta LX tc) (.slice p10 LX q10) X X W (HV9'.out.below hb).nd (HV10'.out.below hb).nd (by rw [HLX.out]; omega) (by rw [HLX.out]; omega) hfew hfew
        rw [same_refl] at h
        exact h)
      have be := (Below.refl wf.heap.size wf).drew
      clear hfew hfew' hLN
      go_wp2_with fail
      -- GEN R18
      refine wp_region_held_drew (S := fun wx => wx.cell? ⟨B5, 0, none⟩ = some (.slice p5 LN q5) ∧ wx.cell? ⟨B6, 0, none⟩ = some (.slice p6 LN q6) ∧ wx.cell? ⟨B9, 0, none⟩ = some (.slice ta LX tc) ∧ wx.cell? ⟨B10, 0, none⟩ = some (.slice p10 LX q10)) (by kernel_rfl) (⟨at_drew c5, at_drew c6, at_drew c9, at_drew c10⟩) (fun hH => ?_)
      refine wpAnyH_take (i := 0) (oi := { dst := some 130, op := Op.load 27 (Operand.tmp 5), type := 27, pos := _, after := #[], guard := none }) (v := .agg #[.slice p5 LN q5]) rfl (by kernel_rfl) (by kernel_rfl) (by kernel_rfl) (fun _ _ _ h => h) (Or.inl ⟨rfl, fun W hW => ?_⟩) hH ?_
      · obtain ⟨z1, z2, z3, z4⟩ := hW; go_simp
      try simp only [Act.put, List.setIfInBounds_toArray, List.set_cons_zero, List.set_cons_succ]
      refine wpAnyH_take (i := 2) (oi := { dst := some 132, op := Op.load 29 (Operand.tmp 6), type := 29, pos := _, after := #[], guard := none }) (v := .agg #[.slice p6 LN q6]) rfl (by kernel_rfl) (by kernel_rfl) (by kernel_rfl) (fun _ _ _ h => h) (Or.inl ⟨rfl, fun W hW => ?_⟩) hH ?_
      · obtain ⟨z1, z2, z3, z4⟩ := hW; go_simp
      try simp only [Act.put, List.setIfInBounds_toArray, List.set_cons_zero, List.set_cons_succ]
      refine wpAnyH_ready (rs := [1]) (by kernel_rfl) (by simp) ?_
      refine AllReadyH.cons (o := { dst := some 131, op := Op.call { callee := Callee.value (Operand.func 13), args := #[Operand.tmp 130], argTypes := #[27] }, type := 29, pos := _, after := #[{ on := 0, ground := Ground.data }], guard := none }) rfl (fun K hK => ?_) AllReadyH.nil
      go_simp
      refine (toRef_any p5 LN q5 wf.drew).mono ?_
      rintro e w21 ⟨rfl, hb⟩
      have be := below_from be hb
      clear hb
      try go_wp2_with fail
      refine hK.out _ _ (⟨at_below be c5, at_below be c6, at_below be c9, at_below be c10⟩) (fun hH2 => ?_)
      clear hK K
      try simp only [Act.put, List.setIfInBounds_toArray, List.set_cons_zero, List.set_cons_succ]
      refine wpAnyH_ready (rs := [3]) (by kernel_rfl) (by simp) ?_
      refine AllReadyH.cons (o := { dst := some 133, op := Op.call { callee := Callee.value (Operand.func 17), args := #[Operand.tmp 131, Operand.tmp 132], argTypes := #[29, 29] }, type := 4, pos := _, after := #[{ on := 1, ground := Ground.data }, { on := 2, ground := Ground.data }, { on := 1, ground := Ground.chain }], guard := none }) rfl (fun K hK => ?_) AllReadyH.nil
      go_simp
      refine (HSa.out w21 be).mono ?_
      rintro e w22 ⟨rfl, hb⟩
      have be := below_from be hb
      clear hb
      try go_wp2_with fail
      refine hK.out _ _ (⟨at_below be c5, at_below be c6, at_below be c9, at_below be c10⟩) (fun hH2 => ?_)
      clear hK K
      try simp only [Act.put, List.setIfInBounds_toArray, List.set_cons_zero, List.set_cons_succ]
      refine wpAnyH_take (i := 4) (oi := { dst := some 134, op := Op.unOp UnOp.not 4 (Operand.tmp 133), type := 4, pos := _, after := #[{ on := 3, ground := Ground.data }], guard := none }) (v := .bool false) rfl (by kernel_rfl) (by kernel_rfl) (by kernel_rfl) (fun _ _ _ h => h) (Or.inl ⟨rfl, fun W hW => ?_⟩) hH2 ?_
      · go_simp
      try simp only [Act.put, List.setIfInBounds_toArray, List.set_cons_zero, List.set_cons_succ]
      refine wpAnyH_take (i := 5) (oi := { dst := some 135, op := Op.move (Operand.tmp 134), type := 4, pos := _, after := #[{ on := 4, ground := Ground.data }, { on := 3, ground := Ground.chain }], guard := none }) (v := .bool false) rfl (by kernel_rfl) (by kernel_rfl) (by kernel_rfl) (fun _ _ _ h => h) (Or.inl ⟨rfl, fun W hW => ?_⟩) hH2 ?_
      · go_simp
      try simp only [Act.put, List.setIfInBounds_toArray, List.set_cons_zero, List.set_cons_succ]
      refine wpAnyH_take (i := 6) (oi := { dst := some 136, op := Op.load 27 (Operand.tmp 9), type := 27, pos := _, after := #[{ on := 5, ground := Ground.guard }], guard := some (5, false) }) (v := .agg #[.slice ta LX tc]) rfl (by kernel_rfl) (by kernel_rfl) (by kernel_rfl) (fun _ _ _ h => h) (Or.inl ⟨rfl, fun W hW => ?_⟩) hH2 ?_
      · obtain ⟨z1, z2, z3, z4⟩ := hW; go_simp
      try simp only [Act.put, List.setIfInBounds_toArray, List.set_cons_zero, List.set_cons_succ]
      refine wpAnyH_take (i := 8) (oi := { dst := some 138, op := Op.load 29 (Operand.tmp 10), type := 29, pos := _, after := #[{ on := 5, ground := Ground.guard }], guard := some (5, false) }) (v := .agg #[.slice p10 LX q10]) rfl (by kernel_rfl) (by kernel_rfl) (by kernel_rfl) (fun _ _ _ h => h) (Or.inl ⟨rfl, fun W hW => ?_⟩) hH2 ?_
      · obtain ⟨z1, z2, z3, z4⟩ := hW; go_simp
      try simp only [Act.put, List.setIfInBounds_toArray, List.set_cons_zero, List.set_cons_succ]
      refine wpAnyH_ready (rs := [7]) (by kernel_rfl) (by simp) ?_
      refine AllReadyH.cons (o := { dst := some 137, op := Op.call { callee := Callee.value (Operand.func 13), args := #[Operand.tmp 136], argTypes := #[27] }, type := 29, pos := _, after := #[{ on := 6, ground := Ground.data }, { on := 5, ground := Ground.chain }, { on := 5, ground := Ground.guard }], guard := some (5, false) }) rfl (fun K hK => ?_) AllReadyH.nil
      go_simp
      refine (toRef_any ta LX tc w22).mono ?_
      rintro e w23 ⟨rfl, hb⟩
      have be := below_from be hb
      clear hb
      try go_wp2_with fail
      refine hK.out _ _ (⟨at_below be c5, at_below be c6, at_below be c9, at_below be c10⟩) (fun hH2 => ?_)
      clear hK K
      try simp only [Act.put, List.setIfInBounds_toArray, List.set_cons_zero, List.set_cons_succ]
      refine wpAnyH_ready (rs := [9]) (by kernel_rfl) (by simp) ?_
      refine AllReadyH.cons (o := { dst := some 139, op := Op.call { callee := Callee.value (Operand.func 17), args := #[Operand.tmp 137, Operand.tmp 138], argTypes := #[29, 29] }, type := 4, pos := _, after := #[{ on := 7, ground := Ground.data }, { on := 8, ground := Ground.data }, { on := 7, ground := Ground.chain }, { on := 5, ground := Ground.guard }], guard := some (5, false) }) rfl (fun K hK => ?_) AllReadyH.nil
      go_simp
      refine (HSb.out w23 be).mono ?_
      rintro e w24 ⟨rfl, hb⟩
      have be := below_from be hb
      clear hb
      try go_wp2_with fail
      refine hK.out _ _ (⟨at_below be c5, at_below be c6, at_below be c9, at_below be c10⟩) (fun hH2 => ?_)
      clear hK K
      try simp only [Act.put, List.setIfInBounds_toArray, List.set_cons_zero, List.set_cons_succ]
      refine wpAnyH_take (i := 10) (oi := { dst := some 140, op := Op.unOp UnOp.not 4 (Operand.tmp 139), type := 4, pos := _, after := #[{ on := 9, ground := Ground.data }, { on := 5, ground := Ground.guard }], guard := some (5, false) }) (v := .bool false) rfl (by kernel_rfl) (by kernel_rfl) (by kernel_rfl) (fun _ _ _ h => h) (Or.inl ⟨rfl, fun W hW => ?_⟩) hH2 ?_
      · go_simp
      try simp only [Act.put, List.setIfInBounds_toArray, List.set_cons_zero, List.set_cons_succ]
      refine wpAnyH_take (i := 11) (oi := { dst := some 141, op := Op.pick (Operand.tmp 135) (Operand.const (Value.bool true)) (Operand.tmp 140), type := 4, pos := _, after := #[{ on := 5, ground := Ground.data }, { on := 10, ground := Ground.data }], guard := none }) (v := .bool false) rfl (by kernel_rfl) (by kernel_rfl) (by kernel_rfl) (fun _ _ _ h => h) (Or.inl ⟨rfl, fun W hW => ?_⟩) hH2 ?_
      · go_simp
      try simp only [Act.put, List.setIfInBounds_toArray, List.set_cons_zero, List.set_cons_succ]
      refine wpAnyH_done (by kernel_rfl) ?_ _
      -- END R18
      have HV5n := Lib.hid (HV5'.out.below be)
      have HV6n := Lib.hid (HV6'.out.below be)
      have HBn := Lib.hid (below_from HBe'.out be)
      clear be c5 c6 c9 c10
      go_wp2_with fail
      go_roundw
      case rel =>
        first
          | exact ⟨i + 1, X', _, _, by go_num, by omega, by omega, by rw [HLN.out]; omega, HWl', HV5n, HV6n, HBn⟩
          | ((repeat apply Exists.intro); exact ⟨⟨i + 1, X', _, _, by go_num, by omega, by omega, by rw [HLN.out]; omega, HWl', HV5n, HV6n, HBn⟩, rfl⟩)
      case measure => simp [intOf]; omega
end Go.Proofs.Ythkieidcjakhgaa
