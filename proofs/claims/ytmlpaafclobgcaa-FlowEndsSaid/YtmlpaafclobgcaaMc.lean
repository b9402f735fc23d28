/- The chapter's own scanner in memory: add, next, texts, space. -/
import Derived.Test.YtmlpaafclobgcaaMb
import Derived.Test.YtmlpaafclobgcaaMgC
import Derived.Test.YtmlpaafclobgcaaQt
import Derived.Lib.SmallJoins
import Derived.Deep.LoopGhost
import Derived.Deep.RegionLaw
import Derived.OneCell
import Derived.IntWalk
import Derived.Deep.RegionWith
import Derived.Deep.DeepCutAuto
import Derived.Deep.CutBlock
/- The chapter's own scanner (correctorref6) in memory; its add and next: a token is put behind those read; a new row. (Drawn regions by tools/gen_rf.py.) -/
namespace Go.Proofs.Ytmlpaafclobgcaa
open Go.RowKit
open Go.Proofs.Ytmlpaafclobgcaa.Sg
open Go.Proofs.Ytmlpaafclobgcaa.Sq
set_option linter.unusedVariables false

/-- The scanner's eight cells lie in block a. -/
def RMt (w : World) (a : Nat) (B v : Value) (at' row op base text : Int) (only : Bool) : Prop :=
  w.heap[a]? = some (.cells #[B, .int .i64 at', .int .i64 row, .int .i64 op, .int .i64 base, .bool only, .int .i64 text, v] 52 (0, 0))
section
variable {w w' : World} {a : Nat} {B v : Value} {at' row op base text : Int} {only : Bool}
theorem RMt.c (h : RMt w a B v at' row op base text only) : w.cell? ⟨a, 0, none⟩ = some B ∧ w.cell? ⟨a, 1, none⟩ = some (.int .i64 at') ∧ w.cell? ⟨a, 2, none⟩ = some (.int .i64 row) ∧ w.cell? ⟨a, 3, none⟩ = some (.int .i64 op) ∧ w.cell? ⟨a, 4, none⟩ = some (.int .i64 base) ∧ w.cell? ⟨a, 5, none⟩ = some (.bool only) ∧ w.cell? ⟨a, 6, none⟩ = some (.int .i64 text) ∧ w.cell? ⟨a, 7, none⟩ = some v :=
  ⟨(Joins.cell_of_block h 0).trans rfl, (Joins.cell_of_block h 1).trans rfl, (Joins.cell_of_block h 2).trans rfl, (Joins.cell_of_block h 3).trans rfl, (Joins.cell_of_block h 4).trans rfl, (Joins.cell_of_block h 5).trans rfl, (Joins.cell_of_block h 6).trans rfl, (Joins.cell_of_block h 7).trans rfl⟩
theorem RMt.f (h : RMt w a B v at' row op base text only) (o : Nat) : w.frozen? ⟨a, o, none⟩ = false := Joins.unfrozen_of_block h o
theorem RMt.lt (h : RMt w a B v at' row op base text only) : a < w.heap.size := (Array.getElem?_eq_some_iff.1 h).1
theorem RMt.below (h : RMt w a B v at' row op base text only) (hb : Below w.heap.size w w') : RMt w' a B v at' row op base text only := (hb.block a h.lt).trans h
theorem RMt.grown {r : Option Nat} (h : RMt w a B v at' row op base text only) (hg : w.grownBy w' r) (hne : r ≠ some a) : RMt w' a B v at' row op base text only := (hg.block a h.lt (fun e => hne e.symm)).trans h
theorem RMt.set1 (h : RMt w a B v at' row op base text only) (u : Int) : RMt (w.setCell ⟨a, 1, none⟩ (.int .i64 u)) a B v u row op base text only := Joins.block_setCell h _
theorem RMt.set2 (h : RMt w a B v at' row op base text only) (u : Int) : RMt (w.setCell ⟨a, 2, none⟩ (.int .i64 u)) a B v at' u op base text only := Joins.block_setCell h _
theorem RMt.set3 (h : RMt w a B v at' row op base text only) (u : Int) : RMt (w.setCell ⟨a, 3, none⟩ (.int .i64 u)) a B v at' row u base text only := Joins.block_setCell h _
theorem RMt.set4 (h : RMt w a B v at' row op base text only) (u : Int) : RMt (w.setCell ⟨a, 4, none⟩ (.int .i64 u)) a B v at' row op u text only := Joins.block_setCell h _
theorem RMt.set5 (h : RMt w a B v at' row op base text only) (u : Bool) : RMt (w.setCell ⟨a, 5, none⟩ (.bool u)) a B v at' row op base text u := Joins.block_setCell h _
theorem RMt.set6 (h : RMt w a B v at' row op base text only) (u : Int) : RMt (w.setCell ⟨a, 6, none⟩ (.int .i64 u)) a B v at' row op base u only := Joins.block_setCell h _
theorem RMt.set7 (h : RMt w a B v at' row op base text only) (u : Value) : RMt (w.setCell ⟨a, 7, none⟩ u) a B u at' row op base text only := Joins.block_setCell h u
end
/-- What is so behind add. -/
def Added (a : Nat) (B : Value) (T C k row op : Nat) (base text : Int) (only : Bool) (l' : List Tk) (w w' : World) : Prop :=
  ∃ v2 base2, RMt w' a B v2 T row op base2 text (only && Sc.leaves k) ∧ Row w' a v2 l' ∧ Below a w w' ∧ base2 = if base = -1 ∧ Sc.counts k = true ∧ k ≠ 19 then (C : Int) else base
set_option maxHeartbeats 8000000 in
set_option maxRecDepth 100000 in
theorem rAdd (k T C at' row op : Nat) (base text : Int) (only : Bool) (a : Nat) (B v : Value) (l : List Tk) (w : World) (hM : RMt w a B v at' row op base text only) (hO : Row w a v l) (hC : row + C = at') (ha : T ≤ 100000) (hat : at' ≤ 100000) (hl : l.length ≤ 100000) (hb1 : -1 ≤ base) :
    Calls Try.prog 18 #[.pointer (some ⟨a, 0, none⟩), .int .i64 k, .int .i64 T] w fun e w' => e = .returned (.tuple #[]) ∧ Added a B T C k row op base text only (l ++ [(k, at', T)]) w w' := by
  obtain ⟨c0, c1, c2, c3, c4, c5, c6, c7⟩ := hM.c
  have hcol : ((at' : Int) - (row : Int)) = (C : Int) := by omega
  have hcw : IntKind.i64.wrap (C : Int) = (C : Int) := IntWalk.i64_in _ (by omega)
  have hne : v.ownBlock ≠ some a := fun e => by have := (hO.lt a e).1; omega
  have HM1 := Lib.hid hM
  have HO1 := Lib.hid hO
  have HNe := Lib.hid hne
  have HLt := Lib.hid hM.lt
  have HCt := Lib.hid (refCounts k w)
  obtain ⟨cn, hcn⟩ : ∃ cn, Sc.counts k = cn := ⟨_, rfl⟩
  rw [hcn] at HCt
  obtain ⟨D, hD⟩ : ∃ D, decide (base = -1 ∧ cn = true ∧ k ≠ 19) = D := ⟨_, rfl⟩
  obtain ⟨base2, hbase2⟩ : ∃ base2, base2 = if D = true then (C : Int) else base := ⟨_, rfl⟩
  obtain ⟨only2, honly2⟩ : ∃ only2, only2 = (only && Sc.leaves k) := ⟨_, rfl⟩
  have HEnd := Lib.hid (show base2 = if base = -1 ∧ Sc.counts k = true ∧ k ≠ 19 then (C : Int) else base by
    rw [hbase2, ← hD, hcn]; simp only [decide_eq_true_eq])
  have HD := Lib.hid hD
  have HB2 := Lib.hid hbase2
  have HO2 := Lib.hid honly2
  have HL := Lib.hid hl
  clear hM hO hne hcn hD hbase2 honly2 hC hl c0 c3 c6
  go_enter Try.func18, Try.ntmps18
  go_upto_region 0 with fail
  go_cut [18] (fun q wx => q = .bool D ∧ w = wx)
  case first =>
    cases cn with
    | false =>
      have HE := Lib.hid (show D = false by rw [← HD.out]; simp)
      clear hcol hcw
      go_wp2_with fail
      refine HCt.out.mono ?_
      rintro e w1 ⟨rfl, rfl⟩
      go_wp2_with fail
      go_meet
      exact ⟨by rw [HE.out], rfl⟩
    | true =>
      by_cases k1 : k = 19
      · have g1 : ((k : Int) != 19) = false := by simp; omega
        have HE := Lib.hid (show D = false by rw [← HD.out]; simp [k1])
        clear hcol hcw k1
        go_wp2_with fail
        refine HCt.out.mono ?_
        rintro e w1 ⟨rfl, rfl⟩
        go_wp2_with fail
        go_meet
        exact ⟨by rw [HE.out], rfl⟩
      · have g1 : ((k : Int) != 19) = true := by simp; omega
        by_cases b1 : base < 0
        · have HE := Lib.hid (show D = true by rw [← HD.out]; exact decide_eq_true ⟨by omega, rfl, k1⟩)
          clear hcol hcw k1
          go_wp2_with fail
          refine HCt.out.mono ?_
          rintro e w1 ⟨rfl, rfl⟩
          go_wp2_with fail
          go_meet
          exact ⟨by rw [HE.out], rfl⟩
        · have HE := Lib.hid (show D = false by rw [← HD.out]; exact decide_eq_false (by omega))
          have HB3 := Lib.hid (decide_eq_false b1)
          clear hcol hcw k1
          go_wp2_with fail
          refine HCt.out.mono ?_
          rintro e w1 ⟨rfl, rfl⟩
          go_wp2_with fail
          go_meet
          exact ⟨by rw [HE.out, HB3.out], rfl⟩
  case rest =>
  obtain ⟨rfl, rfl⟩ := hcut
  go_upto_if 18 with fail
  go_cut [] (fun wx => RMt wx a B v at' row op base2 text only ∧ Row wx a v l ∧ Below a w wx)
  case first =>
    cases D with
    | true =>
      have HE := Lib.hid (show base2 = (C : Int) by rw [HB2.out, if_pos rfl])
      go_wp2_with fail
      refine wp_region_held_drew (S := fun wx => wx.cell? ⟨a, 1, none⟩ = some (.int .i64 at') ∧ wx.cell? ⟨a, 2, none⟩ = some (.int .i64 row)) (by kernel_rfl) (⟨c1, c2⟩) (fun hH => ?_)
      refine wpAnyH_take (i := 0) (oi := { dst := some 19, op := Op.move (Operand.tmp 0), type := 50, pos := _, after := #[], guard := none }) (v := .pointer (some ⟨a, 0, none⟩)) rfl (by kernel_rfl) (by kernel_rfl) (by kernel_rfl) (fun _ _ _ h => h) (Or.inl ⟨rfl, fun W hW => ?_⟩) hH ?_
      · go_simp
      try simp only [Act.put, List.setIfInBounds_toArray, List.set_cons_zero, List.set_cons_succ]
      refine wpAnyH_take (i := 1) (oi := { dst := some 20, op := Op.move (Operand.tmp 0), type := 50, pos := _, after := #[], guard := none }) (v := .pointer (some ⟨a, 0, none⟩)) rfl (by kernel_rfl) (by kernel_rfl) (by kernel_rfl) (fun _ _ _ h => h) (Or.inl ⟨rfl, fun W hW => ?_⟩) hH ?_
      · go_simp
      try simp only [Act.put, List.setIfInBounds_toArray, List.set_cons_zero, List.set_cons_succ]
      refine wpAnyH_take (i := 2) (oi := { dst := some 21, op := Op.nilCheck (Operand.tmp 20), type := 0, pos := _, after := #[{ on := 1, ground := Ground.data }], guard := none }) (v := .pointer (some ⟨a, 0, none⟩)) rfl (by kernel_rfl) (by kernel_rfl) (by kernel_rfl) (fun _ _ _ h => h) (Or.inl ⟨rfl, fun W hW => ?_⟩) hH ?_
      · go_simp
      try simp only [Act.put, List.setIfInBounds_toArray, List.set_cons_zero, List.set_cons_succ]
      refine wpAnyH_take (i := 3) (oi := { dst := some 22, op := Op.fieldAddr 52 (Operand.tmp 21) 1, type := 0, pos := _, after := #[{ on := 2, ground := Ground.data }], guard := none }) (v := .pointer (some ⟨a, 1, none⟩)) rfl (by kernel_rfl) (by kernel_rfl) (by kernel_rfl) (fun _ _ _ h => h) (Or.inl ⟨rfl, fun W hW => ?_⟩) hH ?_
      · go_simp
      try simp only [Act.put, List.setIfInBounds_toArray, List.set_cons_zero, List.set_cons_succ]
      refine wpAnyH_take (i := 4) (oi := { dst := some 23, op := Op.load 3 (Operand.tmp 22), type := 3, pos := _, after := #[{ on := 3, ground := Ground.data }], guard := none }) (v := .int .i64 at') rfl (by kernel_rfl) (by kernel_rfl) (by kernel_rfl) (fun _ _ _ h => h) (Or.inl ⟨rfl, fun W hW => ?_⟩) hH ?_
      · obtain ⟨z1, z2⟩ := hW; go_simp
      try simp only [Act.put, List.setIfInBounds_toArray, List.set_cons_zero, List.set_cons_succ]
      refine wpAnyH_take (i := 5) (oi := { dst := some 24, op := Op.move (Operand.tmp 0), type := 50, pos := _, after := #[], guard := none }) (v := .pointer (some ⟨a, 0, none⟩)) rfl (by kernel_rfl) (by kernel_rfl) (by kernel_rfl) (fun _ _ _ h => h) (Or.inl ⟨rfl, fun W hW => ?_⟩) hH ?_
      · go_simp
      try simp only [Act.put, List.setIfInBounds_toArray, List.set_cons_zero, List.set_cons_succ]
      refine wpAnyH_take (i := 6) (oi := { dst := some 25, op := Op.nilCheck (Operand.tmp 24), type := 0, pos := _, after := #[{ on := 5, ground := Ground.data }], guard := none }) (v := .pointer (some ⟨a, 0, none⟩)) rfl (by kernel_rfl) (by kernel_rfl) (by kernel_rfl) (fun _ _ _ h => h) (Or.inl ⟨rfl, fun W hW => ?_⟩) hH ?_
      · go_simp
      try simp only [Act.put, List.setIfInBounds_toArray, List.set_cons_zero, List.set_cons_succ]
      refine wpAnyH_take (i := 7) (oi := { dst := some 26, op := Op.fieldAddr 52 (Operand.tmp 25) 2, type := 0, pos := _, after := #[{ on := 6, ground := Ground.data }], guard := none }) (v := .pointer (some ⟨a, 2, none⟩)) rfl (by kernel_rfl) (by kernel_rfl) (by kernel_rfl) (fun _ _ _ h => h) (Or.inl ⟨rfl, fun W hW => ?_⟩) hH ?_
      · go_simp
      try simp only [Act.put, List.setIfInBounds_toArray, List.set_cons_zero, List.set_cons_succ]
      refine wpAnyH_take (i := 8) (oi := { dst := some 27, op := Op.load 3 (Operand.tmp 26), type := 3, pos := _, after := #[{ on := 7, ground := Ground.data }], guard := none }) (v := .int .i64 row) rfl (by kernel_rfl) (by kernel_rfl) (by kernel_rfl) (fun _ _ _ h => h) (Or.inl ⟨rfl, fun W hW => ?_⟩) hH ?_
      · obtain ⟨z1, z2⟩ := hW; go_simp
      try simp only [Act.put, List.setIfInBounds_toArray, List.set_cons_zero, List.set_cons_succ]
      refine wpAnyH_take (i := 9) (oi := { dst := some 28, op := Op.binOp BinOp.sub 3 (Operand.tmp 23) (Operand.tmp 27) 3, type := 3, pos := _, after := #[{ on := 4, ground := Ground.data }, { on := 8, ground := Ground.data }], guard := none }) (v := .int .i64 C) rfl (by kernel_rfl) (by kernel_rfl) (by kernel_rfl) (fun _ _ _ h => h) (Or.inl ⟨rfl, fun W hW => ?_⟩) hH ?_
      · go_simp
      try simp only [Act.put, List.setIfInBounds_toArray, List.set_cons_zero, List.set_cons_succ]
      refine wpAnyH_take (i := 10) (oi := { dst := some 29, op := Op.nilCheck (Operand.tmp 19), type := 0, pos := _, after := #[{ on := 0, ground := Ground.data }, { on := 0, ground := Ground.phase }, { on := 1, ground := Ground.phase }, { on := 2, ground := Ground.phase }, { on := 3, ground := Ground.phase }, { on := 4, ground := Ground.phase }, { on := 5, ground := Ground.phase }, { on := 6, ground := Ground.phase }, { on := 7, ground := Ground.phase }, { on := 8, ground := Ground.phase }, { on := 9, ground := Ground.phase }], guard := none }) (v := .pointer (some ⟨a, 0, none⟩)) rfl (by kernel_rfl) (by kernel_rfl) (by kernel_rfl) (fun _ _ _ h => h) (Or.inl ⟨rfl, fun W hW => ?_⟩) hH ?_
      · go_simp
      try simp only [Act.put, List.setIfInBounds_toArray, List.set_cons_zero, List.set_cons_succ]
      refine wpAnyH_take (i := 11) (oi := { dst := some 30, op := Op.fieldAddr 52 (Operand.tmp 29) 4, type := 0, pos := _, after := #[{ on := 10, ground := Ground.data }, { on := 0, ground := Ground.phase }, { on := 1, ground := Ground.phase }, { on := 2, ground := Ground.phase }, { on := 3, ground := Ground.phase }, { on := 4, ground := Ground.phase }, { on := 5, ground := Ground.phase }, { on := 6, ground := Ground.phase }, { on := 7, ground := Ground.phase }, { on := 8, ground := Ground.phase }, { on := 9, ground := Ground.phase }], guard := none }) (v := .pointer (some ⟨a, 4, none⟩)) rfl (by kernel_rfl) (by kernel_rfl) (by kernel_rfl) (fun _ _ _ h => h) (Or.inl ⟨rfl, fun W hW => ?_⟩) hH ?_
      · go_simp
      try simp only [Act.put, List.setIfInBounds_toArray, List.set_cons_zero, List.set_cons_succ]
      refine wpAnyH_ready (rs := [12]) (by kernel_rfl) (by simp) ?_
      refine AllReadyH.cons (o := { dst := none, op := Op.store 3 (Operand.tmp 30) (Operand.tmp 28), type := 0, pos := _, after := #[{ on := 11, ground := Ground.data }, { on := 9, ground := Ground.data }, { on := 0, ground := Ground.phase }, { on := 1, ground := Ground.phase }, { on := 2, ground := Ground.phase }, { on := 3, ground := Ground.phase }, { on := 4, ground := Ground.phase }, { on := 5, ground := Ground.phase }, { on := 6, ground := Ground.phase }, { on := 7, ground := Ground.phase }, { on := 8, ground := Ground.phase }, { on := 9, ground := Ground.phase }], guard := none }) rfl (fun K hK => ?_) AllReadyH.nil
      have c4 := HM1.out.c.2.2.2.2.1
      have f4 := HM1.out.f 4
      go_simp
      refine hK.out _ _ (⟨at_off (o := 4) (by decide) c1, at_off (o := 4) (by decide) c2⟩) (fun hH2 => ?_)
      clear hK K
      try simp only [Act.put, List.setIfInBounds_toArray, List.set_cons_zero, List.set_cons_succ]
      refine wpAnyH_done (by kernel_rfl) ?_ _
      go_wp2_with fail
      go_meet
      exact ⟨by rw [HE.out]; exact HM1.out.set4 _, row_set HO1.out 4 _, bel_set ((Below.refl a w).drew) (Nat.le_refl a) 4 _⟩
    | false =>
      have HE := Lib.hid (show base2 = base by rw [HB2.out, if_neg (by simp)])
      clear hcol hcw
      go_wp2_with fail
      go_meet
      exact ⟨by rw [HE.out]; exact HM1.out, HO1.out, Below.refl _ _⟩
  case rest =>
  obtain ⟨hMb, hOb, hBb⟩ := hcut
  have HMb := Lib.hid hMb
  have HOb := Lib.hid hOb
  have HBb := Lib.hid hBb
  obtain ⟨c0, c1, c2, c3, c4, c5, c6, c7⟩ := hMb.c
  have f5 := hMb.f 5
  clear hMb hOb hBb HM1 HO1 HCt HD HB2 c0 c2 c3 c4 c6 hcol hcw
  obtain ⟨NL, hNL⟩ : ∃ NL, (!Sc.leaves k) = NL := ⟨_, rfl⟩
  have HNL := Lib.hid hNL
  clear hNL
  go_upto_region 2 with fail
  go_cut [44] (fun q wx => q = .bool NL ∧ wc = wx)
  case first =>
    by_cases k1 : k = 2
    · have g1 : ((k : Int) != 2) = false := by simp; omega
      have HE := Lib.hid (show NL = false by rw [← HNL.out, k1]; rfl)
      clear k1
      go_wp2_with fail
      go_meet
      exact ⟨by rw [HE.out], rfl⟩
    · have g1 : ((k : Int) != 2) = true := by simp; omega
      by_cases k2 : k = 3
      · have g2 : ((k : Int) != 3) = false := by simp; omega
        have HE := Lib.hid (show NL = false by rw [← HNL.out, k2]; rfl)
        clear k1 k2
        go_wp2_with fail
        go_meet
        exact ⟨by rw [HE.out], rfl⟩
      · have g2 : ((k : Int) != 3) = true := by simp; omega
        by_cases k3 : k = 5
        · have g3 : ((k : Int) != 5) = false := by simp; omega
          have HE := Lib.hid (show NL = false by rw [← HNL.out, k3]; rfl)
          clear k1 k2 k3
          go_wp2_with fail
          go_meet
          exact ⟨by rw [HE.out], rfl⟩
        · have g3 : ((k : Int) != 5) = true := by simp; omega
          by_cases k4 : k = 20
          · have g4 : ((k : Int) != 20) = false := by simp; omega
            have HE := Lib.hid (show NL = false by rw [← HNL.out, k4]; rfl)
            clear k1 k2 k3 k4
            go_wp2_with fail
            go_meet
            exact ⟨by rw [HE.out], rfl⟩
          · have g4 : ((k : Int) != 20) = true := by simp; omega
            have HE := Lib.hid (show NL = true by rw [← HNL.out]; simp [Sc.leaves, k1, k2, k3, k4])
            clear k1 k2 k3 k4
            go_wp2_with fail
            go_meet
            exact ⟨by rw [HE.out], rfl⟩
  case rest =>
  obtain ⟨rfl, rfl⟩ := hcut
  go_upto_if 44 with fail
  go_cut [] (fun wx => RMt wx a B v at' row op base2 text only2 ∧ Row wx a v l ∧ Below a w wx)
  case first =>
    cases NL with
    | true =>
      have HE := Lib.hid (show only2 = false by rw [HO2.out, show Sc.leaves k = false by simpa using HNL.out]; simp)
      go_wp2_with fail
      go_meet
      exact ⟨by rw [HE.out]; exact HMb.out.set5 _, row_set HOb.out 5 _, bel_set HBb.out (Nat.le_refl a) 5 _⟩
    | false =>
      have HE := Lib.hid (show only2 = only by rw [HO2.out, show Sc.leaves k = true by simpa using HNL.out]; simp)
      go_wp2_with fail
      go_meet
      exact ⟨by rw [HE.out]; exact HMb.out, HOb.out, HBb.out⟩
  case rest =>
  clear HMb HOb HBb c1 c5 c7 f5
  obtain ⟨hMb, hOb, hBb⟩ := hcut
  generalize wc = W at *
  have HM1 := Lib.hid hMb
  have HO1 := Lib.hid hOb
  have HBW := Lib.hid hBb
  have hlt := hMb.lt
  have hne0 : a ≠ W.heap.size := by omega
  have HNew := Lib.hid (tok_new W.drew (k, at', T) 64)
  have hMa := hMb.below ((Below.refl W.heap.size W).drew.alloc (Nat.le_refl _) (.cells #[.int .i64 k, .int .i64 at', .int .i64 (T : Nat)] 64))
  have HMa := Lib.hid hMa
  have HBa := Lib.hid ((Below.refl W.heap.size W).drew.alloc (Nat.le_refl _) (.cells #[.int .i64 k, .int .i64 at', .int .i64 (T : Nat)] 64))
  have d7 : W.drew.cell? ⟨a, 7, none⟩ = some v := hMb.c.2.2.2.2.2.2.2
  have d1 : W.drew.cell? ⟨a, 1, none⟩ = some (.int .i64 at') := hMb.c.2.1
  have x1 := hMa.c.2.1
  have x7 := hMa.c.2.2.2.2.2.2.2
  have x3 := (hMb.below (below_alloc W (.cells #[.int .i64 k, .int .i64 at', .int .i64 (T : Nat)] 64))).c.2.2.2.2.2.2.2
  have HLt := Lib.hid hlt
  have hl3 : a + 1 ≤ (W.drew.alloc (.cells #[.int .i64 k, .int .i64 at', .int .i64 (T : Nat)] 64)).heap.size := by simp; omega
  have HL1 := Lib.hid (show l.length + 1 ≤ maxLen by have := HL.out; unfold maxLen; omega)
  have HL2 := Lib.hid (show (l.length + 1) * 24 ≤ 140737488355328 by have := HL.out; omega)
  have HL3 := Lib.hid hl3
  have HOa := Lib.hid (show Row (W.drew.alloc (.cells #[.int .i64 k, .int .i64 at', .int .i64 (T : Nat)] 64)) a v l from World.ownsRow.alloc (w := W.drew) HO1.out _)
  clear hMb hOb hBb hlt hMa hl3
  go_upto_region 4 with fail
  go_cut [] (fun wx => ∃ v2, RMt wx a B v2 at' row op base2 text only2 ∧ Row wx a v2 (l ++ [((k, at', T) : Tk)]) ∧ Below a W wx)
  case first =>
    go_wp2_with fail
    refine wp_region_held_drew (S := fun wx => wx.cell? ⟨a, 1, none⟩ = some (.int .i64 at')) (by kernel_rfl) (d1) (fun hH => ?_)
    refine wpAnyH_take (i := 0) (oi := { dst := some 48, op := Op.move (Operand.tmp 0), type := 50, pos := _, after := #[], guard := none }) (v := .pointer (some ⟨a, 0, none⟩)) rfl (by kernel_rfl) (by kernel_rfl) (by kernel_rfl) (fun _ _ _ h => h) (Or.inl ⟨rfl, fun W hW => ?_⟩) hH ?_
    · go_simp
    try simp only [Act.put, List.setIfInBounds_toArray, List.set_cons_zero, List.set_cons_succ]
    refine wpAnyH_take (i := 1) (oi := { dst := some 49, op := Op.move (Operand.tmp 0), type := 50, pos := _, after := #[], guard := none }) (v := .pointer (some ⟨a, 0, none⟩)) rfl (by kernel_rfl) (by kernel_rfl) (by kernel_rfl) (fun _ _ _ h => h) (Or.inl ⟨rfl, fun W hW => ?_⟩) hH ?_
    · go_simp
    try simp only [Act.put, List.setIfInBounds_toArray, List.set_cons_zero, List.set_cons_succ]
    refine wpAnyH_take (i := 2) (oi := { dst := some 50, op := Op.nilCheck (Operand.tmp 49), type := 0, pos := _, after := #[{ on := 1, ground := Ground.data }], guard := none }) (v := .pointer (some ⟨a, 0, none⟩)) rfl (by kernel_rfl) (by kernel_rfl) (by kernel_rfl) (fun _ _ _ h => h) (Or.inl ⟨rfl, fun W hW => ?_⟩) hH ?_
    · go_simp
    try simp only [Act.put, List.setIfInBounds_toArray, List.set_cons_zero, List.set_cons_succ]
    refine wpAnyH_take (i := 3) (oi := { dst := some 51, op := Op.fieldAddr 52 (Operand.tmp 50) 7, type := 0, pos := _, after := #[{ on := 2, ground := Ground.data }], guard := none }) (v := .pointer (some ⟨a, 7, none⟩)) rfl (by kernel_rfl) (by kernel_rfl) (by kernel_rfl) (fun _ _ _ h => h) (Or.inl ⟨rfl, fun W hW => ?_⟩) hH ?_
    · go_simp
    try simp only [Act.put, List.setIfInBounds_toArray, List.set_cons_zero, List.set_cons_succ]
    refine wpAnyH_take (i := 5) (oi := { dst := some 53, op := Op.move (Operand.tmp 1), type := 3, pos := _, after := #[], guard := none }) (v := .int .i64 k) rfl (by kernel_rfl) (by kernel_rfl) (by kernel_rfl) (fun _ _ _ h => h) (Or.inl ⟨rfl, fun W hW => ?_⟩) hH ?_
    · go_simp
    try simp only [Act.put, List.setIfInBounds_toArray, List.set_cons_zero, List.set_cons_succ]
    refine wpAnyH_take (i := 6) (oi := { dst := some 54, op := Op.move (Operand.tmp 0), type := 50, pos := _, after := #[], guard := none }) (v := .pointer (some ⟨a, 0, none⟩)) rfl (by kernel_rfl) (by kernel_rfl) (by kernel_rfl) (fun _ _ _ h => h) (Or.inl ⟨rfl, fun W hW => ?_⟩) hH ?_
    · go_simp
    try simp only [Act.put, List.setIfInBounds_toArray, List.set_cons_zero, List.set_cons_succ]
    refine wpAnyH_take (i := 7) (oi := { dst := some 55, op := Op.nilCheck (Operand.tmp 54), type := 0, pos := _, after := #[{ on := 6, ground := Ground.data }], guard := none }) (v := .pointer (some ⟨a, 0, none⟩)) rfl (by kernel_rfl) (by kernel_rfl) (by kernel_rfl) (fun _ _ _ h => h) (Or.inl ⟨rfl, fun W hW => ?_⟩) hH ?_
    · go_simp
    try simp only [Act.put, List.setIfInBounds_toArray, List.set_cons_zero, List.set_cons_succ]
    refine wpAnyH_take (i := 8) (oi := { dst := some 56, op := Op.fieldAddr 52 (Operand.tmp 55) 1, type := 0, pos := _, after := #[{ on := 7, ground := Ground.data }], guard := none }) (v := .pointer (some ⟨a, 1, none⟩)) rfl (by kernel_rfl) (by kernel_rfl) (by kernel_rfl) (fun _ _ _ h => h) (Or.inl ⟨rfl, fun W hW => ?_⟩) hH ?_
    · go_simp
    try simp only [Act.put, List.setIfInBounds_toArray, List.set_cons_zero, List.set_cons_succ]
    refine wpAnyH_take (i := 9) (oi := { dst := some 57, op := Op.load 3 (Operand.tmp 56), type := 3, pos := _, after := #[{ on := 8, ground := Ground.data }], guard := none }) (v := .int .i64 at') rfl (by kernel_rfl) (by kernel_rfl) (by kernel_rfl) (fun _ _ _ h => h) (Or.inl ⟨rfl, fun W hW => ?_⟩) hH ?_
    · go_simp
    try simp only [Act.put, List.setIfInBounds_toArray, List.set_cons_zero, List.set_cons_succ]
    refine wpAnyH_take (i := 10) (oi := { dst := some 58, op := Op.move (Operand.tmp 2), type := 3, pos := _, after := #[], guard := none }) (v := .int .i64 (T : Nat)) rfl (by kernel_rfl) (by kernel_rfl) (by kernel_rfl) (fun _ _ _ h => h) (Or.inl ⟨rfl, fun W hW => ?_⟩) hH ?_
    · go_simp
    try simp only [Act.put, List.setIfInBounds_toArray, List.set_cons_zero, List.set_cons_succ]
    refine wpAnyH_take (i := 11) (oi := { dst := some 59, op := Op.build 64 #[(0, Operand.tmp 53), (1, Operand.tmp 57), (2, Operand.tmp 58)], type := 64, pos := _, after := #[{ on := 5, ground := Ground.data }, { on := 9, ground := Ground.data }, { on := 10, ground := Ground.data }], guard := none }) (v := .agg #[.int .i64 k, .int .i64 at', .int .i64 (T : Nat)]) rfl (by kernel_rfl) (by kernel_rfl) (by kernel_rfl) (fun _ _ _ h => h) (Or.inl ⟨rfl, fun W hW => ?_⟩) hH ?_
    · go_simp
    try simp only [Act.put, List.setIfInBounds_toArray, List.set_cons_zero, List.set_cons_succ]
    refine wpAnyH_ready (rs := [4, 12]) (by kernel_rfl) (by simp) ?_
    refine AllReadyH.cons (o := { dst := some 52, op := Op.load 26 (Operand.tmp 51), type := 26, pos := _, after := #[{ on := 3, ground := Ground.data }], guard := none }) rfl (fun K hK => ?_) (AllReadyH.cons (o := { dst := some 60, op := Op.buildSlice 26 1 #[(0, Operand.tmp 59)], type := 26, pos := _, after := #[{ on := 11, ground := Ground.data }], guard := none }) rfl (fun K hK => ?_) (AllReadyH.nil))
    · skip
      go_simp
      refine hK.out _ _ (d1) (fun hH2 => ?_)
      clear hK K
      try simp only [Act.put, List.setIfInBounds_toArray, List.set_cons_zero, List.set_cons_succ]
      refine wpAnyH_ready (rs := [12]) (by kernel_rfl) (by simp) ?_
      refine AllReadyH.cons (o := { dst := some 60, op := Op.buildSlice 26 1 #[(0, Operand.tmp 59)], type := 26, pos := _, after := #[{ on := 11, ground := Ground.data }], guard := none }) rfl (fun K hK => ?_) (AllReadyH.nil)
      go_simp
      refine hK.out _ _ (x1) (fun hH2 => ?_)
      clear hK K
      try simp only [Act.put, List.setIfInBounds_toArray, List.set_cons_zero, List.set_cons_succ]
      refine wpAnyH_ready (rs := [13]) (by kernel_rfl) (by simp) ?_
      refine AllReadyH.cons (o := { dst := some 61, op := Op.call { callee := Callee.builtin Builtin.append, args := #[Operand.tmp 52, Operand.tmp 60], argTypes := #[26, 26] }, type := 26, pos := _, after := #[{ on := 4, ground := Ground.data }, { on := 12, ground := Ground.data }], guard := none }) rfl (fun K hK => ?_) (AllReadyH.nil)
      refine step_append_laid tyT rfl (.tmp 52) (.tmp 60) rfl (a + 1) v l rfl HOa.out W.heap.size 1 [((k, at', T) : Tk)] rfl rfl HNew.out HL1.out HL2.out HL3.out ?_
      intro v2 w2 hown2 hg2
      obtain ⟨a2, cap2, rfl⟩ := (Reads.of_own (E := encT) hown2).shape
      have HM2 := Lib.hid (HMa.out.grown hg2 HNe.out)
      have y1 := HM2.out.c.2.1
      have y7 := HM2.out.c.2.2.2.2.2.2.2
      have y3 := HM2.out.f 7
      have HO2 := Lib.hid hown2
      have HG2 := Lib.hid hg2
      clear hown2 hg2
      refine hK.out _ _ (y1) (fun hH2 => ?_)
      clear hK K
      try simp only [Act.put, List.setIfInBounds_toArray, List.set_cons_zero, List.set_cons_succ]
      refine wpAnyH_take (i := 14) (oi := { dst := some 62, op := Op.nilCheck (Operand.tmp 48), type := 0, pos := _, after := #[{ on := 0, ground := Ground.data }, { on := 0, ground := Ground.phase }, { on := 1, ground := Ground.phase }, { on := 2, ground := Ground.phase }, { on := 3, ground := Ground.phase }, { on := 4, ground := Ground.phase }, { on := 5, ground := Ground.phase }, { on := 6, ground := Ground.phase }, { on := 7, ground := Ground.phase }, { on := 8, ground := Ground.phase }, { on := 9, ground := Ground.phase }, { on := 10, ground := Ground.phase }, { on := 11, ground := Ground.phase }, { on := 12, ground := Ground.phase }, { on := 13, ground := Ground.phase }], guard := none }) (v := .pointer (some ⟨a, 0, none⟩)) rfl (by kernel_rfl) (by kernel_rfl) (by kernel_rfl) (fun _ _ _ h => h) (Or.inl ⟨rfl, fun W hW => ?_⟩) hH2 ?_
      · go_simp
      try simp only [Act.put, List.setIfInBounds_toArray, List.set_cons_zero, List.set_cons_succ]
      refine wpAnyH_take (i := 15) (oi := { dst := some 63, op := Op.fieldAddr 52 (Operand.tmp 62) 7, type := 0, pos := _, after := #[{ on := 14, ground := Ground.data }, { on := 0, ground := Ground.phase }, { on := 1, ground := Ground.phase }, { on := 2, ground := Ground.phase }, { on := 3, ground := Ground.phase }, { on := 4, ground := Ground.phase }, { on := 5, ground := Ground.phase }, { on := 6, ground := Ground.phase }, { on := 7, ground := Ground.phase }, { on := 8, ground := Ground.phase }, { on := 9, ground := Ground.phase }, { on := 10, ground := Ground.phase }, { on := 11, ground := Ground.phase }, { on := 12, ground := Ground.phase }, { on := 13, ground := Ground.phase }], guard := none }) (v := .pointer (some ⟨a, 7, none⟩)) rfl (by kernel_rfl) (by kernel_rfl) (by kernel_rfl) (fun _ _ _ h => h) (Or.inl ⟨rfl, fun W hW => ?_⟩) hH2 ?_
      · go_simp
      try simp only [Act.put, List.setIfInBounds_toArray, List.set_cons_zero, List.set_cons_succ]
      refine wpAnyH_ready (rs := [16]) (by kernel_rfl) (by simp) ?_
      refine AllReadyH.cons (o := { dst := none, op := Op.store 26 (Operand.tmp 63) (Operand.tmp 61), type := 0, pos := _, after := #[{ on := 15, ground := Ground.data }, { on := 13, ground := Ground.data }, { on := 13, ground := Ground.chain }, { on := 0, ground := Ground.phase }, { on := 1, ground := Ground.phase }, { on := 2, ground := Ground.phase }, { on := 3, ground := Ground.phase }, { on := 4, ground := Ground.phase }, { on := 5, ground := Ground.phase }, { on := 6, ground := Ground.phase }, { on := 7, ground := Ground.phase }, { on := 8, ground := Ground.phase }, { on := 9, ground := Ground.phase }, { on := 10, ground := Ground.phase }, { on := 11, ground := Ground.phase }, { on := 12, ground := Ground.phase }, { on := 13, ground := Ground.phase }], guard := none }) rfl (fun K hK => ?_) (AllReadyH.nil)
      go_simp
      refine hK.out _ _ (at_off (o := 7) (by decide) y1) (fun hH2 => ?_)
      clear hK K
      try simp only [Act.put, List.setIfInBounds_toArray, List.set_cons_zero, List.set_cons_succ]
      refine wpAnyH_done (by kernel_rfl) ?_ _
      go_wp2_with fail
      go_meet
      exact ⟨_, HM2.out.set7 _, (by rw [show l.length + 1 = (l ++ [((k, at', T) : Tk)]).length from by simp]; exact row_set HO2.out 7 _), bel_set (Below.grown (HBa.out.mono (Nat.le_of_lt HLt.out)) HG2.out (Nat.le_of_succ_le HL3.out) (fun q hq => Nat.le_of_succ_le (HO1.out.lt q hq).1)) (Nat.le_refl a) 7 _⟩
    · skip
      go_simp
      refine hK.out _ _ (x1) (fun hH2 => ?_)
      clear hK K
      try simp only [Act.put, List.setIfInBounds_toArray, List.set_cons_zero, List.set_cons_succ]
      refine wpAnyH_ready (rs := [4]) (by kernel_rfl) (by simp) ?_
      refine AllReadyH.cons (o := { dst := some 52, op := Op.load 26 (Operand.tmp 51), type := 26, pos := _, after := #[{ on := 3, ground := Ground.data }], guard := none }) rfl (fun K hK => ?_) (AllReadyH.nil)
      go_simp
      refine hK.out _ _ (x1) (fun hH2 => ?_)
      clear hK K
      try simp only [Act.put, List.setIfInBounds_toArray, List.set_cons_zero, List.set_cons_succ]
      refine wpAnyH_ready (rs := [13]) (by kernel_rfl) (by simp) ?_
      refine AllReadyH.cons (o := { dst := some 61, op := Op.call { callee := Callee.builtin Builtin.append, args := #[Operand.tmp 52, Operand.tmp 60], argTypes := #[26, 26] }, type := 26, pos := _, after := #[{ on := 4, ground := Ground.data }, { on := 12, ground := Ground.data }], guard := none }) rfl (fun K hK => ?_) (AllReadyH.nil)
      refine step_append_laid tyT rfl (.tmp 52) (.tmp 60) rfl (a + 1) v l rfl HOa.out W.heap.size 1 [((k, at', T) : Tk)] rfl rfl HNew.out HL1.out HL2.out HL3.out ?_
      intro v2 w2 hown2 hg2
      obtain ⟨a2, cap2, rfl⟩ := (Reads.of_own (E := encT) hown2).shape
      have HM2 := Lib.hid (HMa.out.grown hg2 HNe.out)
      have y1 := HM2.out.c.2.1
      have y7 := HM2.out.c.2.2.2.2.2.2.2
      have y3 := HM2.out.f 7
      have HO2 := Lib.hid hown2
      have HG2 := Lib.hid hg2
      clear hown2 hg2
      refine hK.out _ _ (y1) (fun hH2 => ?_)
      clear hK K
      try simp only [Act.put, List.setIfInBounds_toArray, List.set_cons_zero, List.set_cons_succ]
      refine wpAnyH_take (i := 14) (oi := { dst := some 62, op := Op.nilCheck (Operand.tmp 48), type := 0, pos := _, after := #[{ on := 0, ground := Ground.data }, { on := 0, ground := Ground.phase }, { on := 1, ground := Ground.phase }, { on := 2, ground := Ground.phase }, { on := 3, ground := Ground.phase }, { on := 4, ground := Ground.phase }, { on := 5, ground := Ground.phase }, { on := 6, ground := Ground.phase }, { on := 7, ground := Ground.phase }, { on := 8, ground := Ground.phase }, { on := 9, ground := Ground.phase }, { on := 10, ground := Ground.phase }, { on := 11, ground := Ground.phase }, { on := 12, ground := Ground.phase }, { on := 13, ground := Ground.phase }], guard := none }) (v := .pointer (some ⟨a, 0, none⟩)) rfl (by kernel_rfl) (by kernel_rfl) (by kernel_rfl) (fun _ _ _ h => h) (Or.inl ⟨rfl, fun W hW => ?_⟩) hH2 ?_
      · go_simp
      try simp only [Act.put, List.setIfInBounds_toArray, List.set_cons_zero, List.set_cons_succ]
      refine wpAnyH_take (i := 15) (oi := { dst := some 63, op := Op.fieldAddr 52 (Operand.tmp 62) 7, type := 0, pos := _, after := #[{ on := 14, ground := Ground.data }, { on := 0, ground := Ground.phase }, { on := 1, ground := Ground.phase }, { on := 2, ground := Ground.phase }, { on := 3, ground := Ground.phase }, { on := 4, ground := Ground.phase }, { on := 5, ground := Ground.phase }, { on := 6, ground := Ground.phase }, { on := 7, ground := Ground.phase }, { on := 8, ground := Ground.phase }, { on := 9, ground := Ground.phase }, { on := 10, ground := Ground.phase }, { on := 11, ground := Ground.phase }, { on := 12, ground := Ground.phase }, { on := 13, ground := Ground.phase }], guard := none }) (v := .pointer (some ⟨a, 7, none⟩)) rfl (by kernel_rfl) (by kernel_rfl) (by kernel_rfl) (fun _ _ _ h => h) (Or.inl ⟨rfl, fun W hW => ?_⟩) hH2 ?_
      · go_simp
      try simp only [Act.put, List.setIfInBounds_toArray, List.set_cons_zero, List.set_cons_succ]
      refine wpAnyH_ready (rs := [16]) (by kernel_rfl) (by simp) ?_
      refine AllReadyH.cons (o := { dst := none, op := Op.store 26 (Operand.tmp 63) (Operand.tmp 61), type := 0, pos := _, after := #[{ on := 15, ground := Ground.data }, { on := 13, ground := Ground.data }, { on := 13, ground := Ground.chain }, { on := 0, ground := Ground.phase }, { on := 1, ground := Ground.phase }, { on := 2, ground := Ground.phase }, { on := 3, ground := Ground.phase }, { on := 4, ground := Ground.phase }, { on := 5, ground := Ground.phase }, { on := 6, ground := Ground.phase }, { on := 7, ground := Ground.phase }, { on := 8, ground := Ground.phase }, { on := 9, ground := Ground.phase }, { on := 10, ground := Ground.phase }, { on := 11, ground := Ground.phase }, { on := 12, ground := Ground.phase }, { on := 13, ground := Ground.phase }], guard := none }) rfl (fun K hK => ?_) (AllReadyH.nil)
      go_simp
      refine hK.out _ _ (at_off (o := 7) (by decide) y1) (fun hH2 => ?_)
      clear hK K
      try simp only [Act.put, List.setIfInBounds_toArray, List.set_cons_zero, List.set_cons_succ]
      refine wpAnyH_done (by kernel_rfl) ?_ _
      go_wp2_with fail
      go_meet
      exact ⟨_, HM2.out.set7 _, (by rw [show l.length + 1 = (l ++ [((k, at', T) : Tk)]).length from by simp]; exact row_set HO2.out 7 _), bel_set (Below.grown (HBa.out.mono (Nat.le_of_lt HLt.out)) HG2.out (Nat.le_of_succ_le HL3.out) (fun q hq => Nat.le_of_succ_le (HO1.out.lt q hq).1)) (Nat.le_refl a) 7 _⟩
  case rest =>
    obtain ⟨v2, hM2, hO2, hB2⟩ := hcut
    have HM2 := Lib.hid hM2
    have HO3 := Lib.hid hO2
    have HB3 := Lib.hid (HBW.out.trans hB2)
    obtain ⟨c0, c1, c2, c3, c4, c5, c6, c7⟩ := hM2.c
    have f1 := hM2.f 1
    clear hM2 hO2 hB2 HM1 HO1 HNew HMa HBa HL1 HL2 HL3 HNe HLt HOa d1 d7 x1 x7 x3 hne0 c0 c2 c3 c4 c5 c6 c7
    go_wp2_with fail
    go_end0
    exact ⟨rfl, v2, base2, by rw [← HO2.out]; exact HM2.out.set1 T, row_set HO3.out 1 _, bel_set HB3.out (Nat.le_refl a) 1 _, HEnd.out⟩
end Go.Proofs.Ytmlpaafclobgcaa

/- The chapter's own scanner (correctorref6): next, texts. -/
namespace Go.Proofs.Ytmlpaafclobgcaa
open Go.RowKit
open Go.Proofs.Ytmlpaafclobgcaa.Sg
open Go.Proofs.Ytmlpaafclobgcaa.Sq
set_option linter.unusedVariables false

theorem brk_nil_ {w : World} {b off cap n : Nat} (hn : n ≤ 16384) :
    Calls Try.prog 30 #[.slice (some ⟨b, off, none⟩) n cap, .int .i64 n] w fun e w' => e = .returned (.int .i64 (0 : Nat)) ∧ w = w' := by
  go_enter Try.func30, Try.ntmps30
  go_wp2_with fail
  go_ret
  exact ⟨rfl, rfl⟩
theorem brk_any_ {w : World} {b off cap n : Nat} {L : List Nat} (i : Nat) (hi : i ≤ n) (hn : L.length = n) (hm : n ≤ 16384) (hT : Txt w b off L) :
    Calls Try.prog 30 #[.slice (some ⟨b, off, none⟩) n cap, .int .i64 i] w fun e w' => e = .returned (.int .i64 (Sc.brkS (L.drop i))) ∧ w = w' := by
  rcases drop_cases L i with ⟨h1, h2⟩ | ⟨c, t, h1, h2, h3⟩
  · obtain rfl : i = n := by omega
    rw [h1]
    exact brk_nil_ hm
  · rw [h1]
    exact brk_at_ i c t hn (by omega) hT h1
set_option maxHeartbeats 2000000 in
theorem rNextRow (a : Nat) (B v : Value) (at' row op base text : Int) (only : Bool) (w : World) (hM : RMt w a B v at' row op base text only) :
    Calls Try.prog 16 #[.pointer (some ⟨a, 0, none⟩)] w fun e w' => e = .returned (.tuple #[]) ∧ w' = ((w.setCell ⟨a, 2, none⟩ (.int .i64 at')).setCell ⟨a, 4, none⟩ (.int .i64 (-1))).setCell ⟨a, 5, none⟩ (.bool true) := by
  obtain ⟨c0, c1, c2, c3, c4, c5, c6, c7⟩ := hM.c
  have f2 := hM.f 2
  have f4 := hM.f 4
  have f5 := hM.f 5
  clear hM c0 c3 c6 c7
  go_enter Try.func16, Try.ntmps16
  go_wp2_with fail
  go_end0
  exact ⟨rfl, rfl⟩
/-- What is so at a place, on the way. -/
def Here (L : List Nat) (Tot : List Tk) (a : Nat) (B : Value) (w : World) (p : Nat) : Prop :=
  ∃ (v : Value) (row : Nat) (l : List Tk) (st : Sc.St), RMt w a B v p row st.op st.base (st.least - 1) st.dash ∧ Row w a v l ∧ Sc.Good L Tot l st p ∧ row + st.col = p
theorem Here.below {L : List Nat} {Tot : List Tk} {a : Nat} {B : Value} {w w' : World} {p : Nat} (h : Here L Tot a B w p) (hb : Below w.heap.size w w') : Here L Tot a B w' p := by
  obtain ⟨v, row, l, st, h1, h2, h3, h4⟩ := h
  exact ⟨v, row, l, st, h1.below hb, own_below h2 hb, h3, h4⟩
theorem Here.fresh {L : List Nat} {Tot l : List Tk} {a : Nat} {B v : Value} {w : World} {p op : Nat} (h : RMt w a B v p p op (-1) (-2) true) (hO : Row w a v l) (hG : Sc.Good L Tot l (Sc.fresh op (-1)) p) : Here L Tot a B w p :=
  ⟨v, p, l, Sc.fresh op (-1), by show RMt w a B v p p op (-1) (-1 - 1) true; exact h, hO, hG, Nat.add_zero p⟩
theorem run_two (D : List Nat) : Sc.run Sc.blk D = Sc.run Sc.spc D + Sc.run Sc.blk (D.drop (Sc.run Sc.spc D)) := by
  induction D with
  | nil => rfl
  | cons c t ih =>
    cases h : Sc.spc c with
    | true =>
      have hb : Sc.blk c = true := by simp [Sc.spc, Sc.blk] at *; exact .inl h
      rw [Sc.run_step, Sc.run_step, if_pos hb, if_pos h, List.drop_succ_cons, ih]
      omega
    | false => rw [Sc.run_step Sc.spc, if_neg (by rw [h]; simp)]; simp
theorem good_end {L : List Nat} {Tot l : List Tk} {op : Nat} {least : Int} {p : Nat} (h : Sc.GoodR L Tot l op least p) (hd : L.drop p = []) : Sc.Good L Tot l (Sc.fresh op (-1)) p := by
  refine ⟨?_, fun _ => rfl, h.op, ⟨Int.le_refl _, by show (-1 : Int) ≤ (p : Int); omega⟩, Int.le_refl _, h.len, Nat.zero_le _, fun hc => absurd rfl hc⟩
  have := h.tot
  rw [hd] at this ⊢
  exact this
theorem text_is (least : Int) (D : List Nat) (h0 : 0 ≤ least) (hm : Sc.markT D = 0) : Sc.isText least (Sc.rowL D) = true ↔ ¬ (Sc.run Sc.blk D < Sc.rowN D ∧ (Sc.run Sc.spc D : Int) ≤ least - 1) := by
  have h1 := Sc.run_rowN Sc.blk Sc.blk_brk D
  unfold Sc.isText
  rw [Sc.mark_row, Sc.run_row _ Sc.blk_brk, Sc.run_row _ Sc.spc_brk, Sc.rowL_len, decide_eq_true_eq]
  constructor
  · rintro ⟨-, -, h⟩; omega
  · intro h; exact ⟨by omega, hm, by omega⟩
theorem text_mark (least : Int) (D : List Nat) (hm : Sc.markT D ≠ 0) : Sc.isText least (Sc.rowL D) = false := by
  unfold Sc.isText
  rw [Sc.mark_row]
  simp [hm]
end Go.Proofs.Ytmlpaafclobgcaa

/- The chapter's own scanner (correctorref6): texts. -/
namespace Go.Proofs.Ytmlpaafclobgcaa
open Go.RowKit
open Go.Proofs.Ytmlpaafclobgcaa.Sg
open Go.Proofs.Ytmlpaafclobgcaa.Sq
set_option linter.unusedVariables false

theorem Txt.low {w w' : World} {b off a : Nat} {L : List Nat} (h : Txt w b off L) (hb : Below a w w') (hab : b < a) : Txt w' b off L := fun j c hj => by
  rw [hb.cell (p := ⟨b, off + j, none⟩) hab]; exact h j c hj
set_option maxHeartbeats 8000000 in
set_option maxRecDepth 100000 in
theorem rTexts (a b off cap n op : Nat) (bs : Int) (hbs : -1 ≤ bs) (L : List Nat) (Tot l0 : List Tk) (p0 : Nat) (v0 : Value) (w : World) (hn : L.length = n) (hm : n ≤ 16384) (hab : b < a) (hp0 : p0 ≤ n)
    (hM : RMt w a (.slice (some ⟨b, off, none⟩) n cap) v0 p0 p0 op (-1) bs true) (hO : Row w a v0 l0) (hG : Sc.GoodR L Tot l0 op (bs + 1) p0) (hT : Txt w b off L) :
    Calls Try.prog 31 #[.pointer (some ⟨a, 0, none⟩)] w fun e w' => e = .returned (.tuple #[]) ∧ ∃ p', p0 ≤ p' ∧ p' ≤ n ∧ Here L Tot a (.slice (some ⟨b, off, none⟩) n cap) w' p' ∧ Below a w w' := by
  obtain ⟨B, hB⟩ : ∃ B, Value.slice (some ⟨b, off, none⟩) n cap = B := ⟨_, rfl⟩
  rw [hB] at hM ⊢
  obtain ⟨c0, c1, c2, c3, c4, c5, c6, c7⟩ := hM.c
  have f6 := hM.f 6
  have HM0 := Lib.hid (hM.set6 (-2))
  have HO0 := Lib.hid (row_set hO 6 (.int .i64 (-2)))
  have HB0 := Lib.hid (bel_set (Below.refl a w) (Nat.le_refl a) 6 (.int .i64 (-2)))
  have HG0 := Lib.hid hG
  have HT := Lib.hid hT
  have HN := Lib.hid hn
  have HBv := Lib.hid hB
  clear hM hO hG hT hn hB c0 c1 c2 c3 c4 c5 c7
  go_enter Try.func31, Try.ntmps31
  go_wp2_with fail
  go_loopg [] n (fun gf wr => ∃ (v : Value) (l : List Tk) (p : Nat), Hid (RMt wr a B v p p op (-1) (-2) true) ∧ Hid (Row wr a v l) ∧ Hid (Sc.GoodR L Tot l op (bs + 1) p) ∧ Hid (Below a w wr) ∧ p0 ≤ p ∧ p ≤ n ∧ n ≤ p + gf)
  case atStart => exact ⟨v0, l0, p0, HM0, HO0, HG0, HB0, Nat.le_refl _, hp0, by omega⟩
  case round =>
    obtain ⟨v, l, p, HM, HO, HG, HB, hp1, hp2, hgf⟩ := hrel
    clear HM0 HO0 HB0 HG0 c6 f6
    obtain ⟨c0, c1, c2, c3, c4, c5, c6, c7⟩ := HM.out.c
    rw [← HBv.out] at c0
    clear c2 c3 c4 c5 c6 c7
    by_cases hpn : p < n
    · have i1 : (p : Int) < (n : Int) := by omega
      have HTr := Lib.hid (HT.out.low HB.out hab)
      have HBq := Lib.hid (fun k => below_drewN (Below.refl wr.heap.size wr) k)
      have hmk := fun W (hb : Below wr.heap.size wr W) => rMark (w := W) (a := a) (cap := cap) p HN.out hm hpn (at_below hb c0) (HTr.out.below hb)
      obtain ⟨mk, hmkd⟩ : ∃ mk, Sc.markT (L.drop p) = mk := ⟨_, rfl⟩
      rw [hmkd] at hmk
      have HMk := Lib.hid hmk
      have HMd := Lib.hid hmkd
      clear hmk hmkd
      go_wp2_with fail
      go_big_quiet (exact (HMk.out _ (HBq.out _)).mono fun _ _ h => ⟨h.1, _, h.2.symm⟩)
      have hbq := HBq.out nq
      have c0 := at_below hbq c0
      have c1 := at_below hbq c1
      have HM1 := Lib.hid (HM.out.below hbq)
      have HO1 := Lib.hid (show Row (wr.drewN nq) a v l from own_below HO.out hbq)
      have HB1 := Lib.hid (HB.out.trans_lo (Nat.le_refl a) (hbq.mono (Nat.le_of_lt HM.out.lt)))
      have HTw := Lib.hid (HTr.out.below hbq)
      clear hbq HMk HBq HTr HM HO HB
      generalize wr.drewN nq = W at *
      by_cases hmz : mk = 0
      · subst hmz
        obtain ⟨D, hD⟩ : ∃ D, L.drop p = D := ⟨_, rfl⟩
        have hDl : D.length = n - p := by rw [← hD, List.length_drop, HN.out]
        have hrl := Sc.rowN_le D
        have hs1 := Sc.run_rowN _ Sc.spc_brk D
        have hs2 := Sc.run_rowN _ Sc.blk_brk D
        have hs3 := run_two D
        obtain ⟨rn, hrn⟩ : ∃ rn, Sc.rowN D = rn := ⟨_, rfl⟩
        obtain ⟨sp, hsp⟩ : ∃ sp, Sc.run Sc.spc D = sp := ⟨_, rfl⟩
        obtain ⟨bl, hbl⟩ : ∃ bl, Sc.run Sc.blk D = bl := ⟨_, rfl⟩
        rw [hrn] at hrl hs1 hs2
        rw [hsp] at hs1 hs3
        rw [hbl] at hs2 hs3
        obtain ⟨E, hE⟩ : ∃ E, p + rn = E := ⟨_, rfl⟩
        obtain ⟨N1, hN1⟩ : ∃ N1, p + sp = N1 := ⟨_, rfl⟩
        obtain ⟨M1, hM1⟩ : ∃ M1, p + bl = M1 := ⟨_, rfl⟩
        have hEn : E ≤ n := by omega
        have hN1E : N1 ≤ E := by omega
        have hpE : p ≤ E := by omega
        have hM1E : M1 ≤ E := by omega
        have hN1M : N1 ≤ M1 := by omega
        have HRE := Lib.hid (rRowEnd (w := W) (a := a) (cap := cap) p E HN.out hm hp2 (by rw [hD, hrn]; exact hE) c0 HTw.out)
        have HS2 := Lib.hid (show p + Sc.run Sc.spc (L.drop p) = N1 by rw [hD, hsp]; exact hN1)
        have HS3 := Lib.hid (show N1 + Sc.run Sc.blk (L.drop N1) = M1 by rw [← hN1, ← List.drop_drop, hD]; omega)
        have hti := text_is (bs + 1) D (by omega) (by rw [← hD]; exact HMd.out)
        rw [hbl, hrn, hsp, show bs + 1 - 1 = bs by omega] at hti
        have HTi := Lib.hid (show Sc.isText (bs + 1) (Sc.rowL (L.drop p)) = true ↔ ¬ (M1 < E ∧ (sp : Int) ≤ bs) by rw [hD, hti]; omega)
        obtain ⟨Bk, hBk⟩ : ∃ Bk, Sc.brkS (L.drop E) = Bk := ⟨_, rfl⟩
        have hBr := brk_any_ (w := W) (b := b) (off := off) (cap := cap) E hEn HN.out hm HTw.out
        have hB2 := brkS_le2 (L.drop E)
        rw [hBk] at hBr hB2
        have HBr := Lib.hid hBr
        have HTk := Lib.hid (show Sc.rowN (L.drop p) + Sc.brkS ((L.drop p).drop (Sc.rowN (L.drop p))) = rn + Bk by rw [hD, hrn, ← hBk, ← hE, ← List.drop_drop, hD])
        have e1 : (N1 : Int) - (p : Int) = (sp : Int) := by omega
        have w1 : IntKind.i64.wrap (sp : Int) = (sp : Int) := IntWalk.i64_in _ (by omega)
        have HE1 := Lib.hid e1
        have HE := Lib.hid hE
        have hspE : sp ≤ n := by omega
        clear e1 hD hDl hrl hs1 hs2 hs3 hrn hsp hbl hE hN1 hM1 hti hBk hBr HMd
        go_wp2_with fail
        refine HRE.out.mono ?_
        rintro e w2 ⟨rfl, rfl⟩
        clear HRE
        go_upto_block 2 with fail
        go_cut [4] (fun q wx => q = .int .i64 N1 ∧ W = wx)
        case first =>
          go_wp2_with fail
          go_loopw [4] (fun is wr => ∃ k : Nat, is = .int .i64 k ∧ k ≤ E ∧ Hid (k + Sc.run Sc.spc (L.drop k) = N1) ∧ W = wr) (fun is _ => E - (intOf is).toNat)
          case atStart => exact ⟨p, rfl, by omega, HS2, rfl⟩
          case round =>
            obtain ⟨k, rfl, hk, HK, rfl⟩ := hrel
            by_cases hke : k < E
            · have j1 : (k : Int) < (E : Int) := by omega
              have j2 : (k : Int) < (n : Int) := by omega
              rcases drop_cases L k with ⟨h1, h2⟩ | ⟨x, u, h1, h2, h3⟩
              · have := HN.out; omega
              have d := HTw.out.at_ h1
              by_cases q : x = 32
              · have g : ((x : Int) == 32) = true := by simp; omega
                have HR := Lib.hid (show (k + 1) + Sc.run Sc.spc (L.drop (k + 1)) = N1 by have := HK.out; rw [h1, Sc.run_step, if_pos (by simp [Sc.spc, q])] at this; rw [h2]; omega)
                clear h1 h2 h3 HK q
                go_wp2_with fail
                go_roundw
                case rel => exact ⟨k + 1, by go_num, by omega, HR, trivial⟩
                case measure => simp [intOf]; omega
              · have g : ((x : Int) == 32) = false := by simp; omega
                have HR := Lib.hid (show N1 = k by have := HK.out; rw [h1, Sc.run_step, if_neg (by simp [Sc.spc, q])] at this; omega)
                clear h1 h2 h3 HK q
                go_wp2_with fail
                go_meet
                exact ⟨by rw [HR.out], rfl⟩
            · obtain rfl : k = E := by omega
              have HR := Lib.hid (show N1 = k by have := HK.out; omega)
              clear HK
              go_wp2_with fail
              go_meet
              exact ⟨by rw [HR.out], rfl⟩
        case rest =>
        obtain ⟨rfl, rfl⟩ := hcut
        go_upto_block 4 with fail
        go_cut [5] (fun q wx => q = .int .i64 M1 ∧ W = wx)
        case first =>
          go_wp2_with fail
          go_loopw [5] (fun is wr => ∃ k : Nat, is = .int .i64 k ∧ k ≤ E ∧ Hid (k + Sc.run Sc.blk (L.drop k) = M1) ∧ W = wr) (fun is _ => E - (intOf is).toNat)
          case atStart => exact ⟨N1, rfl, hN1E, HS3, rfl⟩
          case round =>
            obtain ⟨k, rfl, hk, HK, rfl⟩ := hrel
            by_cases hke : k < E
            · have j1 : (k : Int) < (E : Int) := by omega
              have j2 : (k : Int) < (n : Int) := by omega
              rcases drop_cases L k with ⟨h1, h2⟩ | ⟨x, u, h1, h2, h3⟩
              · have := HN.out; omega
              have d := HTw.out.at_ h1
              have hbx := refBlank x W
              obtain ⟨Bx, hBx⟩ : ∃ Bx, Sc.blk x = Bx := ⟨_, rfl⟩
              rw [hBx] at hbx
              have HBx := Lib.hid hbx
              cases Bx with
              | true =>
                have HR := Lib.hid (show (k + 1) + Sc.run Sc.blk (L.drop (k + 1)) = M1 by have := HK.out; rw [h1, Sc.run_step, if_pos hBx] at this; rw [h2]; omega)
                clear h1 h2 h3 HK hbx hBx
                go_wp2_with fail
                refine HBx.out.mono ?_
                rintro e w2 ⟨rfl, rfl⟩
                go_wp2_with fail
                go_roundw
                case rel => exact ⟨k + 1, by go_num, by omega, HR, trivial⟩
                case measure => simp [intOf]; omega
              | false =>
                have HR := Lib.hid (show M1 = k by have := HK.out; rw [h1, Sc.run_step, if_neg (by rw [hBx]; simp)] at this; omega)
                clear h1 h2 h3 HK hbx hBx
                go_wp2_with fail
                refine HBx.out.mono ?_
                rintro e w2 ⟨rfl, rfl⟩
                go_wp2_with fail
                go_meet
                exact ⟨by rw [HR.out], rfl⟩
            · obtain rfl : k = E := by omega
              have HR := Lib.hid (show M1 = k by have := HK.out; omega)
              clear HK
              go_wp2_with fail
              go_meet
              exact ⟨by rw [HR.out], rfl⟩
        case rest =>
        obtain ⟨rfl, rfl⟩ := hcut
        clear HS2 HS3
        have HAdd := Lib.hid (fun (T : Nat) (h1 : T ≤ 100000) => rAdd 19 T 0 p p op (-1) (-2) true a B v l W HM1.out HO1.out (Nat.add_zero p) h1 (by omega) (by have := HG.out.len; omega) (Int.le_refl _))
        have HGt := Lib.hid (fun h => HG.out.text (n := rn + Bk) (by rw [HN.out]; exact hpn) h HTk.out)
        obtain ⟨T, hTd⟩ : ∃ T, E + Bk = T := ⟨_, rfl⟩
        have e2 : (E : Int) + (Bk : Int) = (T : Int) := by omega
        have w2 : IntKind.i64.wrap (T : Int) = (T : Int) := IntWalk.i64_in _ (by omega)
        have HA2 := Lib.hid (HAdd.out T (by omega))
        have HGo := Lib.hid (fun h => show Sc.GoodR L Tot (l ++ [(19, p, T)]) op (bs + 1) T ∧ p < T ∧ T ≤ n by
          have h' := HGt.out h
          rw [HN.out, show p + (rn + Bk) = T by have := HE.out; omega] at h'
          have h2 := h'.2.1
          exact ⟨h'.1, by have := HE.out; omega, h'.2.2⟩)
        have e1 := HE1.out
        obtain ⟨R, hR⟩ : ∃ R, decide (M1 < E ∧ (sp : Int) ≤ bs) = R := ⟨_, rfl⟩
        have HR := Lib.hid hR
        have HW := Lib.hid w2
        have HE2 := Lib.hid e2
        clear hR hTd e2 w2 HAdd HGt
        go_upto_region 10 with fail
        go_cut [85] (fun q wx => q = .bool R ∧ W = wx)
        case first =>
          by_cases q1 : M1 < E
          · have j1 : (M1 : Int) < (E : Int) := by omega
            by_cases q2 : (sp : Int) ≤ bs
            · have HX := Lib.hid (show R = true by rw [← HR.out]; exact decide_eq_true ⟨q1, q2⟩)
              have HY := Lib.hid (decide_eq_true q2)
              clear q1
              go_wp2_with fail
              go_meet
              exact ⟨by rw [HX.out], rfl⟩
            · have HX := Lib.hid (show R = false by rw [← HR.out]; exact decide_eq_false (fun h => q2 h.2))
              have HY := Lib.hid (decide_eq_false q2)
              clear q1
              go_wp2_with fail
              go_meet
              exact ⟨by rw [HX.out], rfl⟩
          · obtain rfl : M1 = E := by omega
            have HX := Lib.hid (show R = false by rw [← HR.out]; exact decide_eq_false (fun h => q1 h.1))
            clear q1
            go_wp2_with fail
            go_meet
            exact ⟨by rw [HX.out], rfl⟩
        case rest =>
        obtain ⟨rfl, rfl⟩ := hcut
        clear e1 w1 HE1
        cases R with
        | true =>
          have HGr := Lib.hid (HG.out.row (by
            rw [Bool.eq_false_iff]
            intro h
            exact HTi.out.1 h (of_decide_eq_true HR.out)))
          go_wp2_with fail
          refine bodyPost_ret (results_none rfl _ _ _) rfl ?_
          exact ⟨rfl, p, hp1, hp2, Here.fresh HM1.out HO1.out HGr.out, HB1.out⟩
        | false =>
          obtain ⟨g1, g2, g3⟩ := HGo.out (HTi.out.2 (of_decide_eq_false HR.out))
          have HGn := Lib.hid g1
          have e2 := HE2.out
          have w2 := HW.out
          clear g1 HE2 HW HGo HTi HR
          go_wp2_with fail
          refine HBr.out.mono ?_
          rintro e w3 ⟨rfl, rfl⟩
          go_wp2_with fail
          refine HA2.out.mono ?_
          rintro e w3 ⟨rfl, v2, base2, hM2, hO2, hB2, -⟩
          have HM2 := Lib.hid hM2
          have HO2 := Lib.hid hO2
          have HB2 := Lib.hid (HB1.out.trans hB2)
          have HNx := Lib.hid (rNextRow a B v2 T p op base2 (-2) _ w3 hM2)
          clear hM2 hO2 hB2 e2 w2
          go_wp2_with fail
          refine HNx.out.mono ?_
          rintro e w4 ⟨rfl, rfl⟩
          have HM3 := Lib.hid (((HM2.out.set2 T).set4 (-1)).set5 true)
          have HO3 := Lib.hid (row_set (row_set (row_set HO2.out 2 (.int .i64 T)) 4 (.int .i64 (-1))) 5 (.bool true))
          have HB3 := Lib.hid (bel_set (bel_set (bel_set HB2.out (Nat.le_refl a) 2 (.int .i64 T)) (Nat.le_refl a) 4 (.int .i64 (-1))) (Nat.le_refl a) 5 (.bool true))
          clear HM2 HO2 HB2 HNx
          generalize ((w3.setCell ⟨a, 2, none⟩ (.int .i64 T)).setCell ⟨a, 4, none⟩ (.int .i64 (-1))).setCell ⟨a, 5, none⟩ (.bool true) = W4 at *
          go_wp2_with fail
          go_roundg (gk - 1)
          case measure => omega
          case rel => exact ⟨v2, l ++ [(19, p, T)], T, HM3, HO3, HGn, HB3, by omega, g3, by omega⟩
      · have gm : ((mk : Int) == 0) = false := by simp; omega
        have HGr := Lib.hid (HG.out.row (text_mark (bs + 1) _ (by rw [HMd.out]; exact hmz)))
        clear hmz
        go_wp2_with fail
        go_end0
        exact ⟨rfl, p, hp1, hp2, Here.fresh HM1.out HO1.out HGr.out, HB1.out⟩
    · have i1 : ¬ ((p : Int) < (n : Int)) := by omega
      have HGr := Lib.hid (good_end HG.out (List.drop_eq_nil_of_le (by rw [HN.out]; omega)))
      have HBq := Lib.hid (fun k => below_drewN (Below.refl wr.heap.size wr) k)
      go_wp2_with fail
      go_big_quiet (fail)
      have hbq := HBq.out nq
      have HM1 := Lib.hid (HM.out.below hbq)
      have HO1 := Lib.hid (show Row (wr.drewN nq) a v l from own_below HO.out hbq)
      have HB1 := Lib.hid (HB.out.trans_lo (Nat.le_refl a) (hbq.mono (Nat.le_of_lt HM.out.lt)))
      clear hbq
      generalize wr.drewN nq = W at *
      go_wp2_with fail
      go_end0
      exact ⟨rfl, p, hp1, hp2, Here.fresh HM1.out HO1.out HGr.out, HB1.out⟩
end Go.Proofs.Ytmlpaafclobgcaa

/- The chapter's own scanner (correctorref6): a token is put, on the way through a row; space. -/
namespace Go.Proofs.Ytmlpaafclobgcaa.Sc
theorem next_two (op : Nat) (dash blank : Bool) (r : List Nat) (hm : mark r = 0) (hs : 0 < run spc r) : next op dash blank true r = (2, run spc r) := by
  unfold next
  rw [if_neg (by omega), if_pos ⟨rfl, hs⟩]
theorem next_three (op : Nat) (dash blank first : Bool) (r : List Nat) (hm : first = true → mark r = 0) (hs : first = true → run spc r = 0) (hb : 0 < run blk r) : next op dash blank first r = (3, run blk r) := by
  unfold next
  rw [if_neg (fun h => by have := hm h.1; omega), if_neg (fun h => by have := hs h.1; omega), if_pos hb]
theorem next_four (op : Nat) (dash blank first : Bool) (r : List Nat) (hm : first = true → mark r = 0) (hs : first = true → run spc r = 0) (hb : run blk r = 0) (hh : hsh r = true) (hf : first = true ∨ blank = true) : next op dash blank first r = (4, r.length) := by
  unfold next
  rw [if_neg (fun h => by have := hm h.1; omega), if_neg (fun h => by have := hs h.1; omega), if_neg (by omega), if_pos ⟨hh, hf⟩]
theorem next_word (op : Nat) (dash blank first : Bool) (r : List Nat) (hm : first = true → mark r = 0) (hs : first = true → run spc r = 0) (hb : run blk r = 0) (hh : ¬ (hsh r = true ∧ (first = true ∨ blank = true))) : next op dash blank first r = word op dash r := by
  unfold next
  rw [if_neg (fun h => by have := hm h.1; omega), if_neg (fun h => by have := hs h.1; omega), if_neg (by omega), if_neg hh]
end Go.Proofs.Ytmlpaafclobgcaa.Sc
namespace Go.Proofs.Ytmlpaafclobgcaa
open Go.RowKit
open Go.Proofs.Ytmlpaafclobgcaa.Sg
open Go.Proofs.Ytmlpaafclobgcaa.Sq
set_option linter.unusedVariables false

/-- What a token that is put leaves behind. -/
theorem Here.on {L : List Nat} {Tot l : List Tk} {a : Nat} {B : Value} {w w' : World} {p k m row : Nat} {st : Sc.St} {text : Int} (h : Sc.Good L Tot l st p) (hr : Sc.rowN (L.drop p) ≠ 0) (hn : Sc.next st.op st.dash st.blank (st.col == 0) (Sc.rowL (L.drop p)) = (k, m))
    (hc : row + st.col = p) (hA : Added a B (p + m) st.col k row (Sc.opens st.op k) st.base text st.dash (l ++ [(k, p, p + m)]) w w') (hk : k ≠ 19) (ht : text = (Sc.take st k m).least - 1) :
    Here L Tot a B w' (p + m) := by
  obtain ⟨v2, base2, h1, h2, h3, h4⟩ := hA
  obtain ⟨g1, g2, g3⟩ := h.on hr hn
  have hb : base2 = (Sc.take st k m).base := by
    rw [h4]
    show _ = if st.base = -1 ∧ Sc.counts k = true then (st.col : Int) else st.base
    by_cases q : st.base = -1 ∧ Sc.counts k = true
    · rw [if_pos q, if_pos ⟨q.1, q.2, hk⟩]
    · rw [if_neg q, if_neg (fun g => q ⟨g.1, g.2.1⟩)]
  refine ⟨v2, row, l ++ [(k, p, p + m)], Sc.take st k m, ?_, h2, g1, ?_⟩
  · rw [← hb, ← ht]; exact h1
  · show row + (st.col + m) = p + m; omega
/-- A token that leaves brackets and heads as they are. -/
def easy (k : Nat) : Bool := k == 2 || k == 3 || k == 4 || k == 5 || k == 6 || k == 7 || k == 12 || k == 13 || k == 14 || k == 15 || k == 16 || k == 17 || k == 22
theorem easy_is {k : Nat} (h : easy k = true) : k ≠ 19 ∧ k ≠ 18 ∧ k ≠ 8 ∧ k ≠ 9 ∧ k ≠ 10 ∧ k ≠ 11 ∧ k ≠ 20 ∧ k ≠ 21 := by simp [easy] at h; omega
theorem rPut {L : List Nat} {Tot l : List Tk} {a n p k m T row : Nat} {B v : Value} {st : Sc.St} (w : World) (hn : L.length = n) (hm : n ≤ 16384) (hM : RMt w a B v p row st.op st.base (st.least - 1) st.dash) (hO : Row w a v l) (hG : Sc.Good L Tot l st p) (hc : row + st.col = p)
    (hr : Sc.rowN (L.drop p) ≠ 0) (hx : Sc.next st.op st.dash st.blank (st.col == 0) (Sc.rowL (L.drop p)) = (k, m)) (hk : easy k = true) (hT : p + m = T) :
    Calls Try.prog 18 #[.pointer (some ⟨a, 0, none⟩), .int .i64 k, .int .i64 T] w fun e w' => e = .returned (.tuple #[]) ∧ Here L Tot a B w' T ∧ Below a w w' ∧ p < T ∧ T ≤ n := by
  obtain ⟨q19, q18, q8, q9, q10, q11, q20, q21⟩ := easy_is hk
  obtain ⟨g1, g2, g3⟩ := hG.on hr hx
  have hrl := Sc.rowN_le (L.drop p)
  rw [List.length_drop, hn] at hrl
  subst hT
  refine (rAdd k (p + m) st.col p row st.op st.base (st.least - 1) st.dash a B v l w hM hO hc (by omega) (by omega) (by have := hG.len; omega) hG.base.1).mono ?_
  rintro e w' ⟨rfl, hA⟩
  have hop : Sc.opens st.op k = st.op := by unfold Sc.opens; rw [if_neg (by omega), if_neg (by omega), if_neg (by omega)]
  have hle : (Sc.take st k m).least = st.least := by show (if k = 18 then _ else st.least) = st.least; rw [if_neg q18]
  refine ⟨rfl, Here.on hG hr hx hc (by rw [hop]; exact hA) q19 (by rw [hle]), ?_, by omega, by omega⟩
  obtain ⟨v2, base2, -, -, h3, -⟩ := hA
  exact h3
end Go.Proofs.Ytmlpaafclobgcaa

/- The chapter's own scanner (correctorref6): space: tokens that do not count. -/
namespace Go.Proofs.Ytmlpaafclobgcaa
open Go.RowKit
open Go.Proofs.Ytmlpaafclobgcaa.Sg
open Go.Proofs.Ytmlpaafclobgcaa.Sq
set_option linter.unusedVariables false

/-- What space says, and what is so behind it. -/
def Spaced (L : List Nat) (Tot : List Tk) (a : Nat) (B : Value) (n p : Nat) (st : Sc.St) (w : World) (e : Ending) (w' : World) : Prop :=
  (e = .returned (.bool true) ∧ ∃ p', Here L Tot a B w' p' ∧ Below a w w' ∧ p < p' ∧ p' ≤ n) ∨
  (e = .returned (.bool false) ∧ Below w.heap.size w w' ∧ (∃ c t, L.drop p = c :: t ∧ Sc.brk c = false ∧ Sc.blk c = false) ∧ Sc.next st.op st.dash st.blank (st.col == 0) (Sc.rowL (L.drop p)) = Sc.word st.op st.dash (Sc.rowL (L.drop p)))
set_option maxHeartbeats 8000000 in
set_option maxRecDepth 100000 in
theorem rSpace (a b off cap n p row : Nat) (L : List Nat) (Tot l : List Tk) (v : Value) (st : Sc.St) (w : World) (hn : L.length = n) (hm : n ≤ 16384) (hab : b < a) (hp : p < n) (hT : Txt w b off L)
    (hM : RMt w a (.slice (some ⟨b, off, none⟩) n cap) v p row st.op st.base (st.least - 1) st.dash) (hO : Row w a v l) (hG : Sc.Good L Tot l st p) (hc : row + st.col = p) (hmk : st.col = 0 → Sc.markT (L.drop p) = 0) :
    Calls Try.prog 19 #[.pointer (some ⟨a, 0, none⟩)] w (Spaced L Tot a (.slice (some ⟨b, off, none⟩) n cap) n p st w) := by
  obtain ⟨c0, c1, c2, c3, c4, c5, c6, c7⟩ := hM.c
  rcases drop_cases L p with ⟨h1, h2⟩ | ⟨c, t, h1, h2, h3⟩
  · omega
  have d := hT.at_ h1
  obtain ⟨B, hB⟩ : ∃ B, Value.slice (some ⟨b, off, none⟩) n cap = B := ⟨_, rfl⟩
  have i1 : (p : Int) < (n : Int) := by omega
  have HB := Lib.hid (fun k => below_drewN (Below.refl w.heap.size w) k)
  have HM := Lib.hid (fun W (hb : Below w.heap.size w W) => hM.below hb)
  have HO := Lib.hid (fun W (hb : Below w.heap.size w W) => show Row W a v l from own_below hO hb)
  have HT := Lib.hid (fun W (hb : Below w.heap.size w W) => hT.below hb)
  have HLo := Lib.hid (fun W (hb : Below w.heap.size w W) => hb.mono (Nat.le_of_lt hM.lt))
  have HG := Lib.hid hG
  have HN := Lib.hid hn
  have HBk := Lib.hid (fun W (hb : Below w.heap.size w W) => brk_at_ (w := W) (b := b) (off := off) (cap := cap) p c t hn (by omega) (hT.below hb) h1)
  have H1 := Lib.hid h1
  have HC := Lib.hid hc
  have HMk := Lib.hid hmk
  have HSl := Lib.hid hB
  have hll := hG.len
  have HLen := Lib.hid hll
  obtain ⟨F, hF⟩ : ∃ F, (st.col == 0) = F := ⟨_, rfl⟩
  have hff : ((p : Int) == (row : Int)) = F := by rw [← hF, Bool.eq_iff_iff]; simp; omega
  have HF := Lib.hid hF
  have hz := brkS_zero c t
  obtain ⟨Z, hZ⟩ : ∃ Z, Sc.brkS (c :: t) = Z := ⟨_, rfl⟩
  rw [hZ] at hz HBk
  have HZ := Lib.hid hZ
  have hz2 := brkS_le2 (c :: t)
  rw [hZ] at hz2
  clear hT hM hO hG hn h1 h2 h3 hc hmk hF hll c3 c4 c5 hZ hB
  go_enter Try.func19, Try.ntmps19
  go_wp2_with fail
  go_big_quiet (fail)
  have hb := HB.out nq
  have c0 := at_below hb c0
  have c1 := at_below hb c1
  have c2 := at_below hb c2
  have c6 := at_below hb c6
  have c7 := at_below hb c7
  have HBw := Lib.hid hb
  clear hb
  generalize w.drewN nq = W at *
  cases hbr : Sc.brk c with
  | true =>
    have gz : (0 : Int) < (Z : Int) := by have := mt hz.1 (by rw [hbr]; simp); omega
    obtain ⟨T, hTd⟩ : ∃ T, p + Z = T := ⟨_, rfl⟩
    have e1 : (p : Int) + (Z : Int) = (T : Int) := by omega
    have w1 : IntKind.i64.wrap (T : Int) = (T : Int) := IntWalk.i64_in _ (by omega)
    have hgb := HG.out.brk (by rw [H1.out]; exact (Sc.row_brk c t hbr).2) (by rw [H1.out, HZ.out]; omega)
    rw [H1.out, HZ.out, hTd, HN.out] at hgb
    have HGb := Lib.hid hgb
    have HAdd := Lib.hid (rAdd 1 T st.col p row st.op st.base (st.least - 1) st.dash a B v l W (by rw [← HSl.out]; exact HM.out W HBw.out) (HO.out W HBw.out) HC.out (by omega) (by omega) (by have := HLen.out; omega) HG.out.base.1)
    have HpT := Lib.hid (show p < T by omega)
    obtain ⟨bs, hbs⟩ : ∃ bs, st.least - 1 = bs := ⟨_, rfl⟩
    rw [hbs] at HAdd c6
    have HBs := Lib.hid hbs
    have HLs := Lib.hid HG.out.least
    clear hTd hgb hz hbs
    go_wp2_with fail
    refine (HBk.out W HBw.out).mono ?_
    rintro e w2 ⟨rfl, rfl⟩
    go_wp2_with fail
    refine HAdd.out.mono ?_
    rintro e w2 ⟨rfl, v2, base2, hM2, hO2, hB2, -⟩
    have HM2 := Lib.hid hM2
    have HO2 := Lib.hid hO2
    have HB2 := Lib.hid ((HLo.out W HBw.out).trans hB2)
    have HNx := Lib.hid (rNextRow a B v2 T row st.op base2 bs _ w2 hM2)
    have c6 := hM2.c.2.2.2.2.2.2.1
    clear hM2 hO2 hB2 e1 w1 c0 c1 c2 c7
    go_wp2_with fail
    refine HNx.out.mono ?_
    rintro e w4 ⟨rfl, rfl⟩
    have HM3 := Lib.hid (((HM2.out.set2 T).set4 (-1)).set5 true)
    have HO3 := Lib.hid (row_set (row_set (row_set HO2.out 2 (.int .i64 T)) 4 (.int .i64 (-1))) 5 (.bool true))
    have HB3 := Lib.hid (bel_set (bel_set (bel_set HB2.out (Nat.le_refl a) 2 (.int .i64 T)) (Nat.le_refl a) 4 (.int .i64 (-1))) (Nat.le_refl a) 5 (.bool true))
    clear HM2 HO2 HB2 HNx HAdd c6
    generalize ((w2.setCell ⟨a, 2, none⟩ (.int .i64 T)).setCell ⟨a, 4, none⟩ (.int .i64 (-1))).setCell ⟨a, 5, none⟩ (.bool true) = W4 at *
    by_cases hl : -1 ≤ bs
    · have HTx := Lib.hid (rTexts a b off cap n st.op bs hl L Tot (l ++ [(1, p, T)]) T v2 W4 HN.out hm hab HGb.out.2 (by rw [HSl.out]; exact HM3.out) HO3.out (by rw [show bs + 1 = st.least by have := HBs.out; omega]; exact HGb.out.1) ((HT.out w (Below.refl _ _)).low HB3.out hab))
      rw [HSl.out] at HTx
      go_wp2_with fail
      refine HTx.out.mono ?_
      rintro e w5 ⟨rfl, p', g1, g2, g3, g4⟩
      have HD := Lib.hid (show Spaced L Tot a B n p st w (.returned (.bool true)) w5 from .inl ⟨rfl, p', g3, HB3.out.trans g4, by have := HpT.out; omega, g2⟩)
      clear g1 g2 g3 g4
      go_wp2_with fail
      go_ret
      rw [HSl.out]
      exact HD.out
    · have HD := Lib.hid (show Spaced L Tot a B n p st w (.returned (.bool true)) W4 from .inl ⟨rfl, T, by
        obtain rfl : bs = -2 := by have := HBs.out; have := HLs.out; omega
        have hle : st.least = -1 := by have := HBs.out; omega
        refine Here.fresh HM3.out HO3.out ?_
        have hgb := HGb.out.1
        rw [hle] at hgb
        exact hgb.row (by simp [Sc.isText]), HB3.out, HpT.out, HGb.out.2⟩)
      have hl2 : bs < -1 := by omega
      clear hl
      go_wp2_with fail
      go_ret
      rw [HSl.out]
      exact HD.out
  | false =>
    obtain rfl : Z = 0 := hz.2 hbr
    have hrow := Sc.row_on c t hbr
    have HRn := Lib.hid (show Sc.rowN (L.drop p) ≠ 0 by rw [H1.out, hrow.2]; omega)
    have HRl := Lib.hid (show Sc.rowL (L.drop p) = c :: Sc.rowL t by rw [H1.out]; exact hrow.1)
    have HM0 := Lib.hid (fun (g : (st.col == 0) = true) => show Sc.mark (Sc.rowL (L.drop p)) = 0 by rw [Sc.mark_row]; exact HMk.out (by simpa using g))
    obtain ⟨Sp, hSp⟩ : ∃ Sp, (F && (c == 32)) = Sp := ⟨_, rfl⟩
    have HSp := Lib.hid hSp
    clear hz hrow hSp
    go_wp2_with fail
    refine (HBk.out W HBw.out).mono ?_
    rintro e w2 ⟨rfl, rfl⟩
    clear HBk
    go_upto_region 11 with fail
    go_cut [56] (fun q wx => q = .bool Sp ∧ Below W.heap.size W wx)
    case first =>
      cases F with
      | false =>
        have HX := Lib.hid (show Sp = false by rw [← HSp.out]; rfl)
        go_wp2_with fail
        go_big_quiet (fail)
        have hbq := below_drewN (Below.refl W.heap.size W) nq
        go_wp2_with fail
        go_meet
        exact ⟨by rw [HX.out], hbq⟩
      | true =>
        by_cases q : c = 32
        · have g : ((c : Int) == 32) = true := by simp; omega
          have HX := Lib.hid (show Sp = true by rw [← HSp.out, q]; rfl)
          clear q
          go_wp2_with fail
          go_big_quiet (fail)
          have hbq := below_drewN (Below.refl W.heap.size W) nq
          go_wp2_with fail
          go_meet
          exact ⟨by rw [HX.out], hbq⟩
        · have g : ((c : Int) == 32) = false := by simp; omega
          have HX := Lib.hid (show Sp = false by rw [← HSp.out]; simp [q])
          clear q
          go_wp2_with fail
          go_big_quiet (fail)
          have hbq := below_drewN (Below.refl W.heap.size W) nq
          go_wp2_with fail
          go_meet
          exact ⟨by rw [HX.out], hbq⟩
    case rest =>
    obtain ⟨rfl, hb2⟩ := hcut
    have c0 := at_below hb2 c0
    have c1 := at_below hb2 c1
    have c2 := at_below hb2 c2
    have c7 := at_below hb2 c7
    have HB2 := Lib.hid (HBw.out.trans (hb2.mono HBw.out.size))
    clear hb2 c6 d
    generalize wc = W2 at *
    cases Sp with
    | true =>
      have hFc : F = true ∧ c = 32 := by have := HSp.out; simpa using this
      have hFt : (st.col == 0) = true := by rw [HF.out]; exact hFc.1
      have HNx := Lib.hid (show Sc.next st.op st.dash st.blank (st.col == 0) (Sc.rowL (L.drop p)) = (2, Sc.run Sc.spc (L.drop p)) by
        rw [hFt, Sc.next_two _ _ _ _ (HM0.out hFt) (by rw [HRl.out, Sc.run_step, if_pos (by rw [hFc.2]; rfl)]; omega), Sc.run_row _ Sc.spc_brk])
      obtain ⟨T, hTd⟩ : ∃ T, p + Sc.run Sc.spc (L.drop p) = T := ⟨_, rfl⟩
      clear hFc hFt
      have HS := Lib.hid (show p + Sc.run Sc.spc (L.drop p) = T from hTd)
      have hTn : T ≤ n := by have := Sc.run_le Sc.spc (L.drop p); rw [List.length_drop, HN.out] at this; omega
      have HPt := Lib.hid (rPut (B := B) (v := v) (row := row) W2 HN.out hm (by rw [← HSl.out]; exact HM.out W2 HB2.out) (HO.out W2 HB2.out) HG.out HC.out HRn.out HNx.out rfl hTd)
      have HTw := Lib.hid (HT.out W2 HB2.out)
      clear hTd
      go_wp2_with fail
      go_loopw [4] (fun is wr => ∃ k : Nat, is = .int .i64 k ∧ k ≤ n ∧ Hid (k + Sc.run Sc.spc (L.drop k) = T) ∧ W2 = wr) (fun is _ => n - (intOf is).toNat)
      case atStart => exact ⟨p, rfl, by omega, HS, rfl⟩
      case round =>
        obtain ⟨k, rfl, hk, HK, rfl⟩ := hrel
        rcases drop_cases L k with ⟨h1, h2⟩ | ⟨x, u, h1, h2, h3⟩
        · have j1 : ¬ ((k : Int) < (n : Int)) := by have := HN.out; omega
          obtain rfl : T = k := by have := HK.out; rw [h1, show Sc.run Sc.spc [] = 0 from rfl] at this; omega
          clear h1 h2 HK HS
          go_wp2_with fail
          refine HPt.out.mono ?_
          rintro e w3 ⟨rfl, g1, g2, g3, g4⟩
          have HD := Lib.hid (show Spaced L Tot a B n p st w (.returned (.bool true)) w3 from .inl ⟨rfl, T, g1, (HLo.out W2 HB2.out).trans g2, g3, g4⟩)
          clear g1 g2 g3 g4
          go_wp2_with fail
          go_ret
          rw [HSl.out]
          exact HD.out
        · have j1 : (k : Int) < (n : Int) := by have := HN.out; omega
          have dx := HTw.out.at_ h1
          by_cases q : x = 32
          · have g : ((x : Int) == 32) = true := by simp; omega
            have HR := Lib.hid (show (k + 1) + Sc.run Sc.spc (L.drop (k + 1)) = T by have := HK.out; rw [h1, Sc.run_step, if_pos (by simp [Sc.spc, q])] at this; rw [h2]; omega)
            have hk2 : k < n := by omega
            clear h1 h2 h3 HK q
            go_wp2_with fail
            go_roundw
            case rel => exact ⟨k + 1, by go_num, by omega, HR, trivial⟩
            case measure => simp [intOf]; omega
          · have g : ((x : Int) == 32) = false := by simp; omega
            obtain rfl : T = k := by have := HK.out; rw [h1, Sc.run_step, if_neg (by simp [Sc.spc, q])] at this; omega
            clear h1 h2 h3 HK HS q
            go_wp2_with fail
            refine HPt.out.mono ?_
            rintro e w3 ⟨rfl, g1, g2, g3, g4⟩
            have HD := Lib.hid (show Spaced L Tot a B n p st w (.returned (.bool true)) w3 from .inl ⟨rfl, T, g1, (HLo.out W2 HB2.out).trans g2, g3, g4⟩)
            clear g1 g2 g3 g4
            go_wp2_with fail
            go_ret
            rw [HSl.out]
            exact HD.out
    | false =>
      have HS0 := Lib.hid (fun (g : (st.col == 0) = true) => show Sc.run Sc.spc (Sc.rowL (L.drop p)) = 0 by
        have := HSp.out
        rw [← HF.out, g] at this
        rw [HRl.out, Sc.run_step, if_neg (by intro h; simp [Sc.spc] at h; simp [h] at this)])
      have hbl := refBlank c W2
      obtain ⟨Bl, hBl⟩ : ∃ Bl, Sc.blk c = Bl := ⟨_, rfl⟩
      rw [hBl] at hbl
      have HBl := Lib.hid hbl
      clear hbl
      cases Bl with
      | true =>
        have HNx := Lib.hid (show Sc.next st.op st.dash st.blank (st.col == 0) (Sc.rowL (L.drop p)) = (3, Sc.run Sc.blk (L.drop p)) by
          rw [Sc.next_three _ _ _ _ _ HM0.out HS0.out (by rw [HRl.out, Sc.run_step, if_pos hBl]; omega), Sc.run_row _ Sc.blk_brk])
        obtain ⟨T, hTd⟩ : ∃ T, p + Sc.run Sc.blk (L.drop p) = T := ⟨_, rfl⟩
        clear hBl
        have HS := Lib.hid (show p + Sc.run Sc.blk (L.drop p) = T from hTd)
        have hTn : T ≤ n := by have := Sc.run_le Sc.blk (L.drop p); rw [List.length_drop, HN.out] at this; omega
        have HPt := Lib.hid (rPut (B := B) (v := v) (row := row) W2 HN.out hm (by rw [← HSl.out]; exact HM.out W2 HB2.out) (HO.out W2 HB2.out) HG.out HC.out HRn.out HNx.out rfl hTd)
        have HTw := Lib.hid (HT.out W2 HB2.out)
        clear hTd
        go_wp2_with fail
        refine HBl.out.mono ?_
        rintro e w3 ⟨rfl, rfl⟩
        go_wp2_with fail
        go_loopw [4] (fun is wr => ∃ k : Nat, is = .int .i64 k ∧ k ≤ n ∧ Hid (k + Sc.run Sc.blk (L.drop k) = T) ∧ W2 = wr) (fun is _ => n - (intOf is).toNat)
        case atStart => exact ⟨p, rfl, by omega, HS, rfl⟩
        case round =>
          obtain ⟨k, rfl, hk, HK, rfl⟩ := hrel
          rcases drop_cases L k with ⟨h1, h2⟩ | ⟨x, u, h1, h2, h3⟩
          · have j1 : ¬ ((k : Int) < (n : Int)) := by have := HN.out; omega
            obtain rfl : T = k := by have := HK.out; rw [h1, show Sc.run Sc.blk [] = 0 from rfl] at this; omega
            clear h1 h2 HK HS
            go_wp2_with fail
            refine HPt.out.mono ?_
            rintro e w3 ⟨rfl, g1, g2, g3, g4⟩
            have HD := Lib.hid (show Spaced L Tot a B n p st w (.returned (.bool true)) w3 from .inl ⟨rfl, T, g1, (HLo.out W2 HB2.out).trans g2, g3, g4⟩)
            clear g1 g2 g3 g4
            go_wp2_with fail
            go_ret
            rw [HSl.out]
            exact HD.out
          · have j1 : (k : Int) < (n : Int) := by have := HN.out; omega
            have dx := HTw.out.at_ h1
            have hbx := refBlank x W2
            obtain ⟨Bx, hBx⟩ : ∃ Bx, Sc.blk x = Bx := ⟨_, rfl⟩
            rw [hBx] at hbx
            have HBx := Lib.hid hbx
            cases Bx with
            | true =>
              have HR := Lib.hid (show (k + 1) + Sc.run Sc.blk (L.drop (k + 1)) = T by have := HK.out; rw [h1, Sc.run_step, if_pos hBx] at this; rw [h2]; omega)
              have hk2 : k < n := by omega
              clear h1 h2 h3 HK hbx hBx
              go_wp2_with fail
              refine HBx.out.mono ?_
              rintro e w3 ⟨rfl, rfl⟩
              go_wp2_with fail
              go_roundw
              case rel => exact ⟨k + 1, by go_num, by omega, HR, trivial⟩
              case measure => simp [intOf]; omega
            | false =>
              obtain rfl : T = k := by have := HK.out; rw [h1, Sc.run_step, if_neg (by rw [hBx]; simp)] at this; omega
              clear h1 h2 h3 HK HS hbx hBx
              go_wp2_with fail
              refine HBx.out.mono ?_
              rintro e w3 ⟨rfl, rfl⟩
              go_wp2_with fail
              refine HPt.out.mono ?_
              rintro e w3 ⟨rfl, g1, g2, g3, g4⟩
              have HD := Lib.hid (show Spaced L Tot a B n p st w (.returned (.bool true)) w3 from .inl ⟨rfl, T, g1, (HLo.out W2 HB2.out).trans g2, g3, g4⟩)
              clear g1 g2 g3 g4
              go_wp2_with fail
              go_ret
              rw [HSl.out]
              exact HD.out
      | false =>
        obtain ⟨Cm, hCm⟩ : ∃ Cm, (c == 35 && (F || st.blank)) = Cm := ⟨_, rfl⟩
        have HCm := Lib.hid hCm
        have HBl2 := Lib.hid (show Sc.run Sc.blk (Sc.rowL (L.drop p)) = 0 by rw [HRl.out, Sc.run_step, if_neg (by rw [hBl]; simp)])
        have HBc := Lib.hid hBl
        clear hCm hBl
        go_wp2_with fail
        refine HBl.out.mono ?_
        rintro e w3 ⟨rfl, rfl⟩
        clear HBl
        go_upto_region 21 with fail
        go_cut [147] (fun q wx => q = .bool Cm ∧ Below W2.heap.size W2 wx)
        case first =>
          by_cases q : c = 35
          · have g : ((c : Int) == 35) = true := by simp; omega
            cases F with
            | true =>
              have HX := Lib.hid (show Cm = true by rw [← HCm.out, q]; rfl)
              clear q
              go_wp2_with fail
              go_big_quiet (fail)
              have hbq := below_drewN (Below.refl W2.heap.size W2) nq
              go_wp2_with fail
              go_meet
              exact ⟨by rw [HX.out], hbq⟩
            | false =>
              obtain ⟨l0, ⟨k, fr, tp⟩, hl0, hbk⟩ := HG.out.last (by have := HF.out; simpa using this)
              have hR := Reads.of_own (E := encT) (HO.out W2 HB2.out)
              rw [hl0] at hR
              obtain ⟨a', cap', rfl⟩ := hR.shape
              obtain ⟨tb, off2, rfl, d0, d1, d2⟩ := toks_at hR l0.length (k, fr, tp) (by simp)
              obtain ⟨nl, hnl⟩ : ∃ nl, l0.length = nl := ⟨_, rfl⟩
              have hN2 : (l0 ++ [((k, fr, tp) : Tk)]).length = nl + 1 := by simp [hnl]
              rw [hnl] at d0
              rw [hN2] at c7
              have hnb : nl + 1 ≤ 20000 := by have := HLen.out; rw [hl0, hN2] at this; omega
              have e1 : ((nl + 1 : Nat) : Int) - 1 = (nl : Int) := by omega
              have j1 : (0 : Int) ≤ (nl : Int) := by omega
              have j2 : (nl : Int) < ((nl + 1 : Nat) : Int) := by omega
              simp only at d0 hbk
              have HCq := Lib.hid (show Cm = (k == 2 || k == 3) by rw [← HCm.out, q, hbk]; rfl)
              clear hR hl0 hnl hN2 d1 d2 hbk q
              by_cases k2 : k = 2
              · have g2 : ((k : Int) == 2) = true := by simp; omega
                have HX := Lib.hid (show Cm = true by rw [HCq.out, k2]; rfl)
                clear k2
                go_wp2_with fail
                go_big_quiet (fail)
                have hbq := below_drewN (Below.refl W2.heap.size W2) nq
                go_wp2_with fail
                go_meet
                exact ⟨by rw [HX.out], hbq⟩
              · have g2 : ((k : Int) == 2) = false := by simp; omega
                by_cases k3 : k = 3
                · have g3 : ((k : Int) == 3) = true := by simp; omega
                  have HX := Lib.hid (show Cm = true by rw [HCq.out, k3]; rfl)
                  clear k2 k3
                  go_wp2_with fail
                  go_big_quiet (fail)
                  have hbq := below_drewN (Below.refl W2.heap.size W2) nq
                  go_wp2_with fail
                  go_meet
                  exact ⟨by rw [HX.out], hbq⟩
                · have g3 : ((k : Int) == 3) = false := by simp; omega
                  have HX := Lib.hid (show Cm = false by rw [HCq.out]; simp [k2, k3])
                  clear k2 k3
                  go_wp2_with fail
                  go_big_quiet (fail)
                  have hbq := below_drewN (Below.refl W2.heap.size W2) nq
                  go_wp2_with fail
                  go_meet
                  exact ⟨by rw [HX.out], hbq⟩
          · have g : ((c : Int) == 35) = false := by simp; omega
            have HX := Lib.hid (show Cm = false by rw [← HCm.out]; simp [q])
            clear q
            go_wp2_with fail
            go_big_quiet (fail)
            have hbq := below_drewN (Below.refl W2.heap.size W2) nq
            go_wp2_with fail
            go_meet
            exact ⟨by rw [HX.out], hbq⟩
        case rest =>
        obtain ⟨rfl, hb3⟩ := hcut
        have c0 := at_below hb3 c0
        have HB3 := Lib.hid (HB2.out.trans (hb3.mono HB2.out.size))
        clear hb3 c1 c2 c7
        generalize wc = W3 at *
        have HHs := Lib.hid (show Sc.hsh (Sc.rowL (L.drop p)) = (c == 35) by rw [HRl.out]; rfl)
        cases Cm with
        | true =>
          have hq : c = 35 ∧ (F = true ∨ st.blank = true) := by have := HCm.out; simpa using this
          obtain ⟨T, hTd⟩ : ∃ T, p + Sc.rowN (L.drop p) = T := ⟨_, rfl⟩
          have HNx := Lib.hid (show Sc.next st.op st.dash st.blank (st.col == 0) (Sc.rowL (L.drop p)) = (4, Sc.rowN (L.drop p)) by
            rw [Sc.next_four _ _ _ _ _ HM0.out HS0.out HBl2.out (by rw [HHs.out, hq.1]; rfl) (by rw [HF.out]; exact hq.2), Sc.rowL_len])
          have HPt := Lib.hid (rPut (B := B) (v := v) (row := row) W3 HN.out hm (by rw [← HSl.out]; exact HM.out W3 HB3.out) (HO.out W3 HB3.out) HG.out HC.out HRn.out HNx.out rfl hTd)
          have HRE := Lib.hid (rRowEnd (w := W3) (a := a) (cap := cap) p T HN.out hm (by omega) hTd c0 (HT.out W3 HB3.out))
          clear hq hTd
          go_wp2_with fail
          refine HRE.out.mono ?_
          rintro e w4 ⟨rfl, rfl⟩
          go_wp2_with fail
          refine HPt.out.mono ?_
          rintro e w4 ⟨rfl, g1, g2, g3, g4⟩
          have HD := Lib.hid (show Spaced L Tot a B n p st w (.returned (.bool true)) w4 from .inl ⟨rfl, T, g1, (HLo.out W3 HB3.out).trans g2, g3, g4⟩)
          clear g1 g2 g3 g4
          go_wp2_with fail
          go_ret
          rw [HSl.out]
          exact HD.out
        | false =>
          have HD := Lib.hid (show Spaced L Tot a B n p st w (.returned (.bool false)) W3 from .inr ⟨rfl, HB3.out, ⟨c, t, H1.out, hbr, HBc.out⟩, Sc.next_word _ _ _ _ _ HM0.out HS0.out HBl2.out (by
            rw [HHs.out, HF.out]
            intro h
            have h2 := HCm.out
            rcases h.2 with g | g
            · rw [h.1, g] at h2; cases h2
            · rw [h.1, g] at h2; simp at h2)⟩)
          go_wp2_with fail
          go_ret
          rw [HSl.out]
          exact HD.out
end Go.Proofs.Ytmlpaafclobgcaa
