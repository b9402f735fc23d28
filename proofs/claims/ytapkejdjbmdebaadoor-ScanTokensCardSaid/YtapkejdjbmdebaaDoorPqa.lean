/- The scanner in memory; its take: a token is put behind those read. -/
import Derived.Test.YtapkejdjbmdebaaDoorPq7
import Derived.Test.YtapkejdjbmdebaaDoorQt
import Derived.Lib.SmallJoins
import Derived.Deep.LoopGhost
import Derived.Test.YtapkejdjbmdebaaDoorSqb
import Derived.Deep.RegionLaw
import Derived.OneCell
import Derived.IntWalk
import Derived.Deep.RegionWith
import Derived.Deep.DeepCutAuto
import Derived.Deep.CutBlock
namespace Go.Proofs.YtapkejdjbmdebaaDoor
open Go.RowKit
open Go.Proofs.YtapkejdjbmdebaaDoor.Sg
open Go.Proofs.YtapkejdjbmdebaaDoor.Sq
set_option linter.unusedVariables false

/-- The scanner's nine cells lie in block b. -/
def Mem (w : World) (b : Nat) (s : ByteArray) (v : Value) (at' row en op base least : Int) (dash : Bool) : Prop :=
  w.heap[b]? = some (.cells #[.string s, v, .int .i64 at', .int .i64 row, .int .i64 en, .int .i64 op, .int .i64 base, .int .i64 least, .bool dash] 42 (0, 0))
variable {w w' : World} {b : Nat} {s : ByteArray} {v : Value} {at' row en op base least : Int} {dash : Bool}
theorem Mem.c (h : Mem w b s v at' row en op base least dash) : w.cell? ⟨b, 0, none⟩ = some (.string s) ∧ w.cell? ⟨b, 1, none⟩ = some v ∧ w.cell? ⟨b, 2, none⟩ = some (.int .i64 at') ∧ w.cell? ⟨b, 3, none⟩ = some (.int .i64 row) ∧ w.cell? ⟨b, 4, none⟩ = some (.int .i64 en) ∧ w.cell? ⟨b, 5, none⟩ = some (.int .i64 op) ∧ w.cell? ⟨b, 6, none⟩ = some (.int .i64 base) ∧ w.cell? ⟨b, 7, none⟩ = some (.int .i64 least) ∧ w.cell? ⟨b, 8, none⟩ = some (.bool dash) :=
  ⟨(Joins.cell_of_block h 0).trans rfl, (Joins.cell_of_block h 1).trans rfl, (Joins.cell_of_block h 2).trans rfl, (Joins.cell_of_block h 3).trans rfl, (Joins.cell_of_block h 4).trans rfl, (Joins.cell_of_block h 5).trans rfl, (Joins.cell_of_block h 6).trans rfl, (Joins.cell_of_block h 7).trans rfl, (Joins.cell_of_block h 8).trans rfl⟩
theorem Mem.f (h : Mem w b s v at' row en op base least dash) (o : Nat) : w.frozen? ⟨b, o, none⟩ = false := Joins.unfrozen_of_block h o
theorem Mem.lt (h : Mem w b s v at' row en op base least dash) : b < w.heap.size := (Array.getElem?_eq_some_iff.1 h).1
theorem Mem.below (h : Mem w b s v at' row en op base least dash) (hb : Below w.heap.size w w') : Mem w' b s v at' row en op base least dash := (hb.block b h.lt).trans h
theorem Mem.grown {r : Option Nat} (h : Mem w b s v at' row en op base least dash) (hg : w.grownBy w' r) (hne : r ≠ some b) : Mem w' b s v at' row en op base least dash := (hg.block b h.lt (fun e => hne e.symm)).trans h
theorem Mem.set1 (h : Mem w b s v at' row en op base least dash) (u : Value) : Mem (w.setCell ⟨b, 1, none⟩ u) b s u at' row en op base least dash := Joins.block_setCell h u
theorem Mem.set2 (h : Mem w b s v at' row en op base least dash) (u : Int) : Mem (w.setCell ⟨b, 2, none⟩ (.int .i64 u)) b s v u row en op base least dash := Joins.block_setCell h _
theorem Mem.set3 (h : Mem w b s v at' row en op base least dash) (u : Int) : Mem (w.setCell ⟨b, 3, none⟩ (.int .i64 u)) b s v at' u en op base least dash := Joins.block_setCell h _
theorem Mem.set4 (h : Mem w b s v at' row en op base least dash) (u : Int) : Mem (w.setCell ⟨b, 4, none⟩ (.int .i64 u)) b s v at' row u op base least dash := Joins.block_setCell h _
theorem Mem.set5 (h : Mem w b s v at' row en op base least dash) (u : Int) : Mem (w.setCell ⟨b, 5, none⟩ (.int .i64 u)) b s v at' row en u base least dash := Joins.block_setCell h _
theorem Mem.set6 (h : Mem w b s v at' row en op base least dash) (u : Int) : Mem (w.setCell ⟨b, 6, none⟩ (.int .i64 u)) b s v at' row en op u least dash := Joins.block_setCell h _
theorem Mem.set7 (h : Mem w b s v at' row en op base least dash) (u : Int) : Mem (w.setCell ⟨b, 7, none⟩ (.int .i64 u)) b s v at' row en op base u dash := Joins.block_setCell h _
theorem Mem.set8 (h : Mem w b s v at' row en op base least dash) (u : Bool) : Mem (w.setCell ⟨b, 8, none⟩ (.bool u)) b s v at' row en op base least u := Joins.block_setCell h _
/-- The tokens' row is the call's own, and lies above. -/
abbrev Row (w : World) (b : Nat) (v : Value) (l : List Tk) : Prop := w.ownsRow (b + 1) 32 3 v l.length (encT.all l)
theorem row_set {l : List Tk} (h : Row w b v l) (o : Nat) (u : Value) : Row (w.setCell ⟨b, o, none⟩ u) b v l := ownsRow_setCell_below h (a := ⟨b, o, none⟩) (by simp) u
theorem bel_set {B : Nat} {a : World} (h : Below B a w) (hB : B ≤ b) (o : Nat) (u : Value) : Below B a (w.setCell ⟨b, o, none⟩ u) := h.setCell (p := ⟨b, o, none⟩) hB u

theorem tok_new (W : World) (x : Tk) (t : TypeId) : ∀ j c, (encT.all [x])[j]? = some c → (W.alloc (.cells #[.int .i64 x.1, .int .i64 x.2.1, .int .i64 x.2.2] t)).cell? ⟨W.heap.size, j, none⟩ = some c := by
  intro j c hj
  rw [World.cell?_alloc_mark]
  simpa [Enc.all, encT, tkCells] using hj
/-- Where the lower bound is smaller. -/
theorem _root_.Go.RowKit.Below.trans_lo {B C : Nat} {a m c : World} (h : Below B a m) (hC : C ≤ B) (h2 : Below C m c) : Below C a c := (h.mono hC).trans h2
set_option maxHeartbeats 1000000 in
theorem pCounts (k : Nat) (w : World) :
    Calls Tryd.prog 50 #[.int .i64 k] w fun e w' => e = .returned (.bool (Sc.counts k)) ∧ w = w' := by
  go_enter Tryd.func50, Tryd.ntmps50
  go_wp2
  all_goals
    go_ret
    refine ⟨?_, rfl⟩
    refine congrArg (fun b => Ending.returned (.bool b)) ?_
    rw [Bool.eq_iff_iff]
    simp [Sc.counts] at *
    try omega
set_option maxHeartbeats 1000000 in
theorem pLeaves (k : Nat) (w : World) :
    Calls Tryd.prog 51 #[.int .i64 k] w fun e w' => e = .returned (.bool (Sc.leaves k)) ∧ w = w' := by
  go_enter Tryd.func51, Tryd.ntmps51
  go_wp2
  all_goals
    go_ret
    refine ⟨?_, rfl⟩
    refine congrArg (fun b => Ending.returned (.bool b)) ?_
    rw [Bool.eq_iff_iff]
    simp [Sc.leaves] at *
    try omega
/-- What is so behind take. -/
def Took (b : Nat) (s : ByteArray) (T C k : Nat) (row op : Nat) (en base least : Int) (dash : Bool) (l' : List Tk) (w w' : World) : Prop :=
  ∃ (v2 : Value) (op2 base2 least2 : Int) (dash2 : Bool), Mem w' b s v2 T row en op2 base2 least2 dash2 ∧ Row w' b v2 l' ∧ Below b w w' ∧ op2 = Sc.opens op k ∧ (least2 = if k = 18 then (if base = -1 then (C : Int) else base + 1) else least) ∧ (base2 = if base = -1 ∧ Sc.counts k = true then (C : Int) else base) ∧ dash2 = (dash && Sc.leaves k)
set_option maxHeartbeats 8000000 in
set_option maxRecDepth 100000 in
/-- take: the token is put behind those read; what is known behind it is as the plain text says. -/
theorem pTake (k n T C : Nat) (at' row op : Nat) (en base least : Int) (dash : Bool) (b : Nat) (s : ByteArray) (v : Value) (l : List Tk) (w : World) (hM : Mem w b s v at' row en op base least dash) (hO : Row w b v l) (hT : at' + n = T) (hC : row + C = at') (ha : T ≤ 100000) (hl : l.length ≤ 100000) (hop : op ≤ 100000) (hb1 : -1 ≤ base) (hb2 : base ≤ 100000) :
    Calls Tryd.prog 28 #[.pointer (some ⟨b, 0, none⟩), .int .i64 k, .int .i64 n] w fun e w' => e = .returned (.tuple #[]) ∧ Took b s T C k row op en base least dash (l ++ [(k, at', T)]) w w' := by
  obtain ⟨c0, c1, c2, c3, c4, c5, c6, c7, c8⟩ := hM.c
  have hcol : ((at' : Int) - (row : Int)) = (C : Int) := by omega
  have hne : v.ownBlock ≠ some b := fun e => by have := (hO.lt b e).1; omega
  have HM := Lib.hid hM
  have HO := Lib.hid hO
  have HLb := Lib.hid (Nat.le_of_lt hM.lt)
  clear hM hO
  go_enter Tryd.func28, Tryd.ntmps28
  go_wp2_with fail
  go_big_quiet (fail)
  have hbq := below_drewN (Below.refl w.heap.size w) nq
  have HM1 := Lib.hid (HM.out.below hbq)
  have HO1 := Lib.hid (show Row (w.drewN nq) b v l from own_below HO.out hbq)
  have HBq := Lib.hid hbq
  clear hbq c0 c1 c2 c3 c4 c5 c6 c7 c8 HM HO
  obtain ⟨W, hW⟩ : ∃ W, w.drewN nq = W := ⟨_, rfl⟩
  rw [hW] at HM1 HO1 HBq ⊢
  clear hW
  have hM1 := HM1.out
  have hlt := hM1.lt
  obtain ⟨c0, c1, c2, c3, c4, c5, c6, c7, c8⟩ := hM1.c
  have f1 := hM1.f 1
  have hne0 : b ≠ W.heap.size := by omega
  have e1 : (at' : Int) + (n : Int) = (T : Int) := by omega
  have w1 : IntKind.i64.wrap (T : Int) = (T : Int) := IntWalk.i64_in _ (by omega)
  have HNew := Lib.hid (tok_new W.drew (k, at', T) 32)
  have hMa := hM1.below ((Below.refl W.heap.size W).drew.alloc (Nat.le_refl _) (.cells #[.int .i64 k, .int .i64 at', .int .i64 (T : Nat)] 32))
  have HMa := Lib.hid hMa
  have HBa := Lib.hid ((Below.refl W.heap.size W).drew.alloc (Nat.le_refl _) (.cells #[.int .i64 k, .int .i64 at', .int .i64 (T : Nat)] 32))
  have d1 : W.drew.cell? ⟨b, 1, none⟩ = some v := c1
  have d2 : W.drew.cell? ⟨b, 2, none⟩ = some (.int .i64 at') := c2
  have x1 := hMa.c.2.1
  have x2 := hMa.c.2.2.1
  have x3 := (hM1.below (below_alloc W (.cells #[.int .i64 k, .int .i64 at', .int .i64 (T : Nat)] 32))).c.2.1
  have hl1 : l.length + 1 ≤ maxLen := by unfold maxLen; omega
  have hl2 : (l.length + 1) * 24 ≤ 140737488355328 := by omega
  have hl3 : b + 1 ≤ (W.drew.alloc (.cells #[.int .i64 k, .int .i64 at', .int .i64 (T : Nat)] 32)).heap.size := by simp; omega
  have HL1 := Lib.hid hl1
  have HL2 := Lib.hid hl2
  have HL3 := Lib.hid hl3
  have HNe := Lib.hid hne
  have HLt := Lib.hid hlt
  have HOa := Lib.hid (show Row (W.drew.alloc (.cells #[.int .i64 k, .int .i64 at', .int .i64 (T : Nat)] 32)) b v l from World.ownsRow.alloc (w := W.drew) HO1.out _)
  clear hM1 hlt hMa hl1 hl2 hl3 hne hC hT hl
  clear c0 c1 c2 c3 c4 c5 c6 c7 c8
  go_upto_region 2 with fail
  go_cut [] (fun wx => ∃ v2, Mem wx b s v2 at' row en op base least dash ∧ Row wx b v2 (l ++ [((k, at', T) : Tk)]) ∧ Below b W wx)
  case first =>
    go_wp2_with fail
    refine wp_region_held_drew (S := fun wx => wx.cell? ⟨b, 2, none⟩ = some (.int .i64 at')) (by kernel_rfl) d2 (fun hH => ?_)
    refine wpAnyH_take (i := 0) (oi := { dst := some 16, op := Op.move (Operand.tmp 0), type := 48, pos := _, after := #[], guard := none }) (v := .pointer (some ⟨b, 0, none⟩)) rfl (by kernel_rfl) (by kernel_rfl) (by kernel_rfl) (fun _ _ _ h => h) (Or.inl ⟨rfl, fun W hW => ?_⟩) hH ?_
    · go_simp
    try simp only [Act.put, List.setIfInBounds_toArray, List.set_cons_zero, List.set_cons_succ]
    refine wpAnyH_take (i := 1) (oi := { dst := some 17, op := Op.move (Operand.tmp 0), type := 48, pos := _, after := #[], guard := none }) (v := .pointer (some ⟨b, 0, none⟩)) rfl (by kernel_rfl) (by kernel_rfl) (by kernel_rfl) (fun _ _ _ h => h) (Or.inl ⟨rfl, fun W hW => ?_⟩) hH ?_
    · go_simp
    try simp only [Act.put, List.setIfInBounds_toArray, List.set_cons_zero, List.set_cons_succ]
    refine wpAnyH_take (i := 2) (oi := { dst := some 18, op := Op.nilCheck (Operand.tmp 17), type := 0, pos := _, after := #[{ on := 1, ground := Ground.data }], guard := none }) (v := .pointer (some ⟨b, 0, none⟩)) rfl (by kernel_rfl) (by kernel_rfl) (by kernel_rfl) (fun _ _ _ h => h) (Or.inl ⟨rfl, fun W hW => ?_⟩) hH ?_
    · go_simp
    try simp only [Act.put, List.setIfInBounds_toArray, List.set_cons_zero, List.set_cons_succ]
    refine wpAnyH_take (i := 3) (oi := { dst := some 19, op := Op.fieldAddr 42 (Operand.tmp 18) 1, type := 0, pos := _, after := #[{ on := 2, ground := Ground.data }], guard := none }) (v := .pointer (some ⟨b, 1, none⟩)) rfl (by kernel_rfl) (by kernel_rfl) (by kernel_rfl) (fun _ _ _ h => h) (Or.inl ⟨rfl, fun W hW => ?_⟩) hH ?_
    · go_simp
    try simp only [Act.put, List.setIfInBounds_toArray, List.set_cons_zero, List.set_cons_succ]
    refine wpAnyH_take (i := 5) (oi := { dst := some 21, op := Op.move (Operand.tmp 1), type := 3, pos := _, after := #[], guard := none }) (v := .int .i64 k) rfl (by kernel_rfl) (by kernel_rfl) (by kernel_rfl) (fun _ _ _ h => h) (Or.inl ⟨rfl, fun W hW => ?_⟩) hH ?_
    · go_simp
    try simp only [Act.put, List.setIfInBounds_toArray, List.set_cons_zero, List.set_cons_succ]
    refine wpAnyH_take (i := 6) (oi := { dst := some 22, op := Op.move (Operand.tmp 0), type := 48, pos := _, after := #[], guard := none }) (v := .pointer (some ⟨b, 0, none⟩)) rfl (by kernel_rfl) (by kernel_rfl) (by kernel_rfl) (fun _ _ _ h => h) (Or.inl ⟨rfl, fun W hW => ?_⟩) hH ?_
    · go_simp
    try simp only [Act.put, List.setIfInBounds_toArray, List.set_cons_zero, List.set_cons_succ]
    refine wpAnyH_take (i := 7) (oi := { dst := some 23, op := Op.nilCheck (Operand.tmp 22), type := 0, pos := _, after := #[{ on := 6, ground := Ground.data }], guard := none }) (v := .pointer (some ⟨b, 0, none⟩)) rfl (by kernel_rfl) (by kernel_rfl) (by kernel_rfl) (fun _ _ _ h => h) (Or.inl ⟨rfl, fun W hW => ?_⟩) hH ?_
    · go_simp
    try simp only [Act.put, List.setIfInBounds_toArray, List.set_cons_zero, List.set_cons_succ]
    refine wpAnyH_take (i := 8) (oi := { dst := some 24, op := Op.fieldAddr 42 (Operand.tmp 23) 2, type := 0, pos := _, after := #[{ on := 7, ground := Ground.data }], guard := none }) (v := .pointer (some ⟨b, 2, none⟩)) rfl (by kernel_rfl) (by kernel_rfl) (by kernel_rfl) (fun _ _ _ h => h) (Or.inl ⟨rfl, fun W hW => ?_⟩) hH ?_
    · go_simp
    try simp only [Act.put, List.setIfInBounds_toArray, List.set_cons_zero, List.set_cons_succ]
    refine wpAnyH_take (i := 9) (oi := { dst := some 25, op := Op.load 3 (Operand.tmp 24), type := 3, pos := _, after := #[{ on := 8, ground := Ground.data }], guard := none }) (v := .int .i64 at') rfl (by kernel_rfl) (by kernel_rfl) (by kernel_rfl) (fun _ _ _ h => h) (Or.inl ⟨rfl, fun W hW => ?_⟩) hH ?_
    · go_simp
    try simp only [Act.put, List.setIfInBounds_toArray, List.set_cons_zero, List.set_cons_succ]
    refine wpAnyH_take (i := 10) (oi := { dst := some 26, op := Op.move (Operand.tmp 0), type := 48, pos := _, after := #[], guard := none }) (v := .pointer (some ⟨b, 0, none⟩)) rfl (by kernel_rfl) (by kernel_rfl) (by kernel_rfl) (fun _ _ _ h => h) (Or.inl ⟨rfl, fun W hW => ?_⟩) hH ?_
    · go_simp
    try simp only [Act.put, List.setIfInBounds_toArray, List.set_cons_zero, List.set_cons_succ]
    refine wpAnyH_take (i := 11) (oi := { dst := some 27, op := Op.nilCheck (Operand.tmp 26), type := 0, pos := _, after := #[{ on := 10, ground := Ground.data }], guard := none }) (v := .pointer (some ⟨b, 0, none⟩)) rfl (by kernel_rfl) (by kernel_rfl) (by kernel_rfl) (fun _ _ _ h => h) (Or.inl ⟨rfl, fun W hW => ?_⟩) hH ?_
    · go_simp
    try simp only [Act.put, List.setIfInBounds_toArray, List.set_cons_zero, List.set_cons_succ]
    refine wpAnyH_take (i := 12) (oi := { dst := some 28, op := Op.fieldAddr 42 (Operand.tmp 27) 2, type := 0, pos := _, after := #[{ on := 11, ground := Ground.data }], guard := none }) (v := .pointer (some ⟨b, 2, none⟩)) rfl (by kernel_rfl) (by kernel_rfl) (by kernel_rfl) (fun _ _ _ h => h) (Or.inl ⟨rfl, fun W hW => ?_⟩) hH ?_
    · go_simp
    try simp only [Act.put, List.setIfInBounds_toArray, List.set_cons_zero, List.set_cons_succ]
    refine wpAnyH_take (i := 13) (oi := { dst := some 29, op := Op.load 3 (Operand.tmp 28), type := 3, pos := _, after := #[{ on := 12, ground := Ground.data }], guard := none }) (v := .int .i64 at') rfl (by kernel_rfl) (by kernel_rfl) (by kernel_rfl) (fun _ _ _ h => h) (Or.inl ⟨rfl, fun W hW => ?_⟩) hH ?_
    · go_simp
    try simp only [Act.put, List.setIfInBounds_toArray, List.set_cons_zero, List.set_cons_succ]
    refine wpAnyH_take (i := 14) (oi := { dst := some 30, op := Op.move (Operand.tmp 2), type := 3, pos := _, after := #[], guard := none }) (v := .int .i64 n) rfl (by kernel_rfl) (by kernel_rfl) (by kernel_rfl) (fun _ _ _ h => h) (Or.inl ⟨rfl, fun W hW => ?_⟩) hH ?_
    · go_simp
    try simp only [Act.put, List.setIfInBounds_toArray, List.set_cons_zero, List.set_cons_succ]
    refine wpAnyH_take (i := 15) (oi := { dst := some 31, op := Op.binOp BinOp.add 3 (Operand.tmp 29) (Operand.tmp 30) 3, type := 3, pos := _, after := #[{ on := 13, ground := Ground.data }, { on := 14, ground := Ground.data }], guard := none }) (v := .int .i64 (T : Nat)) rfl (by kernel_rfl) (by kernel_rfl) (by kernel_rfl) (fun _ _ _ h => h) (Or.inl ⟨rfl, fun W hW => ?_⟩) hH ?_
    · go_simp
    try simp only [Act.put, List.setIfInBounds_toArray, List.set_cons_zero, List.set_cons_succ]
    refine wpAnyH_take (i := 16) (oi := { dst := some 32, op := Op.build 32 #[(0, Operand.tmp 21), (1, Operand.tmp 25), (2, Operand.tmp 31)], type := 32, pos := _, after := #[{ on := 5, ground := Ground.data }, { on := 9, ground := Ground.data }, { on := 15, ground := Ground.data }], guard := none }) (v := .agg #[.int .i64 k, .int .i64 at', .int .i64 (T : Nat)]) rfl (by kernel_rfl) (by kernel_rfl) (by kernel_rfl) (fun _ _ _ h => h) (Or.inl ⟨rfl, fun W hW => ?_⟩) hH ?_
    · go_simp
    try simp only [Act.put, List.setIfInBounds_toArray, List.set_cons_zero, List.set_cons_succ]
    refine wpAnyH_ready (rs := [4, 17]) (by kernel_rfl) (by simp) ?_
    refine AllReadyH.cons (o := { dst := some 20, op := Op.load 27 (Operand.tmp 19), type := 27, pos := _, after := #[{ on := 3, ground := Ground.data }], guard := none }) rfl (fun K hK => ?_) (AllReadyH.cons (o := { dst := some 33, op := Op.buildSlice 27 1 #[(0, Operand.tmp 32)], type := 27, pos := _, after := #[{ on := 16, ground := Ground.data }], guard := none }) rfl (fun K hK => ?_) (AllReadyH.nil))
    · skip
      go_simp
      refine hK.out _ _ (d2) (fun hH2 => ?_)
      clear hK K
      try simp only [Act.put, List.setIfInBounds_toArray, List.set_cons_zero, List.set_cons_succ]
      refine wpAnyH_ready (rs := [17]) (by kernel_rfl) (by simp) ?_
      refine AllReadyH.cons (o := { dst := some 33, op := Op.buildSlice 27 1 #[(0, Operand.tmp 32)], type := 27, pos := _, after := #[{ on := 16, ground := Ground.data }], guard := none }) rfl (fun K hK => ?_) (AllReadyH.nil)
      go_simp
      refine hK.out _ _ (x2) (fun hH2 => ?_)
      clear hK K
      try simp only [Act.put, List.setIfInBounds_toArray, List.set_cons_zero, List.set_cons_succ]
      refine wpAnyH_ready (rs := [18]) (by kernel_rfl) (by simp) ?_
      refine AllReadyH.cons (o := { dst := some 34, op := Op.call { callee := Callee.builtin Builtin.append, args := #[Operand.tmp 20, Operand.tmp 33], argTypes := #[27, 27] }, type := 27, pos := _, after := #[{ on := 4, ground := Ground.data }, { on := 17, ground := Ground.data }], guard := none }) rfl (fun K hK => ?_) (AllReadyH.nil)
      refine step_append_laid tyT rfl (.tmp 20) (.tmp 33) rfl (b + 1) v l rfl HOa.out W.heap.size 1 [((k, at', T) : Tk)] rfl rfl HNew.out HL1.out HL2.out HL3.out ?_
      intro v2 w2 hown2 hg2
      obtain ⟨a2, cap2, rfl⟩ := (Reads.of_own (E := encT) hown2).shape
      have HM2 := Lib.hid (HMa.out.grown hg2 HNe.out)
      have y1 := HM2.out.c.2.1
      have y2 := HM2.out.c.2.2.1
      have y3 := HM2.out.f 1
      have HO2 := Lib.hid hown2
      have HG2 := Lib.hid hg2
      clear hown2 hg2
      refine hK.out _ _ (y2) (fun hH2 => ?_)
      clear hK K
      try simp only [Act.put, List.setIfInBounds_toArray, List.set_cons_zero, List.set_cons_succ]
      refine wpAnyH_take (i := 19) (oi := { dst := some 35, op := Op.nilCheck (Operand.tmp 16), type := 0, pos := _, after := #[{ on := 0, ground := Ground.data }, { on := 0, ground := Ground.phase }, { on := 1, ground := Ground.phase }, { on := 2, ground := Ground.phase }, { on := 3, ground := Ground.phase }, { on := 4, ground := Ground.phase }, { on := 5, ground := Ground.phase }, { on := 6, ground := Ground.phase }, { on := 7, ground := Ground.phase }, { on := 8, ground := Ground.phase }, { on := 9, ground := Ground.phase }, { on := 10, ground := Ground.phase }, { on := 11, ground := Ground.phase }, { on := 12, ground := Ground.phase }, { on := 13, ground := Ground.phase }, { on := 14, ground := Ground.phase }, { on := 15, ground := Ground.phase }, { on := 16, ground := Ground.phase }, { on := 17, ground := Ground.phase }, { on := 18, ground := Ground.phase }], guard := none }) (v := .pointer (some ⟨b, 0, none⟩)) rfl (by kernel_rfl) (by kernel_rfl) (by kernel_rfl) (fun _ _ _ h => h) (Or.inl ⟨rfl, fun W hW => ?_⟩) hH2 ?_
      · go_simp
      try simp only [Act.put, List.setIfInBounds_toArray, List.set_cons_zero, List.set_cons_succ]
      refine wpAnyH_take (i := 20) (oi := { dst := some 36, op := Op.fieldAddr 42 (Operand.tmp 35) 1, type := 0, pos := _, after := #[{ on := 19, ground := Ground.data }, { on := 0, ground := Ground.phase }, { on := 1, ground := Ground.phase }, { on := 2, ground := Ground.phase }, { on := 3, ground := Ground.phase }, { on := 4, ground := Ground.phase }, { on := 5, ground := Ground.phase }, { on := 6, ground := Ground.phase }, { on := 7, ground := Ground.phase }, { on := 8, ground := Ground.phase }, { on := 9, ground := Ground.phase }, { on := 10, ground := Ground.phase }, { on := 11, ground := Ground.phase }, { on := 12, ground := Ground.phase }, { on := 13, ground := Ground.phase }, { on := 14, ground := Ground.phase }, { on := 15, ground := Ground.phase }, { on := 16, ground := Ground.phase }, { on := 17, ground := Ground.phase }, { on := 18, ground := Ground.phase }], guard := none }) (v := .pointer (some ⟨b, 1, none⟩)) rfl (by kernel_rfl) (by kernel_rfl) (by kernel_rfl) (fun _ _ _ h => h) (Or.inl ⟨rfl, fun W hW => ?_⟩) hH2 ?_
      · go_simp
      try simp only [Act.put, List.setIfInBounds_toArray, List.set_cons_zero, List.set_cons_succ]
      refine wpAnyH_ready (rs := [21]) (by kernel_rfl) (by simp) ?_
      refine AllReadyH.cons (o := { dst := none, op := Op.store 27 (Operand.tmp 36) (Operand.tmp 34), type := 0, pos := _, after := #[{ on := 20, ground := Ground.data }, { on := 18, ground := Ground.data }, { on := 18, ground := Ground.chain }, { on := 0, ground := Ground.phase }, { on := 1, ground := Ground.phase }, { on := 2, ground := Ground.phase }, { on := 3, ground := Ground.phase }, { on := 4, ground := Ground.phase }, { on := 5, ground := Ground.phase }, { on := 6, ground := Ground.phase }, { on := 7, ground := Ground.phase }, { on := 8, ground := Ground.phase }, { on := 9, ground := Ground.phase }, { on := 10, ground := Ground.phase }, { on := 11, ground := Ground.phase }, { on := 12, ground := Ground.phase }, { on := 13, ground := Ground.phase }, { on := 14, ground := Ground.phase }, { on := 15, ground := Ground.phase }, { on := 16, ground := Ground.phase }, { on := 17, ground := Ground.phase }, { on := 18, ground := Ground.phase }], guard := none }) rfl (fun K hK => ?_) (AllReadyH.nil)
      go_simp
      refine hK.out _ _ (at_off (o := 1) (by decide) y2) (fun hH2 => ?_)
      clear hK K
      try simp only [Act.put, List.setIfInBounds_toArray, List.set_cons_zero, List.set_cons_succ]
      refine wpAnyH_done (by kernel_rfl) ?_ _
      go_wp2_with fail
      go_meet
      exact ⟨_, HM2.out.set1 _, (by rw [show l.length + 1 = (l ++ [((k, at', T) : Tk)]).length from by simp]; exact row_set HO2.out 1 _), bel_set (Below.grown (HBa.out.mono (Nat.le_of_lt HLt.out)) HG2.out (Nat.le_of_succ_le HL3.out) (fun q hq => Nat.le_of_succ_le (HO1.out.lt q hq).1)) (Nat.le_refl b) 1 _⟩
    · skip
      go_simp
      refine hK.out _ _ (x2) (fun hH2 => ?_)
      clear hK K
      try simp only [Act.put, List.setIfInBounds_toArray, List.set_cons_zero, List.set_cons_succ]
      refine wpAnyH_ready (rs := [4]) (by kernel_rfl) (by simp) ?_
      refine AllReadyH.cons (o := { dst := some 20, op := Op.load 27 (Operand.tmp 19), type := 27, pos := _, after := #[{ on := 3, ground := Ground.data }], guard := none }) rfl (fun K hK => ?_) (AllReadyH.nil)
      go_simp
      refine hK.out _ _ (x2) (fun hH2 => ?_)
      clear hK K
      try simp only [Act.put, List.setIfInBounds_toArray, List.set_cons_zero, List.set_cons_succ]
      refine wpAnyH_ready (rs := [18]) (by kernel_rfl) (by simp) ?_
      refine AllReadyH.cons (o := { dst := some 34, op := Op.call { callee := Callee.builtin Builtin.append, args := #[Operand.tmp 20, Operand.tmp 33], argTypes := #[27, 27] }, type := 27, pos := _, after := #[{ on := 4, ground := Ground.data }, { on := 17, ground := Ground.data }], guard := none }) rfl (fun K hK => ?_) (AllReadyH.nil)
      refine step_append_laid tyT rfl (.tmp 20) (.tmp 33) rfl (b + 1) v l rfl HOa.out W.heap.size 1 [((k, at', T) : Tk)] rfl rfl HNew.out HL1.out HL2.out HL3.out ?_
      intro v2 w2 hown2 hg2
      obtain ⟨a2, cap2, rfl⟩ := (Reads.of_own (E := encT) hown2).shape
      have HM2 := Lib.hid (HMa.out.grown hg2 HNe.out)
      have y1 := HM2.out.c.2.1
      have y2 := HM2.out.c.2.2.1
      have y3 := HM2.out.f 1
      have HO2 := Lib.hid hown2
      have HG2 := Lib.hid hg2
      clear hown2 hg2
      refine hK.out _ _ (y2) (fun hH2 => ?_)
      clear hK K
      try simp only [Act.put, List.setIfInBounds_toArray, List.set_cons_zero, List.set_cons_succ]
      refine wpAnyH_take (i := 19) (oi := { dst := some 35, op := Op.nilCheck (Operand.tmp 16), type := 0, pos := _, after := #[{ on := 0, ground := Ground.data }, { on := 0, ground := Ground.phase }, { on := 1, ground := Ground.phase }, { on := 2, ground := Ground.phase }, { on := 3, ground := Ground.phase }, { on := 4, ground := Ground.phase }, { on := 5, ground := Ground.phase }, { on := 6, ground := Ground.phase }, { on := 7, ground := Ground.phase }, { on := 8, ground := Ground.phase }, { on := 9, ground := Ground.phase }, { on := 10, ground := Ground.phase }, { on := 11, ground := Ground.phase }, { on := 12, ground := Ground.phase }, { on := 13, ground := Ground.phase }, { on := 14, ground := Ground.phase }, { on := 15, ground := Ground.phase }, { on := 16, ground := Ground.phase }, { on := 17, ground := Ground.phase }, { on := 18, ground := Ground.phase }], guard := none }) (v := .pointer (some ⟨b, 0, none⟩)) rfl (by kernel_rfl) (by kernel_rfl) (by kernel_rfl) (fun _ _ _ h => h) (Or.inl ⟨rfl, fun W hW => ?_⟩) hH2 ?_
      · go_simp
      try simp only [Act.put, List.setIfInBounds_toArray, List.set_cons_zero, List.set_cons_succ]
      refine wpAnyH_take (i := 20) (oi := { dst := some 36, op := Op.fieldAddr 42 (Operand.tmp 35) 1, type := 0, pos := _, after := #[{ on := 19, ground := Ground.data }, { on := 0, ground := Ground.phase }, { on := 1, ground := Ground.phase }, { on := 2, ground := Ground.phase }, { on := 3, ground := Ground.phase }, { on := 4, ground := Ground.phase }, { on := 5, ground := Ground.phase }, { on := 6, ground := Ground.phase }, { on := 7, ground := Ground.phase }, { on := 8, ground := Ground.phase }, { on := 9, ground := Ground.phase }, { on := 10, ground := Ground.phase }, { on := 11, ground := Ground.phase }, { on := 12, ground := Ground.phase }, { on := 13, ground := Ground.phase }, { on := 14, ground := Ground.phase }, { on := 15, ground := Ground.phase }, { on := 16, ground := Ground.phase }, { on := 17, ground := Ground.phase }, { on := 18, ground := Ground.phase }], guard := none }) (v := .pointer (some ⟨b, 1, none⟩)) rfl (by kernel_rfl) (by kernel_rfl) (by kernel_rfl) (fun _ _ _ h => h) (Or.inl ⟨rfl, fun W hW => ?_⟩) hH2 ?_
      · go_simp
      try simp only [Act.put, List.setIfInBounds_toArray, List.set_cons_zero, List.set_cons_succ]
      refine wpAnyH_ready (rs := [21]) (by kernel_rfl) (by simp) ?_
      refine AllReadyH.cons (o := { dst := none, op := Op.store 27 (Operand.tmp 36) (Operand.tmp 34), type := 0, pos := _, after := #[{ on := 20, ground := Ground.data }, { on := 18, ground := Ground.data }, { on := 18, ground := Ground.chain }, { on := 0, ground := Ground.phase }, { on := 1, ground := Ground.phase }, { on := 2, ground := Ground.phase }, { on := 3, ground := Ground.phase }, { on := 4, ground := Ground.phase }, { on := 5, ground := Ground.phase }, { on := 6, ground := Ground.phase }, { on := 7, ground := Ground.phase }, { on := 8, ground := Ground.phase }, { on := 9, ground := Ground.phase }, { on := 10, ground := Ground.phase }, { on := 11, ground := Ground.phase }, { on := 12, ground := Ground.phase }, { on := 13, ground := Ground.phase }, { on := 14, ground := Ground.phase }, { on := 15, ground := Ground.phase }, { on := 16, ground := Ground.phase }, { on := 17, ground := Ground.phase }, { on := 18, ground := Ground.phase }], guard := none }) rfl (fun K hK => ?_) (AllReadyH.nil)
      go_simp
      refine hK.out _ _ (at_off (o := 1) (by decide) y2) (fun hH2 => ?_)
      clear hK K
      try simp only [Act.put, List.setIfInBounds_toArray, List.set_cons_zero, List.set_cons_succ]
      refine wpAnyH_done (by kernel_rfl) ?_ _
      go_wp2_with fail
      go_meet
      exact ⟨_, HM2.out.set1 _, (by rw [show l.length + 1 = (l ++ [((k, at', T) : Tk)]).length from by simp]; exact row_set HO2.out 1 _), bel_set (Below.grown (HBa.out.mono (Nat.le_of_lt HLt.out)) HG2.out (Nat.le_of_succ_le HL3.out) (fun q hq => Nat.le_of_succ_le (HO1.out.lt q hq).1)) (Nat.le_refl b) 1 _⟩
  case rest =>
    obtain ⟨v2, hM2, hO2, hB2⟩ := hcut
    have HM2 := Lib.hid hM2
    have HO2 := Lib.hid hO2
    have HB2 := Lib.hid hB2
    obtain ⟨c0, c1, c2, c3, c4, c5, c6, c7, c8⟩ := hM2.c
    have f2 := hM2.f 2
    have f5 := hM2.f 5
    have f7 := hM2.f 7
    have hopI : (0 : Int) ≤ (op : Int) := by omega
    have hopJ : (op : Int) ≤ 100000 := by omega
    clear hM2 hO2 hB2 HM1 HO1 HNew HMa HBa HL1 HL2 HL3 HNe HLt HOa d1 d2 x1 x2 x3 w1 hne0 f1 c0 c1 c3 c4 c8
    go_upto_block 0 with fail
    go_cut [] (fun wx => ∃ op2 least2 : Int, Mem wx b s v2 T row en op2 base least2 dash ∧ Row wx b v2 (l ++ [((k, at', T) : Tk)]) ∧ Below b W wx ∧ Hid (op2 = Sc.opens op k ∧ least2 = if k = 18 then (if base = -1 then (C : Int) else base + 1) else least))
    case first =>
      by_cases k8 : k = 8
      · subst k8
        go_wp2_with fail
        go_meet
        exact ⟨_, _, (HM2.out.set2 T).set5 _, row_set (row_set HO2.out 2 _) 5 _, bel_set (bel_set HB2.out (Nat.le_refl b) 2 _) (Nat.le_refl b) 5 _, Lib.hid (⟨by simp [Sc.opens], rfl⟩)⟩
      by_cases k9 : k = 9
      · subst k9
        go_wp2_with fail
        go_meet
        exact ⟨_, _, (HM2.out.set2 T).set5 _, row_set (row_set HO2.out 2 _) 5 _, bel_set (bel_set HB2.out (Nat.le_refl b) 2 _) (Nat.le_refl b) 5 _, Lib.hid (⟨by simp [Sc.opens], rfl⟩)⟩
      by_cases k10 : k = 10
      · subst k10
        have hmx : max ((op : Int) - 1) 0 = ((op - 1 : Nat) : Int) := by omega
        go_wp2_with fail
        go_meet
        exact ⟨_, _, (HM2.out.set2 T).set5 _, row_set (row_set HO2.out 2 _) 5 _, bel_set (bel_set HB2.out (Nat.le_refl b) 2 _) (Nat.le_refl b) 5 _, Lib.hid (⟨by simp [Sc.opens], rfl⟩)⟩
      by_cases k11 : k = 11
      · subst k11
        have hmx : max ((op : Int) - 1) 0 = ((op - 1 : Nat) : Int) := by omega
        go_wp2_with fail
        go_meet
        exact ⟨_, _, (HM2.out.set2 T).set5 _, row_set (row_set HO2.out 2 _) 5 _, bel_set (bel_set HB2.out (Nat.le_refl b) 2 _) (Nat.le_refl b) 5 _, Lib.hid (⟨by simp [Sc.opens], rfl⟩)⟩
      by_cases k20 : k = 20
      · subst k20
        go_wp2_with fail
        go_meet
        exact ⟨_, _, (HM2.out.set2 T).set5 _, row_set (row_set HO2.out 2 _) 5 _, bel_set (bel_set HB2.out (Nat.le_refl b) 2 _) (Nat.le_refl b) 5 _, Lib.hid (⟨by simp [Sc.opens], rfl⟩)⟩
      by_cases k21 : k = 21
      · subst k21
        go_wp2_with fail
        go_meet
        exact ⟨_, _, (HM2.out.set2 T).set5 _, row_set (row_set HO2.out 2 _) 5 _, bel_set (bel_set HB2.out (Nat.le_refl b) 2 _) (Nat.le_refl b) 5 _, Lib.hid (⟨by simp [Sc.opens], rfl⟩)⟩
      by_cases k18 : k = 18
      · subst k18
        by_cases hbs : base = -1
        · subst hbs
          go_wp2_with fail
          go_meet
          exact ⟨_, _, ((HM2.out.set2 T).set7 _).set7 _, row_set (row_set (row_set HO2.out 2 _) 7 _) 7 _, bel_set (bel_set (bel_set HB2.out (Nat.le_refl b) 2 _) (Nat.le_refl b) 7 _) (Nat.le_refl b) 7 _, Lib.hid (⟨by simp [Sc.opens], by simp⟩)⟩
        · have gb : (base == -1) = false := beq_eq_false_iff_ne.2 hbs
          go_wp2_with fail
          go_meet
          exact ⟨_, _, (HM2.out.set2 T).set7 _, row_set (row_set HO2.out 2 _) 7 _, bel_set (bel_set HB2.out (Nat.le_refl b) 2 _) (Nat.le_refl b) 7 _, Lib.hid (⟨by simp [Sc.opens], by simp [hbs]⟩)⟩
      have g8 : ((k : Int) == 8) = false := beq_eq_false_iff_ne.2 (by omega)
      have g9 : ((k : Int) == 9) = false := beq_eq_false_iff_ne.2 (by omega)
      have g10 : ((k : Int) == 10) = false := beq_eq_false_iff_ne.2 (by omega)
      have g11 : ((k : Int) == 11) = false := beq_eq_false_iff_ne.2 (by omega)
      have g20 : ((k : Int) == 20) = false := beq_eq_false_iff_ne.2 (by omega)
      have g21 : ((k : Int) == 21) = false := beq_eq_false_iff_ne.2 (by omega)
      have g18 : ((k : Int) == 18) = false := beq_eq_false_iff_ne.2 (by omega)
      go_wp2_with fail
      go_meet
      exact ⟨_, _, (HM2.out.set2 T), row_set HO2.out 2 _, bel_set HB2.out (Nat.le_refl b) 2 _, Lib.hid (⟨by simp [Sc.opens, k8, k9, k10, k11, k20, k21], by simp [k18]⟩)⟩
    case rest =>
      obtain ⟨op2, least2, hM3, hO3, hB3, HS⟩ := hcut
      have HM3 := Lib.hid hM3
      have HO3 := Lib.hid hO3
      have HB3 := Lib.hid hB3
      obtain ⟨c0, c1, c2, c3, c4, c5, c6, c7, c8⟩ := hM3.c
      have f6 := hM3.f 6
      clear hM3 hO3 hB3 HM2 HO2 HB2 f2 f5 f7 f6 c0 c1 c2 c3 c4 c5 c7 c8
      go_upto_region 17 with fail
      go_cut [101] (fun q wx => q = .bool (base == -1 && Sc.counts k) ∧ Mem wx b s v2 T row en op2 base least2 dash ∧ Row wx b v2 (l ++ [((k, at', T) : Tk)]) ∧ Below b W wx)
      case first =>
        have HC := Lib.hid (fun W' => pCounts k W')
        cases hbs : (base == -1) with
        | true =>
          go_wp2_with fail
          refine (HC.out _).mono ?_
          rintro e w5 ⟨rfl, rfl⟩
          go_wp2_with fail
          go_meet
          exact ⟨by rw [hbs]; rfl, HM3.out, HO3.out, HB3.out⟩
        | false =>
          go_wp2_with fail
          go_meet
          exact ⟨by rw [hbs]; rfl, HM3.out, HO3.out, HB3.out⟩
      case rest =>
        obtain ⟨rfl, hM4, hO4, hB4⟩ := hcut
        have HM4 := Lib.hid hM4
        have HO4 := Lib.hid hO4
        have HB4 := Lib.hid hB4
        obtain ⟨c0, c1, c2, c3, c4, c5, c6, c7, c8⟩ := hM4.c
        have f6 := hM4.f 6
        have f8 := hM4.f 8
        have HL := Lib.hid (fun W' => pLeaves k W')
        have hqb : ((base == -1 && Sc.counts k) = true) ↔ (base = -1 ∧ Sc.counts k = true) := by simp
        have HQ := Lib.hid hqb
        clear hM4 hO4 hB4 HM3 HO3 HB3 hqb c0 c1 c2 c3 c4 c5 c7
        cases hq : (base == -1 && Sc.counts k) with
        | true =>
          have HQ2 := Lib.hid (HQ.out.1 hq)
          cases hd : dash with
          | false =>
            rw [hd] at c8 HM4
            go_wp2_with fail
            go_end0
            exact ⟨rfl, v2, op2, C, least2, false, (HM4.out.set6 _).set8 _, row_set (row_set HO4.out 6 _) 8 _, HBq.out.trans_lo HLb.out (bel_set (bel_set HB4.out (Nat.le_refl b) 6 _) (Nat.le_refl b) 8 _), HS.out.1, HS.out.2, by rw [if_pos HQ2.out], by rw [hd]; rfl⟩
          | true =>
            rw [hd] at c8 HM4
            go_wp2_with fail
            refine (HL.out _).mono ?_
            rintro e w5 ⟨rfl, rfl⟩
            go_wp2_with fail
            go_end0
            exact ⟨rfl, v2, op2, C, least2, _, (HM4.out.set6 _).set8 _, row_set (row_set HO4.out 6 _) 8 _, HBq.out.trans_lo HLb.out (bel_set (bel_set HB4.out (Nat.le_refl b) 6 _) (Nat.le_refl b) 8 _), HS.out.1, HS.out.2, by rw [if_pos HQ2.out], by rw [hd]; rfl⟩
        | false =>
          have HQ2 := Lib.hid (fun h => Bool.false_ne_true (hq.symm.trans (HQ.out.2 h)))
          cases hd : dash with
          | false =>
            rw [hd] at c8 HM4
            go_wp2_with fail
            go_end0
            exact ⟨rfl, v2, op2, base, least2, false, HM4.out.set8 _, row_set HO4.out 8 _, HBq.out.trans_lo HLb.out (bel_set HB4.out (Nat.le_refl b) 8 _), HS.out.1, HS.out.2, by rw [if_neg HQ2.out], by rw [hd]; rfl⟩
          | true =>
            rw [hd] at c8 HM4
            go_wp2_with fail
            refine (HL.out _).mono ?_
            rintro e w5 ⟨rfl, rfl⟩
            go_wp2_with fail
            go_end0
            exact ⟨rfl, v2, op2, base, least2, _, HM4.out.set8 _, row_set HO4.out 8 _, HBq.out.trans_lo HLb.out (bel_set HB4.out (Nat.le_refl b) 8 _), HS.out.1, HS.out.2, by rw [if_neg HQ2.out], by rw [hd]; rfl⟩
end Go.Proofs.YtapkejdjbmdebaaDoor
