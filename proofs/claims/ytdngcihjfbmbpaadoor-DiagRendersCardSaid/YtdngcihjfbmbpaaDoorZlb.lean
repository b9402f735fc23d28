/- correctorlaw14.good: diagnostics near one another, of raw ones. -/
import Derived.Test.YtdngcihjfbmbpaaDoorZlc
import Derived.Test.YtdngcihjfbmbpaaDoorDr
import Derived.Test.YtdngcihjfbmbpaaDoorDrt
import Derived.Test.YtdngcihjfbmbpaaDoorSqb
import Derived.Deep.DeepMust
namespace Go.Proofs.YtdngcihjfbmbpaaDoor.Zm
open Go.RowKit
open Go.Proofs.YtdngcihjfbmbpaaDoor.Sq
open Go.Proofs.YtdngcihjfbmbpaaDoor.Zd
set_option linter.unusedVariables false
set_option linter.unusedSimpArgs false

def goodD (d : Dg) : Dg := ⟨wit d.code 13, wit d.f 30, wit d.f 30 + wit d.t 6⟩
def goodL (l : List Dg) : List Dg := (l.take 40).map goodD
theorem goodL_wf (l : List Dg) : ∀ d ∈ goodL l, Wf d := by
  intro d hd
  obtain ⟨x, _, rfl⟩ := List.mem_map.1 hd
  have h1 := wit_bd x.code 13 (by decide)
  have h2 := wit_bd x.f 30 (by decide)
  have h3 := wit_bd x.t 6 (by decide)
  exact ⟨WalkArith.wf_i64 (by simp only [goodD]; omega), WalkArith.wf_i64 (by simp only [goodD]; omega), WalkArith.wf_i64 (by simp only [goodD]; omega)⟩
theorem goodL_len (l : List Dg) : (goodL l).length ≤ 40 := by simp [goodL]; omega
theorem goodL_in (l : List Dg) : ∀ d ∈ goodL l, 0 ≤ d.f ∧ 0 ≤ d.t ∧ d.f < 100 ∧ d.t < 100 := by
  intro d hd
  obtain ⟨x, _, rfl⟩ := List.mem_map.1 hd
  have h2 := wit_bd x.f 30 (by decide)
  have h3 := wit_bd x.t 6 (by decide)
  simp only [goodD]
  omega
theorem good_take {l : List Dg} {i : Nat} {x : Dg} (hx : l[i]? = some x) : (l.take (i + 1)).map goodD = (l.take i).map goodD ++ [goodD x] := by
  obtain ⟨h1, h2⟩ := List.getElem?_eq_some_iff.1 hx
  rw [List.take_succ_eq_append_getElem h1, List.map_append, h2]
  rfl
theorem laid1 (w : World) (a b c : Int) (wx : World) (h : (w.alloc (.cells #[.int .i64 a, .int .i64 b, .int .i64 c] 31)).drew = wx) : ∀ j u, (encZ.all [(⟨a, b, c⟩ : Dg)])[j]? = some u → wx.cell? ⟨w.heap.size, j, none⟩ = some u := by
  intro j u hj
  rw [← h]
  show (w.alloc _).cell? ⟨w.heap.size, j, none⟩ = _
  rw [World.cell?_alloc_mark]
  simpa [Enc.all, encZ, zCells] using hj
/-- What good answers. -/
def GoodDone (w : World) (l : List Dg) (e : Ending) (w' : World) : Prop :=
  ∃ vs, e = .returned vs ∧ w'.ownsRow w.heap.size 31 3 vs (goodL l).length (cellsS (goodL l)) ∧ Below w.heap.size w w'
set_option maxHeartbeats 8000000 in
set_option maxRecDepth 100000 in
theorem good_any (v : Value) (l : List Dg) (w : World) (h : Reads encZ w v l) :
    Calls Tryd.prog 5 #[v] w (GoodDone w l) := by
  obtain ⟨a, ca, rfl⟩ := h.shape
  have hl := h.size_le
  obtain ⟨n, hn⟩ : ∃ n, l.length = n := ⟨_, rfl⟩
  have HX := Lib.hid (fun W (hW : Below w.heap.size w W) j x hx => diag_cells (h.below hW) j x hx)
  rw [hn] at hl ⊢
  have hl2 : n ≤ 9223372036854775807 := Nat.le_trans hl (by decide)
  have HN := Lib.hid hn
  obtain ⟨B, hB⟩ : ∃ B, w.heap.size = B := ⟨_, rfl⟩
  have HB0 := Lib.hid hB
  obtain ⟨Q, hQ⟩ : ∃ Q, GoodDone w l = Q := ⟨_, rfl⟩
  rw [hQ]
  have HQ := Lib.hid (show ∀ vs w', w'.ownsRow B 31 3 vs (goodL l).length (cellsS (goodL l)) → Below B w w' → Q (.returned vs) w' from fun vs w' h1 h2 => by rw [← hQ]; exact ⟨vs, rfl, by rw [hB]; exact h1, by rw [hB]; exact h2⟩)
  clear h hn hl hB hQ
  go_enter Tryd.func5, Tryd.ntmps5
  go_wp2_with fail
  go_loopw [3, 4] (fun ov iv wr => ∃ i : Nat, iv = .int .i64 i ∧ i ≤ n ∧ i ≤ 40 ∧ Hid (wr.ownsRow B 31 3 ov ((l.take i).map goodD).length (encZ.all ((l.take i).map goodD))) ∧ Hid (Below B w wr)) (fun _ iv _ => n - (intOf iv).toNat)
  case atStart => exact ⟨0, rfl, Nat.zero_le _, Nat.zero_le _, Lib.hid (own_nil encZ w B), Lib.hid (Below.refl _ _)⟩
  case round =>
    obtain ⟨i, rfl, hin, hi40, HO, HB⟩ := hrel
    by_cases hlt : i < n ∧ i < 40
    · obtain ⟨hlt1, hlt2⟩ := hlt
      obtain ⟨x, hx⟩ : ∃ x, l[i]? = some x := ⟨_, List.getElem?_eq_getElem (by rw [HN.out]; exact hlt1)⟩
      obtain ⟨b, off, rfl, x0, x1, x2⟩ := HX.out wr (by rw [HB0.out]; exact HB.out) i x hx
      have HXi := Lib.hid hx
      have HOn := Lib.hid (show ∀ W, Below wr.heap.size wr W → B ≤ W.heap.size ∧ Below B w W from fun W hW => ⟨Nat.le_trans (by have := HB.out.size; rw [HB0.out] at this; exact this) hW.size, HB.out.trans (hW.mono (by have := HB.out.size; rw [HB0.out] at this; exact this))⟩)
      obtain ⟨oa, oc, rfl⟩ := (Reads.of_own (E := encZ) HO.out).shape
      have hol : ((l.take i).map goodD).length = i := by rw [List.length_map, List.length_take, HN.out]; omega
      have HOl := Lib.hid hol
      have hO2 := HO.out
      rw [hol] at hO2
      have HO2 := Lib.hid (show wr.ownsRow B 31 encZ.k (.slice oa i oc) ((l.take i).map goodD).length (encZ.all ((l.take i).map goodD)) from by rw [hol]; exact hO2)
      rw [hol] at HO
      have ii1 : (i : Int) < (n : Int) := by omega
      have ii2 : (i : Int) < 40 := by omega
      have ii0 : (0 : Int) ≤ (i : Int) := by omega
      obtain ⟨xc, xf, xt⟩ := x
      dsimp only at x0 x1 x2
      have b1 := wit_bd xc 13 (by decide)
      have b2 := wit_bd xf 30 (by decide)
      have b3 := wit_bd xt 6 (by decide)
      have k2 := fun w => within_any xf 30 w (by decide) (by decide)
      have k1 := fun w => within_any xc 13 w (by decide) (by decide)
      have k3 := fun w => within_any xt 6 w (by decide) (by decide)
      have HGd := Lib.hid (show goodD ⟨xc, xf, xt⟩ = ⟨wit xc 13, wit xf 30, wit xf 30 + wit xt 6⟩ from rfl)
      obtain ⟨gc, hgc⟩ : ∃ gc, wit xc 13 = gc := ⟨_, rfl⟩
      obtain ⟨gf, hgf⟩ : ∃ gf, wit xf 30 = gf := ⟨_, rfl⟩
      obtain ⟨gt, hgt⟩ : ∃ gt, wit xt 6 = gt := ⟨_, rfl⟩
      rw [hgc] at k1 b1 HGd
      rw [hgf] at k2 b2 HGd
      rw [hgt] at k3 b3 HGd
      have K1 := Lib.hid k1
      have K2 := Lib.hid k2
      have K3 := Lib.hid k3
      clear hx hO2 hgc hgf hgt k1 k2 k3 hol
      rw [HOl.out]
      go_wp2_with fail
      refine (K2.out _).mono ?_
      rintro e w1 ⟨rfl, rfl⟩
      go_wp2_with fail
-- GEN R6
      refine wp_region_T (fun wx => wx.cell? ⟨b, off + i * 3, none⟩ = some (.int .i64 xc) ∧ wx.cell? ⟨b, off + i * 3 + 2, none⟩ = some (.int .i64 xt)) 17 (by kernel_rfl) ?_
      have hH : (fun wx : World => wx.cell? ⟨b, off + i * 3, none⟩ = some (.int .i64 xc) ∧ wx.cell? ⟨b, off + i * 3 + 2, none⟩ = some (.int .i64 xt)) wr.drew := ⟨x0, x2⟩
      refine wpAnyT_take0 (i := 0) (oi := { dst := some 22, op := Op.move (Operand.tmp 3), type := 23, pos := _, after := #[], guard := none }) (v := .slice oa i oc) rfl (by kernel_rfl) (by kernel_rfl) (by kernel_rfl) (by kernel_rfl) (fun _ _ _ h => h) (Or.inl ⟨rfl, fun W hW => ?_⟩) (fun _ => hH) ?_
      · refine QuietRun.of_run ?_; go_simp
      try simp only [Act.put, List.setIfInBounds_toArray, List.set_cons_zero, List.set_cons_succ]
      refine wpAnyT_take0 (i := 1) (oi := { dst := some 23, op := Op.move (Operand.tmp 0), type := 23, pos := _, after := #[], guard := none }) (v := .slice (some ⟨b, off, none⟩) n ca) rfl (by kernel_rfl) (by kernel_rfl) (by kernel_rfl) (by kernel_rfl) (fun _ _ _ h => h) (Or.inl ⟨rfl, fun W hW => ?_⟩) (fun _ => hH) ?_
      · refine QuietRun.of_run ?_; go_simp
      try simp only [Act.put, List.setIfInBounds_toArray, List.set_cons_zero, List.set_cons_succ]
      refine wpAnyT_take0 (i := 2) (oi := { dst := some 24, op := Op.move (Operand.tmp 4), type := 3, pos := _, after := #[], guard := none }) (v := .int .i64 (i : Int)) rfl (by kernel_rfl) (by kernel_rfl) (by kernel_rfl) (by kernel_rfl) (fun _ _ _ h => h) (Or.inl ⟨rfl, fun W hW => ?_⟩) (fun _ => hH) ?_
      · refine QuietRun.of_run ?_; go_simp
      try simp only [Act.put, List.setIfInBounds_toArray, List.set_cons_zero, List.set_cons_succ]
      refine wpAnyT_take0 (i := 3) (oi := { dst := some 25, op := Op.indexAddr 23 (Operand.tmp 23) (Operand.tmp 24), type := 0, pos := _, after := #[{ on := 1, ground := Ground.data }, { on := 2, ground := Ground.data }], guard := none }) (v := .pointer (some ⟨b, off + i * 3, none⟩)) rfl (by kernel_rfl) (by kernel_rfl) (by kernel_rfl) (by kernel_rfl) (fun _ _ _ h => h) (Or.inl ⟨rfl, fun W hW => ?_⟩) (fun _ => hH) ?_
      · refine QuietRun.of_run ?_; go_simp
      try simp only [Act.put, List.setIfInBounds_toArray, List.set_cons_zero, List.set_cons_succ]
      refine wpAnyT_take0 (i := 4) (oi := { dst := some 26, op := Op.fieldAddr 31 (Operand.tmp 25) 0, type := 0, pos := _, after := #[{ on := 3, ground := Ground.data }], guard := none }) (v := .pointer (some ⟨b, off + i * 3, none⟩)) rfl (by kernel_rfl) (by kernel_rfl) (by kernel_rfl) (by kernel_rfl) (fun _ _ _ h => h) (Or.inl ⟨rfl, fun W hW => ?_⟩) (fun _ => hH) ?_
      · refine QuietRun.of_run ?_; go_simp
      try simp only [Act.put, List.setIfInBounds_toArray, List.set_cons_zero, List.set_cons_succ]
      refine wpAnyT_take3 16 6 (i := 5) (oi := { dst := some 27, op := Op.load 3 (Operand.tmp 26), type := 3, pos := _, after := #[{ on := 4, ground := Ground.data }], guard := none }) (v := .int .i64 xc) rfl (by kernel_rfl) (by kernel_rfl) (by kernel_rfl) (by kernel_rfl) (by kernel_rfl) (fun _ _ _ h => h) (Or.inl ⟨rfl, fun W hW => ?_⟩) hH ?_
      · refine QuietRun.of_run ?_; obtain ⟨z0, z1⟩ := hW; go_simp
      try simp only [Act.put, List.setIfInBounds_toArray, List.set_cons_zero, List.set_cons_succ]
      refine wpAnyT_take2 16 (i := 6) (oi := { dst := some 28, op := Op.call { callee := Callee.value (Operand.func 10), args := #[Operand.tmp 27, Operand.const (Value.int IntKind.i64 13)], argTypes := #[3, 3] }, type := 3, pos := _, after := #[{ on := 5, ground := Ground.data }], guard := none }) (v := .int .i64 gc) rfl (by kernel_rfl) (by kernel_rfl) (by kernel_rfl) (by kernel_rfl) (by kernel_rfl) (fun _ _ _ h => h) (Or.inl ⟨rfl, fun W hW => ?_⟩) hH ?_
      · refine QuietRun.of_call (f := 10) (args := #[.int .i64 xc, .int .i64 13]) ?_ ?_
        · go_simp
        · exact K1.out W
      try simp only [Act.put, List.setIfInBounds_toArray, List.set_cons_zero, List.set_cons_succ]
      refine wpAnyT_take0 (i := 7) (oi := { dst := some 29, op := Op.move (Operand.tmp 5), type := 3, pos := _, after := #[], guard := none }) (v := .int .i64 gf) rfl (by kernel_rfl) (by kernel_rfl) (by kernel_rfl) (by kernel_rfl) (fun _ _ _ h => h) (Or.inl ⟨rfl, fun W hW => ?_⟩) (fun _ => hH) ?_
      · refine QuietRun.of_run ?_; go_simp
      try simp only [Act.put, List.setIfInBounds_toArray, List.set_cons_zero, List.set_cons_succ]
      refine wpAnyT_take0 (i := 8) (oi := { dst := some 30, op := Op.move (Operand.tmp 5), type := 3, pos := _, after := #[], guard := none }) (v := .int .i64 gf) rfl (by kernel_rfl) (by kernel_rfl) (by kernel_rfl) (by kernel_rfl) (fun _ _ _ h => h) (Or.inl ⟨rfl, fun W hW => ?_⟩) (fun _ => hH) ?_
      · refine QuietRun.of_run ?_; go_simp
      try simp only [Act.put, List.setIfInBounds_toArray, List.set_cons_zero, List.set_cons_succ]
      refine wpAnyT_take0 (i := 9) (oi := { dst := some 31, op := Op.move (Operand.tmp 0), type := 23, pos := _, after := #[], guard := none }) (v := .slice (some ⟨b, off, none⟩) n ca) rfl (by kernel_rfl) (by kernel_rfl) (by kernel_rfl) (by kernel_rfl) (fun _ _ _ h => h) (Or.inl ⟨rfl, fun W hW => ?_⟩) (fun _ => hH) ?_
      · refine QuietRun.of_run ?_; go_simp
      try simp only [Act.put, List.setIfInBounds_toArray, List.set_cons_zero, List.set_cons_succ]
      refine wpAnyT_take0 (i := 10) (oi := { dst := some 32, op := Op.move (Operand.tmp 4), type := 3, pos := _, after := #[], guard := none }) (v := .int .i64 (i : Int)) rfl (by kernel_rfl) (by kernel_rfl) (by kernel_rfl) (by kernel_rfl) (fun _ _ _ h => h) (Or.inl ⟨rfl, fun W hW => ?_⟩) (fun _ => hH) ?_
      · refine QuietRun.of_run ?_; go_simp
      try simp only [Act.put, List.setIfInBounds_toArray, List.set_cons_zero, List.set_cons_succ]
      refine wpAnyT_take0 (i := 11) (oi := { dst := some 33, op := Op.indexAddr 23 (Operand.tmp 31) (Operand.tmp 32), type := 0, pos := _, after := #[{ on := 9, ground := Ground.data }, { on := 10, ground := Ground.data }], guard := none }) (v := .pointer (some ⟨b, off + i * 3, none⟩)) rfl (by kernel_rfl) (by kernel_rfl) (by kernel_rfl) (by kernel_rfl) (fun _ _ _ h => h) (Or.inl ⟨rfl, fun W hW => ?_⟩) (fun _ => hH) ?_
      · refine QuietRun.of_run ?_; go_simp
      try simp only [Act.put, List.setIfInBounds_toArray, List.set_cons_zero, List.set_cons_succ]
      refine wpAnyT_take0 (i := 12) (oi := { dst := some 34, op := Op.fieldAddr 31 (Operand.tmp 33) 2, type := 0, pos := _, after := #[{ on := 11, ground := Ground.data }], guard := none }) (v := .pointer (some ⟨b, off + i * 3 + 2, none⟩)) rfl (by kernel_rfl) (by kernel_rfl) (by kernel_rfl) (by kernel_rfl) (fun _ _ _ h => h) (Or.inl ⟨rfl, fun W hW => ?_⟩) (fun _ => hH) ?_
      · refine QuietRun.of_run ?_; go_simp
      try simp only [Act.put, List.setIfInBounds_toArray, List.set_cons_zero, List.set_cons_succ]
      refine wpAnyT_takeS [17, 16, 15, 14] (i := 13) (oi := { dst := some 35, op := Op.load 3 (Operand.tmp 34), type := 3, pos := _, after := #[{ on := 12, ground := Ground.data }], guard := none }) (v := .int .i64 xt) rfl (by kernel_rfl) (by kernel_rfl) (by kernel_rfl) (by kernel_rfl) (by kernel_rfl) (fun _ _ _ h => h) (Or.inl ⟨rfl, fun W hW => ?_⟩) hH ?_
      · refine QuietRun.of_run ?_; obtain ⟨z0, z1⟩ := hW; go_simp
      try simp only [Act.put, List.setIfInBounds_toArray, List.set_cons_zero, List.set_cons_succ]
      refine wpAnyT_takeS [17, 16, 15] (i := 14) (oi := { dst := some 36, op := Op.call { callee := Callee.value (Operand.func 10), args := #[Operand.tmp 35, Operand.const (Value.int IntKind.i64 6)], argTypes := #[3, 3] }, type := 3, pos := _, after := #[{ on := 13, ground := Ground.data }, { on := 6, ground := Ground.chain }], guard := none }) (v := .int .i64 gt) rfl (by kernel_rfl) (by kernel_rfl) (by kernel_rfl) (by kernel_rfl) (by kernel_rfl) (fun _ _ _ h => h) (Or.inl ⟨rfl, fun W hW => ?_⟩) hH ?_
      · refine QuietRun.of_call (f := 10) (args := #[.int .i64 xt, .int .i64 6]) ?_ ?_
        · go_simp
        · exact K3.out W
      try simp only [Act.put, List.setIfInBounds_toArray, List.set_cons_zero, List.set_cons_succ]
      refine wpAnyT_take0 (i := 15) (oi := { dst := some 37, op := Op.binOp BinOp.add 3 (Operand.tmp 30) (Operand.tmp 36) 3, type := 3, pos := _, after := #[{ on := 8, ground := Ground.data }, { on := 14, ground := Ground.data }], guard := none }) (v := .int .i64 (gf + gt)) rfl (by kernel_rfl) (by kernel_rfl) (by kernel_rfl) (by kernel_rfl) (fun _ _ _ h => h) (Or.inl ⟨rfl, fun W hW => ?_⟩) (fun _ => hH) ?_
      · refine QuietRun.of_run ?_; go_simp; exact IntWalk.i64_in _ (by omega)
      try simp only [Act.put, List.setIfInBounds_toArray, List.set_cons_zero, List.set_cons_succ]
      refine wpAnyT_take (i := 16) (oi := { dst := some 38, op := Op.build 31 #[(0, Operand.tmp 28), (1, Operand.tmp 29), (2, Operand.tmp 37)], type := 31, pos := _, after := #[{ on := 6, ground := Ground.data }, { on := 7, ground := Ground.data }, { on := 15, ground := Ground.data }], guard := none }) (v := .agg #[.int .i64 gc, .int .i64 gf, .int .i64 (gf + gt)]) rfl (by kernel_rfl) (by kernel_rfl) (by kernel_rfl) (by kernel_rfl) (by kernel_rfl) (fun _ _ _ h => h) (Or.inl ⟨rfl, fun W hW => ?_⟩) hH ?_
      · refine QuietRun.of_run ?_; go_simp
      try simp only [Act.put, List.setIfInBounds_toArray, List.set_cons_zero, List.set_cons_succ]
      refine wpAnyT_ready (rs := [17]) (by kernel_rfl) (by simp) ?_
      refine AllReadyT.cons (o := { dst := some 39, op := Op.buildSlice 23 1 #[(0, Operand.tmp 38)], type := 23, pos := _, after := #[{ on := 16, ground := Ground.data }], guard := none }) rfl (fun K hK => ?_) (AllReadyT.nil)
      go_simp
      obtain ⟨wx, hwx⟩ : ∃ wx, (wr.alloc (.cells #[.int .i64 gc, .int .i64 gf, .int .i64 (gf + gt)] 31)).drew = wx := ⟨_, rfl⟩
      rw [hwx]
      have HNew := Lib.hid (laid1 wr gc gf (gf + gt) wx hwx)
      have HBx := Lib.hid (show Below wr.heap.size wr wx from hwx ▸ (below_alloc wr _).drew)
      clear hwx
      refine hK.out _ _ (fun h => absurd (h.symm.trans (show _ = true from by kernel_rfl)) (by decide)) (fun _ => ?_)
      clear hK K
      try simp only [Act.put, List.setIfInBounds_toArray, List.set_cons_zero, List.set_cons_succ]
      refine wpAnyT_ready (rs := [18]) (by kernel_rfl) (by simp) ?_
      refine AllReadyT.cons (o := { dst := some 40, op := Op.call { callee := Callee.builtin Builtin.append, args := #[Operand.tmp 22, Operand.tmp 39], argTypes := #[23, 23] }, type := 23, pos := _, after := #[{ on := 0, ground := Ground.data }, { on := 17, ground := Ground.data }, { on := 14, ground := Ground.chain }], guard := none }) rfl (fun K hK => ?_) (AllReadyT.nil)
      refine step_append_laid tyZ rfl (.tmp 22) (.tmp 39) rfl B (.slice oa i oc) ((l.take i).map goodD) rfl (own_below HO2.out HBx.out) wr.heap.size 1 [(⟨gc, gf, gf + gt⟩ : Dg)] rfl rfl HNew.out (by rw [HOl.out]; unfold maxLen; omega) (by rw [HOl.out]; omega) (HOn.out wx HBx.out).1 ?_
      intro v7 w7 hown7 hg7
      have HR1 := Lib.hid (show w7.ownsRow B 31 3 v7 ((l.take (i + 1)).map goodD).length (encZ.all ((l.take (i + 1)).map goodD)) from by rw [good_take HXi.out, HGd.out]; exact hown7)
      have HR2 := Lib.hid ((HOn.out wx HBx.out).2.grown hg7 (by have := (HOn.out wx HBx.out).1; omega) (fun q hq => (HO2.out.lt q hq).1))
      clear hown7 hg7 HNew
      refine hK.out _ _ (fun h => absurd (h.symm.trans (show _ = true from by kernel_rfl)) (by decide)) (fun _ => ?_)
      clear hK K
      try simp only [Act.put, List.setIfInBounds_toArray, List.set_cons_zero, List.set_cons_succ]
      refine wpAnyT_take0 (i := 19) (oi := { dst := some 3, op := Op.assign (Operand.tmp 40), type := 23, pos := _, after := #[{ on := 18, ground := Ground.data }, { on := 18, ground := Ground.chain }, { on := 0, ground := Ground.phase }, { on := 1, ground := Ground.phase }, { on := 2, ground := Ground.phase }, { on := 3, ground := Ground.phase }, { on := 4, ground := Ground.phase }, { on := 5, ground := Ground.phase }, { on := 6, ground := Ground.phase }, { on := 7, ground := Ground.phase }, { on := 8, ground := Ground.phase }, { on := 9, ground := Ground.phase }, { on := 10, ground := Ground.phase }, { on := 11, ground := Ground.phase }, { on := 12, ground := Ground.phase }, { on := 13, ground := Ground.phase }, { on := 14, ground := Ground.phase }, { on := 15, ground := Ground.phase }, { on := 16, ground := Ground.phase }, { on := 17, ground := Ground.phase }, { on := 18, ground := Ground.phase }], guard := none }) (v := v7) rfl (by kernel_rfl) (by kernel_rfl) (by kernel_rfl) (by kernel_rfl) (fun _ _ _ h => h) (Or.inl ⟨rfl, fun W hW => ?_⟩) (fun h => absurd (h.symm.trans (show _ = true from by kernel_rfl)) (by decide)) ?_
      · refine QuietRun.of_run ?_; go_simp
      try simp only [Act.put, List.setIfInBounds_toArray, List.set_cons_zero, List.set_cons_succ]
      refine wpAnyT_done (by kernel_rfl) ?_ _
-- END R6
      go_wp2_with fail
      go_roundw
      case rel => exact ⟨i + 1, by go_num, by omega, by omega, HR1, HR2⟩
      case measure => simp [intOf]; omega
    · have he : l.take i = l.take 40 := by
        rcases Nat.lt_or_ge i n with h | h
        · rw [show i = 40 from by omega]
        · rw [List.take_of_length_le (by rw [HN.out]; omega), List.take_of_length_le (by rw [HN.out]; omega)]
      have hD := HQ.out _ wr (by have := HO.out; rw [he] at this; exact this) HB.out
      have HD := Lib.hid hD
      clear hD he
      by_cases h1 : i < n
      · have ii1 : (i : Int) < (n : Int) := by omega
        have ii2 : ¬ ((i : Int) < 40) := by omega
        clear hlt
        go_wp2_with fail
        try simp only [Exit.jump]
        exact HD.out
      · have ii1 : ¬ ((i : Int) < (n : Int)) := by omega
        clear hlt
        go_wp2_with fail
        try simp only [Exit.jump]
        exact HD.out
end Go.Proofs.YtdngcihjfbmbpaaDoor.Zm
