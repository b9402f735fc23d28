/- diag.Render: a line of each that lies in a text. (Its drawn regions by tools/gen_zrd.py.) -/
import Derived.Test.YtdngcihjfbmbpaaDoorZln
import Derived.Test.YtdngcihjfbmbpaaDoorZfd
import Derived.Test.YtdngcihjfbmbpaaDoorDrt
import Derived.Test.YtdngcihjfbmbpaaDoorDri
import Derived.Lib.OthersKept
import Derived.Lib.SmallJoins
import Derived.Deep.DeepMust
import Derived.Deep.DeepCutAuto
import Derived.Deep.CutBlock
import Derived.BigQuiet
namespace Go.Proofs.YtdngcihjfbmbpaaDoor.Zm
open Go.RowKit
open Go.Proofs.YtdngcihjfbmbpaaDoor.Sq
open Go.Proofs.YtdngcihjfbmbpaaDoor.Zd
open Go.Proofs.YtdngcihjfbmbpaaDoor.Mp
set_option linter.unusedVariables false
set_option linter.unusedSimpArgs false

theorem isB_keep {T e : TypeId} {B b : Nat} {bs : List Value} {w w' : World} (h : Lib.IsBuilderF T e B b bs w) (hk : ∀ (k : Nat) (C : Array Value) (t : TypeId) (fr : Nat × Nat), w.heap[k]? = some (Obj.cells C t fr) → w'.heap[k]? = some (Obj.cells C t fr)) : Lib.IsBuilderF T e B b bs w' := by
  have one : ∀ p, Lib.BuilderAtF T e B b p bs w → Lib.BuilderAtF T e B b p bs w' := by
    rintro p ⟨h1, v, h2, ⟨h3, h4⟩, h5⟩
    refine ⟨h1, v, hk _ _ _ _ h2, ⟨h3, ?_⟩, h5⟩
    rcases h4 with h4 | ⟨g, cap, cur, fz, hv, hg, hh, r⟩
    · exact .inl h4
    · exact .inr ⟨g, cap, cur, fz, hv, hg, hk _ _ _ _ hh, r⟩
  exact h.elim (fun x => .inl (one _ x)) (fun x => .inr (one _ x))
theorem below_keeps {w w' : World} (hb : Below w.heap.size w w') : ∀ (k : Nat) (o : Obj), w.heap[k]? = some o → w'.heap[k]? = some o := fun k o h =>
  (hb.block k ((Array.getElem?_eq_some_iff.1 h).1)).trans h
theorem grown_keeps {w w' : World} {mb : Nat} {s : ByteArray} (hg : w.grownBy w' (some mb)) (hF : Found w mb s) : ∀ (k : Nat) (C : Array Value) (t : TypeId) (fr : Nat × Nat), w.heap[k]? = some (Obj.cells C t fr) → w'.heap[k]? = some (Obj.cells C t fr) := fun k C t fr h => by
  have hne : k ≠ mb := by
    rintro rfl
    obtain ⟨n, f, ⟨es, c, h1, _⟩, _⟩ := hF
    rw [h1] at h
    injection h with h
    cases h
  exact (hg.block k ((Array.getElem?_eq_some_iff.1 h).1) (fun e => hne (Option.some.inj e))).trans h
theorem grown_cells {w w' : World} {mb : Nat} {s : ByteArray} (hg : w.grownBy w' (some mb)) (hF : Found w mb s) : ∀ p v, w.cell? p = some v → w'.cell? p = some v := fun p v h => by
  have hlt := lt_of_cell h
  have hne : p.block ≠ mb := by
    intro e
    obtain ⟨n, f, ⟨es, c, h1, _⟩, _⟩ := hF
    unfold World.cell? at h
    rw [e, h1] at h
    cases h
  rw [World.cell?_of_block (hg.block p.block hlt (fun e => hne (Option.some.inj e)))]
  exact h
/-- What Render holds: the builder, the places that were found, its variable. -/
structure RS (w0 : World) (s : ByteArray) (mb fb : Nat) (tv : Value) (acc : List UInt8) (w : World) : Prop where
  bld : Lib.IsBuilderF 35 5 w0.heap.size w0.heap.size (Lib.byteCells acc) w
  fnd : Found w mb s
  var : w.heap[fb]? = some (.cells #[tv, .map (some mb)] 38 (0, 0))
  bel : Below w0.heap.size w0 w
theorem RS.grown {w0 w w' : World} {s : ByteArray} {mb fb : Nat} {tv : Value} {acc : List UInt8} (h : RS w0 s mb fb tv acc w) (hm : w0.heap.size ≤ mb) (hg : w.grownBy w' (some mb)) (hF : Found w' mb s) : RS w0 s mb fb tv acc w' :=
  ⟨isB_keep h.bld (grown_keeps hg h.fnd), hF, grown_keeps hg h.fnd _ _ _ _ h.var, h.bel.grown hg h.bel.size (fun k e => by injection e with e; omega)⟩
theorem RS.below {w0 w w' : World} {s : ByteArray} {mb fb : Nat} {tv : Value} {acc : List UInt8} (h : RS w0 s mb fb tv acc w) (hb : Below w.heap.size w w') : RS w0 s mb fb tv acc w' :=
  ⟨isB_keep h.bld (fun k C t fr => below_keeps hb k _), h.fnd.same (hb.block mb h.fnd.lt), below_keeps hb _ _ h.var, below_from h.bel hb⟩
theorem RS.wrote {w0 w w' : World} {s : ByteArray} {mb fb : Nat} {tv : Value} {acc acc' : List UInt8} (h : RS w0 s mb fb tv acc w) (hf : fb ≠ w0.heap.size) (hB : Lib.IsBuilderF 35 5 w0.heap.size w0.heap.size (Lib.byteCells acc') w') (hb : Below w0.heap.size w w') (ho : Lib.OthersKept 5 (some w0.heap.size) w w') : RS w0 s mb fb tv acc' w' := by
  refine ⟨hB, ?_, ho fb _ h.var (fun e => hf (Option.some.inj e)) (fun c fz e => by injection e with _ e2; exact absurd e2 (by decide)), h.bel.trans hb⟩
  obtain ⟨n, f, ⟨es, c, h1, h2⟩, h3⟩ := h.fnd
  refine ⟨n, f, ⟨es, c, ho mb _ h1 (fun e => ?_) (fun c fz e => by cases e), h2⟩, h3⟩
  have e := Option.some.inj e
  rw [e] at h1
  rcases h.bld with ⟨_, v, h4, _⟩ | ⟨_, v, h4, _⟩
  · rw [h1] at h4; injection h4 with h4; cases h4
  · rw [h1] at h4; injection h4 with h4; cases h4
/-- A store of a struct of two leaves. -/
theorem stored2 {w : World} {b : Nat} {x y : Value} {t : TypeId} (h : w.heap[b]? = some (.cells #[x, y] t (0, 0))) (A B : Value) :
    ((w.setCell ⟨b, 0, none⟩ A).setCell ⟨b, 1, none⟩ B).heap[b]? = some (.cells #[A, B] t (0, 0)) :=
  (Joins.block_setCell (Joins.block_setCell h A) B).trans rfl
theorem stored2_other {w : World} {b c : Nat} {o : Obj} (h : w.heap[c]? = some o) (hne : b ≠ c) (A B : Value) :
    ((w.setCell ⟨b, 0, none⟩ A).setCell ⟨b, 1, none⟩ B).heap[c]? = some o :=
  (Below.heap_setCell _ _ _ _ hne.symm).trans ((Below.heap_setCell _ _ _ _ hne.symm).trans h)
/-- Two places, laid in two boxes. -/
structure Laid2 (w0 : World) (mb : Nat) (s : ByteArray) (b c : Nat) (p1 p2 q1 q2 : Int) (w : World) : Prop where
  one : w.heap[b]? = some (.cells #[.int .i64 p1, .int .i64 p2] 40 (0, 0))
  two : w.heap[c]? = some (.cells #[.int .i64 q1, .int .i64 q2] 40 (0, 0))
  gro : w0.grownBy w (some mb)
  fnd : Found w mb s
theorem lt_blk {w : World} {b : Nat} {o : Obj} (h : w.heap[b]? = some o) : b < w.heap.size := (Array.getElem?_eq_some_iff.1 h).1
set_option maxHeartbeats 8000000 in
set_option maxRecDepth 100000 in
theorem render (s : ByteArray) (a : Option Addr) (cap : Nat) (v : Value) (l : List Dg) (w : World) (hs : Bys w (.slice a s.size cap) s) (h : Reads encZ w v l) (hT : Tabs w) (hp : Pow w) (hwf : ∀ d ∈ l, (Lit.int .i64 d.f).wf = true ∧ (Lit.int .i64 d.t).wf = true) (hm : s.size ≤ 1000000) (hl : l.length ≤ 100000) :
    Calls Tryd.prog 8 #[.slice a s.size cap, v] w fun e w' => e = .returned (.string (rlB s l)) ∧ Below w.heap.size w w' := by
  obtain ⟨la, lc, rfl⟩ := h.shape
  obtain ⟨n, hn⟩ : ∃ n, l.length = n := ⟨_, rfl⟩
  have HX := Lib.hid (fun W (hW : Below w.heap.size w W) j x hx => diag_cells (h.below hW) j x hx)
  have HF := Lib.hid (fun W mb x (hW : Below w.heap.size w W) (hx : (Lit.int .i64 x).wf = true) (hF : Found W mb s) => find_any s a cap mb x W (hs.below hW) (hT.below hW) hm hx hF)
  have HPw := Lib.hid (fun W (hW : Below w.heap.size w W) => hp.below hW)
  have HWf := Lib.hid hwf
  have HN := Lib.hid hn
  have HM := Lib.hid hm
  have hz : rlB s (l.take n) = rlB s l := by rw [← hn, List.take_length]
  obtain ⟨Q, hQ⟩ : ∃ Q, (fun e (w' : World) => e = Ending.returned (.string (rlB s l)) ∧ Below w.heap.size w w') = Q := ⟨_, rfl⟩
  have HQ := Lib.hid (show ∀ w', Below w.heap.size w w' → Q (.returned (.string ⟨(rlL s (l.take n)).toArray⟩)) w' from fun w' hb => by rw [← hQ]; exact ⟨by rw [← hz]; rfl, hb⟩)
  rw [hQ]
  obtain ⟨sb, hsb⟩ : ∃ sb, w.heap.size = sb := ⟨_, rfl⟩
  obtain ⟨tv, htv⟩ : ∃ tv, Value.slice a s.size cap = tv := ⟨_, rfl⟩
  obtain ⟨wa, hwa⟩ : ∃ wa, ((w.alloc (.cells #[.pointer none, .slice none 0 0] 35)).alloc (.map #[] 0)).alloc (.cells #[.slice a s.size cap, .map (some (sb + 1))] 38) = wa := ⟨_, rfl⟩
  have hRS : RS w s (sb + 1) (sb + 2) tv [] wa := by
    have e1 : (w.alloc (.cells #[.pointer none, .slice none 0 0] 35)).heap.size = sb + 1 := by rw [size_alloc, hsb]
    have e2 : ((w.alloc (.cells #[.pointer none, .slice none 0 0] 35)).alloc (.map #[] 0)).heap.size = sb + 2 := by rw [size_alloc, e1]
    have b1 := below_alloc (w.alloc (.cells #[.pointer none, .slice none 0 0] 35)) (.map #[] 0)
    have b2 := below_alloc ((w.alloc (.cells #[.pointer none, .slice none 0 0] 35)).alloc (.map #[] 0)) (.cells #[.slice a s.size cap, .map (some (sb + 1))] 38)
    rw [hwa] at b2
    have f1 := found_made (w.alloc (.cells #[.pointer none, .slice none 0 0] 35)) s
    rw [e1] at f1
    refine ⟨isB_keep (isB_keep (Lib.IsBuilderF.of (Lib.fresh_isBuilder 35 5 w)) (fun k C t fr => below_keeps b1 k _)) (fun k C t fr => below_keeps b2 k _), f1.same (b2.block _ (by rw [e2]; omega)), ?_, below_from (below_from (below_alloc w _) b1) b2⟩
    rw [← hwa, ← htv, ← e2]
    exact heap_alloc_new _ _
  have HRa := Lib.hid hRS
  have HTv := Lib.hid htv
  have HSb := Lib.hid hsb
  rw [hn] at hl ⊢
  have hmm := @run_makeMap Tryd.prog
  clear h hs hn hz hQ hT hp hwf hm hRS htv
  go_enter Tryd.func8, Tryd.ntmps8
  go_upto_region 3 with fail
  try rw [hwa]
  try rw [hsb]
  rw [HTv.out]
  clear hwa hsb hmm
  go_wp2_with fail
  go_loopw [8, 9, 10, 16] (fun _ _ _ iv wr => ∃ i : Nat, iv = .int .i64 i ∧ i ≤ n ∧ Hid (RS w s (sb + 1) (sb + 2) tv (rlL s (l.take i)) wr)) (fun _ _ _ iv _ => n - (intOf iv).toNat)
  case atStart => exact ⟨0, rfl, Nat.zero_le _, Lib.hid (by rw [List.take_zero]; exact HRa.out)⟩
  case round =>
    obtain ⟨i, rfl, hin, HR⟩ := hrel
    by_cases hlt : i < n
    · obtain ⟨x, hx⟩ : ∃ x, l[i]? = some x := ⟨_, List.getElem?_eq_getElem (by rw [HN.out]; exact hlt)⟩
      obtain ⟨b, off, rfl, x0, x1, x2⟩ := HX.out wr HR.out.bel i x hx
      have hmore := rlL_more s l i x hx
      have hO := rlL_size s HM.out (l.take i)
      have hOl : (l.take i).length ≤ 100000 := by rw [List.length_take, HN.out]; omega
      have hxw := HWf.out x (List.mem_of_getElem? hx)
      have ii : (i : Int) < (n : Int) := by omega
      have ii0 : (0 : Int) ≤ (i : Int) := by omega
      obtain ⟨xc, xf, xt⟩ := x
      dsimp only at x0 x1 x2 hxw
      obtain ⟨bn, hbn⟩ : ∃ bn, wr.heap.size = bn := ⟨_, rfl⟩
      obtain ⟨w5, hw5⟩ : ∃ w5, wr.alloc (.cells #[.int .i64 xc, .int .i64 xf, .int .i64 xt] 31) = w5 := ⟨_, rfl⟩
      have hb5 : Below wr.heap.size wr w5 := hw5 ▸ below_alloc wr _
      have k0 : w5.cell? ⟨bn, 0, none⟩ = some (.int .i64 xc) := by rw [← hw5, ← hbn]; exact at_new rfl
      have k1 : w5.cell? ⟨bn, 1, none⟩ = some (.int .i64 xf) := by rw [← hw5, ← hbn]; exact at_new rfl
      have k2 : w5.cell? ⟨bn, 2, none⟩ = some (.int .i64 xt) := by rw [← hw5, ← hbn]; exact at_new rfl
      have hR5 := HR.out.below hb5
      have k3 : w5.cell? ⟨sb + 2, 0, none⟩ = some tv := (Joins.cell_of_block hR5.var 0).trans rfl
      have k4 : w5.cell? ⟨sb + 2, 1, none⟩ = some (.map (some (sb + 1))) := (Joins.cell_of_block hR5.var 1).trans rfl
      have HR5 := Lib.hid hR5
      have b1 := pl_bd s xf HM.out
      have b2 := pl_bd s xt HM.out
      have HY := Lib.hid (show 0 < (pl s xf).1 → 0 < (pl s xt).1 → lineT s ⟨xc, xf, xt⟩ = _ from lineT_yes s ⟨xc, xf, xt⟩)
      have HNo := Lib.hid (show ¬ (0 < (pl s xf).1 ∧ 0 < (pl s xt).1) → lineT s ⟨xc, xf, xt⟩ = _ from lineT_no s ⟨xc, xf, xt⟩)
      dsimp only at HY
      have HFx := Lib.hid (show ∀ W, w5.grownBy W (some (sb + 1)) → Found W (sb + 1) s → Calls Tryd.prog 11 #[.agg #[tv, .map (some (sb + 1))], .int .i64 xf] W fun e w' => e = .returned (.agg #[.int .i64 (pl s xf).1, .int .i64 (pl s xf).2]) ∧ Found w' (sb + 1) s ∧ W.grownBy w' (some (sb + 1)) from fun W hG hF => by
        have h9 := HF.out W (sb + 1) xf (HR5.out.grown (by rw [HSb.out]; omega) hG hF).bel hxw.1 hF
        rw [HTv.out] at h9; exact h9)
      have HFy := Lib.hid (show ∀ W, w5.grownBy W (some (sb + 1)) → Found W (sb + 1) s → Calls Tryd.prog 11 #[.agg #[tv, .map (some (sb + 1))], .int .i64 xt] W fun e w' => e = .returned (.agg #[.int .i64 (pl s xt).1, .int .i64 (pl s xt).2]) ∧ Found w' (sb + 1) s ∧ W.grownBy w' (some (sb + 1)) from fun W hG hF => by
        have h9 := HF.out W (sb + 1) xt (HR5.out.grown (by rw [HSb.out]; omega) hG hF).bel hxw.2 hF
        rw [HTv.out] at h9; exact h9)
      obtain ⟨p1, hp1⟩ : ∃ A, (pl s xf).1 = A := ⟨_, rfl⟩
      obtain ⟨p2, hp2⟩ : ∃ A, (pl s xf).2 = A := ⟨_, rfl⟩
      obtain ⟨q1, hq1⟩ : ∃ A, (pl s xt).1 = A := ⟨_, rfl⟩
      obtain ⟨q2, hq2⟩ : ∃ A, (pl s xt).2 = A := ⟨_, rfl⟩
      rw [hp1, hp2] at b1 HFx
      rw [hq1, hq2] at b2 HFy
      rw [hp1, hp2, hq1, hq2] at HY
      rw [hp1, hq1] at HNo
      have HMo := Lib.hid hmore
      have HOs := Lib.hid (show (rlL s (l.take i)).length ≤ 10000000 by omega)
      have HMb := Lib.hid (show sb + 1 < w5.heap.size from hR5.fnd.lt)
      have HW5 := Lib.hid hw5
      have HBn := Lib.hid hbn
      clear hx hmore hO hOl hxw hb5 hR5 hp1 hp2 hq1 hq2 hw5 hbn
      go_upto_region 6 with fail
      try rw [HBn.out]
      rw [HW5.out]
      clear x0 x1 x2 HW5 HBn
      go_cut [9, 10] (fun a b wx => ∃ b1 b2, a = .pointer (some ⟨b1, 0, none⟩) ∧ b = .pointer (some ⟨b2, 0, none⟩) ∧ Hid (Laid2 w5 (sb + 1) s b1 b2 p1 p2 q1 q2 wx))
      case first =>
        have hF5 := HR5.out.fnd
        have hmb := HMb.out
        -- GEN R6
        refine wp_region_T (fun wx => ∀ p v, w5.cell? p = some v → wx.cell? p = some v) 10 (by kernel_rfl) ?_
        have hH : (fun wx : World => ∀ p v, w5.cell? p = some v → wx.cell? p = some v) w5.drew := fun p v h => h
        refine wpAnyT_take (i := 0) (oi := { dst := some 20, op := Op.load 38 (Operand.tmp 6), type := 38, pos := _, after := #[], guard := none }) (v := .agg #[tv, .map (some (sb + 1))]) rfl (by kernel_rfl) (by kernel_rfl) (by kernel_rfl) (by kernel_rfl) (by kernel_rfl) (fun _ _ _ h => h) (Or.inl ⟨rfl, fun W hW => ?_⟩) hH ?_
        · refine QuietRun.of_run ?_; have y0 := hW _ _ k0; have y1 := hW _ _ k1; have y2 := hW _ _ k2; have y3 := hW _ _ k3; have y4 := hW _ _ k4; clear hW; go_simp
        try simp only [Act.put, List.setIfInBounds_toArray, List.set_cons_zero, List.set_cons_succ]
        refine wpAnyT_take (i := 1) (oi := { dst := some 21, op := Op.fieldAddr 31 (Operand.tmp 8) 1, type := 0, pos := _, after := #[], guard := none }) (v := .pointer (some ⟨bn, 1, none⟩)) rfl (by kernel_rfl) (by kernel_rfl) (by kernel_rfl) (by kernel_rfl) (by kernel_rfl) (fun _ _ _ h => h) (Or.inl ⟨rfl, fun W hW => ?_⟩) hH ?_
        · refine QuietRun.of_run ?_; go_simp
        try simp only [Act.put, List.setIfInBounds_toArray, List.set_cons_zero, List.set_cons_succ]
        refine wpAnyT_take (i := 2) (oi := { dst := some 22, op := Op.load 3 (Operand.tmp 21), type := 3, pos := _, after := #[{ on := 1, ground := Ground.data }], guard := none }) (v := .int .i64 xf) rfl (by kernel_rfl) (by kernel_rfl) (by kernel_rfl) (by kernel_rfl) (by kernel_rfl) (fun _ _ _ h => h) (Or.inl ⟨rfl, fun W hW => ?_⟩) hH ?_
        · refine QuietRun.of_run ?_; have y0 := hW _ _ k0; have y1 := hW _ _ k1; have y2 := hW _ _ k2; have y3 := hW _ _ k3; have y4 := hW _ _ k4; clear hW; go_simp
        try simp only [Act.put, List.setIfInBounds_toArray, List.set_cons_zero, List.set_cons_succ]
        refine wpAnyT_take2 7 (i := 4) (oi := { dst := some 24, op := Op.load 38 (Operand.tmp 6), type := 38, pos := _, after := #[], guard := none }) (v := .agg #[tv, .map (some (sb + 1))]) rfl (by kernel_rfl) (by kernel_rfl) (by kernel_rfl) (by kernel_rfl) (by kernel_rfl) (fun _ _ _ h => h) (Or.inl ⟨rfl, fun W hW => ?_⟩) hH ?_
        · refine QuietRun.of_run ?_; have y0 := hW _ _ k0; have y1 := hW _ _ k1; have y2 := hW _ _ k2; have y3 := hW _ _ k3; have y4 := hW _ _ k4; clear hW; go_simp
        try simp only [Act.put, List.setIfInBounds_toArray, List.set_cons_zero, List.set_cons_succ]
        refine wpAnyT_take0 (i := 5) (oi := { dst := some 25, op := Op.fieldAddr 31 (Operand.tmp 8) 2, type := 0, pos := _, after := #[], guard := none }) (v := .pointer (some ⟨bn, 2, none⟩)) rfl (by kernel_rfl) (by kernel_rfl) (by kernel_rfl) (by kernel_rfl) (fun _ _ _ h => h) (Or.inl ⟨rfl, fun W hW => ?_⟩) (fun _ => hH) ?_
        · refine QuietRun.of_run ?_; go_simp
        try simp only [Act.put, List.setIfInBounds_toArray, List.set_cons_zero, List.set_cons_succ]
        refine wpAnyT_take2 7 (i := 6) (oi := { dst := some 26, op := Op.load 3 (Operand.tmp 25), type := 3, pos := _, after := #[{ on := 5, ground := Ground.data }], guard := none }) (v := .int .i64 xt) rfl (by kernel_rfl) (by kernel_rfl) (by kernel_rfl) (by kernel_rfl) (by kernel_rfl) (fun _ _ _ h => h) (Or.inl ⟨rfl, fun W hW => ?_⟩) hH ?_
        · refine QuietRun.of_run ?_; have y0 := hW _ _ k0; have y1 := hW _ _ k1; have y2 := hW _ _ k2; have y3 := hW _ _ k3; have y4 := hW _ _ k4; clear hW; go_simp
        try simp only [Act.put, List.setIfInBounds_toArray, List.set_cons_zero, List.set_cons_succ]
        refine wpAnyT_ready (rs := [3, 8, 9]) (by kernel_rfl) (by simp) ?_
        refine AllReadyT.cons (o := { dst := some 23, op := Op.call { callee := Callee.value (Operand.func 11), args := #[Operand.tmp 20, Operand.tmp 22], argTypes := #[38, 3] }, type := 40, pos := _, after := #[{ on := 0, ground := Ground.data }, { on := 2, ground := Ground.data }], guard := none }) rfl (fun K hK => ?_) (AllReadyT.cons (o := { dst := some 9, op := Op.alloc 40, type := 0, pos := _, after := #[], guard := none }) rfl (fun K hK => ?_) (AllReadyT.cons (o := { dst := some 10, op := Op.alloc 40, type := 0, pos := _, after := #[], guard := none }) rfl (fun K hK => ?_) (AllReadyT.nil)))
        · go_simp
          refine (HFx.out w5.drew (grown_of_below (Below.refl w5.heap.size w5).drew) hF5).mono ?_
          rintro e wc1 ⟨rfl, hf4, hc2⟩
          have he3 := grown_trans (grown_of_below (Below.refl w5.heap.size w5).drew) hc2
          refine hK.out _ _ (fun _ => fun p v h => grown_cells he3 hF5 p v h) (fun hH2 => ?_)
          clear hK K
          replace hH := hH2 (by kernel_rfl)
          clear hH2
          try simp only [Act.put, List.setIfInBounds_toArray, List.set_cons_zero, List.set_cons_succ]
          refine wpAnyT_ready (rs := [7, 8, 9]) (by kernel_rfl) (by simp) ?_
          refine AllReadyT.cons (o := { dst := some 27, op := Op.call { callee := Callee.value (Operand.func 11), args := #[Operand.tmp 24, Operand.tmp 26], argTypes := #[38, 3] }, type := 40, pos := _, after := #[{ on := 4, ground := Ground.data }, { on := 6, ground := Ground.data }, { on := 3, ground := Ground.chain }], guard := none }) rfl (fun K hK => ?_) (AllReadyT.cons (o := { dst := some 9, op := Op.alloc 40, type := 0, pos := _, after := #[], guard := none }) rfl (fun K hK => ?_) (AllReadyT.cons (o := { dst := some 10, op := Op.alloc 40, type := 0, pos := _, after := #[], guard := none }) rfl (fun K hK => ?_) (AllReadyT.nil)))
          · go_simp
            refine (HFy.out wc1 he3 hf4).mono ?_
            rintro e wc5 ⟨rfl, hf8, hc6⟩
            have he7 := grown_trans he3 hc6
            refine hK.out _ _ (fun _ => fun p v h => grown_cells he7 hF5 p v h) (fun hH2 => ?_)
            clear hK K
            replace hH := hH2 (by kernel_rfl)
            clear hH2
            try simp only [Act.put, List.setIfInBounds_toArray, List.set_cons_zero, List.set_cons_succ]
            refine wpAnyT_ready (rs := [8, 9]) (by kernel_rfl) (by simp) ?_
            refine AllReadyT.cons (o := { dst := some 9, op := Op.alloc 40, type := 0, pos := _, after := #[], guard := none }) rfl (fun K hK => ?_) (AllReadyT.cons (o := { dst := some 10, op := Op.alloc 40, type := 0, pos := _, after := #[], guard := none }) rfl (fun K hK => ?_) (AllReadyT.nil))
            · obtain ⟨b9, hbb⟩ : ∃ b, wc5.heap.size = b := ⟨_, rfl⟩
              obtain ⟨wa10, hww⟩ : ∃ w, wc5.alloc (.cells #[.int .i64 0, .int .i64 0] 40) = w := ⟨_, rfl⟩
              have ha13 : Below wc5.heap.size wc5 wa10 := hww ▸ below_alloc wc5 _
              have hx11 : wa10.heap[b9]? = some (.cells #[.int .i64 0, .int .i64 0] 40 (0, 0)) := by rw [← hww, ← hbb]; exact heap_alloc_new _ _
              have he14 := grown_trans he7 (grown_of_below (row := some (sb + 1)) ha13)
              have hl12 : w5.heap.size ≤ b9 := by rw [← hbb]; exact he7.size
              have hf15 : Found wa10 (sb + 1) s := hf8.same (ha13.block _ hf8.lt)
              go_simp
              try rw [hww]
              try rw [hbb]
              clear hww hbb
              refine hK.out _ _ (fun _ => fun p v h => grown_cells he14 hF5 p v h) (fun hH2 => ?_)
              clear hK K
              replace hH := hH2 (by kernel_rfl)
              clear hH2
              try simp only [Act.put, List.setIfInBounds_toArray, List.set_cons_zero, List.set_cons_succ]
              refine wpAnyT_ready (rs := [9]) (by kernel_rfl) (by simp) ?_
              refine AllReadyT.cons (o := { dst := some 10, op := Op.alloc 40, type := 0, pos := _, after := #[], guard := none }) rfl (fun K hK => ?_) (AllReadyT.nil)
              obtain ⟨b16, hbb⟩ : ∃ b, wa10.heap.size = b := ⟨_, rfl⟩
              obtain ⟨wa17, hww⟩ : ∃ w, wa10.alloc (.cells #[.int .i64 0, .int .i64 0] 40) = w := ⟨_, rfl⟩
              have ha20 : Below wa10.heap.size wa10 wa17 := hww ▸ below_alloc wa10 _
              have hx18 : wa17.heap[b16]? = some (.cells #[.int .i64 0, .int .i64 0] 40 (0, 0)) := by rw [← hww, ← hbb]; exact heap_alloc_new _ _
              have he21 := grown_trans he14 (grown_of_below (row := some (sb + 1)) ha20)
              have hl19 : w5.heap.size ≤ b16 := by rw [← hbb]; exact he14.size
              have hx23 := (ha20.block _ (lt_blk hx11)).trans hx11
              have hne : b9 ≠ b16 := by have h9 := lt_blk hx11; omega
              have hf22 : Found wa17 (sb + 1) s := hf15.same (ha20.block _ hf15.lt)
              go_simp
              try rw [hww]
              try rw [hbb]
              clear hww hbb
              refine hK.out _ _ (fun _ => fun p v h => grown_cells he21 hF5 p v h) (fun hH2 => ?_)
              clear hK K
              replace hH := hH2 (by kernel_rfl)
              clear hH2
              try simp only [Act.put, List.setIfInBounds_toArray, List.set_cons_zero, List.set_cons_succ]
              refine wpAnyT_ready (rs := [10]) (by kernel_rfl) (by simp) ?_
              refine AllReadyT.cons (o := { dst := none, op := Op.store 40 (Operand.tmp 9) (Operand.tmp 23), type := 0, pos := _, after := #[{ on := 8, ground := Ground.data }, { on := 3, ground := Ground.data }, { on := 7, ground := Ground.chain }, { on := 0, ground := Ground.phase }, { on := 1, ground := Ground.phase }, { on := 2, ground := Ground.phase }, { on := 3, ground := Ground.phase }, { on := 4, ground := Ground.textOnly Departure.lateStores }, { on := 5, ground := Ground.textOnly Departure.lateStores }, { on := 6, ground := Ground.textOnly Departure.lateStores }, { on := 7, ground := Ground.textOnly Departure.lateStoresUnsure }, { on := 8, ground := Ground.phase }, { on := 9, ground := Ground.phase }], guard := none }) rfl (fun K hK => ?_) (AllReadyT.nil)
              have hx25 := stored2 hx23 (.int .i64 p1) (.int .i64 p2)
              have he26 := grown_set (grown_set he21 (p := ⟨b9, 0, none⟩) hl12 (.int .i64 p1)) (p := ⟨b9, 1, none⟩) hl12 (.int .i64 p2)
              have hf27 : Found ((wa17.setCell ⟨b9, 0, none⟩ (.int .i64 p1)).setCell ⟨b9, 1, none⟩ (.int .i64 p2)) (sb + 1) s := hf22.same (by rw [Below.heap_setCell _ _ _ _ (by simp only; omega), Below.heap_setCell _ _ _ _ (by simp only; omega)])
              have hx28 := stored2_other hx18 (by first | exact hne | exact hne.symm) (.int .i64 p1) (.int .i64 p2)
              have cb0 := (Joins.cell_of_block hx23 0).trans rfl
              have cb1 := (Joins.cell_of_block hx23 1).trans rfl
              have fb0 := Joins.unfrozen_of_block hx23 0
              have fb1 := Joins.unfrozen_of_block hx23 1
              obtain ⟨ws24, hww⟩ : ∃ w, (wa17.setCell ⟨b9, 0, none⟩ (.int .i64 p1)).setCell ⟨b9, 1, none⟩ (.int .i64 p2) = w := ⟨_, rfl⟩
              rw [hww] at he26
              rw [hww] at hf27
              rw [hww] at hx28
              rw [hww] at hx25
              go_simp
              try rw [hww]
              clear hww cb0 cb1 fb0 fb1
              refine hK.out _ _ (fun h => absurd (h.symm.trans (show _ = true from by kernel_rfl)) (by decide)) (fun _ => ?_)
              clear hK K
              try simp only [Act.put, List.setIfInBounds_toArray, List.set_cons_zero, List.set_cons_succ]
              refine wpAnyT_ready (rs := [11]) (by kernel_rfl) (by simp) ?_
              refine AllReadyT.cons (o := { dst := none, op := Op.store 40 (Operand.tmp 10) (Operand.tmp 27), type := 0, pos := _, after := #[{ on := 9, ground := Ground.data }, { on := 7, ground := Ground.data }, { on := 10, ground := Ground.chain }, { on := 0, ground := Ground.phase }, { on := 1, ground := Ground.phase }, { on := 2, ground := Ground.phase }, { on := 3, ground := Ground.phase }, { on := 4, ground := Ground.phase }, { on := 5, ground := Ground.phase }, { on := 6, ground := Ground.phase }, { on := 7, ground := Ground.phase }, { on := 8, ground := Ground.phase }, { on := 9, ground := Ground.phase }, { on := 10, ground := Ground.phase }], guard := none }) rfl (fun K hK => ?_) (AllReadyT.nil)
              have hx30 := stored2 hx28 (.int .i64 q1) (.int .i64 q2)
              have he31 := grown_set (grown_set he26 (p := ⟨b16, 0, none⟩) hl19 (.int .i64 q1)) (p := ⟨b16, 1, none⟩) hl19 (.int .i64 q2)
              have hf32 : Found ((ws24.setCell ⟨b16, 0, none⟩ (.int .i64 q1)).setCell ⟨b16, 1, none⟩ (.int .i64 q2)) (sb + 1) s := hf27.same (by rw [Below.heap_setCell _ _ _ _ (by simp only; omega), Below.heap_setCell _ _ _ _ (by simp only; omega)])
              have hx33 := stored2_other hx25 (by first | exact hne | exact hne.symm) (.int .i64 q1) (.int .i64 q2)
              have cb0 := (Joins.cell_of_block hx28 0).trans rfl
              have cb1 := (Joins.cell_of_block hx28 1).trans rfl
              have fb0 := Joins.unfrozen_of_block hx28 0
              have fb1 := Joins.unfrozen_of_block hx28 1
              obtain ⟨ws29, hww⟩ : ∃ w, (ws24.setCell ⟨b16, 0, none⟩ (.int .i64 q1)).setCell ⟨b16, 1, none⟩ (.int .i64 q2) = w := ⟨_, rfl⟩
              rw [hww] at he31
              rw [hww] at hf32
              rw [hww] at hx33
              rw [hww] at hx30
              go_simp
              try rw [hww]
              clear hww cb0 cb1 fb0 fb1
              refine hK.out _ _ (fun h => absurd (h.symm.trans (show _ = true from by kernel_rfl)) (by decide)) (fun _ => ?_)
              clear hK K
              try simp only [Act.put, List.setIfInBounds_toArray, List.set_cons_zero, List.set_cons_succ]
              refine wpAnyT_done (by kernel_rfl) ?_ _
              have hend := Lib.hid (Laid2.mk (mb := sb + 1) (s := s) hx33 hx30 he31 hf32)
              go_wp2_with fail
              go_meet
              exact ⟨b9, b16, rfl, rfl, hend⟩
            · obtain ⟨b34, hbb⟩ : ∃ b, wc5.heap.size = b := ⟨_, rfl⟩
              obtain ⟨wa35, hww⟩ : ∃ w, wc5.alloc (.cells #[.int .i64 0, .int .i64 0] 40) = w := ⟨_, rfl⟩
              have ha38 : Below wc5.heap.size wc5 wa35 := hww ▸ below_alloc wc5 _
              have hx36 : wa35.heap[b34]? = some (.cells #[.int .i64 0, .int .i64 0] 40 (0, 0)) := by rw [← hww, ← hbb]; exact heap_alloc_new _ _
              have he39 := grown_trans he7 (grown_of_below (row := some (sb + 1)) ha38)
              have hl37 : w5.heap.size ≤ b34 := by rw [← hbb]; exact he7.size
              have hf40 : Found wa35 (sb + 1) s := hf8.same (ha38.block _ hf8.lt)
              go_simp
              try rw [hww]
              try rw [hbb]
              clear hww hbb
              refine hK.out _ _ (fun _ => fun p v h => grown_cells he39 hF5 p v h) (fun hH2 => ?_)
              clear hK K
              replace hH := hH2 (by kernel_rfl)
              clear hH2
              try simp only [Act.put, List.setIfInBounds_toArray, List.set_cons_zero, List.set_cons_succ]
              refine wpAnyT_ready (rs := [8]) (by kernel_rfl) (by simp) ?_
              refine AllReadyT.cons (o := { dst := some 9, op := Op.alloc 40, type := 0, pos := _, after := #[], guard := none }) rfl (fun K hK => ?_) (AllReadyT.nil)
              obtain ⟨b41, hbb⟩ : ∃ b, wa35.heap.size = b := ⟨_, rfl⟩
              obtain ⟨wa42, hww⟩ : ∃ w, wa35.alloc (.cells #[.int .i64 0, .int .i64 0] 40) = w := ⟨_, rfl⟩
              have ha45 : Below wa35.heap.size wa35 wa42 := hww ▸ below_alloc wa35 _
              have hx43 : wa42.heap[b41]? = some (.cells #[.int .i64 0, .int .i64 0] 40 (0, 0)) := by rw [← hww, ← hbb]; exact heap_alloc_new _ _
              have he46 := grown_trans he39 (grown_of_below (row := some (sb + 1)) ha45)
              have hl44 : w5.heap.size ≤ b41 := by rw [← hbb]; exact he39.size
              have hx48 := (ha45.block _ (lt_blk hx36)).trans hx36
              have hne : b34 ≠ b41 := by have h9 := lt_blk hx36; omega
              have hf47 : Found wa42 (sb + 1) s := hf40.same (ha45.block _ hf40.lt)
              go_simp
              try rw [hww]
              try rw [hbb]
              clear hww hbb
              refine hK.out _ _ (fun _ => fun p v h => grown_cells he46 hF5 p v h) (fun hH2 => ?_)
              clear hK K
              replace hH := hH2 (by kernel_rfl)
              clear hH2
              try simp only [Act.put, List.setIfInBounds_toArray, List.set_cons_zero, List.set_cons_succ]
              refine wpAnyT_ready (rs := [10]) (by kernel_rfl) (by simp) ?_
              refine AllReadyT.cons (o := { dst := none, op := Op.store 40 (Operand.tmp 9) (Operand.tmp 23), type := 0, pos := _, after := #[{ on := 8, ground := Ground.data }, { on := 3, ground := Ground.data }, { on := 7, ground := Ground.chain }, { on := 0, ground := Ground.phase }, { on := 1, ground := Ground.phase }, { on := 2, ground := Ground.phase }, { on := 3, ground := Ground.phase }, { on := 4, ground := Ground.textOnly Departure.lateStores }, { on := 5, ground := Ground.textOnly Departure.lateStores }, { on := 6, ground := Ground.textOnly Departure.lateStores }, { on := 7, ground := Ground.textOnly Departure.lateStoresUnsure }, { on := 8, ground := Ground.phase }, { on := 9, ground := Ground.phase }], guard := none }) rfl (fun K hK => ?_) (AllReadyT.nil)
              have hx50 := stored2 hx43 (.int .i64 p1) (.int .i64 p2)
              have he51 := grown_set (grown_set he46 (p := ⟨b41, 0, none⟩) hl44 (.int .i64 p1)) (p := ⟨b41, 1, none⟩) hl44 (.int .i64 p2)
              have hf52 : Found ((wa42.setCell ⟨b41, 0, none⟩ (.int .i64 p1)).setCell ⟨b41, 1, none⟩ (.int .i64 p2)) (sb + 1) s := hf47.same (by rw [Below.heap_setCell _ _ _ _ (by simp only; omega), Below.heap_setCell _ _ _ _ (by simp only; omega)])
              have hx53 := stored2_other hx48 (by first | exact hne | exact hne.symm) (.int .i64 p1) (.int .i64 p2)
              have cb0 := (Joins.cell_of_block hx43 0).trans rfl
              have cb1 := (Joins.cell_of_block hx43 1).trans rfl
              have fb0 := Joins.unfrozen_of_block hx43 0
              have fb1 := Joins.unfrozen_of_block hx43 1
              obtain ⟨ws49, hww⟩ : ∃ w, (wa42.setCell ⟨b41, 0, none⟩ (.int .i64 p1)).setCell ⟨b41, 1, none⟩ (.int .i64 p2) = w := ⟨_, rfl⟩
              rw [hww] at he51
              rw [hww] at hf52
              rw [hww] at hx53
              rw [hww] at hx50
              go_simp
              try rw [hww]
              clear hww cb0 cb1 fb0 fb1
              refine hK.out _ _ (fun h => absurd (h.symm.trans (show _ = true from by kernel_rfl)) (by decide)) (fun _ => ?_)
              clear hK K
              try simp only [Act.put, List.setIfInBounds_toArray, List.set_cons_zero, List.set_cons_succ]
              refine wpAnyT_ready (rs := [11]) (by kernel_rfl) (by simp) ?_
              refine AllReadyT.cons (o := { dst := none, op := Op.store 40 (Operand.tmp 10) (Operand.tmp 27), type := 0, pos := _, after := #[{ on := 9, ground := Ground.data }, { on := 7, ground := Ground.data }, { on := 10, ground := Ground.chain }, { on := 0, ground := Ground.phase }, { on := 1, ground := Ground.phase }, { on := 2, ground := Ground.phase }, { on := 3, ground := Ground.phase }, { on := 4, ground := Ground.phase }, { on := 5, ground := Ground.phase }, { on := 6, ground := Ground.phase }, { on := 7, ground := Ground.phase }, { on := 8, ground := Ground.phase }, { on := 9, ground := Ground.phase }, { on := 10, ground := Ground.phase }], guard := none }) rfl (fun K hK => ?_) (AllReadyT.nil)
              have hx55 := stored2 hx53 (.int .i64 q1) (.int .i64 q2)
              have he56 := grown_set (grown_set he51 (p := ⟨b34, 0, none⟩) hl37 (.int .i64 q1)) (p := ⟨b34, 1, none⟩) hl37 (.int .i64 q2)
              have hf57 : Found ((ws49.setCell ⟨b34, 0, none⟩ (.int .i64 q1)).setCell ⟨b34, 1, none⟩ (.int .i64 q2)) (sb + 1) s := hf52.same (by rw [Below.heap_setCell _ _ _ _ (by simp only; omega), Below.heap_setCell _ _ _ _ (by simp only; omega)])
              have hx58 := stored2_other hx50 (by first | exact hne | exact hne.symm) (.int .i64 q1) (.int .i64 q2)
              have cb0 := (Joins.cell_of_block hx53 0).trans rfl
              have cb1 := (Joins.cell_of_block hx53 1).trans rfl
              have fb0 := Joins.unfrozen_of_block hx53 0
              have fb1 := Joins.unfrozen_of_block hx53 1
              obtain ⟨ws54, hww⟩ : ∃ w, (ws49.setCell ⟨b34, 0, none⟩ (.int .i64 q1)).setCell ⟨b34, 1, none⟩ (.int .i64 q2) = w := ⟨_, rfl⟩
              rw [hww] at he56
              rw [hww] at hf57
              rw [hww] at hx58
              rw [hww] at hx55
              go_simp
              try rw [hww]
              clear hww cb0 cb1 fb0 fb1
              refine hK.out _ _ (fun h => absurd (h.symm.trans (show _ = true from by kernel_rfl)) (by decide)) (fun _ => ?_)
              clear hK K
              try simp only [Act.put, List.setIfInBounds_toArray, List.set_cons_zero, List.set_cons_succ]
              refine wpAnyT_done (by kernel_rfl) ?_ _
              have hend := Lib.hid (Laid2.mk (mb := sb + 1) (s := s) hx58 hx55 he56 hf57)
              go_wp2_with fail
              go_meet
              exact ⟨b41, b34, rfl, rfl, hend⟩
          · obtain ⟨b59, hbb⟩ : ∃ b, wc1.heap.size = b := ⟨_, rfl⟩
            obtain ⟨wa60, hww⟩ : ∃ w, wc1.alloc (.cells #[.int .i64 0, .int .i64 0] 40) = w := ⟨_, rfl⟩
            have ha63 : Below wc1.heap.size wc1 wa60 := hww ▸ below_alloc wc1 _
            have hx61 : wa60.heap[b59]? = some (.cells #[.int .i64 0, .int .i64 0] 40 (0, 0)) := by rw [← hww, ← hbb]; exact heap_alloc_new _ _
            have he64 := grown_trans he3 (grown_of_below (row := some (sb + 1)) ha63)
            have hl62 : w5.heap.size ≤ b59 := by rw [← hbb]; exact he3.size
            have hf65 : Found wa60 (sb + 1) s := hf4.same (ha63.block _ hf4.lt)
            go_simp
            try rw [hww]
            try rw [hbb]
            clear hww hbb
            refine hK.out _ _ (fun _ => fun p v h => grown_cells he64 hF5 p v h) (fun hH2 => ?_)
            clear hK K
            replace hH := hH2 (by kernel_rfl)
            clear hH2
            try simp only [Act.put, List.setIfInBounds_toArray, List.set_cons_zero, List.set_cons_succ]
            refine wpAnyT_ready (rs := [7, 9]) (by kernel_rfl) (by simp) ?_
            refine AllReadyT.cons (o := { dst := some 27, op := Op.call { callee := Callee.value (Operand.func 11), args := #[Operand.tmp 24, Operand.tmp 26], argTypes := #[38, 3] }, type := 40, pos := _, after := #[{ on := 4, ground := Ground.data }, { on := 6, ground := Ground.data }, { on := 3, ground := Ground.chain }], guard := none }) rfl (fun K hK => ?_) (AllReadyT.cons (o := { dst := some 10, op := Op.alloc 40, type := 0, pos := _, after := #[], guard := none }) rfl (fun K hK => ?_) (AllReadyT.nil))
            · go_simp
              refine (HFy.out wa60 he64 hf65).mono ?_
              rintro e wc66 ⟨rfl, hf69, hc67⟩
              have he68 := grown_trans he64 hc67
              have hx70 := (hc67.block _ (lt_blk hx61) (by simp only [Option.some.injEq, ne_eq]; omega)).trans hx61
              refine hK.out _ _ (fun _ => fun p v h => grown_cells he68 hF5 p v h) (fun hH2 => ?_)
              clear hK K
              replace hH := hH2 (by kernel_rfl)
              clear hH2
              try simp only [Act.put, List.setIfInBounds_toArray, List.set_cons_zero, List.set_cons_succ]
              refine wpAnyT_ready (rs := [9]) (by kernel_rfl) (by simp) ?_
              refine AllReadyT.cons (o := { dst := some 10, op := Op.alloc 40, type := 0, pos := _, after := #[], guard := none }) rfl (fun K hK => ?_) (AllReadyT.nil)
              obtain ⟨b71, hbb⟩ : ∃ b, wc66.heap.size = b := ⟨_, rfl⟩
              obtain ⟨wa72, hww⟩ : ∃ w, wc66.alloc (.cells #[.int .i64 0, .int .i64 0] 40) = w := ⟨_, rfl⟩
              have ha75 : Below wc66.heap.size wc66 wa72 := hww ▸ below_alloc wc66 _
              have hx73 : wa72.heap[b71]? = some (.cells #[.int .i64 0, .int .i64 0] 40 (0, 0)) := by rw [← hww, ← hbb]; exact heap_alloc_new _ _
              have he76 := grown_trans he68 (grown_of_below (row := some (sb + 1)) ha75)
              have hl74 : w5.heap.size ≤ b71 := by rw [← hbb]; exact he68.size
              have hx78 := (ha75.block _ (lt_blk hx70)).trans hx70
              have hne : b59 ≠ b71 := by have h9 := lt_blk hx70; omega
              have hf77 : Found wa72 (sb + 1) s := hf69.same (ha75.block _ hf69.lt)
              go_simp
              try rw [hww]
              try rw [hbb]
              clear hww hbb
              refine hK.out _ _ (fun _ => fun p v h => grown_cells he76 hF5 p v h) (fun hH2 => ?_)
              clear hK K
              replace hH := hH2 (by kernel_rfl)
              clear hH2
              try simp only [Act.put, List.setIfInBounds_toArray, List.set_cons_zero, List.set_cons_succ]
              refine wpAnyT_ready (rs := [10]) (by kernel_rfl) (by simp) ?_
              refine AllReadyT.cons (o := { dst := none, op := Op.store 40 (Operand.tmp 9) (Operand.tmp 23), type := 0, pos := _, after := #[{ on := 8, ground := Ground.data }, { on := 3, ground := Ground.data }, { on := 7, ground := Ground.chain }, { on := 0, ground := Ground.phase }, { on := 1, ground := Ground.phase }, { on := 2, ground := Ground.phase }, { on := 3, ground := Ground.phase }, { on := 4, ground := Ground.textOnly Departure.lateStores }, { on := 5, ground := Ground.textOnly Departure.lateStores }, { on := 6, ground := Ground.textOnly Departure.lateStores }, { on := 7, ground := Ground.textOnly Departure.lateStoresUnsure }, { on := 8, ground := Ground.phase }, { on := 9, ground := Ground.phase }], guard := none }) rfl (fun K hK => ?_) (AllReadyT.nil)
              have hx80 := stored2 hx78 (.int .i64 p1) (.int .i64 p2)
              have he81 := grown_set (grown_set he76 (p := ⟨b59, 0, none⟩) hl62 (.int .i64 p1)) (p := ⟨b59, 1, none⟩) hl62 (.int .i64 p2)
              have hf82 : Found ((wa72.setCell ⟨b59, 0, none⟩ (.int .i64 p1)).setCell ⟨b59, 1, none⟩ (.int .i64 p2)) (sb + 1) s := hf77.same (by rw [Below.heap_setCell _ _ _ _ (by simp only; omega), Below.heap_setCell _ _ _ _ (by simp only; omega)])
              have hx83 := stored2_other hx73 (by first | exact hne | exact hne.symm) (.int .i64 p1) (.int .i64 p2)
              have cb0 := (Joins.cell_of_block hx78 0).trans rfl
              have cb1 := (Joins.cell_of_block hx78 1).trans rfl
              have fb0 := Joins.unfrozen_of_block hx78 0
              have fb1 := Joins.unfrozen_of_block hx78 1
              obtain ⟨ws79, hww⟩ : ∃ w, (wa72.setCell ⟨b59, 0, none⟩ (.int .i64 p1)).setCell ⟨b59, 1, none⟩ (.int .i64 p2) = w := ⟨_, rfl⟩
              rw [hww] at he81
              rw [hww] at hf82
              rw [hww] at hx83
              rw [hww] at hx80
              go_simp
              try rw [hww]
              clear hww cb0 cb1 fb0 fb1
              refine hK.out _ _ (fun h => absurd (h.symm.trans (show _ = true from by kernel_rfl)) (by decide)) (fun _ => ?_)
              clear hK K
              try simp only [Act.put, List.setIfInBounds_toArray, List.set_cons_zero, List.set_cons_succ]
              refine wpAnyT_ready (rs := [11]) (by kernel_rfl) (by simp) ?_
              refine AllReadyT.cons (o := { dst := none, op := Op.store 40 (Operand.tmp 10) (Operand.tmp 27), type := 0, pos := _, after := #[{ on := 9, ground := Ground.data }, { on := 7, ground := Ground.data }, { on := 10, ground := Ground.chain }, { on := 0, ground := Ground.phase }, { on := 1, ground := Ground.phase }, { on := 2, ground := Ground.phase }, { on := 3, ground := Ground.phase }, { on := 4, ground := Ground.phase }, { on := 5, ground := Ground.phase }, { on := 6, ground := Ground.phase }, { on := 7, ground := Ground.phase }, { on := 8, ground := Ground.phase }, { on := 9, ground := Ground.phase }, { on := 10, ground := Ground.phase }], guard := none }) rfl (fun K hK => ?_) (AllReadyT.nil)
              have hx85 := stored2 hx83 (.int .i64 q1) (.int .i64 q2)
              have he86 := grown_set (grown_set he81 (p := ⟨b71, 0, none⟩) hl74 (.int .i64 q1)) (p := ⟨b71, 1, none⟩) hl74 (.int .i64 q2)
              have hf87 : Found ((ws79.setCell ⟨b71, 0, none⟩ (.int .i64 q1)).setCell ⟨b71, 1, none⟩ (.int .i64 q2)) (sb + 1) s := hf82.same (by rw [Below.heap_setCell _ _ _ _ (by simp only; omega), Below.heap_setCell _ _ _ _ (by simp only; omega)])
              have hx88 := stored2_other hx80 (by first | exact hne | exact hne.symm) (.int .i64 q1) (.int .i64 q2)
              have cb0 := (Joins.cell_of_block hx83 0).trans rfl
              have cb1 := (Joins.cell_of_block hx83 1).trans rfl
              have fb0 := Joins.unfrozen_of_block hx83 0
              have fb1 := Joins.unfrozen_of_block hx83 1
              obtain ⟨ws84, hww⟩ : ∃ w, (ws79.setCell ⟨b71, 0, none⟩ (.int .i64 q1)).setCell ⟨b71, 1, none⟩ (.int .i64 q2) = w := ⟨_, rfl⟩
              rw [hww] at he86
              rw [hww] at hf87
              rw [hww] at hx88
              rw [hww] at hx85
              go_simp
              try rw [hww]
              clear hww cb0 cb1 fb0 fb1
              refine hK.out _ _ (fun h => absurd (h.symm.trans (show _ = true from by kernel_rfl)) (by decide)) (fun _ => ?_)
              clear hK K
              try simp only [Act.put, List.setIfInBounds_toArray, List.set_cons_zero, List.set_cons_succ]
              refine wpAnyT_done (by kernel_rfl) ?_ _
              have hend := Lib.hid (Laid2.mk (mb := sb + 1) (s := s) hx88 hx85 he86 hf87)
              go_wp2_with fail
              go_meet
              exact ⟨b59, b71, rfl, rfl, hend⟩
            · obtain ⟨b89, hbb⟩ : ∃ b, wa60.heap.size = b := ⟨_, rfl⟩
              obtain ⟨wa90, hww⟩ : ∃ w, wa60.alloc (.cells #[.int .i64 0, .int .i64 0] 40) = w := ⟨_, rfl⟩
              have ha93 : Below wa60.heap.size wa60 wa90 := hww ▸ below_alloc wa60 _
              have hx91 : wa90.heap[b89]? = some (.cells #[.int .i64 0, .int .i64 0] 40 (0, 0)) := by rw [← hww, ← hbb]; exact heap_alloc_new _ _
              have he94 := grown_trans he64 (grown_of_below (row := some (sb + 1)) ha93)
              have hl92 : w5.heap.size ≤ b89 := by rw [← hbb]; exact he64.size
              have hx96 := (ha93.block _ (lt_blk hx61)).trans hx61
              have hne : b59 ≠ b89 := by have h9 := lt_blk hx61; omega
              have hf95 : Found wa90 (sb + 1) s := hf65.same (ha93.block _ hf65.lt)
              go_simp
              try rw [hww]
              try rw [hbb]
              clear hww hbb
              refine hK.out _ _ (fun _ => fun p v h => grown_cells he94 hF5 p v h) (fun hH2 => ?_)
              clear hK K
              replace hH := hH2 (by kernel_rfl)
              clear hH2
              try simp only [Act.put, List.setIfInBounds_toArray, List.set_cons_zero, List.set_cons_succ]
              refine wpAnyT_ready (rs := [7]) (by kernel_rfl) (by simp) ?_
              refine AllReadyT.cons (o := { dst := some 27, op := Op.call { callee := Callee.value (Operand.func 11), args := #[Operand.tmp 24, Operand.tmp 26], argTypes := #[38, 3] }, type := 40, pos := _, after := #[{ on := 4, ground := Ground.data }, { on := 6, ground := Ground.data }, { on := 3, ground := Ground.chain }], guard := none }) rfl (fun K hK => ?_) (AllReadyT.nil)
              go_simp
              refine (HFy.out wa90 he94 hf95).mono ?_
              rintro e wc97 ⟨rfl, hf100, hc98⟩
              have he99 := grown_trans he94 hc98
              have hx101 := (hc98.block _ (lt_blk hx96) (by simp only [Option.some.injEq, ne_eq]; omega)).trans hx96
              have hx102 := (hc98.block _ (lt_blk hx91) (by simp only [Option.some.injEq, ne_eq]; omega)).trans hx91
              refine hK.out _ _ (fun _ => fun p v h => grown_cells he99 hF5 p v h) (fun hH2 => ?_)
              clear hK K
              replace hH := hH2 (by kernel_rfl)
              clear hH2
              try simp only [Act.put, List.setIfInBounds_toArray, List.set_cons_zero, List.set_cons_succ]
              refine wpAnyT_ready (rs := [10]) (by kernel_rfl) (by simp) ?_
              refine AllReadyT.cons (o := { dst := none, op := Op.store 40 (Operand.tmp 9) (Operand.tmp 23), type := 0, pos := _, after := #[{ on := 8, ground := Ground.data }, { on := 3, ground := Ground.data }, { on := 7, ground := Ground.chain }, { on := 0, ground := Ground.phase }, { on := 1, ground := Ground.phase }, { on := 2, ground := Ground.phase }, { on := 3, ground := Ground.phase }, { on := 4, ground := Ground.textOnly Departure.lateStores }, { on := 5, ground := Ground.textOnly Departure.lateStores }, { on := 6, ground := Ground.textOnly Departure.lateStores }, { on := 7, ground := Ground.textOnly Departure.lateStoresUnsure }, { on := 8, ground := Ground.phase }, { on := 9, ground := Ground.phase }], guard := none }) rfl (fun K hK => ?_) (AllReadyT.nil)
              have hx104 := stored2 hx101 (.int .i64 p1) (.int .i64 p2)
              have he105 := grown_set (grown_set he99 (p := ⟨b59, 0, none⟩) hl62 (.int .i64 p1)) (p := ⟨b59, 1, none⟩) hl62 (.int .i64 p2)
              have hf106 : Found ((wc97.setCell ⟨b59, 0, none⟩ (.int .i64 p1)).setCell ⟨b59, 1, none⟩ (.int .i64 p2)) (sb + 1) s := hf100.same (by rw [Below.heap_setCell _ _ _ _ (by simp only; omega), Below.heap_setCell _ _ _ _ (by simp only; omega)])
              have hx107 := stored2_other hx102 (by first | exact hne | exact hne.symm) (.int .i64 p1) (.int .i64 p2)
              have cb0 := (Joins.cell_of_block hx101 0).trans rfl
              have cb1 := (Joins.cell_of_block hx101 1).trans rfl
              have fb0 := Joins.unfrozen_of_block hx101 0
              have fb1 := Joins.unfrozen_of_block hx101 1
              obtain ⟨ws103, hww⟩ : ∃ w, (wc97.setCell ⟨b59, 0, none⟩ (.int .i64 p1)).setCell ⟨b59, 1, none⟩ (.int .i64 p2) = w := ⟨_, rfl⟩
              rw [hww] at he105
              rw [hww] at hf106
              rw [hww] at hx107
              rw [hww] at hx104
              go_simp
              try rw [hww]
              clear hww cb0 cb1 fb0 fb1
              refine hK.out _ _ (fun h => absurd (h.symm.trans (show _ = true from by kernel_rfl)) (by decide)) (fun _ => ?_)
              clear hK K
              try simp only [Act.put, List.setIfInBounds_toArray, List.set_cons_zero, List.set_cons_succ]
              refine wpAnyT_ready (rs := [11]) (by kernel_rfl) (by simp) ?_
              refine AllReadyT.cons (o := { dst := none, op := Op.store 40 (Operand.tmp 10) (Operand.tmp 27), type := 0, pos := _, after := #[{ on := 9, ground := Ground.data }, { on := 7, ground := Ground.data }, { on := 10, ground := Ground.chain }, { on := 0, ground := Ground.phase }, { on := 1, ground := Ground.phase }, { on := 2, ground := Ground.phase }, { on := 3, ground := Ground.phase }, { on := 4, ground := Ground.phase }, { on := 5, ground := Ground.phase }, { on := 6, ground := Ground.phase }, { on := 7, ground := Ground.phase }, { on := 8, ground := Ground.phase }, { on := 9, ground := Ground.phase }, { on := 10, ground := Ground.phase }], guard := none }) rfl (fun K hK => ?_) (AllReadyT.nil)
              have hx109 := stored2 hx107 (.int .i64 q1) (.int .i64 q2)
              have he110 := grown_set (grown_set he105 (p := ⟨b89, 0, none⟩) hl92 (.int .i64 q1)) (p := ⟨b89, 1, none⟩) hl92 (.int .i64 q2)
              have hf111 : Found ((ws103.setCell ⟨b89, 0, none⟩ (.int .i64 q1)).setCell ⟨b89, 1, none⟩ (.int .i64 q2)) (sb + 1) s := hf106.same (by rw [Below.heap_setCell _ _ _ _ (by simp only; omega), Below.heap_setCell _ _ _ _ (by simp only; omega)])
              have hx112 := stored2_other hx104 (by first | exact hne | exact hne.symm) (.int .i64 q1) (.int .i64 q2)
              have cb0 := (Joins.cell_of_block hx107 0).trans rfl
              have cb1 := (Joins.cell_of_block hx107 1).trans rfl
              have fb0 := Joins.unfrozen_of_block hx107 0
              have fb1 := Joins.unfrozen_of_block hx107 1
              obtain ⟨ws108, hww⟩ : ∃ w, (ws103.setCell ⟨b89, 0, none⟩ (.int .i64 q1)).setCell ⟨b89, 1, none⟩ (.int .i64 q2) = w := ⟨_, rfl⟩
              rw [hww] at he110
              rw [hww] at hf111
              rw [hww] at hx112
              rw [hww] at hx109
              go_simp
              try rw [hww]
              clear hww cb0 cb1 fb0 fb1
              refine hK.out _ _ (fun h => absurd (h.symm.trans (show _ = true from by kernel_rfl)) (by decide)) (fun _ => ?_)
              clear hK K
              try simp only [Act.put, List.setIfInBounds_toArray, List.set_cons_zero, List.set_cons_succ]
              refine wpAnyT_done (by kernel_rfl) ?_ _
              have hend := Lib.hid (Laid2.mk (mb := sb + 1) (s := s) hx112 hx109 he110 hf111)
              go_wp2_with fail
              go_meet
              exact ⟨b59, b89, rfl, rfl, hend⟩
          · obtain ⟨b113, hbb⟩ : ∃ b, wc1.heap.size = b := ⟨_, rfl⟩
            obtain ⟨wa114, hww⟩ : ∃ w, wc1.alloc (.cells #[.int .i64 0, .int .i64 0] 40) = w := ⟨_, rfl⟩
            have ha117 : Below wc1.heap.size wc1 wa114 := hww ▸ below_alloc wc1 _
            have hx115 : wa114.heap[b113]? = some (.cells #[.int .i64 0, .int .i64 0] 40 (0, 0)) := by rw [← hww, ← hbb]; exact heap_alloc_new _ _
            have he118 := grown_trans he3 (grown_of_below (row := some (sb + 1)) ha117)
            have hl116 : w5.heap.size ≤ b113 := by rw [← hbb]; exact he3.size
            have hf119 : Found wa114 (sb + 1) s := hf4.same (ha117.block _ hf4.lt)
            go_simp
            try rw [hww]
            try rw [hbb]
            clear hww hbb
            refine hK.out _ _ (fun _ => fun p v h => grown_cells he118 hF5 p v h) (fun hH2 => ?_)
            clear hK K
            replace hH := hH2 (by kernel_rfl)
            clear hH2
            try simp only [Act.put, List.setIfInBounds_toArray, List.set_cons_zero, List.set_cons_succ]
            refine wpAnyT_ready (rs := [7, 8]) (by kernel_rfl) (by simp) ?_
            refine AllReadyT.cons (o := { dst := some 27, op := Op.call { callee := Callee.value (Operand.func 11), args := #[Operand.tmp 24, Operand.tmp 26], argTypes := #[38, 3] }, type := 40, pos := _, after := #[{ on := 4, ground := Ground.data }, { on := 6, ground := Ground.data }, { on := 3, ground := Ground.chain }], guard := none }) rfl (fun K hK => ?_) (AllReadyT.cons (o := { dst := some 9, op := Op.alloc 40, type := 0, pos := _, after := #[], guard := none }) rfl (fun K hK => ?_) (AllReadyT.nil))
            · go_simp
              refine (HFy.out wa114 he118 hf119).mono ?_
              rintro e wc120 ⟨rfl, hf123, hc121⟩
              have he122 := grown_trans he118 hc121
              have hx124 := (hc121.block _ (lt_blk hx115) (by simp only [Option.some.injEq, ne_eq]; omega)).trans hx115
              refine hK.out _ _ (fun _ => fun p v h => grown_cells he122 hF5 p v h) (fun hH2 => ?_)
              clear hK K
              replace hH := hH2 (by kernel_rfl)
              clear hH2
              try simp only [Act.put, List.setIfInBounds_toArray, List.set_cons_zero, List.set_cons_succ]
              refine wpAnyT_ready (rs := [8]) (by kernel_rfl) (by simp) ?_
              refine AllReadyT.cons (o := { dst := some 9, op := Op.alloc 40, type := 0, pos := _, after := #[], guard := none }) rfl (fun K hK => ?_) (AllReadyT.nil)
              obtain ⟨b125, hbb⟩ : ∃ b, wc120.heap.size = b := ⟨_, rfl⟩
              obtain ⟨wa126, hww⟩ : ∃ w, wc120.alloc (.cells #[.int .i64 0, .int .i64 0] 40) = w := ⟨_, rfl⟩
              have ha129 : Below wc120.heap.size wc120 wa126 := hww ▸ below_alloc wc120 _
              have hx127 : wa126.heap[b125]? = some (.cells #[.int .i64 0, .int .i64 0] 40 (0, 0)) := by rw [← hww, ← hbb]; exact heap_alloc_new _ _
              have he130 := grown_trans he122 (grown_of_below (row := some (sb + 1)) ha129)
              have hl128 : w5.heap.size ≤ b125 := by rw [← hbb]; exact he122.size
              have hx132 := (ha129.block _ (lt_blk hx124)).trans hx124
              have hne : b113 ≠ b125 := by have h9 := lt_blk hx124; omega
              have hf131 : Found wa126 (sb + 1) s := hf123.same (ha129.block _ hf123.lt)
              go_simp
              try rw [hww]
              try rw [hbb]
              clear hww hbb
              refine hK.out _ _ (fun _ => fun p v h => grown_cells he130 hF5 p v h) (fun hH2 => ?_)
              clear hK K
              replace hH := hH2 (by kernel_rfl)
              clear hH2
              try simp only [Act.put, List.setIfInBounds_toArray, List.set_cons_zero, List.set_cons_succ]
              refine wpAnyT_ready (rs := [10]) (by kernel_rfl) (by simp) ?_
              refine AllReadyT.cons (o := { dst := none, op := Op.store 40 (Operand.tmp 9) (Operand.tmp 23), type := 0, pos := _, after := #[{ on := 8, ground := Ground.data }, { on := 3, ground := Ground.data }, { on := 7, ground := Ground.chain }, { on := 0, ground := Ground.phase }, { on := 1, ground := Ground.phase }, { on := 2, ground := Ground.phase }, { on := 3, ground := Ground.phase }, { on := 4, ground := Ground.textOnly Departure.lateStores }, { on := 5, ground := Ground.textOnly Departure.lateStores }, { on := 6, ground := Ground.textOnly Departure.lateStores }, { on := 7, ground := Ground.textOnly Departure.lateStoresUnsure }, { on := 8, ground := Ground.phase }, { on := 9, ground := Ground.phase }], guard := none }) rfl (fun K hK => ?_) (AllReadyT.nil)
              have hx134 := stored2 hx127 (.int .i64 p1) (.int .i64 p2)
              have he135 := grown_set (grown_set he130 (p := ⟨b125, 0, none⟩) hl128 (.int .i64 p1)) (p := ⟨b125, 1, none⟩) hl128 (.int .i64 p2)
              have hf136 : Found ((wa126.setCell ⟨b125, 0, none⟩ (.int .i64 p1)).setCell ⟨b125, 1, none⟩ (.int .i64 p2)) (sb + 1) s := hf131.same (by rw [Below.heap_setCell _ _ _ _ (by simp only; omega), Below.heap_setCell _ _ _ _ (by simp only; omega)])
              have hx137 := stored2_other hx132 (by first | exact hne | exact hne.symm) (.int .i64 p1) (.int .i64 p2)
              have cb0 := (Joins.cell_of_block hx127 0).trans rfl
              have cb1 := (Joins.cell_of_block hx127 1).trans rfl
              have fb0 := Joins.unfrozen_of_block hx127 0
              have fb1 := Joins.unfrozen_of_block hx127 1
              obtain ⟨ws133, hww⟩ : ∃ w, (wa126.setCell ⟨b125, 0, none⟩ (.int .i64 p1)).setCell ⟨b125, 1, none⟩ (.int .i64 p2) = w := ⟨_, rfl⟩
              rw [hww] at he135
              rw [hww] at hf136
              rw [hww] at hx137
              rw [hww] at hx134
              go_simp
              try rw [hww]
              clear hww cb0 cb1 fb0 fb1
              refine hK.out _ _ (fun h => absurd (h.symm.trans (show _ = true from by kernel_rfl)) (by decide)) (fun _ => ?_)
              clear hK K
              try simp only [Act.put, List.setIfInBounds_toArray, List.set_cons_zero, List.set_cons_succ]
              refine wpAnyT_ready (rs := [11]) (by kernel_rfl) (by simp) ?_
              refine AllReadyT.cons (o := { dst := none, op := Op.store 40 (Operand.tmp 10) (Operand.tmp 27), type := 0, pos := _, after := #[{ on := 9, ground := Ground.data }, { on := 7, ground := Ground.data }, { on := 10, ground := Ground.chain }, { on := 0, ground := Ground.phase }, { on := 1, ground := Ground.phase }, { on := 2, ground := Ground.phase }, { on := 3, ground := Ground.phase }, { on := 4, ground := Ground.phase }, { on := 5, ground := Ground.phase }, { on := 6, ground := Ground.phase }, { on := 7, ground := Ground.phase }, { on := 8, ground := Ground.phase }, { on := 9, ground := Ground.phase }, { on := 10, ground := Ground.phase }], guard := none }) rfl (fun K hK => ?_) (AllReadyT.nil)
              have hx139 := stored2 hx137 (.int .i64 q1) (.int .i64 q2)
              have he140 := grown_set (grown_set he135 (p := ⟨b113, 0, none⟩) hl116 (.int .i64 q1)) (p := ⟨b113, 1, none⟩) hl116 (.int .i64 q2)
              have hf141 : Found ((ws133.setCell ⟨b113, 0, none⟩ (.int .i64 q1)).setCell ⟨b113, 1, none⟩ (.int .i64 q2)) (sb + 1) s := hf136.same (by rw [Below.heap_setCell _ _ _ _ (by simp only; omega), Below.heap_setCell _ _ _ _ (by simp only; omega)])
              have hx142 := stored2_other hx134 (by first | exact hne | exact hne.symm) (.int .i64 q1) (.int .i64 q2)
              have cb0 := (Joins.cell_of_block hx137 0).trans rfl
              have cb1 := (Joins.cell_of_block hx137 1).trans rfl
              have fb0 := Joins.unfrozen_of_block hx137 0
              have fb1 := Joins.unfrozen_of_block hx137 1
              obtain ⟨ws138, hww⟩ : ∃ w, (ws133.setCell ⟨b113, 0, none⟩ (.int .i64 q1)).setCell ⟨b113, 1, none⟩ (.int .i64 q2) = w := ⟨_, rfl⟩
              rw [hww] at he140
              rw [hww] at hf141
              rw [hww] at hx142
              rw [hww] at hx139
              go_simp
              try rw [hww]
              clear hww cb0 cb1 fb0 fb1
              refine hK.out _ _ (fun h => absurd (h.symm.trans (show _ = true from by kernel_rfl)) (by decide)) (fun _ => ?_)
              clear hK K
              try simp only [Act.put, List.setIfInBounds_toArray, List.set_cons_zero, List.set_cons_succ]
              refine wpAnyT_done (by kernel_rfl) ?_ _
              have hend := Lib.hid (Laid2.mk (mb := sb + 1) (s := s) hx142 hx139 he140 hf141)
              go_wp2_with fail
              go_meet
              exact ⟨b125, b113, rfl, rfl, hend⟩
            · obtain ⟨b143, hbb⟩ : ∃ b, wa114.heap.size = b := ⟨_, rfl⟩
              obtain ⟨wa144, hww⟩ : ∃ w, wa114.alloc (.cells #[.int .i64 0, .int .i64 0] 40) = w := ⟨_, rfl⟩
              have ha147 : Below wa114.heap.size wa114 wa144 := hww ▸ below_alloc wa114 _
              have hx145 : wa144.heap[b143]? = some (.cells #[.int .i64 0, .int .i64 0] 40 (0, 0)) := by rw [← hww, ← hbb]; exact heap_alloc_new _ _
              have he148 := grown_trans he118 (grown_of_below (row := some (sb + 1)) ha147)
              have hl146 : w5.heap.size ≤ b143 := by rw [← hbb]; exact he118.size
              have hx150 := (ha147.block _ (lt_blk hx115)).trans hx115
              have hne : b113 ≠ b143 := by have h9 := lt_blk hx115; omega
              have hf149 : Found wa144 (sb + 1) s := hf119.same (ha147.block _ hf119.lt)
              go_simp
              try rw [hww]
              try rw [hbb]
              clear hww hbb
              refine hK.out _ _ (fun _ => fun p v h => grown_cells he148 hF5 p v h) (fun hH2 => ?_)
              clear hK K
              replace hH := hH2 (by kernel_rfl)
              clear hH2
              try simp only [Act.put, List.setIfInBounds_toArray, List.set_cons_zero, List.set_cons_succ]
              refine wpAnyT_ready (rs := [7]) (by kernel_rfl) (by simp) ?_
              refine AllReadyT.cons (o := { dst := some 27, op := Op.call { callee := Callee.value (Operand.func 11), args := #[Operand.tmp 24, Operand.tmp 26], argTypes := #[38, 3] }, type := 40, pos := _, after := #[{ on := 4, ground := Ground.data }, { on := 6, ground := Ground.data }, { on := 3, ground := Ground.chain }], guard := none }) rfl (fun K hK => ?_) (AllReadyT.nil)
              go_simp
              refine (HFy.out wa144 he148 hf149).mono ?_
              rintro e wc151 ⟨rfl, hf154, hc152⟩
              have he153 := grown_trans he148 hc152
              have hx155 := (hc152.block _ (lt_blk hx150) (by simp only [Option.some.injEq, ne_eq]; omega)).trans hx150
              have hx156 := (hc152.block _ (lt_blk hx145) (by simp only [Option.some.injEq, ne_eq]; omega)).trans hx145
              refine hK.out _ _ (fun _ => fun p v h => grown_cells he153 hF5 p v h) (fun hH2 => ?_)
              clear hK K
              replace hH := hH2 (by kernel_rfl)
              clear hH2
              try simp only [Act.put, List.setIfInBounds_toArray, List.set_cons_zero, List.set_cons_succ]
              refine wpAnyT_ready (rs := [10]) (by kernel_rfl) (by simp) ?_
              refine AllReadyT.cons (o := { dst := none, op := Op.store 40 (Operand.tmp 9) (Operand.tmp 23), type := 0, pos := _, after := #[{ on := 8, ground := Ground.data }, { on := 3, ground := Ground.data }, { on := 7, ground := Ground.chain }, { on := 0, ground := Ground.phase }, { on := 1, ground := Ground.phase }, { on := 2, ground := Ground.phase }, { on := 3, ground := Ground.phase }, { on := 4, ground := Ground.textOnly Departure.lateStores }, { on := 5, ground := Ground.textOnly Departure.lateStores }, { on := 6, ground := Ground.textOnly Departure.lateStores }, { on := 7, ground := Ground.textOnly Departure.lateStoresUnsure }, { on := 8, ground := Ground.phase }, { on := 9, ground := Ground.phase }], guard := none }) rfl (fun K hK => ?_) (AllReadyT.nil)
              have hx158 := stored2 hx156 (.int .i64 p1) (.int .i64 p2)
              have he159 := grown_set (grown_set he153 (p := ⟨b143, 0, none⟩) hl146 (.int .i64 p1)) (p := ⟨b143, 1, none⟩) hl146 (.int .i64 p2)
              have hf160 : Found ((wc151.setCell ⟨b143, 0, none⟩ (.int .i64 p1)).setCell ⟨b143, 1, none⟩ (.int .i64 p2)) (sb + 1) s := hf154.same (by rw [Below.heap_setCell _ _ _ _ (by simp only; omega), Below.heap_setCell _ _ _ _ (by simp only; omega)])
              have hx161 := stored2_other hx155 (by first | exact hne | exact hne.symm) (.int .i64 p1) (.int .i64 p2)
              have cb0 := (Joins.cell_of_block hx156 0).trans rfl
              have cb1 := (Joins.cell_of_block hx156 1).trans rfl
              have fb0 := Joins.unfrozen_of_block hx156 0
              have fb1 := Joins.unfrozen_of_block hx156 1
              obtain ⟨ws157, hww⟩ : ∃ w, (wc151.setCell ⟨b143, 0, none⟩ (.int .i64 p1)).setCell ⟨b143, 1, none⟩ (.int .i64 p2) = w := ⟨_, rfl⟩
              rw [hww] at he159
              rw [hww] at hf160
              rw [hww] at hx161
              rw [hww] at hx158
              go_simp
              try rw [hww]
              clear hww cb0 cb1 fb0 fb1
              refine hK.out _ _ (fun h => absurd (h.symm.trans (show _ = true from by kernel_rfl)) (by decide)) (fun _ => ?_)
              clear hK K
              try simp only [Act.put, List.setIfInBounds_toArray, List.set_cons_zero, List.set_cons_succ]
              refine wpAnyT_ready (rs := [11]) (by kernel_rfl) (by simp) ?_
              refine AllReadyT.cons (o := { dst := none, op := Op.store 40 (Operand.tmp 10) (Operand.tmp 27), type := 0, pos := _, after := #[{ on := 9, ground := Ground.data }, { on := 7, ground := Ground.data }, { on := 10, ground := Ground.chain }, { on := 0, ground := Ground.phase }, { on := 1, ground := Ground.phase }, { on := 2, ground := Ground.phase }, { on := 3, ground := Ground.phase }, { on := 4, ground := Ground.phase }, { on := 5, ground := Ground.phase }, { on := 6, ground := Ground.phase }, { on := 7, ground := Ground.phase }, { on := 8, ground := Ground.phase }, { on := 9, ground := Ground.phase }, { on := 10, ground := Ground.phase }], guard := none }) rfl (fun K hK => ?_) (AllReadyT.nil)
              have hx163 := stored2 hx161 (.int .i64 q1) (.int .i64 q2)
              have he164 := grown_set (grown_set he159 (p := ⟨b113, 0, none⟩) hl116 (.int .i64 q1)) (p := ⟨b113, 1, none⟩) hl116 (.int .i64 q2)
              have hf165 : Found ((ws157.setCell ⟨b113, 0, none⟩ (.int .i64 q1)).setCell ⟨b113, 1, none⟩ (.int .i64 q2)) (sb + 1) s := hf160.same (by rw [Below.heap_setCell _ _ _ _ (by simp only; omega), Below.heap_setCell _ _ _ _ (by simp only; omega)])
              have hx166 := stored2_other hx158 (by first | exact hne | exact hne.symm) (.int .i64 q1) (.int .i64 q2)
              have cb0 := (Joins.cell_of_block hx161 0).trans rfl
              have cb1 := (Joins.cell_of_block hx161 1).trans rfl
              have fb0 := Joins.unfrozen_of_block hx161 0
              have fb1 := Joins.unfrozen_of_block hx161 1
              obtain ⟨ws162, hww⟩ : ∃ w, (ws157.setCell ⟨b113, 0, none⟩ (.int .i64 q1)).setCell ⟨b113, 1, none⟩ (.int .i64 q2) = w := ⟨_, rfl⟩
              rw [hww] at he164
              rw [hww] at hf165
              rw [hww] at hx166
              rw [hww] at hx163
              go_simp
              try rw [hww]
              clear hww cb0 cb1 fb0 fb1
              refine hK.out _ _ (fun h => absurd (h.symm.trans (show _ = true from by kernel_rfl)) (by decide)) (fun _ => ?_)
              clear hK K
              try simp only [Act.put, List.setIfInBounds_toArray, List.set_cons_zero, List.set_cons_succ]
              refine wpAnyT_done (by kernel_rfl) ?_ _
              have hend := Lib.hid (Laid2.mk (mb := sb + 1) (s := s) hx166 hx163 he164 hf165)
              go_wp2_with fail
              go_meet
              exact ⟨b143, b113, rfl, rfl, hend⟩
        · obtain ⟨b167, hbb⟩ : ∃ b, w5.heap.size = b := ⟨_, rfl⟩
          obtain ⟨wa168, hww⟩ : ∃ w, (w5.alloc (.cells #[.int .i64 0, .int .i64 0] 40)).drew = w := ⟨_, rfl⟩
          have ha171 : Below w5.heap.size w5 wa168 := hww ▸ (below_alloc w5 _).drew
          have hx169 : wa168.heap[b167]? = some (.cells #[.int .i64 0, .int .i64 0] 40 (0, 0)) := by rw [← hww, ← hbb]; exact heap_alloc_new w5 _
          have hl170 : w5.heap.size ≤ b167 := by rw [← hbb]; exact Nat.le_refl _
          have he172 : w5.grownBy wa168 (some (sb + 1)) := grown_of_below ha171
          have hf173 : Found wa168 (sb + 1) s := hF5.same (ha171.block _ hF5.lt)
          go_simp
          try rw [hww]
          try rw [hbb]
          clear hww hbb
          refine hK.out _ _ (fun _ => fun p v h => grown_cells he172 hF5 p v h) (fun hH2 => ?_)
          clear hK K
          replace hH := hH2 (by kernel_rfl)
          clear hH2
          try simp only [Act.put, List.setIfInBounds_toArray, List.set_cons_zero, List.set_cons_succ]
          refine wpAnyT_ready (rs := [3, 9]) (by kernel_rfl) (by simp) ?_
          refine AllReadyT.cons (o := { dst := some 23, op := Op.call { callee := Callee.value (Operand.func 11), args := #[Operand.tmp 20, Operand.tmp 22], argTypes := #[38, 3] }, type := 40, pos := _, after := #[{ on := 0, ground := Ground.data }, { on := 2, ground := Ground.data }], guard := none }) rfl (fun K hK => ?_) (AllReadyT.cons (o := { dst := some 10, op := Op.alloc 40, type := 0, pos := _, after := #[], guard := none }) rfl (fun K hK => ?_) (AllReadyT.nil))
          · go_simp
            refine (HFx.out wa168 he172 hf173).mono ?_
            rintro e wc174 ⟨rfl, hf177, hc175⟩
            have he176 := grown_trans he172 hc175
            have hx178 := (hc175.block _ (lt_blk hx169) (by simp only [Option.some.injEq, ne_eq]; omega)).trans hx169
            refine hK.out _ _ (fun _ => fun p v h => grown_cells he176 hF5 p v h) (fun hH2 => ?_)
            clear hK K
            replace hH := hH2 (by kernel_rfl)
            clear hH2
            try simp only [Act.put, List.setIfInBounds_toArray, List.set_cons_zero, List.set_cons_succ]
            refine wpAnyT_ready (rs := [7, 9]) (by kernel_rfl) (by simp) ?_
            refine AllReadyT.cons (o := { dst := some 27, op := Op.call { callee := Callee.value (Operand.func 11), args := #[Operand.tmp 24, Operand.tmp 26], argTypes := #[38, 3] }, type := 40, pos := _, after := #[{ on := 4, ground := Ground.data }, { on := 6, ground := Ground.data }, { on := 3, ground := Ground.chain }], guard := none }) rfl (fun K hK => ?_) (AllReadyT.cons (o := { dst := some 10, op := Op.alloc 40, type := 0, pos := _, after := #[], guard := none }) rfl (fun K hK => ?_) (AllReadyT.nil))
            · go_simp
              refine (HFy.out wc174 he176 hf177).mono ?_
              rintro e wc179 ⟨rfl, hf182, hc180⟩
              have he181 := grown_trans he176 hc180
              have hx183 := (hc180.block _ (lt_blk hx178) (by simp only [Option.some.injEq, ne_eq]; omega)).trans hx178
              refine hK.out _ _ (fun _ => fun p v h => grown_cells he181 hF5 p v h) (fun hH2 => ?_)
              clear hK K
              replace hH := hH2 (by kernel_rfl)
              clear hH2
              try simp only [Act.put, List.setIfInBounds_toArray, List.set_cons_zero, List.set_cons_succ]
              refine wpAnyT_ready (rs := [9]) (by kernel_rfl) (by simp) ?_
              refine AllReadyT.cons (o := { dst := some 10, op := Op.alloc 40, type := 0, pos := _, after := #[], guard := none }) rfl (fun K hK => ?_) (AllReadyT.nil)
              obtain ⟨b184, hbb⟩ : ∃ b, wc179.heap.size = b := ⟨_, rfl⟩
              obtain ⟨wa185, hww⟩ : ∃ w, wc179.alloc (.cells #[.int .i64 0, .int .i64 0] 40) = w := ⟨_, rfl⟩
              have ha188 : Below wc179.heap.size wc179 wa185 := hww ▸ below_alloc wc179 _
              have hx186 : wa185.heap[b184]? = some (.cells #[.int .i64 0, .int .i64 0] 40 (0, 0)) := by rw [← hww, ← hbb]; exact heap_alloc_new _ _
              have he189 := grown_trans he181 (grown_of_below (row := some (sb + 1)) ha188)
              have hl187 : w5.heap.size ≤ b184 := by rw [← hbb]; exact he181.size
              have hx191 := (ha188.block _ (lt_blk hx183)).trans hx183
              have hne : b167 ≠ b184 := by have h9 := lt_blk hx183; omega
              have hf190 : Found wa185 (sb + 1) s := hf182.same (ha188.block _ hf182.lt)
              go_simp
              try rw [hww]
              try rw [hbb]
              clear hww hbb
              refine hK.out _ _ (fun _ => fun p v h => grown_cells he189 hF5 p v h) (fun hH2 => ?_)
              clear hK K
              replace hH := hH2 (by kernel_rfl)
              clear hH2
              try simp only [Act.put, List.setIfInBounds_toArray, List.set_cons_zero, List.set_cons_succ]
              refine wpAnyT_ready (rs := [10]) (by kernel_rfl) (by simp) ?_
              refine AllReadyT.cons (o := { dst := none, op := Op.store 40 (Operand.tmp 9) (Operand.tmp 23), type := 0, pos := _, after := #[{ on := 8, ground := Ground.data }, { on := 3, ground := Ground.data }, { on := 7, ground := Ground.chain }, { on := 0, ground := Ground.phase }, { on := 1, ground := Ground.phase }, { on := 2, ground := Ground.phase }, { on := 3, ground := Ground.phase }, { on := 4, ground := Ground.textOnly Departure.lateStores }, { on := 5, ground := Ground.textOnly Departure.lateStores }, { on := 6, ground := Ground.textOnly Departure.lateStores }, { on := 7, ground := Ground.textOnly Departure.lateStoresUnsure }, { on := 8, ground := Ground.phase }, { on := 9, ground := Ground.phase }], guard := none }) rfl (fun K hK => ?_) (AllReadyT.nil)
              have hx193 := stored2 hx191 (.int .i64 p1) (.int .i64 p2)
              have he194 := grown_set (grown_set he189 (p := ⟨b167, 0, none⟩) hl170 (.int .i64 p1)) (p := ⟨b167, 1, none⟩) hl170 (.int .i64 p2)
              have hf195 : Found ((wa185.setCell ⟨b167, 0, none⟩ (.int .i64 p1)).setCell ⟨b167, 1, none⟩ (.int .i64 p2)) (sb + 1) s := hf190.same (by rw [Below.heap_setCell _ _ _ _ (by simp only; omega), Below.heap_setCell _ _ _ _ (by simp only; omega)])
              have hx196 := stored2_other hx186 (by first | exact hne | exact hne.symm) (.int .i64 p1) (.int .i64 p2)
              have cb0 := (Joins.cell_of_block hx191 0).trans rfl
              have cb1 := (Joins.cell_of_block hx191 1).trans rfl
              have fb0 := Joins.unfrozen_of_block hx191 0
              have fb1 := Joins.unfrozen_of_block hx191 1
              obtain ⟨ws192, hww⟩ : ∃ w, (wa185.setCell ⟨b167, 0, none⟩ (.int .i64 p1)).setCell ⟨b167, 1, none⟩ (.int .i64 p2) = w := ⟨_, rfl⟩
              rw [hww] at he194
              rw [hww] at hf195
              rw [hww] at hx196
              rw [hww] at hx193
              go_simp
              try rw [hww]
              clear hww cb0 cb1 fb0 fb1
              refine hK.out _ _ (fun h => absurd (h.symm.trans (show _ = true from by kernel_rfl)) (by decide)) (fun _ => ?_)
              clear hK K
              try simp only [Act.put, List.setIfInBounds_toArray, List.set_cons_zero, List.set_cons_succ]
              refine wpAnyT_ready (rs := [11]) (by kernel_rfl) (by simp) ?_
              refine AllReadyT.cons (o := { dst := none, op := Op.store 40 (Operand.tmp 10) (Operand.tmp 27), type := 0, pos := _, after := #[{ on := 9, ground := Ground.data }, { on := 7, ground := Ground.data }, { on := 10, ground := Ground.chain }, { on := 0, ground := Ground.phase }, { on := 1, ground := Ground.phase }, { on := 2, ground := Ground.phase }, { on := 3, ground := Ground.phase }, { on := 4, ground := Ground.phase }, { on := 5, ground := Ground.phase }, { on := 6, ground := Ground.phase }, { on := 7, ground := Ground.phase }, { on := 8, ground := Ground.phase }, { on := 9, ground := Ground.phase }, { on := 10, ground := Ground.phase }], guard := none }) rfl (fun K hK => ?_) (AllReadyT.nil)
              have hx198 := stored2 hx196 (.int .i64 q1) (.int .i64 q2)
              have he199 := grown_set (grown_set he194 (p := ⟨b184, 0, none⟩) hl187 (.int .i64 q1)) (p := ⟨b184, 1, none⟩) hl187 (.int .i64 q2)
              have hf200 : Found ((ws192.setCell ⟨b184, 0, none⟩ (.int .i64 q1)).setCell ⟨b184, 1, none⟩ (.int .i64 q2)) (sb + 1) s := hf195.same (by rw [Below.heap_setCell _ _ _ _ (by simp only; omega), Below.heap_setCell _ _ _ _ (by simp only; omega)])
              have hx201 := stored2_other hx193 (by first | exact hne | exact hne.symm) (.int .i64 q1) (.int .i64 q2)
              have cb0 := (Joins.cell_of_block hx196 0).trans rfl
              have cb1 := (Joins.cell_of_block hx196 1).trans rfl
              have fb0 := Joins.unfrozen_of_block hx196 0
              have fb1 := Joins.unfrozen_of_block hx196 1
              obtain ⟨ws197, hww⟩ : ∃ w, (ws192.setCell ⟨b184, 0, none⟩ (.int .i64 q1)).setCell ⟨b184, 1, none⟩ (.int .i64 q2) = w := ⟨_, rfl⟩
              rw [hww] at he199
              rw [hww] at hf200
              rw [hww] at hx201
              rw [hww] at hx198
              go_simp
              try rw [hww]
              clear hww cb0 cb1 fb0 fb1
              refine hK.out _ _ (fun h => absurd (h.symm.trans (show _ = true from by kernel_rfl)) (by decide)) (fun _ => ?_)
              clear hK K
              try simp only [Act.put, List.setIfInBounds_toArray, List.set_cons_zero, List.set_cons_succ]
              refine wpAnyT_done (by kernel_rfl) ?_ _
              have hend := Lib.hid (Laid2.mk (mb := sb + 1) (s := s) hx201 hx198 he199 hf200)
              go_wp2_with fail
              go_meet
              exact ⟨b167, b184, rfl, rfl, hend⟩
            · obtain ⟨b202, hbb⟩ : ∃ b, wc174.heap.size = b := ⟨_, rfl⟩
              obtain ⟨wa203, hww⟩ : ∃ w, wc174.alloc (.cells #[.int .i64 0, .int .i64 0] 40) = w := ⟨_, rfl⟩
              have ha206 : Below wc174.heap.size wc174 wa203 := hww ▸ below_alloc wc174 _
              have hx204 : wa203.heap[b202]? = some (.cells #[.int .i64 0, .int .i64 0] 40 (0, 0)) := by rw [← hww, ← hbb]; exact heap_alloc_new _ _
              have he207 := grown_trans he176 (grown_of_below (row := some (sb + 1)) ha206)
              have hl205 : w5.heap.size ≤ b202 := by rw [← hbb]; exact he176.size
              have hx209 := (ha206.block _ (lt_blk hx178)).trans hx178
              have hne : b167 ≠ b202 := by have h9 := lt_blk hx178; omega
              have hf208 : Found wa203 (sb + 1) s := hf177.same (ha206.block _ hf177.lt)
              go_simp
              try rw [hww]
              try rw [hbb]
              clear hww hbb
              refine hK.out _ _ (fun _ => fun p v h => grown_cells he207 hF5 p v h) (fun hH2 => ?_)
              clear hK K
              replace hH := hH2 (by kernel_rfl)
              clear hH2
              try simp only [Act.put, List.setIfInBounds_toArray, List.set_cons_zero, List.set_cons_succ]
              refine wpAnyT_ready (rs := [7]) (by kernel_rfl) (by simp) ?_
              refine AllReadyT.cons (o := { dst := some 27, op := Op.call { callee := Callee.value (Operand.func 11), args := #[Operand.tmp 24, Operand.tmp 26], argTypes := #[38, 3] }, type := 40, pos := _, after := #[{ on := 4, ground := Ground.data }, { on := 6, ground := Ground.data }, { on := 3, ground := Ground.chain }], guard := none }) rfl (fun K hK => ?_) (AllReadyT.nil)
              go_simp
              refine (HFy.out wa203 he207 hf208).mono ?_
              rintro e wc210 ⟨rfl, hf213, hc211⟩
              have he212 := grown_trans he207 hc211
              have hx214 := (hc211.block _ (lt_blk hx209) (by simp only [Option.some.injEq, ne_eq]; omega)).trans hx209
              have hx215 := (hc211.block _ (lt_blk hx204) (by simp only [Option.some.injEq, ne_eq]; omega)).trans hx204
              refine hK.out _ _ (fun _ => fun p v h => grown_cells he212 hF5 p v h) (fun hH2 => ?_)
              clear hK K
              replace hH := hH2 (by kernel_rfl)
              clear hH2
              try simp only [Act.put, List.setIfInBounds_toArray, List.set_cons_zero, List.set_cons_succ]
              refine wpAnyT_ready (rs := [10]) (by kernel_rfl) (by simp) ?_
              refine AllReadyT.cons (o := { dst := none, op := Op.store 40 (Operand.tmp 9) (Operand.tmp 23), type := 0, pos := _, after := #[{ on := 8, ground := Ground.data }, { on := 3, ground := Ground.data }, { on := 7, ground := Ground.chain }, { on := 0, ground := Ground.phase }, { on := 1, ground := Ground.phase }, { on := 2, ground := Ground.phase }, { on := 3, ground := Ground.phase }, { on := 4, ground := Ground.textOnly Departure.lateStores }, { on := 5, ground := Ground.textOnly Departure.lateStores }, { on := 6, ground := Ground.textOnly Departure.lateStores }, { on := 7, ground := Ground.textOnly Departure.lateStoresUnsure }, { on := 8, ground := Ground.phase }, { on := 9, ground := Ground.phase }], guard := none }) rfl (fun K hK => ?_) (AllReadyT.nil)
              have hx217 := stored2 hx214 (.int .i64 p1) (.int .i64 p2)
              have he218 := grown_set (grown_set he212 (p := ⟨b167, 0, none⟩) hl170 (.int .i64 p1)) (p := ⟨b167, 1, none⟩) hl170 (.int .i64 p2)
              have hf219 : Found ((wc210.setCell ⟨b167, 0, none⟩ (.int .i64 p1)).setCell ⟨b167, 1, none⟩ (.int .i64 p2)) (sb + 1) s := hf213.same (by rw [Below.heap_setCell _ _ _ _ (by simp only; omega), Below.heap_setCell _ _ _ _ (by simp only; omega)])
              have hx220 := stored2_other hx215 (by first | exact hne | exact hne.symm) (.int .i64 p1) (.int .i64 p2)
              have cb0 := (Joins.cell_of_block hx214 0).trans rfl
              have cb1 := (Joins.cell_of_block hx214 1).trans rfl
              have fb0 := Joins.unfrozen_of_block hx214 0
              have fb1 := Joins.unfrozen_of_block hx214 1
              obtain ⟨ws216, hww⟩ : ∃ w, (wc210.setCell ⟨b167, 0, none⟩ (.int .i64 p1)).setCell ⟨b167, 1, none⟩ (.int .i64 p2) = w := ⟨_, rfl⟩
              rw [hww] at he218
              rw [hww] at hf219
              rw [hww] at hx220
              rw [hww] at hx217
              go_simp
              try rw [hww]
              clear hww cb0 cb1 fb0 fb1
              refine hK.out _ _ (fun h => absurd (h.symm.trans (show _ = true from by kernel_rfl)) (by decide)) (fun _ => ?_)
              clear hK K
              try simp only [Act.put, List.setIfInBounds_toArray, List.set_cons_zero, List.set_cons_succ]
              refine wpAnyT_ready (rs := [11]) (by kernel_rfl) (by simp) ?_
              refine AllReadyT.cons (o := { dst := none, op := Op.store 40 (Operand.tmp 10) (Operand.tmp 27), type := 0, pos := _, after := #[{ on := 9, ground := Ground.data }, { on := 7, ground := Ground.data }, { on := 10, ground := Ground.chain }, { on := 0, ground := Ground.phase }, { on := 1, ground := Ground.phase }, { on := 2, ground := Ground.phase }, { on := 3, ground := Ground.phase }, { on := 4, ground := Ground.phase }, { on := 5, ground := Ground.phase }, { on := 6, ground := Ground.phase }, { on := 7, ground := Ground.phase }, { on := 8, ground := Ground.phase }, { on := 9, ground := Ground.phase }, { on := 10, ground := Ground.phase }], guard := none }) rfl (fun K hK => ?_) (AllReadyT.nil)
              have hx222 := stored2 hx220 (.int .i64 q1) (.int .i64 q2)
              have he223 := grown_set (grown_set he218 (p := ⟨b202, 0, none⟩) hl205 (.int .i64 q1)) (p := ⟨b202, 1, none⟩) hl205 (.int .i64 q2)
              have hf224 : Found ((ws216.setCell ⟨b202, 0, none⟩ (.int .i64 q1)).setCell ⟨b202, 1, none⟩ (.int .i64 q2)) (sb + 1) s := hf219.same (by rw [Below.heap_setCell _ _ _ _ (by simp only; omega), Below.heap_setCell _ _ _ _ (by simp only; omega)])
              have hx225 := stored2_other hx217 (by first | exact hne | exact hne.symm) (.int .i64 q1) (.int .i64 q2)
              have cb0 := (Joins.cell_of_block hx220 0).trans rfl
              have cb1 := (Joins.cell_of_block hx220 1).trans rfl
              have fb0 := Joins.unfrozen_of_block hx220 0
              have fb1 := Joins.unfrozen_of_block hx220 1
              obtain ⟨ws221, hww⟩ : ∃ w, (ws216.setCell ⟨b202, 0, none⟩ (.int .i64 q1)).setCell ⟨b202, 1, none⟩ (.int .i64 q2) = w := ⟨_, rfl⟩
              rw [hww] at he223
              rw [hww] at hf224
              rw [hww] at hx225
              rw [hww] at hx222
              go_simp
              try rw [hww]
              clear hww cb0 cb1 fb0 fb1
              refine hK.out _ _ (fun h => absurd (h.symm.trans (show _ = true from by kernel_rfl)) (by decide)) (fun _ => ?_)
              clear hK K
              try simp only [Act.put, List.setIfInBounds_toArray, List.set_cons_zero, List.set_cons_succ]
              refine wpAnyT_done (by kernel_rfl) ?_ _
              have hend := Lib.hid (Laid2.mk (mb := sb + 1) (s := s) hx225 hx222 he223 hf224)
              go_wp2_with fail
              go_meet
              exact ⟨b167, b202, rfl, rfl, hend⟩
          · obtain ⟨b226, hbb⟩ : ∃ b, wa168.heap.size = b := ⟨_, rfl⟩
            obtain ⟨wa227, hww⟩ : ∃ w, wa168.alloc (.cells #[.int .i64 0, .int .i64 0] 40) = w := ⟨_, rfl⟩
            have ha230 : Below wa168.heap.size wa168 wa227 := hww ▸ below_alloc wa168 _
            have hx228 : wa227.heap[b226]? = some (.cells #[.int .i64 0, .int .i64 0] 40 (0, 0)) := by rw [← hww, ← hbb]; exact heap_alloc_new _ _
            have he231 := grown_trans he172 (grown_of_below (row := some (sb + 1)) ha230)
            have hl229 : w5.heap.size ≤ b226 := by rw [← hbb]; exact he172.size
            have hx233 := (ha230.block _ (lt_blk hx169)).trans hx169
            have hne : b167 ≠ b226 := by have h9 := lt_blk hx169; omega
            have hf232 : Found wa227 (sb + 1) s := hf173.same (ha230.block _ hf173.lt)
            go_simp
            try rw [hww]
            try rw [hbb]
            clear hww hbb
            refine hK.out _ _ (fun _ => fun p v h => grown_cells he231 hF5 p v h) (fun hH2 => ?_)
            clear hK K
            replace hH := hH2 (by kernel_rfl)
            clear hH2
            try simp only [Act.put, List.setIfInBounds_toArray, List.set_cons_zero, List.set_cons_succ]
            refine wpAnyT_ready (rs := [3]) (by kernel_rfl) (by simp) ?_
            refine AllReadyT.cons (o := { dst := some 23, op := Op.call { callee := Callee.value (Operand.func 11), args := #[Operand.tmp 20, Operand.tmp 22], argTypes := #[38, 3] }, type := 40, pos := _, after := #[{ on := 0, ground := Ground.data }, { on := 2, ground := Ground.data }], guard := none }) rfl (fun K hK => ?_) (AllReadyT.nil)
            go_simp
            refine (HFx.out wa227 he231 hf232).mono ?_
            rintro e wc234 ⟨rfl, hf237, hc235⟩
            have he236 := grown_trans he231 hc235
            have hx238 := (hc235.block _ (lt_blk hx233) (by simp only [Option.some.injEq, ne_eq]; omega)).trans hx233
            have hx239 := (hc235.block _ (lt_blk hx228) (by simp only [Option.some.injEq, ne_eq]; omega)).trans hx228
            refine hK.out _ _ (fun _ => fun p v h => grown_cells he236 hF5 p v h) (fun hH2 => ?_)
            clear hK K
            replace hH := hH2 (by kernel_rfl)
            clear hH2
            try simp only [Act.put, List.setIfInBounds_toArray, List.set_cons_zero, List.set_cons_succ]
            refine wpAnyT_ready (rs := [7]) (by kernel_rfl) (by simp) ?_
            refine AllReadyT.cons (o := { dst := some 27, op := Op.call { callee := Callee.value (Operand.func 11), args := #[Operand.tmp 24, Operand.tmp 26], argTypes := #[38, 3] }, type := 40, pos := _, after := #[{ on := 4, ground := Ground.data }, { on := 6, ground := Ground.data }, { on := 3, ground := Ground.chain }], guard := none }) rfl (fun K hK => ?_) (AllReadyT.nil)
            go_simp
            refine (HFy.out wc234 he236 hf237).mono ?_
            rintro e wc240 ⟨rfl, hf243, hc241⟩
            have he242 := grown_trans he236 hc241
            have hx244 := (hc241.block _ (lt_blk hx238) (by simp only [Option.some.injEq, ne_eq]; omega)).trans hx238
            have hx245 := (hc241.block _ (lt_blk hx239) (by simp only [Option.some.injEq, ne_eq]; omega)).trans hx239
            refine hK.out _ _ (fun _ => fun p v h => grown_cells he242 hF5 p v h) (fun hH2 => ?_)
            clear hK K
            replace hH := hH2 (by kernel_rfl)
            clear hH2
            try simp only [Act.put, List.setIfInBounds_toArray, List.set_cons_zero, List.set_cons_succ]
            refine wpAnyT_ready (rs := [10]) (by kernel_rfl) (by simp) ?_
            refine AllReadyT.cons (o := { dst := none, op := Op.store 40 (Operand.tmp 9) (Operand.tmp 23), type := 0, pos := _, after := #[{ on := 8, ground := Ground.data }, { on := 3, ground := Ground.data }, { on := 7, ground := Ground.chain }, { on := 0, ground := Ground.phase }, { on := 1, ground := Ground.phase }, { on := 2, ground := Ground.phase }, { on := 3, ground := Ground.phase }, { on := 4, ground := Ground.textOnly Departure.lateStores }, { on := 5, ground := Ground.textOnly Departure.lateStores }, { on := 6, ground := Ground.textOnly Departure.lateStores }, { on := 7, ground := Ground.textOnly Departure.lateStoresUnsure }, { on := 8, ground := Ground.phase }, { on := 9, ground := Ground.phase }], guard := none }) rfl (fun K hK => ?_) (AllReadyT.nil)
            have hx247 := stored2 hx244 (.int .i64 p1) (.int .i64 p2)
            have he248 := grown_set (grown_set he242 (p := ⟨b167, 0, none⟩) hl170 (.int .i64 p1)) (p := ⟨b167, 1, none⟩) hl170 (.int .i64 p2)
            have hf249 : Found ((wc240.setCell ⟨b167, 0, none⟩ (.int .i64 p1)).setCell ⟨b167, 1, none⟩ (.int .i64 p2)) (sb + 1) s := hf243.same (by rw [Below.heap_setCell _ _ _ _ (by simp only; omega), Below.heap_setCell _ _ _ _ (by simp only; omega)])
            have hx250 := stored2_other hx245 (by first | exact hne | exact hne.symm) (.int .i64 p1) (.int .i64 p2)
            have cb0 := (Joins.cell_of_block hx244 0).trans rfl
            have cb1 := (Joins.cell_of_block hx244 1).trans rfl
            have fb0 := Joins.unfrozen_of_block hx244 0
            have fb1 := Joins.unfrozen_of_block hx244 1
            obtain ⟨ws246, hww⟩ : ∃ w, (wc240.setCell ⟨b167, 0, none⟩ (.int .i64 p1)).setCell ⟨b167, 1, none⟩ (.int .i64 p2) = w := ⟨_, rfl⟩
            rw [hww] at he248
            rw [hww] at hf249
            rw [hww] at hx250
            rw [hww] at hx247
            go_simp
            try rw [hww]
            clear hww cb0 cb1 fb0 fb1
            refine hK.out _ _ (fun h => absurd (h.symm.trans (show _ = true from by kernel_rfl)) (by decide)) (fun _ => ?_)
            clear hK K
            try simp only [Act.put, List.setIfInBounds_toArray, List.set_cons_zero, List.set_cons_succ]
            refine wpAnyT_ready (rs := [11]) (by kernel_rfl) (by simp) ?_
            refine AllReadyT.cons (o := { dst := none, op := Op.store 40 (Operand.tmp 10) (Operand.tmp 27), type := 0, pos := _, after := #[{ on := 9, ground := Ground.data }, { on := 7, ground := Ground.data }, { on := 10, ground := Ground.chain }, { on := 0, ground := Ground.phase }, { on := 1, ground := Ground.phase }, { on := 2, ground := Ground.phase }, { on := 3, ground := Ground.phase }, { on := 4, ground := Ground.phase }, { on := 5, ground := Ground.phase }, { on := 6, ground := Ground.phase }, { on := 7, ground := Ground.phase }, { on := 8, ground := Ground.phase }, { on := 9, ground := Ground.phase }, { on := 10, ground := Ground.phase }], guard := none }) rfl (fun K hK => ?_) (AllReadyT.nil)
            have hx252 := stored2 hx250 (.int .i64 q1) (.int .i64 q2)
            have he253 := grown_set (grown_set he248 (p := ⟨b226, 0, none⟩) hl229 (.int .i64 q1)) (p := ⟨b226, 1, none⟩) hl229 (.int .i64 q2)
            have hf254 : Found ((ws246.setCell ⟨b226, 0, none⟩ (.int .i64 q1)).setCell ⟨b226, 1, none⟩ (.int .i64 q2)) (sb + 1) s := hf249.same (by rw [Below.heap_setCell _ _ _ _ (by simp only; omega), Below.heap_setCell _ _ _ _ (by simp only; omega)])
            have hx255 := stored2_other hx247 (by first | exact hne | exact hne.symm) (.int .i64 q1) (.int .i64 q2)
            have cb0 := (Joins.cell_of_block hx250 0).trans rfl
            have cb1 := (Joins.cell_of_block hx250 1).trans rfl
            have fb0 := Joins.unfrozen_of_block hx250 0
            have fb1 := Joins.unfrozen_of_block hx250 1
            obtain ⟨ws251, hww⟩ : ∃ w, (ws246.setCell ⟨b226, 0, none⟩ (.int .i64 q1)).setCell ⟨b226, 1, none⟩ (.int .i64 q2) = w := ⟨_, rfl⟩
            rw [hww] at he253
            rw [hww] at hf254
            rw [hww] at hx255
            rw [hww] at hx252
            go_simp
            try rw [hww]
            clear hww cb0 cb1 fb0 fb1
            refine hK.out _ _ (fun h => absurd (h.symm.trans (show _ = true from by kernel_rfl)) (by decide)) (fun _ => ?_)
            clear hK K
            try simp only [Act.put, List.setIfInBounds_toArray, List.set_cons_zero, List.set_cons_succ]
            refine wpAnyT_done (by kernel_rfl) ?_ _
            have hend := Lib.hid (Laid2.mk (mb := sb + 1) (s := s) hx255 hx252 he253 hf254)
            go_wp2_with fail
            go_meet
            exact ⟨b167, b226, rfl, rfl, hend⟩
        · obtain ⟨b256, hbb⟩ : ∃ b, w5.heap.size = b := ⟨_, rfl⟩
          obtain ⟨wa257, hww⟩ : ∃ w, (w5.alloc (.cells #[.int .i64 0, .int .i64 0] 40)).drew = w := ⟨_, rfl⟩
          have ha260 : Below w5.heap.size w5 wa257 := hww ▸ (below_alloc w5 _).drew
          have hx258 : wa257.heap[b256]? = some (.cells #[.int .i64 0, .int .i64 0] 40 (0, 0)) := by rw [← hww, ← hbb]; exact heap_alloc_new w5 _
          have hl259 : w5.heap.size ≤ b256 := by rw [← hbb]; exact Nat.le_refl _
          have he261 : w5.grownBy wa257 (some (sb + 1)) := grown_of_below ha260
          have hf262 : Found wa257 (sb + 1) s := hF5.same (ha260.block _ hF5.lt)
          go_simp
          try rw [hww]
          try rw [hbb]
          clear hww hbb
          refine hK.out _ _ (fun _ => fun p v h => grown_cells he261 hF5 p v h) (fun hH2 => ?_)
          clear hK K
          replace hH := hH2 (by kernel_rfl)
          clear hH2
          try simp only [Act.put, List.setIfInBounds_toArray, List.set_cons_zero, List.set_cons_succ]
          refine wpAnyT_ready (rs := [3, 8]) (by kernel_rfl) (by simp) ?_
          refine AllReadyT.cons (o := { dst := some 23, op := Op.call { callee := Callee.value (Operand.func 11), args := #[Operand.tmp 20, Operand.tmp 22], argTypes := #[38, 3] }, type := 40, pos := _, after := #[{ on := 0, ground := Ground.data }, { on := 2, ground := Ground.data }], guard := none }) rfl (fun K hK => ?_) (AllReadyT.cons (o := { dst := some 9, op := Op.alloc 40, type := 0, pos := _, after := #[], guard := none }) rfl (fun K hK => ?_) (AllReadyT.nil))
          · go_simp
            refine (HFx.out wa257 he261 hf262).mono ?_
            rintro e wc263 ⟨rfl, hf266, hc264⟩
            have he265 := grown_trans he261 hc264
            have hx267 := (hc264.block _ (lt_blk hx258) (by simp only [Option.some.injEq, ne_eq]; omega)).trans hx258
            refine hK.out _ _ (fun _ => fun p v h => grown_cells he265 hF5 p v h) (fun hH2 => ?_)
            clear hK K
            replace hH := hH2 (by kernel_rfl)
            clear hH2
            try simp only [Act.put, List.setIfInBounds_toArray, List.set_cons_zero, List.set_cons_succ]
            refine wpAnyT_ready (rs := [7, 8]) (by kernel_rfl) (by simp) ?_
            refine AllReadyT.cons (o := { dst := some 27, op := Op.call { callee := Callee.value (Operand.func 11), args := #[Operand.tmp 24, Operand.tmp 26], argTypes := #[38, 3] }, type := 40, pos := _, after := #[{ on := 4, ground := Ground.data }, { on := 6, ground := Ground.data }, { on := 3, ground := Ground.chain }], guard := none }) rfl (fun K hK => ?_) (AllReadyT.cons (o := { dst := some 9, op := Op.alloc 40, type := 0, pos := _, after := #[], guard := none }) rfl (fun K hK => ?_) (AllReadyT.nil))
            · go_simp
              refine (HFy.out wc263 he265 hf266).mono ?_
              rintro e wc268 ⟨rfl, hf271, hc269⟩
              have he270 := grown_trans he265 hc269
              have hx272 := (hc269.block _ (lt_blk hx267) (by simp only [Option.some.injEq, ne_eq]; omega)).trans hx267
              refine hK.out _ _ (fun _ => fun p v h => grown_cells he270 hF5 p v h) (fun hH2 => ?_)
              clear hK K
              replace hH := hH2 (by kernel_rfl)
              clear hH2
              try simp only [Act.put, List.setIfInBounds_toArray, List.set_cons_zero, List.set_cons_succ]
              refine wpAnyT_ready (rs := [8]) (by kernel_rfl) (by simp) ?_
              refine AllReadyT.cons (o := { dst := some 9, op := Op.alloc 40, type := 0, pos := _, after := #[], guard := none }) rfl (fun K hK => ?_) (AllReadyT.nil)
              obtain ⟨b273, hbb⟩ : ∃ b, wc268.heap.size = b := ⟨_, rfl⟩
              obtain ⟨wa274, hww⟩ : ∃ w, wc268.alloc (.cells #[.int .i64 0, .int .i64 0] 40) = w := ⟨_, rfl⟩
              have ha277 : Below wc268.heap.size wc268 wa274 := hww ▸ below_alloc wc268 _
              have hx275 : wa274.heap[b273]? = some (.cells #[.int .i64 0, .int .i64 0] 40 (0, 0)) := by rw [← hww, ← hbb]; exact heap_alloc_new _ _
              have he278 := grown_trans he270 (grown_of_below (row := some (sb + 1)) ha277)
              have hl276 : w5.heap.size ≤ b273 := by rw [← hbb]; exact he270.size
              have hx280 := (ha277.block _ (lt_blk hx272)).trans hx272
              have hne : b256 ≠ b273 := by have h9 := lt_blk hx272; omega
              have hf279 : Found wa274 (sb + 1) s := hf271.same (ha277.block _ hf271.lt)
              go_simp
              try rw [hww]
              try rw [hbb]
              clear hww hbb
              refine hK.out _ _ (fun _ => fun p v h => grown_cells he278 hF5 p v h) (fun hH2 => ?_)
              clear hK K
              replace hH := hH2 (by kernel_rfl)
              clear hH2
              try simp only [Act.put, List.setIfInBounds_toArray, List.set_cons_zero, List.set_cons_succ]
              refine wpAnyT_ready (rs := [10]) (by kernel_rfl) (by simp) ?_
              refine AllReadyT.cons (o := { dst := none, op := Op.store 40 (Operand.tmp 9) (Operand.tmp 23), type := 0, pos := _, after := #[{ on := 8, ground := Ground.data }, { on := 3, ground := Ground.data }, { on := 7, ground := Ground.chain }, { on := 0, ground := Ground.phase }, { on := 1, ground := Ground.phase }, { on := 2, ground := Ground.phase }, { on := 3, ground := Ground.phase }, { on := 4, ground := Ground.textOnly Departure.lateStores }, { on := 5, ground := Ground.textOnly Departure.lateStores }, { on := 6, ground := Ground.textOnly Departure.lateStores }, { on := 7, ground := Ground.textOnly Departure.lateStoresUnsure }, { on := 8, ground := Ground.phase }, { on := 9, ground := Ground.phase }], guard := none }) rfl (fun K hK => ?_) (AllReadyT.nil)
              have hx282 := stored2 hx275 (.int .i64 p1) (.int .i64 p2)
              have he283 := grown_set (grown_set he278 (p := ⟨b273, 0, none⟩) hl276 (.int .i64 p1)) (p := ⟨b273, 1, none⟩) hl276 (.int .i64 p2)
              have hf284 : Found ((wa274.setCell ⟨b273, 0, none⟩ (.int .i64 p1)).setCell ⟨b273, 1, none⟩ (.int .i64 p2)) (sb + 1) s := hf279.same (by rw [Below.heap_setCell _ _ _ _ (by simp only; omega), Below.heap_setCell _ _ _ _ (by simp only; omega)])
              have hx285 := stored2_other hx280 (by first | exact hne | exact hne.symm) (.int .i64 p1) (.int .i64 p2)
              have cb0 := (Joins.cell_of_block hx275 0).trans rfl
              have cb1 := (Joins.cell_of_block hx275 1).trans rfl
              have fb0 := Joins.unfrozen_of_block hx275 0
              have fb1 := Joins.unfrozen_of_block hx275 1
              obtain ⟨ws281, hww⟩ : ∃ w, (wa274.setCell ⟨b273, 0, none⟩ (.int .i64 p1)).setCell ⟨b273, 1, none⟩ (.int .i64 p2) = w := ⟨_, rfl⟩
              rw [hww] at he283
              rw [hww] at hf284
              rw [hww] at hx285
              rw [hww] at hx282
              go_simp
              try rw [hww]
              clear hww cb0 cb1 fb0 fb1
              refine hK.out _ _ (fun h => absurd (h.symm.trans (show _ = true from by kernel_rfl)) (by decide)) (fun _ => ?_)
              clear hK K
              try simp only [Act.put, List.setIfInBounds_toArray, List.set_cons_zero, List.set_cons_succ]
              refine wpAnyT_ready (rs := [11]) (by kernel_rfl) (by simp) ?_
              refine AllReadyT.cons (o := { dst := none, op := Op.store 40 (Operand.tmp 10) (Operand.tmp 27), type := 0, pos := _, after := #[{ on := 9, ground := Ground.data }, { on := 7, ground := Ground.data }, { on := 10, ground := Ground.chain }, { on := 0, ground := Ground.phase }, { on := 1, ground := Ground.phase }, { on := 2, ground := Ground.phase }, { on := 3, ground := Ground.phase }, { on := 4, ground := Ground.phase }, { on := 5, ground := Ground.phase }, { on := 6, ground := Ground.phase }, { on := 7, ground := Ground.phase }, { on := 8, ground := Ground.phase }, { on := 9, ground := Ground.phase }, { on := 10, ground := Ground.phase }], guard := none }) rfl (fun K hK => ?_) (AllReadyT.nil)
              have hx287 := stored2 hx285 (.int .i64 q1) (.int .i64 q2)
              have he288 := grown_set (grown_set he283 (p := ⟨b256, 0, none⟩) hl259 (.int .i64 q1)) (p := ⟨b256, 1, none⟩) hl259 (.int .i64 q2)
              have hf289 : Found ((ws281.setCell ⟨b256, 0, none⟩ (.int .i64 q1)).setCell ⟨b256, 1, none⟩ (.int .i64 q2)) (sb + 1) s := hf284.same (by rw [Below.heap_setCell _ _ _ _ (by simp only; omega), Below.heap_setCell _ _ _ _ (by simp only; omega)])
              have hx290 := stored2_other hx282 (by first | exact hne | exact hne.symm) (.int .i64 q1) (.int .i64 q2)
              have cb0 := (Joins.cell_of_block hx285 0).trans rfl
              have cb1 := (Joins.cell_of_block hx285 1).trans rfl
              have fb0 := Joins.unfrozen_of_block hx285 0
              have fb1 := Joins.unfrozen_of_block hx285 1
              obtain ⟨ws286, hww⟩ : ∃ w, (ws281.setCell ⟨b256, 0, none⟩ (.int .i64 q1)).setCell ⟨b256, 1, none⟩ (.int .i64 q2) = w := ⟨_, rfl⟩
              rw [hww] at he288
              rw [hww] at hf289
              rw [hww] at hx290
              rw [hww] at hx287
              go_simp
              try rw [hww]
              clear hww cb0 cb1 fb0 fb1
              refine hK.out _ _ (fun h => absurd (h.symm.trans (show _ = true from by kernel_rfl)) (by decide)) (fun _ => ?_)
              clear hK K
              try simp only [Act.put, List.setIfInBounds_toArray, List.set_cons_zero, List.set_cons_succ]
              refine wpAnyT_done (by kernel_rfl) ?_ _
              have hend := Lib.hid (Laid2.mk (mb := sb + 1) (s := s) hx290 hx287 he288 hf289)
              go_wp2_with fail
              go_meet
              exact ⟨b273, b256, rfl, rfl, hend⟩
            · obtain ⟨b291, hbb⟩ : ∃ b, wc263.heap.size = b := ⟨_, rfl⟩
              obtain ⟨wa292, hww⟩ : ∃ w, wc263.alloc (.cells #[.int .i64 0, .int .i64 0] 40) = w := ⟨_, rfl⟩
              have ha295 : Below wc263.heap.size wc263 wa292 := hww ▸ below_alloc wc263 _
              have hx293 : wa292.heap[b291]? = some (.cells #[.int .i64 0, .int .i64 0] 40 (0, 0)) := by rw [← hww, ← hbb]; exact heap_alloc_new _ _
              have he296 := grown_trans he265 (grown_of_below (row := some (sb + 1)) ha295)
              have hl294 : w5.heap.size ≤ b291 := by rw [← hbb]; exact he265.size
              have hx298 := (ha295.block _ (lt_blk hx267)).trans hx267
              have hne : b256 ≠ b291 := by have h9 := lt_blk hx267; omega
              have hf297 : Found wa292 (sb + 1) s := hf266.same (ha295.block _ hf266.lt)
              go_simp
              try rw [hww]
              try rw [hbb]
              clear hww hbb
              refine hK.out _ _ (fun _ => fun p v h => grown_cells he296 hF5 p v h) (fun hH2 => ?_)
              clear hK K
              replace hH := hH2 (by kernel_rfl)
              clear hH2
              try simp only [Act.put, List.setIfInBounds_toArray, List.set_cons_zero, List.set_cons_succ]
              refine wpAnyT_ready (rs := [7]) (by kernel_rfl) (by simp) ?_
              refine AllReadyT.cons (o := { dst := some 27, op := Op.call { callee := Callee.value (Operand.func 11), args := #[Operand.tmp 24, Operand.tmp 26], argTypes := #[38, 3] }, type := 40, pos := _, after := #[{ on := 4, ground := Ground.data }, { on := 6, ground := Ground.data }, { on := 3, ground := Ground.chain }], guard := none }) rfl (fun K hK => ?_) (AllReadyT.nil)
              go_simp
              refine (HFy.out wa292 he296 hf297).mono ?_
              rintro e wc299 ⟨rfl, hf302, hc300⟩
              have he301 := grown_trans he296 hc300
              have hx303 := (hc300.block _ (lt_blk hx298) (by simp only [Option.some.injEq, ne_eq]; omega)).trans hx298
              have hx304 := (hc300.block _ (lt_blk hx293) (by simp only [Option.some.injEq, ne_eq]; omega)).trans hx293
              refine hK.out _ _ (fun _ => fun p v h => grown_cells he301 hF5 p v h) (fun hH2 => ?_)
              clear hK K
              replace hH := hH2 (by kernel_rfl)
              clear hH2
              try simp only [Act.put, List.setIfInBounds_toArray, List.set_cons_zero, List.set_cons_succ]
              refine wpAnyT_ready (rs := [10]) (by kernel_rfl) (by simp) ?_
              refine AllReadyT.cons (o := { dst := none, op := Op.store 40 (Operand.tmp 9) (Operand.tmp 23), type := 0, pos := _, after := #[{ on := 8, ground := Ground.data }, { on := 3, ground := Ground.data }, { on := 7, ground := Ground.chain }, { on := 0, ground := Ground.phase }, { on := 1, ground := Ground.phase }, { on := 2, ground := Ground.phase }, { on := 3, ground := Ground.phase }, { on := 4, ground := Ground.textOnly Departure.lateStores }, { on := 5, ground := Ground.textOnly Departure.lateStores }, { on := 6, ground := Ground.textOnly Departure.lateStores }, { on := 7, ground := Ground.textOnly Departure.lateStoresUnsure }, { on := 8, ground := Ground.phase }, { on := 9, ground := Ground.phase }], guard := none }) rfl (fun K hK => ?_) (AllReadyT.nil)
              have hx306 := stored2 hx304 (.int .i64 p1) (.int .i64 p2)
              have he307 := grown_set (grown_set he301 (p := ⟨b291, 0, none⟩) hl294 (.int .i64 p1)) (p := ⟨b291, 1, none⟩) hl294 (.int .i64 p2)
              have hf308 : Found ((wc299.setCell ⟨b291, 0, none⟩ (.int .i64 p1)).setCell ⟨b291, 1, none⟩ (.int .i64 p2)) (sb + 1) s := hf302.same (by rw [Below.heap_setCell _ _ _ _ (by simp only; omega), Below.heap_setCell _ _ _ _ (by simp only; omega)])
              have hx309 := stored2_other hx303 (by first | exact hne | exact hne.symm) (.int .i64 p1) (.int .i64 p2)
              have cb0 := (Joins.cell_of_block hx304 0).trans rfl
              have cb1 := (Joins.cell_of_block hx304 1).trans rfl
              have fb0 := Joins.unfrozen_of_block hx304 0
              have fb1 := Joins.unfrozen_of_block hx304 1
              obtain ⟨ws305, hww⟩ : ∃ w, (wc299.setCell ⟨b291, 0, none⟩ (.int .i64 p1)).setCell ⟨b291, 1, none⟩ (.int .i64 p2) = w := ⟨_, rfl⟩
              rw [hww] at he307
              rw [hww] at hf308
              rw [hww] at hx309
              rw [hww] at hx306
              go_simp
              try rw [hww]
              clear hww cb0 cb1 fb0 fb1
              refine hK.out _ _ (fun h => absurd (h.symm.trans (show _ = true from by kernel_rfl)) (by decide)) (fun _ => ?_)
              clear hK K
              try simp only [Act.put, List.setIfInBounds_toArray, List.set_cons_zero, List.set_cons_succ]
              refine wpAnyT_ready (rs := [11]) (by kernel_rfl) (by simp) ?_
              refine AllReadyT.cons (o := { dst := none, op := Op.store 40 (Operand.tmp 10) (Operand.tmp 27), type := 0, pos := _, after := #[{ on := 9, ground := Ground.data }, { on := 7, ground := Ground.data }, { on := 10, ground := Ground.chain }, { on := 0, ground := Ground.phase }, { on := 1, ground := Ground.phase }, { on := 2, ground := Ground.phase }, { on := 3, ground := Ground.phase }, { on := 4, ground := Ground.phase }, { on := 5, ground := Ground.phase }, { on := 6, ground := Ground.phase }, { on := 7, ground := Ground.phase }, { on := 8, ground := Ground.phase }, { on := 9, ground := Ground.phase }, { on := 10, ground := Ground.phase }], guard := none }) rfl (fun K hK => ?_) (AllReadyT.nil)
              have hx311 := stored2 hx309 (.int .i64 q1) (.int .i64 q2)
              have he312 := grown_set (grown_set he307 (p := ⟨b256, 0, none⟩) hl259 (.int .i64 q1)) (p := ⟨b256, 1, none⟩) hl259 (.int .i64 q2)
              have hf313 : Found ((ws305.setCell ⟨b256, 0, none⟩ (.int .i64 q1)).setCell ⟨b256, 1, none⟩ (.int .i64 q2)) (sb + 1) s := hf308.same (by rw [Below.heap_setCell _ _ _ _ (by simp only; omega), Below.heap_setCell _ _ _ _ (by simp only; omega)])
              have hx314 := stored2_other hx306 (by first | exact hne | exact hne.symm) (.int .i64 q1) (.int .i64 q2)
              have cb0 := (Joins.cell_of_block hx309 0).trans rfl
              have cb1 := (Joins.cell_of_block hx309 1).trans rfl
              have fb0 := Joins.unfrozen_of_block hx309 0
              have fb1 := Joins.unfrozen_of_block hx309 1
              obtain ⟨ws310, hww⟩ : ∃ w, (ws305.setCell ⟨b256, 0, none⟩ (.int .i64 q1)).setCell ⟨b256, 1, none⟩ (.int .i64 q2) = w := ⟨_, rfl⟩
              rw [hww] at he312
              rw [hww] at hf313
              rw [hww] at hx314
              rw [hww] at hx311
              go_simp
              try rw [hww]
              clear hww cb0 cb1 fb0 fb1
              refine hK.out _ _ (fun h => absurd (h.symm.trans (show _ = true from by kernel_rfl)) (by decide)) (fun _ => ?_)
              clear hK K
              try simp only [Act.put, List.setIfInBounds_toArray, List.set_cons_zero, List.set_cons_succ]
              refine wpAnyT_done (by kernel_rfl) ?_ _
              have hend := Lib.hid (Laid2.mk (mb := sb + 1) (s := s) hx314 hx311 he312 hf313)
              go_wp2_with fail
              go_meet
              exact ⟨b291, b256, rfl, rfl, hend⟩
          · obtain ⟨b315, hbb⟩ : ∃ b, wa257.heap.size = b := ⟨_, rfl⟩
            obtain ⟨wa316, hww⟩ : ∃ w, wa257.alloc (.cells #[.int .i64 0, .int .i64 0] 40) = w := ⟨_, rfl⟩
            have ha319 : Below wa257.heap.size wa257 wa316 := hww ▸ below_alloc wa257 _
            have hx317 : wa316.heap[b315]? = some (.cells #[.int .i64 0, .int .i64 0] 40 (0, 0)) := by rw [← hww, ← hbb]; exact heap_alloc_new _ _
            have he320 := grown_trans he261 (grown_of_below (row := some (sb + 1)) ha319)
            have hl318 : w5.heap.size ≤ b315 := by rw [← hbb]; exact he261.size
            have hx322 := (ha319.block _ (lt_blk hx258)).trans hx258
            have hne : b256 ≠ b315 := by have h9 := lt_blk hx258; omega
            have hf321 : Found wa316 (sb + 1) s := hf262.same (ha319.block _ hf262.lt)
            go_simp
            try rw [hww]
            try rw [hbb]
            clear hww hbb
            refine hK.out _ _ (fun _ => fun p v h => grown_cells he320 hF5 p v h) (fun hH2 => ?_)
            clear hK K
            replace hH := hH2 (by kernel_rfl)
            clear hH2
            try simp only [Act.put, List.setIfInBounds_toArray, List.set_cons_zero, List.set_cons_succ]
            refine wpAnyT_ready (rs := [3]) (by kernel_rfl) (by simp) ?_
            refine AllReadyT.cons (o := { dst := some 23, op := Op.call { callee := Callee.value (Operand.func 11), args := #[Operand.tmp 20, Operand.tmp 22], argTypes := #[38, 3] }, type := 40, pos := _, after := #[{ on := 0, ground := Ground.data }, { on := 2, ground := Ground.data }], guard := none }) rfl (fun K hK => ?_) (AllReadyT.nil)
            go_simp
            refine (HFx.out wa316 he320 hf321).mono ?_
            rintro e wc323 ⟨rfl, hf326, hc324⟩
            have he325 := grown_trans he320 hc324
            have hx327 := (hc324.block _ (lt_blk hx322) (by simp only [Option.some.injEq, ne_eq]; omega)).trans hx322
            have hx328 := (hc324.block _ (lt_blk hx317) (by simp only [Option.some.injEq, ne_eq]; omega)).trans hx317
            refine hK.out _ _ (fun _ => fun p v h => grown_cells he325 hF5 p v h) (fun hH2 => ?_)
            clear hK K
            replace hH := hH2 (by kernel_rfl)
            clear hH2
            try simp only [Act.put, List.setIfInBounds_toArray, List.set_cons_zero, List.set_cons_succ]
            refine wpAnyT_ready (rs := [7]) (by kernel_rfl) (by simp) ?_
            refine AllReadyT.cons (o := { dst := some 27, op := Op.call { callee := Callee.value (Operand.func 11), args := #[Operand.tmp 24, Operand.tmp 26], argTypes := #[38, 3] }, type := 40, pos := _, after := #[{ on := 4, ground := Ground.data }, { on := 6, ground := Ground.data }, { on := 3, ground := Ground.chain }], guard := none }) rfl (fun K hK => ?_) (AllReadyT.nil)
            go_simp
            refine (HFy.out wc323 he325 hf326).mono ?_
            rintro e wc329 ⟨rfl, hf332, hc330⟩
            have he331 := grown_trans he325 hc330
            have hx333 := (hc330.block _ (lt_blk hx327) (by simp only [Option.some.injEq, ne_eq]; omega)).trans hx327
            have hx334 := (hc330.block _ (lt_blk hx328) (by simp only [Option.some.injEq, ne_eq]; omega)).trans hx328
            refine hK.out _ _ (fun _ => fun p v h => grown_cells he331 hF5 p v h) (fun hH2 => ?_)
            clear hK K
            replace hH := hH2 (by kernel_rfl)
            clear hH2
            try simp only [Act.put, List.setIfInBounds_toArray, List.set_cons_zero, List.set_cons_succ]
            refine wpAnyT_ready (rs := [10]) (by kernel_rfl) (by simp) ?_
            refine AllReadyT.cons (o := { dst := none, op := Op.store 40 (Operand.tmp 9) (Operand.tmp 23), type := 0, pos := _, after := #[{ on := 8, ground := Ground.data }, { on := 3, ground := Ground.data }, { on := 7, ground := Ground.chain }, { on := 0, ground := Ground.phase }, { on := 1, ground := Ground.phase }, { on := 2, ground := Ground.phase }, { on := 3, ground := Ground.phase }, { on := 4, ground := Ground.textOnly Departure.lateStores }, { on := 5, ground := Ground.textOnly Departure.lateStores }, { on := 6, ground := Ground.textOnly Departure.lateStores }, { on := 7, ground := Ground.textOnly Departure.lateStoresUnsure }, { on := 8, ground := Ground.phase }, { on := 9, ground := Ground.phase }], guard := none }) rfl (fun K hK => ?_) (AllReadyT.nil)
            have hx336 := stored2 hx334 (.int .i64 p1) (.int .i64 p2)
            have he337 := grown_set (grown_set he331 (p := ⟨b315, 0, none⟩) hl318 (.int .i64 p1)) (p := ⟨b315, 1, none⟩) hl318 (.int .i64 p2)
            have hf338 : Found ((wc329.setCell ⟨b315, 0, none⟩ (.int .i64 p1)).setCell ⟨b315, 1, none⟩ (.int .i64 p2)) (sb + 1) s := hf332.same (by rw [Below.heap_setCell _ _ _ _ (by simp only; omega), Below.heap_setCell _ _ _ _ (by simp only; omega)])
            have hx339 := stored2_other hx333 (by first | exact hne | exact hne.symm) (.int .i64 p1) (.int .i64 p2)
            have cb0 := (Joins.cell_of_block hx334 0).trans rfl
            have cb1 := (Joins.cell_of_block hx334 1).trans rfl
            have fb0 := Joins.unfrozen_of_block hx334 0
            have fb1 := Joins.unfrozen_of_block hx334 1
            obtain ⟨ws335, hww⟩ : ∃ w, (wc329.setCell ⟨b315, 0, none⟩ (.int .i64 p1)).setCell ⟨b315, 1, none⟩ (.int .i64 p2) = w := ⟨_, rfl⟩
            rw [hww] at he337
            rw [hww] at hf338
            rw [hww] at hx339
            rw [hww] at hx336
            go_simp
            try rw [hww]
            clear hww cb0 cb1 fb0 fb1
            refine hK.out _ _ (fun h => absurd (h.symm.trans (show _ = true from by kernel_rfl)) (by decide)) (fun _ => ?_)
            clear hK K
            try simp only [Act.put, List.setIfInBounds_toArray, List.set_cons_zero, List.set_cons_succ]
            refine wpAnyT_ready (rs := [11]) (by kernel_rfl) (by simp) ?_
            refine AllReadyT.cons (o := { dst := none, op := Op.store 40 (Operand.tmp 10) (Operand.tmp 27), type := 0, pos := _, after := #[{ on := 9, ground := Ground.data }, { on := 7, ground := Ground.data }, { on := 10, ground := Ground.chain }, { on := 0, ground := Ground.phase }, { on := 1, ground := Ground.phase }, { on := 2, ground := Ground.phase }, { on := 3, ground := Ground.phase }, { on := 4, ground := Ground.phase }, { on := 5, ground := Ground.phase }, { on := 6, ground := Ground.phase }, { on := 7, ground := Ground.phase }, { on := 8, ground := Ground.phase }, { on := 9, ground := Ground.phase }, { on := 10, ground := Ground.phase }], guard := none }) rfl (fun K hK => ?_) (AllReadyT.nil)
            have hx341 := stored2 hx339 (.int .i64 q1) (.int .i64 q2)
            have he342 := grown_set (grown_set he337 (p := ⟨b256, 0, none⟩) hl259 (.int .i64 q1)) (p := ⟨b256, 1, none⟩) hl259 (.int .i64 q2)
            have hf343 : Found ((ws335.setCell ⟨b256, 0, none⟩ (.int .i64 q1)).setCell ⟨b256, 1, none⟩ (.int .i64 q2)) (sb + 1) s := hf338.same (by rw [Below.heap_setCell _ _ _ _ (by simp only; omega), Below.heap_setCell _ _ _ _ (by simp only; omega)])
            have hx344 := stored2_other hx336 (by first | exact hne | exact hne.symm) (.int .i64 q1) (.int .i64 q2)
            have cb0 := (Joins.cell_of_block hx339 0).trans rfl
            have cb1 := (Joins.cell_of_block hx339 1).trans rfl
            have fb0 := Joins.unfrozen_of_block hx339 0
            have fb1 := Joins.unfrozen_of_block hx339 1
            obtain ⟨ws340, hww⟩ : ∃ w, (ws335.setCell ⟨b256, 0, none⟩ (.int .i64 q1)).setCell ⟨b256, 1, none⟩ (.int .i64 q2) = w := ⟨_, rfl⟩
            rw [hww] at he342
            rw [hww] at hf343
            rw [hww] at hx344
            rw [hww] at hx341
            go_simp
            try rw [hww]
            clear hww cb0 cb1 fb0 fb1
            refine hK.out _ _ (fun h => absurd (h.symm.trans (show _ = true from by kernel_rfl)) (by decide)) (fun _ => ?_)
            clear hK K
            try simp only [Act.put, List.setIfInBounds_toArray, List.set_cons_zero, List.set_cons_succ]
            refine wpAnyT_done (by kernel_rfl) ?_ _
            have hend := Lib.hid (Laid2.mk (mb := sb + 1) (s := s) hx344 hx341 he342 hf343)
            go_wp2_with fail
            go_meet
            exact ⟨b315, b256, rfl, rfl, hend⟩
        -- END R6
      case rest =>
        obtain ⟨c1, c2, rfl, rfl, hend⟩ := hcut
        rename World => w6
        have HE := Lib.hid hend.out
        have hR6 := HR5.out.grown (by rw [HSb.out]; omega) HE.out.gro HE.out.fnd
        have HR6 := Lib.hid hR6
        have u0 := (Joins.cell_of_block HE.out.one 0).trans rfl
        have u1 := (Joins.cell_of_block HE.out.one 1).trans rfl
        have v0 := (Joins.cell_of_block HE.out.two 0).trans rfl
        have v1 := (Joins.cell_of_block HE.out.two 1).trans rfl
        have t0 := grown_cells HE.out.gro HR5.out.fnd _ _ k0
        clear hend hR6 k0 k1 k2 k3 k4 HFx HFy HR5 HMb HE
        go_wp2_with fail
        refine (is_any p1 p2 w6).mono ?_
        rintro e w7 ⟨rfl, hb7⟩
        have HR7 := Lib.hid (HR6.out.below hb7)
        have u0' := at_below hb7 u0
        have u1' := at_below hb7 u1
        have v0' := at_below hb7 v0
        have v1' := at_below hb7 v1
        have t0' := at_below hb7 t0
        clear hb7 u0 u1 v0 v1 t0
        by_cases hA : 0 < p1
        · have d1 : decide (0 < p1) = true := decide_eq_true hA
          rw [d1]
          go_wp2_with fail
          refine (is_any q1 q2 w7).mono ?_
          rintro e w8 ⟨rfl, hb8⟩
          have HR8 := Lib.hid (HR7.out.below hb8)
          have u0 := at_below hb8 u0'
          have u1 := at_below hb8 u1'
          have v0 := at_below hb8 v0'
          have v1 := at_below hb8 v1'
          have t0 := at_below hb8 t0'
          clear hb8 u0' u1' v0' v1' t0' d1
          by_cases hC : 0 < q1
          · have d2 : decide (0 < q1) = true := decide_eq_true hC
            rw [d2]
            have hyes := HY.out hA hC
            have hnew := HMo.out
            rw [hyes] at hnew
            have IA := Lib.hid (fun W hW => ptext p1 p2 (by omega) (by omega) (by omega) (by omega) W hW)
            have IC := Lib.hid (fun W hW => ptext q1 q2 (by omega) (by omega) (by omega) (by omega) W hW)
            have sA := ptxt_size p1 p2 (by omega) (by omega) (by omega) (by omega)
            have sC := ptxt_size q1 q2 (by omega) (by omega) (by omega) (by omega)
            have sW := word_size xc
            have IW := Lib.hid (fun W => text_any xc W)
            have HP8 := Lib.hid (fun W hW => HPw.out W (below_from HR8.out.bel hW))
            obtain ⟨TA, hTA⟩ : ∃ T, ptxt p1 p2 = T := ⟨_, rfl⟩
            obtain ⟨TC, hTC⟩ : ∃ T, ptxt q1 q2 = T := ⟨_, rfl⟩
            obtain ⟨TW, hTW⟩ : ∃ T, word xc = T := ⟨_, rfl⟩
            rw [hTA] at IA sA hnew
            rw [hTC] at IC sC hnew
            rw [hTW] at IW sW hnew
            have HNw := Lib.hid hnew
            have e1 : (⟨#[32]⟩ : ByteArray).size = 1 := rfl
            have e2 : (⟨#[10]⟩ : ByteArray).size = 1 := rfl
            have g1 : ¬ (9223372036854775807 < TA.size + 1) := by omega
            have g2 : ¬ (9223372036854775807 < TA.size + 1 + TC.size) := by omega
            have g3 : ¬ (9223372036854775807 < TA.size + 1 + TC.size + 1) := by omega
            have g4 : ¬ (9223372036854775807 < TA.size + 1 + TC.size + 1 + TW.size) := by omega
            have g5 : ¬ (9223372036854775807 < TA.size + 1 + TC.size + 1 + TW.size + 1) := by omega
            have HLn := Lib.hid (show ((((((TA ++ (⟨#[32]⟩ : ByteArray)) ++ TC) ++ (⟨#[32]⟩ : ByteArray)) ++ TW) ++ (⟨#[10]⟩ : ByteArray)) : ByteArray).size ≤ 1000 by simp only [ByteArray.size_append, e1, e2]; omega)
            have HW8 := Lib.hid (fun wz (hz : Below w8.heap.size w8 wz) => by
              have hRz := HR8.out.below hz
              exact bWriteString w.heap.size w.heap.size (rlL s (l.take i)) (((((TA ++ (⟨#[32]⟩ : ByteArray)) ++ TC) ++ (⟨#[32]⟩ : ByteArray)) ++ TW) ++ (⟨#[10]⟩ : ByteArray)) wz hRz.bld (by have h1 := HOs.out; have h2 := HLn.out; omega) hRz.bel.size)
            rw [HSb.out] at HW8
            clear hyes hnew hTA hTC hTW hA hC b1 b2 sA sC sW
            go_wp2_with fail
            -- GEN R8
            refine wp_region_J (fun wx => Below w8.heap.size w8 wx) 12 (by kernel_rfl) (Below.refl w8.heap.size w8).drew ?_
            refine wpAnyJ_take [12, 9, 4, 1] (i := 0) (oi := { dst := some 34, op := Op.load 40 (Operand.tmp 9), type := 40, pos := _, after := #[], guard := none }) (v := .agg #[.int .i64 p1, .int .i64 p2]) rfl (by kernel_rfl) (by kernel_rfl) (by kernel_rfl) (by kernel_rfl) (by kernel_rfl) (Or.inl ⟨rfl, fun W hW => ?_⟩) ?_
            · refine RunI.of_run ?_ hW; have a0 := at_below hW u0; have a1 := at_below hW u1; have a2 := at_below hW v0; have a3 := at_below hW v1; have a4 := at_below hW t0; go_simp
            try simp only [Act.put, List.setIfInBounds_toArray, List.set_cons_zero, List.set_cons_succ]
            refine wpAnyJ_take [12, 9, 4] (i := 1) (oi := { dst := some 35, op := Op.call { callee := Callee.value (Operand.func 14), args := #[Operand.tmp 34], argTypes := #[40] }, type := 9, pos := _, after := #[{ on := 0, ground := Ground.data }], guard := none }) (v := .string TA) rfl (by kernel_rfl) (by kernel_rfl) (by kernel_rfl) (by kernel_rfl) (by kernel_rfl) (Or.inl ⟨rfl, fun W hW => ?_⟩) ?_
            · refine RunI.of_call (w' := W) (f := 14) (args := #[.agg #[.int .i64 p1, .int .i64 p2]]) ?_ ?_
              · go_simp
              · refine (IA.out W (HP8.out W hW)).mono ?_
                rintro e w3 ⟨rfl, h9⟩
                exact ⟨rfl, below_from hW h9⟩
            try simp only [Act.put, List.setIfInBounds_toArray, List.set_cons_zero, List.set_cons_succ]
            refine wpAnyJ_take [12, 11, 10, 6, 5] (i := 2) (oi := { dst := some 36, op := Op.binOp BinOp.add 9 (Operand.tmp 35) (Operand.const (Value.string { data := #[32] })) 9, type := 9, pos := _, after := #[{ on := 1, ground := Ground.data }], guard := none }) (v := .string (TA ++ (⟨#[32]⟩ : ByteArray))) rfl (by kernel_rfl) (by kernel_rfl) (by kernel_rfl) (by kernel_rfl) (by kernel_rfl) (Or.inl ⟨rfl, fun W hW => ?_⟩) ?_
            · refine RunI.of_run ?_ hW; go_simp
            try simp only [Act.put, List.setIfInBounds_toArray, List.set_cons_zero, List.set_cons_succ]
            refine wpAnyJ_take [12, 9, 4] (i := 3) (oi := { dst := some 37, op := Op.load 40 (Operand.tmp 10), type := 40, pos := _, after := #[], guard := none }) (v := .agg #[.int .i64 q1, .int .i64 q2]) rfl (by kernel_rfl) (by kernel_rfl) (by kernel_rfl) (by kernel_rfl) (by kernel_rfl) (Or.inl ⟨rfl, fun W hW => ?_⟩) ?_
            · refine RunI.of_run ?_ hW; have a0 := at_below hW u0; have a1 := at_below hW u1; have a2 := at_below hW v0; have a3 := at_below hW v1; have a4 := at_below hW t0; go_simp
            try simp only [Act.put, List.setIfInBounds_toArray, List.set_cons_zero, List.set_cons_succ]
            refine wpAnyJ_take [12, 9] (i := 4) (oi := { dst := some 38, op := Op.call { callee := Callee.value (Operand.func 14), args := #[Operand.tmp 37], argTypes := #[40] }, type := 9, pos := _, after := #[{ on := 3, ground := Ground.data }, { on := 1, ground := Ground.chain }], guard := none }) (v := .string TC) rfl (by kernel_rfl) (by kernel_rfl) (by kernel_rfl) (by kernel_rfl) (by kernel_rfl) (Or.inl ⟨rfl, fun W hW => ?_⟩) ?_
            · refine RunI.of_call (w' := W) (f := 14) (args := #[.agg #[.int .i64 q1, .int .i64 q2]]) ?_ ?_
              · go_simp
              · refine (IC.out W (HP8.out W hW)).mono ?_
                rintro e w3 ⟨rfl, h9⟩
                exact ⟨rfl, below_from hW h9⟩
            try simp only [Act.put, List.setIfInBounds_toArray, List.set_cons_zero, List.set_cons_succ]
            refine wpAnyJ_take [12, 11, 10, 6] (i := 5) (oi := { dst := some 39, op := Op.binOp BinOp.add 9 (Operand.tmp 36) (Operand.tmp 38) 9, type := 9, pos := _, after := #[{ on := 2, ground := Ground.data }, { on := 4, ground := Ground.data }], guard := none }) (v := .string ((TA ++ (⟨#[32]⟩ : ByteArray)) ++ TC)) rfl (by kernel_rfl) (by kernel_rfl) (by kernel_rfl) (by kernel_rfl) (by kernel_rfl) (Or.inl ⟨rfl, fun W hW => ?_⟩) ?_
            · refine RunI.of_run ?_ hW; go_simp
            try simp only [Act.put, List.setIfInBounds_toArray, List.set_cons_zero, List.set_cons_succ]
            refine wpAnyJ_take [12, 11, 10] (i := 6) (oi := { dst := some 40, op := Op.binOp BinOp.add 9 (Operand.tmp 39) (Operand.const (Value.string { data := #[32] })) 9, type := 9, pos := _, after := #[{ on := 5, ground := Ground.data }], guard := none }) (v := .string (((TA ++ (⟨#[32]⟩ : ByteArray)) ++ TC) ++ (⟨#[32]⟩ : ByteArray))) rfl (by kernel_rfl) (by kernel_rfl) (by kernel_rfl) (by kernel_rfl) (by kernel_rfl) (Or.inl ⟨rfl, fun W hW => ?_⟩) ?_
            · refine RunI.of_run ?_ hW; go_simp
            try simp only [Act.put, List.setIfInBounds_toArray, List.set_cons_zero, List.set_cons_succ]
            refine wpAnyJ_take [12, 9, 8] (i := 7) (oi := { dst := some 41, op := Op.fieldAddr 31 (Operand.tmp 8) 0, type := 0, pos := _, after := #[], guard := none }) (v := .pointer (some ⟨bn, 0, none⟩)) rfl (by kernel_rfl) (by kernel_rfl) (by kernel_rfl) (by kernel_rfl) (by kernel_rfl) (Or.inl ⟨rfl, fun W hW => ?_⟩) ?_
            · refine RunI.of_run ?_ hW; go_simp
            try simp only [Act.put, List.setIfInBounds_toArray, List.set_cons_zero, List.set_cons_succ]
            refine wpAnyJ_take [12, 9] (i := 8) (oi := { dst := some 42, op := Op.load 3 (Operand.tmp 41), type := 3, pos := _, after := #[{ on := 7, ground := Ground.data }], guard := none }) (v := .int .i64 xc) rfl (by kernel_rfl) (by kernel_rfl) (by kernel_rfl) (by kernel_rfl) (by kernel_rfl) (Or.inl ⟨rfl, fun W hW => ?_⟩) ?_
            · refine RunI.of_run ?_ hW; have a0 := at_below hW u0; have a1 := at_below hW u1; have a2 := at_below hW v0; have a3 := at_below hW v1; have a4 := at_below hW t0; go_simp
            try simp only [Act.put, List.setIfInBounds_toArray, List.set_cons_zero, List.set_cons_succ]
            refine wpAnyJ_take [12] (i := 9) (oi := { dst := some 43, op := Op.call { callee := Callee.value (Operand.func 6), args := #[Operand.tmp 42], argTypes := #[3] }, type := 9, pos := _, after := #[{ on := 8, ground := Ground.data }, { on := 4, ground := Ground.chain }], guard := none }) (v := .string TW) rfl (by kernel_rfl) (by kernel_rfl) (by kernel_rfl) (by kernel_rfl) (by kernel_rfl) (Or.inl ⟨rfl, fun W hW => ?_⟩) ?_
            · refine RunI.of_call (w' := W) (f := 6) (args := #[.int .i64 xc]) ?_ ?_
              · go_simp
              · refine (IW.out W).mono ?_
                rintro e w3 ⟨rfl, rfl⟩
                exact ⟨rfl, hW⟩
            try simp only [Act.put, List.setIfInBounds_toArray, List.set_cons_zero, List.set_cons_succ]
            refine wpAnyJ_take [12, 11] (i := 10) (oi := { dst := some 44, op := Op.binOp BinOp.add 9 (Operand.tmp 40) (Operand.tmp 43) 9, type := 9, pos := _, after := #[{ on := 6, ground := Ground.data }, { on := 9, ground := Ground.data }], guard := none }) (v := .string ((((TA ++ (⟨#[32]⟩ : ByteArray)) ++ TC) ++ (⟨#[32]⟩ : ByteArray)) ++ TW)) rfl (by kernel_rfl) (by kernel_rfl) (by kernel_rfl) (by kernel_rfl) (by kernel_rfl) (Or.inl ⟨rfl, fun W hW => ?_⟩) ?_
            · refine RunI.of_run ?_ hW; go_simp
            try simp only [Act.put, List.setIfInBounds_toArray, List.set_cons_zero, List.set_cons_succ]
            refine wpAnyJ_take [12] (i := 11) (oi := { dst := some 45, op := Op.binOp BinOp.add 9 (Operand.tmp 44) (Operand.const (Value.string { data := #[10] })) 9, type := 9, pos := _, after := #[{ on := 10, ground := Ground.data }], guard := none }) (v := .string (((((TA ++ (⟨#[32]⟩ : ByteArray)) ++ TC) ++ (⟨#[32]⟩ : ByteArray)) ++ TW) ++ (⟨#[10]⟩ : ByteArray))) rfl (by kernel_rfl) (by kernel_rfl) (by kernel_rfl) (by kernel_rfl) (by kernel_rfl) (Or.inl ⟨rfl, fun W hW => ?_⟩) ?_
            · refine RunI.of_run ?_ hW; go_simp
            try simp only [Act.put, List.setIfInBounds_toArray, List.set_cons_zero, List.set_cons_succ]
            refine wpAnyJ_stop (by kernel_rfl) (fun wz hz => ?_)
            refine wpAny_of_T (C := fun _ => True) (st := 12) _ _ _ _ ?_
            refine wpAnyT_ready (rs := [12]) (by kernel_rfl) (by simp) ?_
            refine AllReadyT.cons (o := { dst := some 46, op := Op.call { callee := Callee.value (Operand.func 13), args := #[Operand.tmp 5, Operand.tmp 45], argTypes := #[35, 9] }, type := 44, pos := _, after := #[{ on := 11, ground := Ground.data }, { on := 9, ground := Ground.chain }], guard := none }) rfl (fun K hK => ?_) (AllReadyT.nil)
            go_simp
            refine (HW8.out wz hz).mono ?_
            rintro e w9 ⟨rfl, hB9, hb9, ho9⟩
            have HR9 := Lib.hid (show RS w s (sb + 1) (sb + 2) tv (rlL s (l.take (i + 1))) w9 by rw [HNw.out]; exact (HR8.out.below hz).wrote (by rw [HSb.out]; omega) (by rw [HSb.out]; exact hB9) (by rw [HSb.out]; exact hb9) (by rw [HSb.out]; exact ho9))
            clear hB9 hb9 ho9
            refine hK.out _ _ (fun h => absurd (h.symm.trans (show _ = true from by kernel_rfl)) (by decide)) (fun _ => ?_)
            clear hK K
            try simp only [Act.put, List.setIfInBounds_toArray, List.set_cons_zero, List.set_cons_succ]
            refine wpAnyT_done (by kernel_rfl) ?_ _
            -- END R8
            clear u0 u1 v0 v1 t0 hz
            go_wp2_with fail
            go_roundw
            case rel => exact ⟨i + 1, by go_num, by omega, HR9⟩
            case measure => simp [intOf]; omega
          · have d2 : decide (0 < q1) = false := decide_eq_false hC
            rw [d2]
            have HRn := Lib.hid (show RS w s (sb + 1) (sb + 2) tv (rlL s (l.take (i + 1))) w8 by rw [HMo.out, HNo.out (by omega)]; simpa using HR8.out)
            clear u0 u1 v0 v1 t0 hC b2
            go_wp2_with fail
            go_roundw
            case rel => exact ⟨i + 1, by go_num, by omega, HRn⟩
            case measure => simp [intOf]; omega
        · have d1 : decide (0 < p1) = false := decide_eq_false hA
          rw [d1]
          have HRn := Lib.hid (show RS w s (sb + 1) (sb + 2) tv (rlL s (l.take (i + 1))) w7 by rw [HMo.out, HNo.out (by omega)]; simpa using HR7.out)
          clear u0' u1' v0' v1' t0' hA b1
          go_wp2_with fail
          go_roundw
          case rel => exact ⟨i + 1, by go_num, by omega, HRn⟩
          case measure => simp [intOf]; omega
    · obtain rfl : i = n := by omega
      have ii : ¬ ((i : Int) < (i : Int)) := by omega
      have HS := Lib.hid (bString w.heap.size w.heap.size (rlL s (l.take i)) wr HR.out.bld HR.out.bel.size)
      rw [HSb.out] at HS
      clear hlt
      go_wp2_with fail
      refine HS.out.mono ?_
      rintro e w9 ⟨rfl, hb9⟩
      have HD := Lib.hid (HQ.out w9 (HR.out.bel.trans (by rw [HSb.out]; exact hb9)))
      clear hb9
      go_wp2_with fail
      try simp only [Exit.jump]
      first | exact HD.out | (go_ret; exact HD.out)
end Go.Proofs.YtdngcihjfbmbpaaDoor.Zm
