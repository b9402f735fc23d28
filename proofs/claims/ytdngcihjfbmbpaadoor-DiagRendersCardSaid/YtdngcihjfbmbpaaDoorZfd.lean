/- package diag: places of a text, found once (finder.find, over a map); whether there is one. -/
import Derived.Test.YtdngcihjfbmbpaaDoorPlz
import Derived.Test.YtdngcihjfbmbpaaDoorZmp
import Derived.Test.YtdngcihjfbmbpaaDoorZdb
import Derived.Test.YtdngcihjfbmbpaaDoorZow
import Derived.Deep.DeepCutAuto
import Derived.Deep.CutBlock
import Derived.Deep.DeepMust
import Derived.BigQuiet
namespace Go.Proofs.YtdngcihjfbmbpaaDoor.Zm
open Go.RowKit
open Go.Proofs.YtdngcihjfbmbpaaDoor.Sq
open Go.Proofs.YtdngcihjfbmbpaaDoor.Mp
open Go.Maps (Keyed)
set_option linter.unusedVariables false

theorem lawI : Keyed Tryd.prog 3 := Go.Maps.int_keyed Tryd.underlying3
theorem keyI (x : Int) (h : (Lit.int .i64 x).wf = true) : keyOf Tryd.prog 3 (.int .i64 x) = some (.int .i64 x) := Go.Maps.keyOf_int_mk Tryd.underlying3 h
theorem zeroP (w : World) : (zeroValue 40).run Tryd.prog w = .ok (.agg #[.int .i64 0, .int .i64 0]) w := by kernel_rfl
/-- A place as a value. -/
abbrev pv (s : ByteArray) (x : Int) : Value := .agg #[.int .i64 (pl s x).1, .int .i64 (pl s x).2]
/-- The block mb is a map of places of s that were found. -/
def Found (w : World) (mb : Nat) (s : ByteArray) : Prop := ∃ n f, MapOf Tryd.prog 3 w mb n f ∧ ∀ x : Int, f (.int .i64 x) = none ∨ f (.int .i64 x) = some (pv s x)
theorem Found.same {w w' : World} {mb : Nat} {s : ByteArray} (h : Found w mb s) (hb : w'.heap[mb]? = w.heap[mb]?) : Found w' mb s := by
  obtain ⟨n, f, h1, h2⟩ := h
  exact ⟨n, f, h1.same hb, h2⟩
theorem Found.lt {w : World} {mb : Nat} {s : ByteArray} (h : Found w mb s) : mb < w.heap.size := by
  obtain ⟨n, f, h1, h2⟩ := h
  exact h1.lt
theorem found_made (w : World) (s : ByteArray) : Found (w.alloc (.map #[] 0)) w.heap.size s := ⟨_, _, MapOf.made w _ _, fun _ => .inl rfl⟩
/-- Looked up: there with its place, or not there. -/
theorem Found.look {w : World} {mb : Nat} {s : ByteArray} (h : Found w mb s) (x : Int) (hx : (Lit.int .i64 x).wf = true) :
    (Instr.lookup 36 (.map (some mb)) (.int .i64 x) true).run Tryd.prog w = .ok (.tuple #[pv s x, .bool true]) w ∨ (Instr.lookup 36 (.map (some mb)) (.int .i64 x) true).run Tryd.prog w = .ok (.tuple #[.agg #[.int .i64 0, .int .i64 0], .bool false]) w := by
  obtain ⟨n, f, h1, h2⟩ := h
  have h3 := h1.look true lawI Tryd.underlying36 (zeroP w) (keyI x hx)
  rcases h2 x with h4 | h4
  · rw [h4] at h3; exact .inr h3
  · rw [h4] at h3; exact .inl h3
/-- Written. -/
theorem Found.put {w : World} {mb : Nat} {s : ByteArray} (h : Found w mb s) (x : Int) (hx : (Lit.int .i64 x).wf = true) :
    ∃ w', (Instr.mapUpdate 36 (.map (some mb)) (.int .i64 x) (pv s x)).run Tryd.prog w = .ok () w' ∧ Found w' mb s ∧ w.grownBy w' (some mb) := by
  obtain ⟨n, f, h1, h2⟩ := h
  obtain ⟨w', h3, h4, h5⟩ := h1.put lawI Tryd.underlying36 (keyI x hx) (pv s x)
  refine ⟨w', h3, ⟨_, _, h4, fun y => ?_⟩, h5⟩
  by_cases hy : y = x
  · subst hy; exact .inr (upd_same _ _ _)
  · rw [upd_other _ _ (fun e => hy (by injection e))]; exact h2 y
theorem grown_of_below {w w' : World} {row : Option Nat} (h : Below w.heap.size w w') : w.grownBy w' row := ⟨h.os, h.tape, h.output, h.size, fun k hk _ => h.block k hk⟩
theorem grown_trans {a b c : World} {mb : Nat} (h : a.grownBy b (some mb)) (g : b.grownBy c (some mb)) : a.grownBy c (some mb) :=
  ⟨g.os.trans h.os, g.tape.trans h.tape, g.output.trans h.output, Nat.le_trans h.size g.size, fun k hk hne => (g.block k (Nat.lt_of_lt_of_le hk h.size) hne).trans (h.block k hk hne)⟩
theorem grown_set {a b : World} {mb : Nat} (h : a.grownBy b (some mb)) {p : Addr} (hp : a.heap.size ≤ p.block) (v : Value) : a.grownBy (b.setCell p v) (some mb) :=
  ⟨h.os, h.tape, h.output, by simpa using h.size, fun k hk hne => by rw [Below.heap_setCell _ _ _ _ (by omega)]; exact h.block k hk hne⟩
theorem wpList_put {w : World} {ops : Array Oper} {rest : List Oper} {o : Oper} {a : Act} {Q : Exit → Act → World → Prop} {P : Program} {t : TypeId} (hg : o.guard = none) (m x v : Operand) (hop : o.op = Op.mapUpdate t m x v)
    (mv xv vv : Value) (w' : World) (hm : a.eval m = mv) (hx : a.eval x = xv) (hv : a.eval v = vv) (hrun : (Instr.mapUpdate t mv xv vv).run P w = .ok () w') (hK : wpList P ops Q rest (a.put o.dst undef) w') : wpList P ops Q (o :: rest) a w := by
  refine wpList_plain hg fun K' hK' => ?_
  unfold Oper.wp
  simp [execOp, hop, hm, hx, hv, hrun, Result.andThen]
  exact hK' _ _ hK
theorem is_any (a b : Int) (w : World) : Calls Tryd.prog 12 #[.agg #[.int .i64 a, .int .i64 b]] w fun e w' => e = .returned (.bool (decide (0 < a))) ∧ Below w.heap.size w w' := by
  go_enter Tryd.func12, Tryd.ntmps12
  go_wp2
  go_ret
  exact ⟨rfl, below_alloc w _⟩
set_option maxHeartbeats 2000000 in
set_option maxRecDepth 100000 in
theorem find_any (s : ByteArray) (a : Option Addr) (cap mb : Nat) (x : Int) (w : World) (h : Bys w (.slice a s.size cap) s) (hT : Tabs w) (hm : s.size ≤ 1000000) (hx : (Lit.int .i64 x).wf = true) (hF : Found w mb s) :
    Calls Tryd.prog 11 #[.agg #[.slice a s.size cap, .map (some mb)], .int .i64 x] w fun e w' => e = .returned (pv s x) ∧ Found w' mb s ∧ w.grownBy w' (some mb) := by
  obtain ⟨P1, hP1⟩ : ∃ p, (pl s x).1 = p := ⟨_, rfl⟩
  obtain ⟨P2, hP2⟩ : ∃ p, (pl s x).2 = p := ⟨_, rfl⟩
  obtain ⟨fb, hfb⟩ : ∃ b, w.heap.size = b := ⟨_, rfl⟩
  obtain ⟨wa, hwa⟩ : ∃ wa, (w.alloc (.cells #[.slice a s.size cap, .map (some mb)] 38)).alloc (.cells #[.int .i64 0, .int .i64 0] 40) = wa := ⟨_, rfl⟩
  have hba : Below w.heap.size w wa := hwa ▸ below_allocS (below_alloc w _) _
  have hmb := hF.lt
  have hFa : Found wa mb s := hF.same (hba.block mb hmb)
  have c0 : wa.cell? ⟨fb, 0, none⟩ = some (.slice a s.size cap) := by rw [← hwa, ← hfb]; exact at_alloc (at_new rfl)
  have c1 : wa.cell? ⟨fb, 1, none⟩ = some (.map (some mb)) := by rw [← hwa, ← hfb]; exact at_alloc (at_new rfl)
  have hsz : wa.heap.size = fb + 2 := by rw [← hwa, ← hfb, size_alloc, size_alloc]
  have d0 : wa.cell? ⟨fb + 1, 0, none⟩ = some (.int .i64 0) := by
    rw [← hwa, ← hfb, ← size_alloc w (.cells #[.slice a s.size cap, .map (some mb)] 38)]; exact at_new rfl
  have d1 : wa.cell? ⟨fb + 1, 1, none⟩ = some (.int .i64 0) := by
    rw [← hwa, ← hfb, ← size_alloc w (.cells #[.slice a s.size cap, .map (some mb)] 38)]; exact at_new rfl
  have z0 : wa.frozen? ⟨fb + 1, 0, none⟩ = false := by
    rw [← hwa, ← hfb, ← size_alloc w (.cells #[.slice a s.size cap, .map (some mb)] 38)]; exact World.frozen?_alloc_new _ _ _ _
  have z1 : wa.frozen? ⟨fb + 1, 1, none⟩ = false := by
    rw [← hwa, ← hfb, ← size_alloc w (.cells #[.slice a s.size cap, .map (some mb)] 38)]; exact World.frozen?_alloc_new _ _ _ _
  have HFa := Lib.hid hFa
  have HBa := Lib.hid hba
  have HTa := Lib.hid hT
  have HS := Lib.hid h
  have HM := Lib.hid (show mb < fb from by rw [← hfb]; exact hmb)
  have HFb := Lib.hid hfb
  have HSz := Lib.hid hsz
  have HWx := Lib.hid hx
  have HPl := Lib.hid (show pl s x = (P1, P2) from by rw [← hP1, ← hP2])
  have HMm := Lib.hid hm
  have hlk := hFa.look x hx
  unfold pv at hlk ⊢
  rw [hP1, hP2] at hlk ⊢
  go_enter Tryd.func11, Tryd.ntmps11
  go_upto_region 1 with fail
  have q0 : Here wa (fb + 1) 0 (.int .i64 0) := ⟨d0, z0⟩
  have q1 : Here wa (fb + 1) 1 (.int .i64 0) := ⟨d1, z1⟩
  clear hwa hba hFa hT h hmb hfb hsz hx hP1 hP2 hF hm d0 d1 z0 z1
  rcases hlk with hlk | hlk
  · go_upto_region 5 with fail
    obtain ⟨wb, hwb⟩ : ∃ wb, wa.alloc (.cells #[.int .i64 P1, .int .i64 P2] 40) = wb := ⟨_, rfl⟩
    have hbb : Below wa.heap.size wa wb := hwb ▸ below_alloc wa _
    obtain ⟨d0, z0⟩ := here_below hbb q0
    obtain ⟨d1, z1⟩ := here_below hbb q1
    have p0 : wb.cell? ⟨wa.heap.size, 0, none⟩ = some (.int .i64 P1) := by rw [← hwb]; exact at_new rfl
    have p1 : wb.cell? ⟨wa.heap.size, 1, none⟩ = some (.int .i64 P2) := by rw [← hwb]; exact at_new rfl
    have HBb := Lib.hid hbb
    have HWb := Lib.hid hwb
    rw [hwb]
    clear hwb hbb hlk q0 q1 c0 c1
    go_wp2
    have hF2 : Found ((wb.setCell ⟨fb + 1, 0, none⟩ (.int .i64 P1)).setCell ⟨fb + 1, 1, none⟩ (.int .i64 P2)) mb s := (HFa.out.same (HBb.out.block mb HFa.out.lt)).same (by
      rw [Below.heap_setCell _ _ _ _ (by have := HM.out; simp only; omega), Below.heap_setCell _ _ _ _ (by have := HM.out; simp only; omega)])
    have hG2 : w.grownBy ((wb.setCell ⟨fb + 1, 0, none⟩ (.int .i64 P1)).setCell ⟨fb + 1, 1, none⟩ (.int .i64 P2)) (some mb) :=
      grown_set (grown_set (grown_of_below (below_from HBa.out HBb.out)) (by rw [HFb.out]; simp only; omega) _) (by rw [HFb.out]; simp only; omega) _
    refine bodyPost_ret (v := .agg #[.int .i64 P1, .int .i64 P2]) ?_ rfl ⟨rfl, hF2, hG2⟩
    simp [results, Tryd.results11, go_sem, d0, d1, cell_set_off, cell_set_eq]
  · go_upto_region 3 with fail
    obtain ⟨wb, hwb⟩ : ∃ wb, wa.alloc (.cells #[.int .i64 0, .int .i64 0] 40) = wb := ⟨_, rfl⟩
    obtain ⟨pb, hpb⟩ : ∃ pb, wa.heap.size = pb := ⟨_, rfl⟩
    have hbb : Below wa.heap.size wa wb := hwb ▸ below_alloc wa _
    have r0 : Here wb pb 0 (.int .i64 0) := by rw [← hwb]; exact here_new hpb.symm rfl
    have r1 : Here wb pb 1 (.int .i64 0) := by rw [← hwb]; exact here_new hpb.symm rfl
    have q2 := here_below hbb q0
    have q3 := here_below hbb q1
    have k0 := at_below hbb c0
    have k1 := at_below hbb c1
    have HBb := Lib.hid hbb
    have HPb := Lib.hid hpb
    have HLp := Lib.hid (fun W (hW : Below wb.heap.size wb W) => lnPlace s a cap x W (HS.out.below (below_from HBa.out (below_from HBb.out hW))) (HTa.out.below (below_from HBa.out (below_from HBb.out hW))) HMm.out)
    have hpf : fb + 2 ≤ pb := by rw [← hpb, HSz.out]; exact Nat.le_refl _
    rw [hwb, hpb]
    clear hwb hbb hlk q0 q1 c0 c1 hpb
    go_wp2_with fail
    refine (HLp.out wb (Below.refl _ _)).mono ?_
    rintro e w3 ⟨rfl, hb3⟩
    obtain ⟨d0, z0⟩ := here_below hb3 q2
    obtain ⟨d1, z1⟩ := here_below hb3 q3
    obtain ⟨p0, y0⟩ := here_below hb3 r0
    obtain ⟨p1, y1⟩ := here_below hb3 r1
    have k2 := at_below hb3 k0
    have k3 := at_below hb3 k1
    rw [HPl.out]
    dsimp only
    have HB3 := Lib.hid (below_from HBb.out hb3)
    have hF3 := HFa.out.same (HB3.out.block mb HFa.out.lt)
    have hmb := HM.out
    obtain ⟨w4, hw4⟩ : ∃ w4, (w3.setCell ⟨pb, 0, none⟩ (.int .i64 P1)).setCell ⟨pb, 1, none⟩ (.int .i64 P2) = w4 := ⟨_, rfl⟩
    have hF4 : Found w4 mb s := hF3.same (by rw [← hw4, Below.heap_setCell _ _ _ _ (by simp only; omega), Below.heap_setCell _ _ _ _ (by simp only; omega)])
    have hG4 : w.grownBy w4 (some mb) := by
      rw [← hw4]
      exact grown_set (grown_set (grown_of_below (below_from HBa.out HB3.out)) (by rw [HFb.out]; simp only; omega) _) (by rw [HFb.out]; simp only; omega) _
    obtain ⟨w5, hr5, hF5, hG5⟩ := hF4.put x HWx.out
    have hne : pb ≠ fb + 1 := by omega
    have hne2 : pb ≠ fb := by omega
    have a0 : w4.cell? ⟨pb, 0, none⟩ = some (.int .i64 P1) := by rw [← hw4]; exact at_off (by decide) (at_set (by rw [p0]; rfl))
    have a1 : w4.cell? ⟨pb, 1, none⟩ = some (.int .i64 P2) := by rw [← hw4]; exact at_set (there_set (by rw [p1]; rfl))
    have a2 : w4.cell? ⟨fb, 1, none⟩ = some (.map (some mb)) := by rw [← hw4]; exact at_far hne2 (at_far hne2 k3)
    have HF5 := Lib.hid hF5
    have HG5 := Lib.hid (grown_trans hG4 hG5)
    have hk5 : ∀ o u, w3.cell? ⟨fb + 1, o, none⟩ = some u → w5.cell? ⟨fb + 1, o, none⟩ = some u := fun o u hu => by
      have h4 : w4.cell? ⟨fb + 1, o, none⟩ = some u := by rw [← hw4]; exact at_far hne (at_far hne hu)
      exact (World.cell?_of_block (a := ⟨fb + 1, o, none⟩) (hG5.block _ (lt_of_cell h4) (by simp only [Option.some.injEq, ne_eq]; omega))).trans h4
    have hz5 : ∀ o u, w3.cell? ⟨fb + 1, o, none⟩ = some u → w3.frozen? ⟨fb + 1, o, none⟩ = false → w5.frozen? ⟨fb + 1, o, none⟩ = false := fun o u hu hz => by
      have h4 : w4.cell? ⟨fb + 1, o, none⟩ = some u := by rw [← hw4]; exact at_far hne (at_far hne hu)
      rw [World.frozen?_of_block (a := ⟨fb + 1, o, none⟩) (hG5.block _ (lt_of_cell h4) (by simp only [Option.some.injEq, ne_eq]; omega)), ← hw4, World.frozen?_setCell, World.frozen?_setCell]
      exact hz
    have b0 := hk5 0 _ d0
    have b1 := hk5 1 _ d1
    have x0 := hz5 0 _ d0 z0
    have x1 := hz5 1 _ d1 z1
    have a3 : w5.cell? ⟨pb, 0, none⟩ = some (.int .i64 P1) := (World.cell?_of_block (a := ⟨pb, 0, none⟩) (hG5.block _ (lt_of_cell a0) (by simp only [Option.some.injEq, ne_eq]; omega))).trans a0
    have a4 : w5.cell? ⟨pb, 1, none⟩ = some (.int .i64 P2) := (World.cell?_of_block (a := ⟨pb, 1, none⟩) (hG5.block _ (lt_of_cell a1) (by simp only [Option.some.injEq, ne_eq]; omega))).trans a1
    have HR5 := Lib.hid hr5
    have HW4 := Lib.hid hw4
    clear hF3 hF4 hG4 hF5 hG5 hk5 hz5 d0 d1 z0 z1 hb3 HLp q2 q3 r0 r1 k0 k1 hr5 hw4
    go_upto_region 4 with fail
    rw [HW4.out]
    clear p0 p1 y0 y1 k2 k3
    have hpl := HPl.out
    have hr5 := HR5.out
    unfold pv at hr5
    rw [hpl] at hr5
    dsimp only at hr5
    go_wp2_with (at_mapUpdate; refine wpList_put rfl _ _ _ rfl _ _ _ w5 rfl rfl rfl hr5 ?_)
    clear a0 a1 a2 hr5
    go_wp2
    have hF6 : Found ((w5.setCell ⟨fb + 1, 0, none⟩ (.int .i64 P1)).setCell ⟨fb + 1, 1, none⟩ (.int .i64 P2)) mb s := HF5.out.same (by
      rw [Below.heap_setCell _ _ _ _ (by simp only; omega), Below.heap_setCell _ _ _ _ (by simp only; omega)])
    have hG6 : w.grownBy ((w5.setCell ⟨fb + 1, 0, none⟩ (.int .i64 P1)).setCell ⟨fb + 1, 1, none⟩ (.int .i64 P2)) (some mb) :=
      grown_set (grown_set HG5.out (by rw [HFb.out]; simp only; omega) _) (by rw [HFb.out]; simp only; omega) _
    refine bodyPost_ret (v := .agg #[.int .i64 P1, .int .i64 P2]) ?_ rfl ⟨rfl, hF6, hG6⟩
    simp [results, Tryd.results11, go_sem, b0, b1, cell_set_off, cell_set_eq]
end Go.Proofs.YtdngcihjfbmbpaaDoor.Zm
