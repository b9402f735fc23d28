/- Package arena: changed. -/
import Derived.Test.YtmlpaafclobgcaaAq6
import Derived.Test.YtmlpaafclobgcaaQt
namespace Go.Proofs.Ytmlpaafclobgcaa
open Go.RowKit
open Go.Proofs.Ytmlpaafclobgcaa.Sq
open Go.Proofs.Ytmlpaafclobgcaa.Ar
set_option linter.unusedVariables false

/-- A change, or none. -/
inductive Ch where
  | none
  | grow (i : Nat) (t : Int)
  | add (i : Nat) (kind f t : Int)
def Ch.n : Ch → Nat
  | .none => 0
  | .grow _ _ => 1
  | .add _ _ _ _ => 1
def Ch.cell : Ch → Value
  | .none => .nilIface
  | .grow i t => .iface 80 (.agg #[.int .i64 i, .int .i64 t])
  | .add i kind f t => .iface 82 (.agg #[.int .i64 i, .int .i64 t, .int .i64 kind, .int .i64 f])
def putN (l : List Nd) (i : Nat) (kind f t : Int) (p : Nd) : List Nd := (l ++ [(⟨kind, f, t, (i : Int), [], false⟩ : Nd)]).set i { p with ks := p.ks ++ [(l.length : Int)] }
def Ch.res (l : List Nd) : Ch → List Nd
  | .none => l
  | .grow i t => reachN l i t
  | .add i kind f t => match l[i]? with
    | some p => reachN (putN l i kind f t p) i t
    | Option.none => l
def Ch.ok (l : List Nd) : Ch → Prop
  | .none => True
  | .grow i t => i < l.length
  | .add i kind f t => ∃ p, l[i]? = some p ∧ p.f ≤ t
theorem assert_add (v : Value) (w : World) : (Instr.typeAssert (.iface 82 v) 20 82 true).run Try.prog w = .ok (.tuple #[v, .bool true]) w := by kernel_rfl
theorem assert_noadd (v : Value) (w : World) : (Instr.typeAssert (.iface 80 v) 20 82 true).run Try.prog w = .ok (.tuple #[.agg #[.int .i64 0, .int .i64 0, .int .i64 0, .int .i64 0], .bool false]) w := by kernel_rfl
theorem assert_grow (v : Value) (w : World) : (Instr.typeAssert (.iface 80 v) 20 80 false).run Try.prog w = .ok v w := by kernel_rfl
/-- A tree is answered that the call has laid itself: its nodes' row is the call's own. -/
def TreedP (R : List Nd) (w : World) (e : Ending) (w' : World) : Prop :=
  ∃ u, e = .returned (.agg #[u]) ∧ Nodes w' u R ∧ (∃ L, L.map Ln.nd = R ∧ PT w' w.heap.size u L) ∧ Below w.heap.size w w'
set_option maxHeartbeats 8000000 in
set_option maxRecDepth 100000 in
theorem aChanged (ch : Ch) (v : Value) (l : List Nd) (ca : Option Addr) (cc : Nat) (w : World) (h : Nodes w v l) (hG : Ar.Good l) (hs : l.length ≤ 500) (hk : ∀ x ∈ l, x.ks.length ≤ 500) (ho : ch.ok l)
    (hc : ∀ k, k < ch.n → ∃ cb, ca = some ⟨cb, 0, none⟩ ∧ w.cell? ⟨cb, k, none⟩ = some ch.cell) :
    Calls Try.prog 68 #[.agg #[v], .slice ca ch.n cc] w (TreedP (ch.res l) w) := by
  obtain ⟨a, cap, rfl⟩ := h.shape
  obtain ⟨R, hR⟩ : ∃ R, ch.res l = R := ⟨_, rfl⟩
  obtain ⟨M, hM⟩ : ∃ M, ch.n = M := ⟨_, rfl⟩
  have hM1 : M ≤ 1 := by
    rw [← hM]
    cases ch <;> simp [Ch.n]
  have hR0 : M = 0 → l = R := fun e => by
    rw [← hR]
    cases ch with
    | none => rfl
    | grow i t => rw [← hM] at e; simp [Ch.n] at e
    | add i kind f t => rw [← hM] at e; simp [Ch.n] at e
  rw [hR, hM]
  rw [hM] at hc
  have HQ := Lib.hid (fun u w' => show (Nodes w' u R ∧ (∃ L, L.map Ln.nd = R ∧ PT w' w.heap.size u L) ∧ Below w.heap.size w w') → TreedP R w (.returned (.agg #[u])) w' from fun h => ⟨u, rfl, h⟩)
  obtain ⟨Q, hQ⟩ : ∃ Q, TreedP R w = Q := ⟨_, rfl⟩
  rw [hQ] at HQ ⊢
  have hpos := hG.pos
  have HCo := Lib.hid (fun W (hb : Below w.heap.size w W) => aCopied _ l M W (h.below hb) (by omega) (fun x hx => Nat.le_trans (hk x hx) (by omega)) (by omega))
  have HKs := Lib.hid hk
  obtain ⟨N, hN⟩ : ∃ N, l.length = N := ⟨_, rfl⟩
  rw [hN] at hs hpos HCo ⊢
  have HN := Lib.hid hN
  obtain ⟨w1, hw1⟩ : ∃ w1, (w.alloc (.cells #[.slice a N cap] 31)).alloc (.cells #[.slice none 0 0] 31) = w1 := ⟨_, rfl⟩
  obtain ⟨Bt, hBt⟩ : ∃ Bt, w.heap.size = Bt := ⟨_, rfl⟩
  obtain ⟨Br, hBr⟩ : ∃ Br, w.heap.size + 1 = Br := ⟨_, rfl⟩
  have hb1 := below_allocS (below_alloc w (.cells #[.slice a N cap] 31)) (.cells #[.slice none 0 0] 31)
  have ct : w1.cell? ⟨Bt, 0, none⟩ = some (.slice a N cap) := by rw [← hw1, ← hBt]; exact at_alloc (at_new rfl)
  have cr : Hld w1 Br 0 (.slice none 0 0) := by
    rw [← hw1, ← hBr]
    have h := hld_new (W := w.alloc (.cells #[.slice a N cap] 31)) (C := #[.slice none 0 0]) (t := 31) (k := 0) rfl
    rw [size_alloc] at h
    exact h
  rw [hw1] at hb1
  obtain ⟨B, hB⟩ : ∃ B, w1.heap.size = B := ⟨_, rfl⟩
  have hlr : Br < B := by rw [← hB]; exact lt_of_cell cr.1
  have hwr : w.heap.size ≤ Br := by omega
  have hwB : w.heap.size ≤ B := by omega
  have HCr := Lib.hid (fun W (hb : Below B w1 W) => show Hld W Br 0 (.slice none 0 0) from ⟨by rw [hb.cell (p := ⟨Br, 0, none⟩) hlr]; exact cr.1, by rw [hb.frozen (p := ⟨Br, 0, none⟩) hlr]; exact cr.2⟩)
  have HwB := Lib.hid hwB
  have HBlw := Lib.hid (fun W (hb : Below B w1 W) => show Below w.heap.size w W from hb1.trans (hb.mono hwB))
  have HCw := Lib.hid (HCo.out w1 hb1)
  have HG := Lib.hid hG
  have HOk := Lib.hid ho
  have HCh := Lib.hid hc
  have HM := Lib.hid hM
  have HR := Lib.hid hR
  have HR0 := Lib.hid hR0
  have HW1 := Lib.hid hw1
  have HBt := Lib.hid hBt
  have HBr := Lib.hid hBr
  have HB := Lib.hid hB
  clear h hG hk ho hc hR hM hR0 hQ hN hw1 hBt hBr hb1 cr hB HCo
  go_enter Try.func68, Try.ntmps68
  go_upto_region 1 with fail
  rw [HW1.out, HBr.out, HBt.out]
  clear HW1 HBr HBt
  go_wp2_with fail
  refine HCw.out.mono ?_
  rintro e w2 ⟨u, rfl, ⟨L, hL, hP, hF⟩, hb2⟩
  rw [HB.out] at hP hb2
  obtain ⟨Bn, hBn⟩ : ∃ Bn, w2.heap.size = Bn := ⟨_, rfl⟩
  have hln : L.length = N := by rw [← HN.out, ← hL, List.length_map]
  obtain ⟨g, cp, hu, -, -, -, -⟩ := own_at (E := encN) hP.row (by omega)
  rw [hln] at hu
  subst hu
  obtain ⟨w3, hw3⟩ : ∃ w3, w2.alloc (.cells #[.slice (some ⟨g, 0, none⟩) N cp] 31) = w3 := ⟨_, rfl⟩
  have hBs : B ≤ Bn := by rw [← hBn, ← HB.out]; exact hb2.size
  have hP3 := hP.below (below_alloc w2 (.cells #[.slice (some ⟨g, 0, none⟩) N cp] 31))
  have hb3 : Below B w1 w3 := by rw [← hw3]; exact hb2.alloc (by omega) _
  have bx3 : w3.heap[Bn]? = some (.cells #[.slice (some ⟨g, 0, none⟩) N cp] 31 (0, 0)) := by rw [← hw3, ← hBn]; exact heap_alloc_new _ _
  rw [hw3] at hP3
  have HP3 := Lib.hid hP3
  have HL3 := Lib.hid (show L.map Ln.nd = l ∧ ∀ p ∈ L, p.c = p.n from ⟨hL, hF⟩)
  have HB3 := Lib.hid hb3
  have HX3 := Lib.hid bx3
  have HW3 := Lib.hid hw3
  have HBn := Lib.hid hBn
  clear hL hP hF hb2 hBn hln hw3 hP3 hb3 bx3 HCw
  go_upto_region 2 with fail
  rw [HW3.out, HBn.out]
  clear HW3 HBn ct
  go_wp2_with fail
  go_loopw [16] (fun iv wr => ∃ (k : Nat) (nv : Value) (L : List Ln), iv = .int .i64 k ∧ k ≤ M ∧ Hid (PT wr B nv L) ∧ Hid (k = 0 → L.map Ln.nd = l ∧ ∀ p ∈ L, p.c = p.n) ∧ Hid (k = 1 → L.map Ln.nd = R) ∧ Hid (wr.heap[Bn]? = some (.cells #[nv] 31 (0, 0))) ∧ Hid (Below B w1 wr)) (fun iv _ => M - (intOf iv).toNat)
  case atStart => exact ⟨0, _, L, rfl, Nat.zero_le _, HP3, Lib.hid (fun _ => HL3.out), Lib.hid (fun e => by cases e), HX3, HB3⟩
  case round =>
    clear HP3 HL3 HX3 HB3 L
    obtain ⟨k, nv, L, rfl, hkM, HP, HL0, HL1, HX, HBe⟩ := hrel
    by_cases hlt : k < M
    · obtain rfl : k = 0 := by omega
      obtain rfl : M = 1 := by omega
      obtain ⟨cb, rfl, hcb⟩ := HCh.out 0 (by decide)
      have c0 := at_below (HBlw.out wr HBe.out) hcb
      obtain ⟨hL, hF⟩ := HL0.out rfl
      have hln : L.length = N := by rw [← HN.out, ← hL, List.length_map]
      obtain ⟨g, cp, hu, hBg, -, -, -⟩ := own_at (E := encN) HP.out.row (by omega)
      rw [hln] at hu
      subst hu
      have hne : Bn ≠ g := fun e => by
        obtain ⟨cs, fr, e2⟩ := row_blk HP.out.row (g := g) rfl
        exact other_type HX.out e2 (by decide) e
      have bx := cell_of_one HX.out
      have HL := Lib.hid hL
      have HF := Lib.hid hF
      have HLn := Lib.hid hln
      have hBw : B ≤ wr.heap.size := by have := lt_of_block HX.out; omega
      have hm := HM.out
      have hok := HOk.out
      have hr := HR.out
      clear hcb hL hF hln HL0 HL1 hlt hkM
      cases ch with
      | none => exact absurd hm (by decide)
      | grow i t =>
        have hok : i < l.length := hok
        rw [HN.out] at hok
        have HRr := Lib.hid (show reachN l i t = R from hr)
        have c1 : wr.cell? ⟨cb, 0, none⟩ = some (.iface 80 (.agg #[.int .i64 i, .int .i64 t])) := c0
        have h1 := assert_noadd (.agg #[.int .i64 i, .int .i64 t])
        have h2 := assert_grow (.agg #[.int .i64 i, .int .i64 t])
        obtain ⟨w4, hw4⟩ : ∃ w4, wr.alloc (.cells #[.int .i64 0, .int .i64 0, .int .i64 0, .int .i64 0] 82) = w4 := ⟨_, rfl⟩
        have hb4 : Below wr.heap.size wr w4 := by rw [← hw4]; exact below_alloc wr _
        have bx4 := (hb4.block Bn (lt_of_block HX.out)).trans HX.out
        have by4 := cell_of_one bx4
        have HX4 := Lib.hid bx4
        have HP4 := Lib.hid ((HP.out.below hb4).drew)
        have HB4 := Lib.hid ((HBe.out.trans (hb4.mono hBw)).drew)
        have hBw4 : B ≤ w4.drew.heap.size := by have := hb4.size; show B ≤ w4.heap.size; omega
        have HW4 := Lib.hid hw4
        clear hm hr c0 hw4 hb4 bx4
        go_upto_region 9 with fail
        rw [HW4.out]
        clear HW4 bx c1
        refine wp_region_quiet_tail 3 (by kernel_rfl) (by kernel_rfl) ?_
        simp only [List.take_succ_cons, List.take_zero, List.drop_succ_cons, List.drop_zero]
        repeat (go_big_quiet_step (fail))
        refine wpQuiet_nil ?_
        have hre := aReach g cp B N L i t w4.drew HP4.out HLn.out (by rw [HL.out]; exact HG.out) (by omega) (by omega)
        rw [HL.out, HRr.out] at hre
        have HRe := Lib.hid hre
        clear hre h1 h2
        go_wp2_with fail
        refine HRe.out.mono ?_
        rintro e w5 ⟨rfl, ⟨L2, hL2, hP2⟩, hg5⟩
        have HX5 := Lib.hid ((hg5.block Bn (lt_of_block HX4.out) (fun e => hne (Option.some.inj e))).trans HX4.out)
        have HB5 := Lib.hid (HB4.out.trans (gb_low hg5 hBg hBw4))
        have HP5 := Lib.hid hP2
        have HL5 := Lib.hid hL2
        clear hL2 hP2 hg5 by4
        go_wp2_with fail
        go_roundw
        case rel =>
          first
            | exact ⟨1, _, L2, by go_num, by omega, HP5, Lib.hid (fun e => absurd e (by decide)), Lib.hid (fun _ => HL5.out), HX5, HB5⟩
            | ((repeat apply Exists.intro); exact ⟨⟨1, _, L2, by go_num, by omega, HP5, Lib.hid (fun e => absurd e (by decide)), Lib.hid (fun _ => HL5.out), HX5, HB5⟩, rfl⟩)
        case measure => simp [intOf]
      | add i kind f t =>
        obtain ⟨p, hp, hpf⟩ := hok
        have hi := (List.getElem?_eq_some_iff.1 hp).1
        rw [HN.out] at hi
        have hr2 : reachN (putN l i kind f t p) i t = R := by rw [← hr]; simp only [Ch.res, hp]
        have hgp : Ar.Good (putN l i kind f t p) := by
          have := good_put HG.out (i : Int) kind f t p (by omega) (by rw [Int.toNat_natCast]; exact hp) hpf
          rw [Int.toNat_natCast] at this
          exact this
        have hpl : (putN l i kind f t p).length = N + 1 := by unfold putN; rw [List.length_set, List.length_append, HN.out]; rfl
        obtain ⟨pl, hpl1⟩ : ∃ pl, L[i]? = some pl := ⟨_, List.getElem?_eq_getElem (by rw [HLn.out]; exact hi)⟩
        have hpn : pl.nd = p := by
          have h1 : (L.map Ln.nd)[i]? = some pl.nd := by rw [List.getElem?_map, hpl1]; rfl
          rw [HL.out, hp] at h1
          exact (Option.some.inj h1).symm
        have hkp := HKs.out p (List.mem_of_getElem? hp)
        have HRr := Lib.hid hr2
        have HGp := Lib.hid hgp
        have HPl := Lib.hid hpl
        have c1 : wr.cell? ⟨cb, 0, none⟩ = some (.iface 82 (.agg #[.int .i64 i, .int .i64 t, .int .i64 kind, .int .i64 f])) := c0
        have h1 := assert_add (.agg #[.int .i64 i, .int .i64 t, .int .i64 kind, .int .i64 f])
        have h2 := assert_grow (.agg #[.int .i64 i, .int .i64 t])
        obtain ⟨Ba, hBa⟩ : ∃ Ba, wr.heap.size = Ba := ⟨_, rfl⟩
        obtain ⟨w4, hw4⟩ : ∃ w4, wr.alloc (.cells #[.int .i64 i, .int .i64 t, .int .i64 kind, .int .i64 f] 82) = w4 := ⟨_, rfl⟩
        have hb4 : Below wr.heap.size wr w4 := by rw [← hw4]; exact below_alloc wr _
        have ba4 : w4.heap[Ba]? = some (.cells #[.int .i64 i, .int .i64 t, .int .i64 kind, .int .i64 f] 82 (0, 0)) := by rw [← hw4, ← hBa]; exact heap_alloc_new _ _
        have bx4 := (hb4.block Bn (lt_of_block HX.out)).trans HX.out
        have hne2 : Ba ≠ Bn := by have := lt_of_block HX.out; omega
        have hne3 : Ba ≠ g := by have := (HP.out.row.lt g rfl).2; omega
        have by4 := cell_of_one bx4
        have a40 := Joins.cell_of_block ba4 0
        have a41 := Joins.cell_of_block ba4 1
        have a42 := Joins.cell_of_block ba4 2
        have a43 := Joins.cell_of_block ba4 3
        have hpu := aPut g cp B N i L kind f t w4 (HP.out.below hb4) HF.out HLn.out (by omega) pl hpl1 (by rw [hpn]; omega)
        have eR : ((L.map Ln.nd) ++ [(⟨kind, f, t, (i : Int), [], false⟩ : Nd)]).set i { pl.nd with ks := pl.nd.ks ++ [(N : Int)] } = putN l i kind f t p := by unfold putN; rw [HL.out, hpn, HN.out]
        rw [eR] at hpu
        have HPu := Lib.hid hpu
        have HX4 := Lib.hid bx4
        have HA4 := Lib.hid ba4
        have HB4 := Lib.hid (HBe.out.trans (hb4.mono hBw))
        have hBw4 : B ≤ w4.heap.size := by have := hb4.size; omega
        have HW4 := Lib.hid hw4
        have HBa := Lib.hid hBa
        clear hm hr hr2 hgp hpl hpl1 hpn hkp hp c0 hw4 hb4 bx4 ba4 hpu eR hBa
        go_upto_region 6 with fail
        rw [HW4.out, HBa.out]
        clear HW4 HBa bx c1
        go_wp2_with fail
        refine HPu.out.mono ?_
        rintro e w5 ⟨u2, rfl, ⟨L2, hL2, hP2⟩, hg5⟩
        have hln2 : L2.length = N + 1 := by rw [← HPl.out, ← hL2, List.length_map]
        obtain ⟨g2, cp2, hu2, hBg2, -, -, -⟩ := own_at (E := encN) hP2.row (by omega)
        rw [hln2] at hu2
        subst hu2
        have bx5 := (hg5.block Bn (lt_of_block HX4.out) (fun e => hne (Option.some.inj e))).trans HX4.out
        have ba5 := (hg5.block Ba (lt_of_block HA4.out) (fun e => hne3 (Option.some.inj e))).trans HA4.out
        have by5 := cell_of_one bx5
        have fy5 := free_of_one bx5
        obtain ⟨w6, hw6⟩ : ∃ w6, w5.setCell ⟨Bn, 0, none⟩ (.slice (some ⟨g2, 0, none⟩) (N + 1) cp2) = w6 := ⟨_, rfl⟩
        have hP6 := hP2.box bx5 (by decide) (by decide) 0 (.slice (some ⟨g2, 0, none⟩) (N + 1) cp2)
        have bx6 := one_setCell (u := .slice (some ⟨g2, 0, none⟩) (N + 1) cp2) bx5
        have ba6 := (Below.heap_setCell w5 ⟨Bn, 0, none⟩ (.slice (some ⟨g2, 0, none⟩) (N + 1) cp2) Ba hne2).trans ba5
        have hb6 := (HB4.out.trans (gb_low hg5 hBg hBw4)).setCell (p := ⟨Bn, 0, none⟩) hBs (.slice (some ⟨g2, 0, none⟩) (N + 1) cp2)
        rw [hw6] at hP6 bx6 ba6 hb6
        have by6 := cell_of_one bx6
        have a60 := Joins.cell_of_block ba6 0
        have a61 := Joins.cell_of_block ba6 1
        have hne6 : Bn ≠ g2 := fun e => by
          obtain ⟨cs, fr, e2⟩ := row_blk hP6.row (g := g2) rfl
          exact other_type bx6 e2 (by decide) e
        have HX6 := Lib.hid bx6
        have HP6 := Lib.hid hP6.drew
        have HB6 := Lib.hid hb6.drew
        have HL6 := Lib.hid hL2
        have HLn6 := Lib.hid hln2
        have hBw6 : B ≤ w6.drew.heap.size := by have := lt_of_block bx6; show B ≤ w6.heap.size; omega
        have HW6 := Lib.hid hw6
        clear hL2 hP2 hg5 hln2 bx5 ba5 hw6 hP6 bx6 ba6 hb6 by4 a40 a41 a42 a43
        go_upto_region 8 with fail
        rw [HW6.out]
        clear HW6 by5 fy5
        go_upto_region 9 with fail
        refine wp_region_quiet_tail 3 (by kernel_rfl) (by kernel_rfl) ?_
        simp only [List.take_succ_cons, List.take_zero, List.drop_succ_cons, List.drop_zero]
        repeat (go_big_quiet_step (fail))
        refine wpQuiet_nil ?_
        have hre := aReach g2 cp2 B (N + 1) L2 i t w6.drew HP6.out HLn6.out (by rw [HL6.out]; exact HGp.out) (by omega) (by omega)
        rw [HL6.out, HRr.out] at hre
        have HRe := Lib.hid hre
        clear hre h1 h2 a60 a61
        go_wp2_with fail
        refine HRe.out.mono ?_
        rintro e w7 ⟨rfl, ⟨L7, hL7, hP7⟩, hg7⟩
        have HX7 := Lib.hid ((hg7.block Bn (lt_of_block HX6.out) (fun e => hne6 (Option.some.inj e))).trans HX6.out)
        have HB7 := Lib.hid (HB6.out.trans (gb_low hg7 hBg2 hBw6))
        have HP7 := Lib.hid hP7
        have HL7 := Lib.hid hL7
        clear hL7 hP7 hg7 by6
        go_wp2_with fail
        go_roundw
        case rel =>
          first
            | exact ⟨1, _, L7, by go_num, by omega, HP7, Lib.hid (fun e => absurd e (by decide)), Lib.hid (fun _ => HL7.out), HX7, HB7⟩
            | ((repeat apply Exists.intro); exact ⟨⟨1, _, L7, by go_num, by omega, HP7, Lib.hid (fun e => absurd e (by decide)), Lib.hid (fun _ => HL7.out), HX7, HB7⟩, rfl⟩)
        case measure => simp [intOf]
    · obtain rfl : k = M := by omega
      have hii : ¬ ((k : Int) < (k : Int)) := by omega
      have hL : L.map Ln.nd = R := by
        rcases Nat.eq_zero_or_pos k with e | e
        · rw [(HL0.out e).1]; exact HR0.out e
        · exact HL1.out (by omega)
      obtain ⟨na, nc, hnv⟩ := (Reads.of_own (E := encN) HP.out.row).shape
      subst hnv
      have bx := cell_of_one HX.out
      have cr := HCr.out wr HBe.out
      have cr0 := cr.1
      have fr0 := cr.2
      have HD := Lib.hid (HQ.out (.slice na L.length nc) (wr.setCell ⟨Br, 0, none⟩ (.slice na L.length nc)) ⟨by rw [← hL]; exact (HP.out.setLow hlr _).nodes, ⟨L, hL, (HP.out.setLow hlr _).base HwB.out⟩, (HBlw.out wr HBe.out).setCell (p := ⟨Br, 0, none⟩) hwr _⟩)
      obtain ⟨ln, hln⟩ : ∃ ln, L.length = ln := ⟨_, rfl⟩
      rw [hln] at bx HD
      clear hL hlt cr hln
      go_wp2_with fail
      refine bodyPost_ret (v := .agg #[.slice na ln nc]) ?_ rfl HD.out
      simp [results, Try.results68, go_sem, cr0, cell_set_eq]
end Go.Proofs.Ytmlpaafclobgcaa
