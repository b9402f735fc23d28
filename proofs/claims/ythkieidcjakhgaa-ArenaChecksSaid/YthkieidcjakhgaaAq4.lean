/- Package arena: copied. -/
import Derived.Test.YthkieidcjakhgaaAq3
namespace Go.Proofs.Ythkieidcjakhgaa
open Go.RowKit
open Go.Proofs.Ythkieidcjakhgaa.Sq
open Go.Proofs.Ythkieidcjakhgaa.Ar
set_option linter.unusedVariables false

/-- What copied has at a round's beginning: the row of all kids, the nodes' row (it lies in the block Bn), the pieces. -/
structure CM (wr : World) (gn Bn : Nat) (w1 : World) (av nv : Value) (F : List Int) (L : List Ln) : Prop where
  all : wr.ownsRow gn 3 encI.k av F.length (encI.all F)
  row : wr.ownsRow gn 48 encN.k nv L.length (encN.all L)
  pcs : ∀ p ∈ L, Piece wr gn av F p
  box : wr.heap[Bn]? = some (.cells #[nv] 27 (0, 0))
  low : Below gn w1 wr
  le : gn ≤ Bn
section
variable {wr w' w1 : World} {gn Bn : Nat} {av nv : Value} {F : List Int} {L : List Ln}
theorem CM.lt (h : CM wr gn Bn w1 av nv F L) : Bn < wr.heap.size := lt_of_block h.box
theorem CM.below (h : CM wr gn Bn w1 av nv F L) (hb : Below wr.heap.size wr w') : CM w' gn Bn w1 av nv F L :=
  ⟨own_below h.all hb, own_below h.row hb, fun p hp => (h.pcs p hp).keep (keepI_below hb), (hb.block Bn h.lt).trans h.box, h.low.trans (hb.mono (by have := h.lt; have := h.le; omega)), h.le⟩
theorem other_type {w : World} {g g' : Nat} {cs cs' : Array Value} {t t' : TypeId} {fr fr' : Nat × Nat} (h : w.heap[g]? = some (.cells cs t fr)) (h' : w.heap[g']? = some (.cells cs' t' fr')) (ht : t ≠ t') : g ≠ g' := fun e => by
  subst e
  rw [h] at h'
  injection h' with h'
  injection h' with _ e3
  exact ht e3
theorem CM.append {av' : Value} {ks : List Int} (h : CM wr gn Bn w1 av nv F L) (hown' : w'.ownsRow gn 3 encI.k av' (F ++ ks).length (encI.all (F ++ ks))) (hg : wr.grownBy w' av.ownBlock) (hm : av'.ownBlock = av.ownBlock ∨ (av'.ownBlock = some wr.heap.size ∧ wr.grownBy w' none)) :
    CM w' gn Bn w1 av' nv (F ++ ks) L := by
  have hgs := h.low.size
  refine ⟨hown', h.row.kept hg (off_row (own_types h.all h.row (by decide))), fun p hp => (h.pcs p hp).moved h.all hown' hg hm, ?_, h.low.grown hg (by have := h.lt; have := h.le; omega) (fun k hk => (h.all.lt k hk).1), h.le⟩
  refine (hg.block Bn h.lt (fun e => ?_)).trans h.box
  obtain ⟨cs, fr, e2⟩ := int_blk h.all e.symm
  exact other_type h.box e2 (by decide) rfl
theorem CM.store {xb : Nat} {cs : Array Value} {fr : Nat × Nat} (h : CM wr gn Bn w1 av nv F L) (hx : wr.heap[xb]? = some (.cells cs 48 fr)) (hne : nv.ownBlock ≠ some xb) (hge : gn ≤ xb) (o : Nat) (u : Value) : CM (wr.setCell ⟨xb, o, none⟩ u) gn Bn w1 av nv F L :=
  ⟨ownsRow_setCell_other h.all (a := ⟨xb, o, none⟩) (fun e => by
    obtain ⟨cs', fr', e2⟩ := int_blk h.all e
    exact other_type hx e2 (by decide) rfl) u,
   ownsRow_setCell_other h.row (a := ⟨xb, o, none⟩) hne u, fun p hp => (h.pcs p hp).keep (keepI_box hx (by decide) o u),
   (Below.heap_setCell _ _ _ _ (fun e => other_type hx h.box (by decide) e.symm)).trans h.box, h.low.setCell (p := ⟨xb, o, none⟩) hge u, h.le⟩
theorem CM.push {nv' : Value} {p : Ln} (h : CM wr gn Bn w1 av nv F L) (hp : Piece wr gn av F p) (hown' : w'.ownsRow gn 48 encN.k nv' (L ++ [p]).length (encN.all (L ++ [p]))) (hg : wr.grownBy w' nv.ownBlock) :
    CM (w'.setCell ⟨Bn, 0, none⟩ nv') gn Bn w1 av nv' F (L ++ [p]) := by
  have hk : KeepI wr w' := keepI_grown h.row hg
  have hbx : w'.heap[Bn]? = some (.cells #[nv] 27 (0, 0)) := (hg.block Bn h.lt (fun e => by
    obtain ⟨cs, fr, e2⟩ := row_blk h.row e.symm
    exact other_type h.box e2 (by decide) rfl)).trans h.box
  have hk2 : KeepI wr (w'.setCell ⟨Bn, 0, none⟩ nv') := hk.trans (keepI_box hbx (by decide) 0 nv')
  have hall : w'.ownsRow gn 3 encI.k av F.length (encI.all F) := h.all.kept hg (off_row (own_types h.row h.all (by decide)))
  refine ⟨ownsRow_setCell_other hall (a := ⟨Bn, 0, none⟩) (fun e => ?_) nv', ownsRow_setCell_other hown' (a := ⟨Bn, 0, none⟩) (fun e => ?_) nv', fun q hq => ?_, one_setCell hbx, (h.low.grown hg (by have := h.lt; have := h.le; omega) (fun k hk => (h.row.lt k hk).1)).setCell (p := ⟨Bn, 0, none⟩) h.le nv', h.le⟩
  · obtain ⟨cs, fr, e2⟩ := int_blk hall e
    exact other_type hbx e2 (by decide) rfl
  · obtain ⟨cs, fr, e2⟩ := row_blk hown' e
    exact other_type hbx e2 (by decide) rfl
  · rcases List.mem_append.1 hq with hq | hq
    · exact (h.pcs q hq).keep hk2
    · obtain rfl : q = p := by simpa using hq
      exact hp.keep hk2
theorem CM.pt (h : CM wr gn Bn w1 av nv F L) {B : Nat} (hB : B ≤ gn) : PT wr B nv L ∧ ∀ p ∈ L, p.c = p.n :=
  ⟨⟨own_base h.row hB, fun p hp => ⟨(h.pcs p hp).kid.reads, fun ad had => ⟨Nat.le_trans hB ((h.pcs p hp).kid.blk ad had).1, ((h.pcs p hp).kid.blk ad had).2⟩⟩⟩, fun p hp => (h.pcs p hp).full⟩
end
theorem PT.setLow {w : World} {B b : Nat} {v : Value} {L : List Ln} (h : PT w B v L) (hb : b < B) (u : Value) : PT (w.setCell ⟨b, 0, none⟩ u) B v L := by
  refine ⟨ownsRow_setCell_below h.row (a := ⟨b, 0, none⟩) hb u, fun p hp => ⟨reads_of (h.kids p hp).reads (fun ad had o x hx _ _ => ?_), fun ad had => ⟨((h.kids p hp).blk ad had).1, ?_⟩⟩⟩
  · have := ((h.kids p hp).blk ad had).1
    exact at_far (by omega) hx
  · have h1 := ((h.kids p hp).blk ad had).1
    obtain ⟨cs, fr, e⟩ := ((h.kids p hp).blk ad had).2
    exact ⟨cs, fr, (Below.heap_setCell _ _ _ _ (by show ad.block ≠ b; omega)).trans e⟩
theorem PT.base {w : World} {B B' : Nat} {v : Value} {L : List Ln} (h : PT w B v L) (hB : B' ≤ B) : PT w B' v L :=
  ⟨own_base h.row hB, fun p hp => ⟨(h.kids p hp).reads, fun ad had => ⟨Nat.le_trans hB ((h.kids p hp).blk ad had).1, ((h.kids p hp).blk ad had).2⟩⟩⟩
/-- What copied answers: a tree of its own, of the same nodes, each row of kids without room. -/
def Pieced (l : List Nd) (w : World) (e : Ending) (w' : World) : Prop :=
  ∃ u, e = .returned (.agg #[u]) ∧ (∃ L, L.map Ln.nd = l ∧ PT w' w.heap.size u L ∧ ∀ p ∈ L, p.c = p.n) ∧ Below w.heap.size w w'
set_option maxHeartbeats 4000000 in
set_option maxRecDepth 100000 in
theorem aCopied (v : Value) (l : List Nd) (m : Nat) (w : World) (h : Nodes w v l) (hs : l.length ≤ 1000) (hk : ∀ x ∈ l, x.ks.length ≤ 1000) (hm : m ≤ 10) :
    Calls Try.prog 35 #[.agg #[v], .int .i64 m] w (Pieced l w) := by
  obtain ⟨a, cap, rfl⟩ := h.shape
  have HQ := Lib.hid (fun u w' => show ((∃ L, L.map Ln.nd = l ∧ PT w' w.heap.size u L ∧ ∀ p ∈ L, p.c = p.n) ∧ Below w.heap.size w w') → Pieced l w (.returned (.agg #[u])) w' from fun h => ⟨u, rfl, h⟩)
  obtain ⟨Q, hQ⟩ : ∃ Q, Pieced l w = Q := ⟨_, rfl⟩
  rw [hQ] at HQ ⊢
  have HX := Lib.hid (fun W (hb : Below w.heap.size w W) j x (hj : l[j]? = some x) => (h.below hb).at_ j x hj)
  have HKs := Lib.hid hk
  obtain ⟨N, hN⟩ : ∃ N, l.length = N := ⟨_, rfl⟩
  rw [hN] at hs ⊢
  have HN := Lib.hid hN
  obtain ⟨w1, hw1⟩ : ∃ w1, (w.alloc (.cells #[.slice a N cap] 27)).alloc (.cells #[.slice none 0 0] 27) = w1 := ⟨_, rfl⟩
  obtain ⟨Bt, hBt⟩ : ∃ Bt, w.heap.size = Bt := ⟨_, rfl⟩
  obtain ⟨Br, hBr⟩ : ∃ Br, w.heap.size + 1 = Br := ⟨_, rfl⟩
  have hb1 := below_allocS (below_alloc w (.cells #[.slice a N cap] 27)) (.cells #[.slice none 0 0] 27)
  have ct : w1.cell? ⟨Bt, 0, none⟩ = some (.slice a N cap) := by rw [← hw1, ← hBt]; exact at_alloc (at_new rfl)
  have cr : Hld w1 Br 0 (.slice none 0 0) := by
    rw [← hw1, ← hBr]
    have h := hld_new (W := w.alloc (.cells #[.slice a N cap] 27)) (C := #[.slice none 0 0]) (t := 27) (k := 0) rfl
    rw [size_alloc] at h
    exact h
  rw [hw1] at hb1
  have hbr : w.heap.size ≤ Br := by omega
  have hs1 := hb1.size
  obtain ⟨gn, hgn⟩ : ∃ gn, w1.heap.size = gn := ⟨_, rfl⟩
  obtain ⟨w3, hmk, hown3, hg3⟩ := make_row tyN (N + m) gn w1 (by omega) (by simp only [maxLen]; omega) (by omega)
  rw [hgn] at hmk hown3
  have hmk2 := hmk ((N : Int) + (m : Int)) (by omega)
  have hb3 : Below gn w1 w3 := (Below.refl _ _).grown hg3 (by omega) (fun q hq => by cases hq)
  have hs3 : gn ≤ w3.heap.size := by rw [← hgn]; exact hg3.size
  obtain ⟨Bn, hBn⟩ : ∃ Bn, w3.heap.size = Bn := ⟨_, rfl⟩
  obtain ⟨w4, hw4⟩ : ∃ w4, w3.alloc (.cells #[.slice (some ⟨gn, 0, none⟩) 0 (N + m)] 27) = w4 := ⟨_, rfl⟩
  have blk4 : w4.heap[Bn]? = some (.cells #[.slice (some ⟨gn, 0, none⟩) 0 (N + m)] 27 (0, 0)) := by rw [← hw4, ← hBn]; exact heap_alloc_new _ _
  have hb4 : Below gn w1 w4 := by rw [← hw4]; exact hb3.alloc hs3 _
  have hown4 : w4.ownsRow gn 48 encN.k (.slice (some ⟨gn, 0, none⟩) 0 (N + m)) ([] : List Ln).length (encN.all []) := by rw [← hw4]; exact hown3.alloc _
  have hs4 : gn ≤ w4.heap.size := by rw [← hgn]; exact hb4.size
  obtain ⟨w5, hmk5, hown5, hg5⟩ := make_row tyI N gn w4 (by omega) (by simp only [maxLen]; omega) hs4
  obtain ⟨ga, hga⟩ : ∃ ga, w4.heap.size = ga := ⟨_, rfl⟩
  rw [hga] at hmk5 hown5
  have hmk6 := hmk5 (N : Int) rfl
  have hcm : CM w5 gn Bn w1 (.slice (some ⟨ga, 0, none⟩) 0 N) (.slice (some ⟨gn, 0, none⟩) 0 (N + m)) [] [] :=
    ⟨hown5, hown4.kept hg5 (.inr (by simp [Value.ownBlock])), (fun p hp => by cases hp), (hg5.block Bn (lt_of_block blk4) (fun e => by cases e)).trans blk4, hb4.grown hg5 hs4 (fun q hq => by cases hq), by omega⟩
  have hlt1 : Bt < gn := by rw [← hgn]; exact lt_of_cell ct
  have hlt2 : Br < gn := by rw [← hgn]; exact lt_of_cell cr.1
  have HCt := Lib.hid (fun W (hb : Below gn w1 W) => show W.cell? ⟨Bt, 0, none⟩ = some (.slice a N cap) from by rw [hb.cell (p := ⟨Bt, 0, none⟩) hlt1]; exact ct)
  have HCr := Lib.hid (fun W (hb : Below gn w1 W) => show Hld W Br 0 (.slice none 0 0) from ⟨by rw [hb.cell (p := ⟨Br, 0, none⟩) hlt2]; exact cr.1, by rw [hb.frozen (p := ⟨Br, 0, none⟩) hlt2]; exact cr.2⟩)
  have hb1' : Below w.heap.size w w1 := hb1
  have HBlw := Lib.hid (fun W (hb : Below gn w1 W) => show Below w.heap.size w W from hb1'.trans (hb.mono (by omega)))
  have hgw : w.heap.size ≤ gn := by omega
  have ct3 := HCt.out w3 hb3
  have ct4 := HCt.out w4 hb4
  have ct5 := HCt.out w5 hcm.low
  have HCM := Lib.hid hcm
  have HW1 := Lib.hid hw1
  have HBt := Lib.hid hBt
  have HBr := Lib.hid hBr
  have HW4 := Lib.hid hw4
  have HBn := Lib.hid hBn
  clear h hk hQ hN hw1 hBt hBr hmk hown3 hg3 hb1 hb1' hb3 hs1 hgn hBn hw4 blk4 hb4 hown4 hs4 hmk5 hown5 hg5 hga hcm hs3 cr hlt1
  go_enter Try.func35, Try.ntmps35
  go_upto_region 1 with fail
  rw [HW1.out, HBr.out, HBt.out]
  clear HW1 HBr HBt
  go_upto_region 2 with fail
  rw [HW4.out, HBn.out]
  clear HW4 HBn hmk2
  go_wp2_with fail
  clear hmk6
  go_loopw [6, 24] (fun av iv wr => ∃ (i : Nat) (F : List Int) (L : List Ln) (nv : Value), iv = .int .i64 i ∧ i ≤ N ∧ Hid (L.length = i) ∧ Hid (L.map Ln.nd = l.take i) ∧ Hid (F.length ≤ i * 1000) ∧ Hid (CM wr gn Bn w1 av nv F L)) (fun _ iv _ => N - (intOf iv).toNat)
  case atStart => exact ⟨0, [], [], _, rfl, Nat.zero_le _, Lib.hid rfl, Lib.hid rfl, Lib.hid (Nat.zero_le _), HCM⟩
  case round =>
    clear ct ct3 ct4 ct5 HCM
    obtain ⟨i, F, L, nv, rfl, hi, HL, HM, HF, HC⟩ := hrel
    have ct := HCt.out wr HC.out.low
    obtain ⟨aa, ac, hav⟩ := (Reads.of_own (E := encI) HC.out.all).shape
    obtain ⟨an, nc, hnv⟩ := (Reads.of_own (E := encN) HC.out.row).shape
    subst hav hnv
    by_cases hlt : i < N
    · obtain ⟨x, hx⟩ : ∃ x, l[i]? = some x := ⟨_, List.getElem?_eq_getElem (by rw [HN.out]; exact hlt)⟩
      obtain ⟨b, off, ka, kc, rfl, x0, x1, x2, x3, x4, x5, hkr⟩ := HX.out wr (HBlw.out wr HC.out.low) i x hx
      have hii : (i : Int) < (N : Int) := by omega
      have hkl := HKs.out x (List.mem_of_getElem? hx)
      have hfl := HF.out
      have HM2 := Lib.hid (fun (p : Ln) (hp : p.nd = x) => show (L ++ [p]).map Ln.nd = l.take (i + 1) by rw [List.map_append, HM.out, List.take_add_one, hx, List.map_cons, hp]; rfl)
      have HF2 := Lib.hid (show (F ++ x.ks).length ≤ (i + 1) * 1000 by rw [List.length_append]; omega)
      obtain ⟨xb, hxb⟩ : ∃ xb, wr.heap.size = xb := ⟨_, rfl⟩
      obtain ⟨wa, hwa⟩ : ∃ wa, wr.alloc (.cells #[.int .i64 x.k, .int .i64 x.f, .int .i64 x.t, .int .i64 x.u, .slice ka x.ks.length kc, .bool x.y] 48) = wa := ⟨_, rfl⟩
      have hba : Below wr.heap.size wr wa := hwa ▸ below_alloc wr _
      have blk : wa.heap[xb]? = some (.cells #[.int .i64 x.k, .int .i64 x.f, .int .i64 x.t, .int .i64 x.u, .slice ka x.ks.length kc, .bool x.y] 48 (0, 0)) := by rw [← hwa, ← hxb]; exact heap_alloc_new _ _
      have y4 : wa.cell? ⟨xb, 4, none⟩ = some (.slice ka x.ks.length kc) := Joins.cell_of_block blk 4
      have HRd := Lib.hid (hkr.below hba)
      have HCa := Lib.hid (HC.out.below hba)
      have HNx := Lib.hid (show ∀ q, (Value.slice an L.length nc).ownBlock = some q → q < xb from fun q hq => by rw [← hxb]; exact (HC.out.row.lt q hq).2)
      have HAx := Lib.hid (show ∀ q, (Value.slice aa F.length ac).ownBlock = some q → q < xb from fun q hq => by rw [← hxb]; exact (HC.out.all.lt q hq).2)
      have hgx : gn ≤ xb := by have h1 := HC.out.lt; have h2 := HC.out.le; omega
      have HBlk := Lib.hid blk
      have HWa := Lib.hid hwa
      have HXb := Lib.hid hxb
      have hL1 : F.length + x.ks.length ≤ maxLen := by simp only [maxLen]; omega
      have hL2 : (F.length + x.ks.length) * 8 ≤ 140737488355328 := by omega
      have HL1 := Lib.hid hL1
      have HL2 := Lib.hid hL2
      have hbs : gn ≤ wa.heap.size := by have h1 := HCa.out.lt; have h2 := HCa.out.le; omega
      clear hx hkr hwa hba blk hxb hL1 hL2 hfl
      go_upto_region 6 with fail
      rw [HWa.out, HXb.out]
      clear HWa x0 x1 x2 x3 x4 x5
      go_upto_region 8 with (at_builtin; go_must (refine append_all_mv tyI rfl (.tmp 30) (.tmp 32) rfl gn _ F rfl HCa.out.all _ x.ks rfl HRd.out HL1.out HL2.out hbs ?_; intro v2 w2 hown2 hg2 hat2; obtain ⟨a2, c2, hv2⟩ := (Reads.of_own (E := encI) hown2).shape; obtain ⟨M2, hM2⟩ : ∃ M2, (F ++ x.ks).length = M2 := ⟨_, rfl⟩; rw [hM2] at hv2; subst hv2; have HMM := Lib.hid hM2; have HC2 := Lib.hid (HCa.out.append hown2 hg2 hat2); have hb2 := (hg2.block xb (lt_of_block HBlk.out) (fun e => by have h1 := HAx.out xb e.symm; omega)).trans HBlk.out; have HBlk2 := Lib.hid hb2; have f4 := Joins.unfrozen_of_block hb2 4; have y4 := Joins.cell_of_block hb2 4; clear hown2 hg2 hat2 hb2 hM2))
      have hne : (Value.slice an L.length nc).ownBlock ≠ some xb := fun e => by have h1 := HNx.out xb e; omega
      have HC3 := Lib.hid (HC2.out.store HBlk2.out hne hgx 4 (.slice none 0 0))
      have HB3 := Lib.hid (Joins.block_setCell (i := 4) HBlk2.out (.slice none 0 0))
      obtain ⟨w3, hw3⟩ : ∃ w3, w2.setCell ⟨xb, 4, none⟩ (.slice none 0 0) = w3 := ⟨_, rfl⟩
      have blk3 : w3.heap[xb]? = some (.cells #[.int .i64 x.k, .int .i64 x.f, .int .i64 x.t, .int .i64 x.u, .slice none 0 0, .bool x.y] 48 (0, 0)) := by rw [← hw3]; exact HB3.out
      rw [hw3] at HC3
      have HW3 := Lib.hid hw3
      have HBlk3 := Lib.hid blk3
      clear hw3 blk3 HB3
      go_upto_region 9 with fail
      rw [HW3.out]
      clear HW3 f4 y4 ct
      go_upto_if 38 with fail
      go_cut [] (fun wx => ∃ pa pn, Hid (Piece wx gn (.slice a2 M2 c2) (F ++ x.ks) ⟨x, pa, pn, pn⟩) ∧ Hid (wx.heap[xb]? = some (.cells #[.int .i64 x.k, .int .i64 x.f, .int .i64 x.t, .int .i64 x.u, .slice pa pn pn, .bool x.y] 48 (0, 0))) ∧ Hid (CM wx gn Bn w1 (.slice a2 M2 c2) (.slice an L.length nc) (F ++ x.ks) L))
      case first =>
        have hml : M2 = F.length + x.ks.length := by rw [← HMM.out, List.length_append]
        rcases Nat.eq_zero_or_pos x.ks.length with hz | hz
        · have hxe : x.ks = [] := List.eq_nil_of_length_eq_zero hz
          have n1 : ¬ ((F.length : Int) < (M2 : Int)) := by omega
          have HP := Lib.hid (show Piece w3 gn (.slice a2 M2 c2) (F ++ x.ks) ⟨x, none, 0, 0⟩ from ⟨Kid.nil w3 gn x hxe, rfl, fun ad had => by cases had⟩)
          clear hml hz hxe
          go_wp2_with fail
          go_meet
          exact ⟨none, 0, HP, HBlk3, HC3⟩
        · have n1 : (F.length : Int) < (M2 : Int) := by omega
          obtain ⟨g2, cp2, hv2, _, _, _, _⟩ := own_at (E := encI) HC3.out.all (by rw [List.length_append]; omega)
          obtain ⟨rfl, hMx, rfl⟩ := Value.slice.inj hv2
          obtain ⟨hsl, hpc⟩ := piece_cut HC3.out.all hz x rfl
          have hsl2 := fun W => hsl W
          obtain ⟨kn, hkn⟩ : ∃ kn, x.ks.length = kn := ⟨_, rfl⟩
          rw [hkn] at hsl hpc
          have HC4 := Lib.hid (HC3.out.store HBlk3.out hne hgx 4 (.slice (some ⟨g2, F.length, none⟩) kn kn))
          have HB4 := Lib.hid (Joins.block_setCell (i := 4) HBlk3.out (.slice (some ⟨g2, F.length, none⟩) kn kn))
          have HP4 := Lib.hid (hpc.keep (keepI_box HBlk3.out (by decide) 4 (.slice (some ⟨g2, F.length, none⟩) kn kn)))
          have f4 := Joins.unfrozen_of_block HBlk3.out 4
          have y4 := Joins.cell_of_block HBlk3.out 4
          clear hml hz hv2 hMx hpc hsl2 hkn
          go_wp2_with fail
          go_meet
          exact ⟨_, _, HP4, Lib.hid HB4.out, HC4⟩
      case rest =>
      obtain ⟨pa, pn, HP, HBx, HCx⟩ := hcut
      rename World => w6
      have y0 := Joins.cell_of_block HBx.out 0
      have y1 := Joins.cell_of_block HBx.out 1
      have y2 := Joins.cell_of_block HBx.out 2
      have y3 := Joins.cell_of_block HBx.out 3
      have y4 := Joins.cell_of_block HBx.out 4
      have y5 := Joins.cell_of_block HBx.out 5
      have bx := cell_of_one HCx.out.box
      have HPc := Lib.hid (show encN.cells (⟨x, pa, pn, pn⟩ : Ln) = [.int .i64 x.k, .int .i64 x.f, .int .i64 x.t, .int .i64 x.u, .slice pa pn pn, .bool x.y] from rfl)
      have HM1 := Lib.hid (show L.length + 1 ≤ maxLen by rw [HL.out]; simp only [maxLen]; omega)
      have HM3 := Lib.hid (show (L.length + 1) * 64 ≤ 140737488355328 by rw [HL.out]; omega)
      have hbs6 : gn ≤ w6.heap.size := by have h1 := HCx.out.lt; have h2 := HCx.out.le; omega
      have HCy := Lib.hid (fun o => HCx.out.below (below_alloc w6 o))
      have HPy := Lib.hid (fun o => HP.out.keep (keepI_alloc w6 o))
      clear y4 hbs hne
      have y4 := Joins.cell_of_block HBx.out 4
      go_upto_region 12 with (at_builtin; go_must (refine append_one tyN rfl (.tmp 48) (.tmp 50) rfl gn _ L (⟨x, pa, pn, pn⟩ : Ln) _ HPc.out rfl HCx.out.row rfl HM1.out HM3.out hbs6 ?_; intro v7 w7 hown7 hg7; obtain ⟨a7, k7, hv7⟩ := (Reads.of_own (E := encN) hown7).shape; obtain ⟨M7, hM7⟩ : ∃ M7, (L ++ [(⟨x, pa, pn, pn⟩ : Ln)]).length = M7 := ⟨_, rfl⟩; rw [hM7] at hv7; clear hM7; subst hv7; have HC7 := Lib.hid ((HCy.out _).push (HPy.out _) hown7 hg7); have hb7 : w7.heap[Bn]? = some (.cells #[.slice an L.length nc] 27 (0, 0)) := ((hg7.block Bn (HCy.out _).lt (fun e => by obtain ⟨cs, fr, e2⟩ := row_blk (HCy.out (.cells [Value.int .i64 x.k, .int .i64 x.f, .int .i64 x.t, .int .i64 x.u, .slice pa pn pn, .bool x.y].toArray 48)).row e.symm; exact other_type (HCy.out _).box e2 (by decide) rfl)).trans (HCy.out _).box); have c7 := cell_of_one hb7; have f7 := free_of_one hb7; clear hown7 hg7 hb7))
      go_wp2_with fail
      go_roundw
      case rel =>
        first
          | exact ⟨i + 1, F ++ x.ks, L ++ [⟨x, pa, pn, pn⟩], .slice a7 M7 k7, by go_num, by omega, Lib.hid (by simp [HL.out]), Lib.hid (HM2.out _ rfl), HF2, HC7⟩
          | ((repeat apply Exists.intro); exact ⟨⟨i + 1, F ++ x.ks, L ++ [⟨x, pa, pn, pn⟩], .slice a7 M7 k7, by go_num, by omega, Lib.hid (by simp [HL.out]), Lib.hid (HM2.out _ rfl), HF2, HC7⟩, rfl⟩)
      case measure => simp [intOf]; omega
    · obtain rfl : i = N := by omega
      have hii : ¬ ((i : Int) < (i : Int)) := by omega
      have hm := HM.out
      rw [List.take_of_length_le (by rw [HN.out]; exact Nat.le_refl _)] at hm
      have bx := cell_of_one HC.out.box
      have cr := HCr.out wr HC.out.low
      have cr0 := cr.1
      have fr0 := cr.2
      have hpt := HC.out.pt (Nat.le_refl _)
      have HD := Lib.hid (HQ.out (.slice an L.length nc) (wr.setCell ⟨Br, 0, none⟩ (.slice an L.length nc)) ⟨⟨L, hm, (hpt.1.setLow hlt2 _).base hgw, hpt.2⟩, (HBlw.out wr HC.out.low).setCell (p := ⟨Br, 0, none⟩) hbr _⟩)
      clear hm hlt hpt cr
      go_wp2_with fail
      refine bodyPost_ret (v := .agg #[.slice an L.length nc]) ?_ rfl HD.out
      simp [results, Try.results35, go_sem, cr0, cell_set_eq]
end Go.Proofs.Ythkieidcjakhgaa
