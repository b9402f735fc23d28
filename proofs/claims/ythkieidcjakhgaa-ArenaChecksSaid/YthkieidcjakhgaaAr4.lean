/- The chapter's own arena (correctorref10): copied. -/
import Derived.Test.YthkieidcjakhgaaAr3
namespace Go.Proofs.Ythkieidcjakhgaa
open Go.RowKit
open Go.Proofs.Ythkieidcjakhgaa.Sq
open Go.Proofs.Ythkieidcjakhgaa.Ar
set_option linter.unusedVariables false

/-- What copied answers: a tree of its own, of the same nodes. -/
def Copied (l : List Nd) (w : World) (e : Ending) (w' : World) : Prop :=
  ∃ u, e = .returned u ∧ (∃ L, L.map Ln.nd = l ∧ OT w' w.heap.size u L) ∧ Below w.heap.size w w'
set_option maxHeartbeats 4000000 in
set_option maxRecDepth 100000 in
theorem rCopied (v : Value) (l : List Nd) (w : World) (h : Nodes w v l) (hs : l.length ≤ 1000) (hk : ∀ x ∈ l, x.ks.length ≤ 1000) :
    Calls Try.prog 23 #[.agg #[v]] w (Copied l w) := by
  obtain ⟨a, cap, rfl⟩ := h.shape
  have HQ := Lib.hid (fun u w' => show ((∃ L, L.map Ln.nd = l ∧ OT w' w.heap.size u L) ∧ Below w.heap.size w w') → Copied l w (.returned u) w' from fun h => ⟨u, rfl, h⟩)
  obtain ⟨Q, hQ⟩ : ∃ Q, Copied l w = Q := ⟨_, rfl⟩
  rw [hQ] at HQ ⊢
  have HX := Lib.hid (fun W (hb : Below w.heap.size w W) j x (hj : l[j]? = some x) => (h.below hb).at_ j x hj)
  have HKs := Lib.hid hk
  obtain ⟨N, hN⟩ : ∃ N, l.length = N := ⟨_, rfl⟩
  rw [hN] at hs ⊢
  have HN := Lib.hid hN
  obtain ⟨w1, hw1⟩ : ∃ w1, w.alloc (.cells #[.slice a N cap] 29) = w1 := ⟨_, rfl⟩
  obtain ⟨B, hB⟩ : ∃ B, w.heap.size = B := ⟨_, rfl⟩
  have hb1 := below_alloc w (.cells #[.slice a N cap] 29)
  have c1 : w1.cell? ⟨B, 0, none⟩ = some (.slice a N cap) := by rw [← hw1, ← hB]; exact at_new rfl
  rw [hw1] at hb1
  have HB1 := Lib.hid hb1
  have HBs := Lib.hid (show B ≤ w1.heap.size by rw [← hB]; exact hb1.size)
  have HC1 := Lib.hid (fun W (hb : Below w1.heap.size w1 W) => at_below hb c1)
  have HW1 := Lib.hid hw1
  have HBe := Lib.hid hB
  clear h hk hQ hN hw1 hB hb1 c1
  go_enter Try.func23, Try.ntmps23
  go_upto_region 1 with fail
  rw [HW1.out, HBe.out]
  clear HW1
  go_wp2_with fail
  go_loopw [3, 4] (fun lv iv wr => ∃ (i : Nat) (L : List Ln), iv = .int .i64 i ∧ i ≤ N ∧ Hid (L.length = i) ∧ Hid (L.map Ln.nd = l.take i) ∧ Hid (OT wr w1.heap.size lv L) ∧ Hid (Below w1.heap.size w1 wr)) (fun _ iv _ => N - (intOf iv).toNat)
  case atStart => exact ⟨0, [], rfl, Nat.zero_le _, Lib.hid rfl, Lib.hid rfl, Lib.hid (OT.nil _ _), Lib.hid (Below.refl _ _)⟩
  case round =>
    obtain ⟨i, L, rfl, hi, HL, HM, HO, HB⟩ := hrel
    have c1 := HC1.out wr HB.out
    by_cases hlt : i < N
    · obtain ⟨x, hx⟩ : ∃ x, l[i]? = some x := ⟨_, List.getElem?_eq_getElem (by rw [HN.out]; exact hlt)⟩
      obtain ⟨b, off, ka, kc, rfl, x0, x1, x2, x3, x4, x5, hkr⟩ := HX.out wr (below_from HB1.out HB.out) i x hx
      have hii : (i : Int) < (N : Int) := by omega
      have hkl := HKs.out x (List.mem_of_getElem? hx)
      have HM2 := Lib.hid (fun (p : Ln) (hp : p.nd = x) => show (L ++ [p]).map Ln.nd = l.take (i + 1) by rw [List.map_append, HM.out, List.take_add_one, hx, List.map_cons, hp]; rfl)
      have HRd := Lib.hid hkr
      have HXi := Lib.hid hx
      -- the element's own block, the empty row
      obtain ⟨xb, hxb⟩ : ∃ xb, wr.heap.size = xb := ⟨_, rfl⟩
      obtain ⟨wa, hwa⟩ : ∃ wa, wr.alloc (.cells #[.int .i64 x.k, .int .i64 x.f, .int .i64 x.t, .int .i64 x.u, .slice ka x.ks.length kc, .bool x.y] 48) = wa := ⟨_, rfl⟩
      have hba : Below wr.heap.size wr wa := hwa ▸ below_alloc wr _
      have hsa : wa.heap.size = xb + 1 := by rw [← hwa, ← hxb]; simp
      have blk : wa.heap[xb]? = some (.cells #[.int .i64 x.k, .int .i64 x.f, .int .i64 x.t, .int .i64 x.u, .slice ka x.ks.length kc, .bool x.y] 48 (0, 0)) := by rw [← hwa, ← hxb]; exact heap_alloc_new _ _
      have y4 : wa.cell? ⟨xb, 4, none⟩ = some (.slice ka x.ks.length kc) := Joins.cell_of_block blk 4
      have HBa := Lib.hid hba
      have HSa := Lib.hid hsa
      have HBlk := Lib.hid blk
      have HWa := Lib.hid hwa
      have HXb := Lib.hid hxb
      clear hx hkr hwa hba hsa blk hxb
      go_upto_region 6 with fail
      rw [HWa.out, HXb.out]
      clear HWa x0 x1 x2 x3 x4 x5
      have HM0 := Lib.hid (own_made (e := 3) encI wa)
      have HBm := Lib.hid (below_alloc wa (.cells #[] 3))
      have z4 := at_alloc (o := .cells #[] 3) y4
      have HBlk2 := Lib.hid ((Below.heap_alloc wa (.cells #[] 3) _ (lt_of_block HBlk.out)).trans HBlk.out)
      clear y4
      have hBs := HBs.out
      have HL0 := Lib.hid (show ([] : List Int).length + x.ks.length ≤ maxLen by simp only [maxLen, List.length_nil]; omega)
      have HL1 := Lib.hid (show (([] : List Int).length + x.ks.length) * 8 ≤ 140737488355328 by simp only [List.length_nil]; omega)
      have HNe := Lib.hid (show some xb ≠ (Value.slice (some ⟨wa.heap.size, 0, none⟩) 0 0).ownBlock by rw [HSa.out]; intro e; have e2 : xb = xb + 1 := Option.some.inj e; omega)
      go_upto_region 7 with (at_builtin; go_must (refine append_all_at tyI rfl (.tmp 18) (.tmp 20) rfl wa.heap.size _ ([] : List Int) rfl HM0.out _ x.ks rfl (((HRd.out.below HBa.out).below HBm.out)) HL0.out HL1.out HBm.out.size ?_; intro kv w2 hown2 hg2 hat2; rw [List.nil_append] at hown2; obtain ⟨ka2, kc2, hkv⟩ := (Reads.of_own (E := encI) hown2).shape; subst hkv; have HOwn2 := Lib.hid hown2; have HG2 := Lib.hid hg2; have HAt2 := Lib.hid hat2; have blk2 := (hg2.block xb (lt_of_block HBlk2.out) HNe.out).trans HBlk2.out; have HBlk3 := Lib.hid (Joins.block_setCell (i := 4) blk2 (.slice ka2 x.ks.length kc2)); have e4 := Joins.cell_of_block blk2 4; have fz4 := Joins.unfrozen_of_block blk2 4; clear hown2 hg2 hat2 blk2))
      obtain ⟨w3, hw3⟩ : ∃ w3, w2.setCell ⟨xb, 4, none⟩ (.slice ka2 x.ks.length kc2) = w3 := ⟨_, rfl⟩
      have blk3 : w3.heap[xb]? = some (.cells #[.int .i64 x.k, .int .i64 x.f, .int .i64 x.t, .int .i64 x.u, .slice ka2 x.ks.length kc2, .bool x.y] 48 (0, 0)) := by rw [← hw3]; exact HBlk3.out
      have hsw := HSa.out
      have hxw := HXb.out
      have hkb : ∀ gg, (Value.slice ka2 x.ks.length kc2).ownBlock = some gg → xb < gg := fun gg hgg => by
        rcases HAt2.out with e | e
        · rw [hgg] at e
          have e2 : gg = wa.heap.size := Option.some.inj e
          omega
        · rw [hgg] at e
          have e2 : gg = (wa.alloc (.cells #[] 3)).heap.size := Option.some.inj e
          rw [size_alloc] at e2
          omega
      have hb2 : Below wr.heap.size wr w2 := ((HBa.out).trans (HBm.out.mono (by omega))).grown HG2.out (by simp; omega) (fun q hq => by have e2 : wa.heap.size = q := Option.some.inj hq; omega)
      have hbw : Below wr.heap.size wr w3 := by rw [← hw3]; exact hb2.setCell (p := ⟨xb, 4, none⟩) (by show wr.heap.size ≤ xb; omega) _
      have hBa1 := HB.out.size
      have hk3 : w3.ownsRow w1.heap.size 3 1 (.slice ka2 x.ks.length kc2) x.ks.length (encI.all x.ks) := by
        rw [← hw3]
        exact ownsRow_setCell_other (own_base HOwn2.out (by omega)) (fun e => by have := hkb xb e; omega) _
      have hO3 := HO.out.below hbw
      have hap : ∀ (j : Nat) (q : Ln), L[j]? = some q → ∀ gg, (Value.slice ka2 x.ks.length kc2).ownBlock = some gg → q.val.ownBlock ≠ some gg := fun j q hq gg hgg hqq => by
        have h1 := hkb gg hgg
        have h2 := ((HO.out.kids j q hq).lt gg hqq).2
        omega
      have HO3 := Lib.hid hO3
      have HK3 := Lib.hid hk3
      have HAp := Lib.hid hap
      have HBw := Lib.hid (HB.out.trans (hbw.mono hBa1))
      have HW3 := Lib.hid hw3
      have x0 := Joins.cell_of_block blk3 0
      have x1 := Joins.cell_of_block blk3 1
      have x2 := Joins.cell_of_block blk3 2
      have x3 := Joins.cell_of_block blk3 3
      have x4 := Joins.cell_of_block blk3 4
      have x5 := Joins.cell_of_block blk3 5
      have HSz3 := Lib.hid HBw.out.size
      rw [hw3]
      have HPc := Lib.hid (show encN.cells (⟨x, ka2, x.ks.length, kc2⟩ : Ln) = [.int .i64 x.k, .int .i64 x.f, .int .i64 x.t, .int .i64 x.u, .slice ka2 x.ks.length kc2, .bool x.y] from rfl)
      have HLn := HL
      have hln : L.length ≤ 1000 := by rw [HL.out]; omega
      have HM1 := Lib.hid (show L.length + 1 ≤ maxLen by simp only [maxLen]; omega)
      have HM3 := Lib.hid (show (L.length + 1) * 64 ≤ 140737488355328 by omega)
      clear blk3 hsw hxw hkb hb2 hbw hBa1 hk3 hO3 hap hw3 e4 fz4 z4 hln
      go_wp2_with (at_builtin; go_must (refine append_one tyN rfl (.tmp 23) (.tmp 25) rfl w1.heap.size _ L (⟨x, ka2, x.ks.length, kc2⟩ : Ln) _ HPc.out rfl HO3.out.row rfl HM1.out HM3.out HSz3.out ?_; intro v4 w4 hown4 hg4))
      have hO4 := HO3.out.push HK3.out HAp.out hg4 hown4
      have hB4 : Below w1.heap.size w1 w4 := (HBw.out.alloc HSz3.out _).grown hg4 (by have := HSz3.out; simp; omega) (fun q hq => (HO3.out.row.lt q hq).1)
      go_roundw
      case rel =>
        first
          | exact ⟨i + 1, L ++ [⟨x, ka2, x.ks.length, kc2⟩], by go_num, by omega, Lib.hid (by simp [HL.out]), Lib.hid (HM2.out _ rfl), Lib.hid hO4, Lib.hid hB4⟩
          | ((repeat apply Exists.intro); exact ⟨⟨i + 1, L ++ [⟨x, ka2, x.ks.length, kc2⟩], by go_num, by omega, Lib.hid (by simp [HL.out]), Lib.hid (HM2.out _ rfl), Lib.hid hO4, Lib.hid hB4⟩, rfl⟩)
      case measure => simp [intOf]; omega
    · obtain rfl : i = N := by omega
      have hii : ¬ ((i : Int) < (i : Int)) := by omega
      have hm := HM.out
      rw [List.take_of_length_le (by rw [HN.out]; exact Nat.le_refl _)] at hm
      have HD := Lib.hid (HQ.out _ wr ⟨⟨L, hm, HO.out.base HB1.out.size⟩, below_from HB1.out HB.out⟩)
      clear hm hlt
      go_wp2_with fail
      exact HD.out
end Go.Proofs.Ythkieidcjakhgaa
