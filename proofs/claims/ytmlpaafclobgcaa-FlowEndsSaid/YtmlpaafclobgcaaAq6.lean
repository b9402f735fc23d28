/- Package arena: put. -/
import Derived.Test.YtmlpaafclobgcaaMgH
namespace Go.Proofs.Ytmlpaafclobgcaa
open Go.RowKit
open Go.Proofs.Ytmlpaafclobgcaa.Sq
open Go.Proofs.Ytmlpaafclobgcaa.Ar
set_option linter.unusedVariables false

/-- What put answers: the tree with a node more. -/
def PutP (R : List Nd) (B g : Nat) (w : World) (e : Ending) (w' : World) : Prop :=
  ∃ u, e = .returned (.agg #[u]) ∧ (∃ L, L.map Ln.nd = R ∧ PT w' B u L) ∧ w.grownBy w' (some g)
theorem three_blks (w : World) (o1 o2 o3 : Obj) : ∃ w1, ((w.alloc o1).alloc o2).alloc o3 = w1 ∧ Below w.heap.size w w1 ∧ w1.heap[w.heap.size]? = some o1 ∧ w1.heap[w.heap.size + 1]? = some o2 ∧ w1.heap[w.heap.size + 2]? = some o3 := by
  refine ⟨_, rfl, below_allocS (below_allocS (below_alloc w _) _) _, ?_, ?_, ?_⟩
  · exact (Below.heap_alloc _ _ _ (by simp; omega)).trans ((Below.heap_alloc _ _ _ (by simp)).trans (heap_alloc_new _ _))
  · have h := heap_alloc_new (w.alloc o1) o2
    rw [size_alloc] at h
    exact (Below.heap_alloc _ _ _ (by simp)).trans h
  · have h := heap_alloc_new ((w.alloc o1).alloc o2) o3
    rw [size_alloc, size_alloc] at h
    exact h
theorem laid_int (w : World) (z : Int) : ∀ j c, (encI.all [z])[j]? = some c → (w.alloc (.cells #[.int .i64 z] 3)).drew.cell? ⟨w.heap.size, j, none⟩ = some c := by
  intro j c hj
  show (w.alloc (.cells #[.int .i64 z] 3)).cell? ⟨w.heap.size, j, none⟩ = some c
  rw [World.cell?_alloc_mark]
  simpa [Enc.all, encI] using hj
theorem full_of {w : World} {B : Nat} {p : Ln} (h : Kid w B p) (hf : p.c = p.n) : Full encI w p.val p.nd.ks := by
  have hn := val_len h.reads
  exact ⟨h.reads, p.a, by show Value.slice p.a p.n p.c = _; rw [hf, hn]⟩
set_option maxHeartbeats 4000000 in
set_option maxRecDepth 100000 in
theorem aPut (g cap B N i : Nat) (L : List Ln) (kind f t : Int) (w : World) (h : PT w B (.slice (some ⟨g, 0, none⟩) N cap) L) (hf : ∀ p ∈ L, p.c = p.n) (hn : L.length = N) (hN : N ≤ 1000) (p : Ln) (hp : L[i]? = some p) (hpk : p.nd.ks.length ≤ 1000) :
    Calls Try.prog 75 #[.agg #[.slice (some ⟨g, 0, none⟩) N cap], .agg #[.int .i64 i, .int .i64 t, .int .i64 kind, .int .i64 f]] w
      (PutP (((L.map Ln.nd) ++ [(⟨kind, f, t, (i : Int), [], false⟩ : Nd)]).set i { p.nd with ks := p.nd.ks ++ [(N : Int)] }) B g w) := by
  obtain ⟨R, hR⟩ : ∃ R, ((L.map Ln.nd) ++ [(⟨kind, f, t, (i : Int), [], false⟩ : Nd)]).set i { p.nd with ks := p.nd.ks ++ [(N : Int)] } = R := ⟨_, rfl⟩
  rw [hR]
  have HQ := Lib.hid (fun u w' => show ((∃ L, L.map Ln.nd = R ∧ PT w' B u L) ∧ w.grownBy w' (some g)) → PutP R B g w (.returned (.agg #[u])) w' from fun h => ⟨u, rfl, h⟩)
  obtain ⟨Q, hQ⟩ : ∃ Q, PutP R B g w = Q := ⟨_, rfl⟩
  rw [hQ] at HQ ⊢
  have hi : i < N := by rw [← hn]; exact (List.getElem?_eq_some_iff.1 hp).1
  have hcap := own_cap h.row
  simp only [maxLen] at hcap
  obtain ⟨-, hc1, hc2⟩ := hcap
  obtain ⟨hgl, hgw⟩ : B ≤ g ∧ g < w.heap.size := h.row.lt g rfl
  obtain ⟨w1, hw1, hb1, bT, bA, bR⟩ := three_blks w (.cells #[.slice (some ⟨g, 0, none⟩) N cap] 31) (.cells #[.int .i64 i, .int .i64 t, .int .i64 kind, .int .i64 f] 82) (.cells #[.slice none 0 0] 31)
  obtain ⟨Bt, hBt⟩ : ∃ Bt, w.heap.size = Bt := ⟨_, rfl⟩
  obtain ⟨Ba, hBa⟩ : ∃ Ba, w.heap.size + 1 = Ba := ⟨_, rfl⟩
  obtain ⟨Br, hBr⟩ : ∃ Br, w.heap.size + 2 = Br := ⟨_, rfl⟩
  rw [hBt] at bT
  rw [hBa] at bA
  rw [hBr] at bR
  have ht1 : Bt ≠ g := by omega
  have ht2 : Ba ≠ g := by omega
  have ht3 : Br ≠ g := by omega
  have ht4 : B ≤ Bt := by omega
  have ht4' : w.heap.size ≤ Bt := by omega
  have ht5' : w.heap.size ≤ Br := by omega
  have ht5 : B ≤ Br := by omega
  have ht6 : Bt ≠ Br := by omega
  -- the world behind the making of a row of one number, and the draw
  obtain ⟨wx, hwx⟩ : ∃ wx, (w1.alloc (.cells #[.int .i64 (N : Int)] 3)).drew = wx := ⟨_, rfl⟩
  have hbx : Below w1.heap.size w1 wx := by rw [← hwx]; exact (below_alloc w1 _).drew
  have hX := (h.below hb1).below hbx
  have hBw1 : B ≤ w1.heap.size := by have := hb1.size; omega
  have hBwx : B ≤ wx.heap.size := by have := hbx.size; omega
  have hnew := laid_int w1 (N : Int)
  rw [hwx] at hnew
  have hpm := List.mem_of_getElem? hp
  have hfu := full_of (hX.kids p hpm) (hf p hpm)
  have HFu := Lib.hid hfu
  have HNew := Lib.hid hnew
  have HX := Lib.hid hX
  have HWx := Lib.hid hwx
  have HBelX := Lib.hid (show w.grownBy wx (some g) from gb_then (gb_below hb1 (some g)) hbx)
  have xT := (hbx.block Bt (lt_of_block bT)).trans bT
  have xA := (hbx.block Ba (lt_of_block bA)).trans bA
  have xR := (hbx.block Br (lt_of_block bR)).trans bR
  have HxT := Lib.hid xT
  have HxA := Lib.hid xA
  have HxR := Lib.hid xR
  have c4 : w1.cell? ⟨g, i * 6 + 4, none⟩ = some p.val := by
    have := (h.below hb1).row.cells (g := g) rfl _ _ ((all_get encN L i p hp 4 (by decide)).trans rfl)
    rw [add_addr, Nat.zero_add] at this
    exact this
  obtain ⟨a4, cc4, hv4⟩ := hfu.1.shape
  obtain ⟨n4, hn4⟩ : ∃ n4, p.nd.ks.length = n4 := ⟨_, rfl⟩
  have hm1 : n4 + 1 ≤ maxLen := by simp only [maxLen]; omega
  have hm2 : (n4 + 1) * 8 ≤ 140737488355328 := by omega
  have HM1 := Lib.hid (show p.nd.ks.length + 1 ≤ maxLen by rw [hn4]; exact hm1)
  have HM2 := Lib.hid (show (p.nd.ks.length + 1) * 8 ≤ 140737488355328 by rw [hn4]; exact hm2)
  rw [hn4] at hv4
  have HPv := Lib.hid hv4
  rw [hv4] at c4 HFu
  have ct := cell_of_one bT
  have c4a := fun o => at_alloc (o := o) c4
  have cta := fun o => at_alloc (o := o) ct
  have ca0 := Joins.cell_of_block bA 0
  have HP := Lib.hid hp
  have HN := Lib.hid hn
  have HR := Lib.hid hR
  have HW1 := Lib.hid hw1
  have HBt := Lib.hid hBt
  have HBa := Lib.hid hBa
  have HBr := Lib.hid hBr
  have hii : (i : Int) < (N : Int) := by omega
  clear h hf hn hp hpk hR hQ hw1 hb1 bT bA bR hBt hBa hBr hX hbx hnew hpm hfu hwx xT xA xR hv4 hn4 hm1 hm2
  go_enter Try.func75, Try.ntmps75
  go_upto_region 1 with fail
  rw [HW1.out, HBr.out, HBa.out, HBt.out]
  clear HW1 HBr HBa HBt
  go_upto_region 2 with fail
  go_cut [] (fun wz => ∃ L3, Hid (PT wz B (.slice (some ⟨g, 0, none⟩) N cap) L3) ∧ Hid (L3.map Ln.nd ++ [(⟨kind, f, t, (i : Int), [], false⟩ : Nd)] = R) ∧ Hid (L3.length = N) ∧ Hid (wz.heap[Bt]? = some (.cells #[.slice (some ⟨g, 0, none⟩) N cap] 31 (0, 0))) ∧ Hid (wz.heap[Ba]? = some (.cells #[.int .i64 i, .int .i64 t, .int .i64 kind, .int .i64 f] 82 (0, 0))) ∧ Hid (wz.heap[Br]? = some (.cells #[.slice none 0 0] 31 (0, 0))) ∧ Hid (w.grownBy wz (some g)))
  case first =>
    go_region_law ((refine step_append_full tyI rfl (.tmp 16) (.tmp 20) rfl (.slice a4 n4 cc4) p.nd.ks rfl (by rw [HWx.out]; exact HFu.out) w1.heap.size 1 [(N : Int)] rfl (by decide) rfl (by rw [HWx.out]; exact HNew.out) HM1.out HM2.out ?_; rw [HWx.out]; intro v2 w2 hown2 hg2; obtain ⟨a2, c2, hv2⟩ := (Reads.of_own (E := encI) hown2).shape; obtain ⟨n2, hn2⟩ : ∃ n2, (p.nd.ks ++ [(N : Int)]).length = n2 := ⟨_, rfl⟩; rw [hn2] at hv2; clear hn2; subst hv2; have HO2 := Lib.hid hown2; have HP2 := Lib.hid (HX.out.keep (HX.out.row.kept hg2 (.inr (by simp [Value.ownBlock]))) (keepI_none hg2)); have bT2 := Lib.hid ((hg2.block Bt (lt_of_block HxT.out) (fun e => by cases e)).trans HxT.out); have bA2 := Lib.hid ((hg2.block Ba (lt_of_block HxA.out) (fun e => by cases e)).trans HxA.out); have bR2 := Lib.hid ((hg2.block Br (lt_of_block HxR.out) (fun e => by cases e)).trans HxR.out); have HB2 := Lib.hid (HBelX.out.trans (gb_any hg2 (some g))); have d4 : w2.cell? ⟨g, i * 6 + 4, none⟩ = some p.val := (by have h5 := HP2.out.row.cells (g := g) rfl _ _ ((all_get encN L i p HP.out 4 (by decide)).trans rfl); rw [add_addr, Nat.zero_add] at h5; exact h5); obtain ⟨gx, cpx, hvx, -, hfx, -, -⟩ := own_at (E := encN) HP2.out.row (by rw [HN.out]; omega); have ex := (Value.slice.inj hvx).1; injection ex with ex; injection ex with ex; have fz4 : w2.frozen? ⟨g, i * 6 + 4, none⟩ = false := (by rw [ex]; exact hfx _); clear hown2 hg2 hvx hfx ex))
    all_goals
      obtain ⟨p', hp'⟩ : ∃ p' : Ln, (⟨{ p.nd with ks := p.nd.ks ++ [(N : Int)] }, a2, n2, c2⟩ : Ln) = p' := ⟨_, rfl⟩
      have hkid : Kid w2 B p' := by
        rw [← hp']
        exact Kid.own (x := { p.nd with ks := p.nd.ks ++ [(N : Int)] }) (own_base HO2.out hBwx)
      have hp3 := HP2.out.set i 4 p p' (.slice a2 n2 c2) HP.out (by rw [← hp']; rfl) (by decide) hkid
      have hL3 : (L.set i p').map Ln.nd ++ [(⟨kind, f, t, (i : Int), [], false⟩ : Nd)] = R := by
        rw [← HR.out, List.map_set, ← hp', List.set_append_left _ _ (by rw [List.length_map, HN.out]; exact hi)]
      have hn3 : (L.set i p').length = N := by rw [List.length_set]; exact HN.out
      obtain ⟨L3, hL3d⟩ : ∃ L3, L.set i p' = L3 := ⟨_, rfl⟩
      rw [hL3d] at hp3 hL3 hn3
      obtain ⟨w3, hw3⟩ : ∃ w3, w2.setCell ⟨g, i * 6 + 4, none⟩ (.slice a2 n2 c2) = w3 := ⟨_, rfl⟩
      have bT3 : w3.heap[Bt]? = some (.cells #[.slice (some ⟨g, 0, none⟩) N cap] 31 (0, 0)) := by rw [← hw3, Below.heap_setCell _ _ _ _ ht1]; exact bT2.out
      have bA3 : w3.heap[Ba]? = some (.cells #[.int .i64 i, .int .i64 t, .int .i64 kind, .int .i64 f] 82 (0, 0)) := by rw [← hw3, Below.heap_setCell _ _ _ _ ht2]; exact bA2.out
      have bR3 : w3.heap[Br]? = some (.cells #[.slice none 0 0] 31 (0, 0)) := by rw [← hw3, Below.heap_setCell _ _ _ _ ht3]; exact bR2.out
      have HB3 := Lib.hid (gb_set HB2.out (.inl rfl) (i * 6 + 4) (.slice a2 n2 c2))
      rw [hw3] at hp3 HB3
      have HT3 := Lib.hid bT3
      have HA3 := Lib.hid bA3
      have HR3 := Lib.hid bR3
      have HP3 := Lib.hid hp3
      have HL3 := Lib.hid hL3
      have HN3 := Lib.hid hn3
      clear hp' hkid hp3 hL3 hn3 hL3d d4 fz4 bT2 bA2 bR2 HP2 HO2 bT3 bA3 bR3 HX HxT HxA HxR HBelX HB2 c4 ct ca0 c4a cta
      rw [hw3]
      clear hw3
      go_wp2_with fail
      go_meet
      exact ⟨L3, HP3, HL3, HN3, HT3, HA3, HR3, HB3⟩
  case rest =>
  obtain ⟨L3, HP3, HL3, HN3, HT3, HA3, HR3, HB3⟩ := hcut
  rename World => w3
  clear HX HxT HxA HxR HBelX c4 ct ca0 c4a cta
  have ct3 := cell_of_one HT3.out
  have ca30 := Joins.cell_of_block HA3.out 0
  have ca31 := Joins.cell_of_block HA3.out 1
  have ca32 := Joins.cell_of_block HA3.out 2
  have ca33 := Joins.cell_of_block HA3.out 3
  have hs3 : B ≤ w3.heap.size := by have h1 := lt_of_block HT3.out; omega
  have HL1 := Lib.hid (show L3.length + 1 ≤ maxLen by rw [HN3.out]; simp only [maxLen]; omega)
  have HL2 := Lib.hid (show (L3.length + 1) * 64 ≤ 140737488355328 by rw [HN3.out]; omega)
  have HRow := Lib.hid (show w3.ownsRow B 38 encN.k (.slice (some ⟨g, 0, none⟩) N cap) L3.length (encN.all L3) from HP3.out.row)
  have HPsh := Lib.hid (fun o => HP3.out.below (below_alloc w3 o))
  have HTal := Lib.hid (fun o => (Below.heap_alloc w3 o Bt (lt_of_block HT3.out)).trans HT3.out)
  have HRal := Lib.hid (fun o => (Below.heap_alloc w3 o Br (lt_of_block HR3.out)).trans HR3.out)
  have HBal := Lib.hid (fun o => gb_then HB3.out (below_alloc w3 o))
  go_upto_region 4 with (at_builtin; go_must (refine append_one tyN rfl (.tmp 25) (.tmp 37) rfl B _ L3 (⟨⟨kind, f, t, (i : Int), [], false⟩, none, 0, 0⟩ : Ln) _ rfl rfl HRow.out rfl HL1.out HL2.out hs3 ?_; intro v4 w4 hown4 hg4; obtain ⟨a5, k5, hv4⟩ := (Reads.of_own (E := encN) hown4).shape; obtain ⟨M5, hM5⟩ : ∃ M5, (L3 ++ [(⟨⟨kind, f, t, (i : Int), [], false⟩, none, 0, 0⟩ : Ln)]).length = M5 := ⟨_, rfl⟩; rw [hM5] at hv4; clear hM5; subst hv4; have HP4 := Lib.hid ((HPsh.out _).push (Kid.nil _ _ ⟨kind, f, t, (i : Int), [], false⟩ rfl) (keepI_grown (HPsh.out _).row hg4) hown4); have HT4 := Lib.hid ((hg4.block Bt (lt_of_block (HTal.out _)) (fun e => ht1 (Option.some.inj e))).trans (HTal.out _)); have HR4 := Lib.hid ((hg4.block Br (lt_of_block (HRal.out _)) (fun e => ht3 (Option.some.inj e))).trans (HRal.out _)); have HB4 := Lib.hid ((HBal.out _).trans hg4); have ct4 := cell_of_one HT4.out; have ft4 := free_of_one HT4.out; clear hown4 hg4))
  have HP5 := Lib.hid (HP4.out.box HT4.out (by decide) (by decide) 0 (.slice a5 M5 k5))
  have HB5 := Lib.hid (gb_set (b := Bt) HB4.out (.inr ht4') 0 (.slice a5 M5 k5))
  have bT5 := one_setCell (u := .slice a5 M5 k5) HT4.out
  have bR5 := (Below.heap_setCell w4 ⟨Bt, 0, none⟩ (.slice a5 M5 k5) Br (fun e => ht6 e.symm)).trans HR4.out
  obtain ⟨w5, hw5⟩ : ∃ w5, w4.setCell ⟨Bt, 0, none⟩ (.slice a5 M5 k5) = w5 := ⟨_, rfl⟩
  rw [hw5] at HP5 HB5 bT5 bR5
  rw [hw5]
  have ct5 := cell_of_one bT5
  have cr5 := cell_of_one bR5
  have fr5 := free_of_one bR5
  have HD := Lib.hid (HQ.out (.slice a5 M5 k5) (w5.setCell ⟨Br, 0, none⟩ (.slice a5 M5 k5)) ⟨⟨_, by rw [List.map_append]; exact HL3.out, HP5.out.box bR5 (by decide) (by decide) 0 _⟩, gb_set (b := Br) HB5.out (.inr ht5') 0 _⟩)
  clear hw5 bT5 bR5 ct3 ca30 ca31 ca32 ca33 ct4 ft4
  go_wp2_with fail
  refine bodyPost_ret (v := .agg #[.slice a5 M5 k5]) ?_ rfl HD.out
  simp [results, Try.results75, go_sem, cr5, cell_set_eq]
end Go.Proofs.Ytmlpaafclobgcaa
