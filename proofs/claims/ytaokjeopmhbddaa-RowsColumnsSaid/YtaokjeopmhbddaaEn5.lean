/- Package rows: Entries. -/
import Derived.Test.YtaokjeopmhbddaaEn4
import Derived.BigRegion
import Derived.Test.YtaokjeopmhbddaaHe
namespace Go.Proofs.Ytaokjeopmhbddaa
open Go.RowKit
open Go.Proofs.Ytaokjeopmhbddaa.Sg
open Go.Proofs.Ytaokjeopmhbddaa.Sq
set_option linter.unusedVariables false

theorem pEntriesNone (bv v : Value) (l : List Tk) (x : Rw.R) (w : World) (hk : x.kind ≠ 5) :
    Calls Try.prog 14 #[bv, v, rAgg x] w (GivesE 42 [] x.from' w) := by
  obtain ⟨k, f, t, c⟩ := x
  dsimp only at hk ⊢
  have g : ((k : Int) != 5) = true := by simp; omega
  clear hk
  go_enter Try.func14, Try.ntmps14
  go_wp2_with fail
  go_region
  go_wp2_with fail
  refine bodyPost_ret (v := .tuple #[.slice none 0 0, .int .i64 f]) ?_ rfl ⟨_, rfl, own_nil encE _ _, ?_⟩
  · simp [results, Try.results14, go_sem]
  · exact (below_allocS (below_allocS (below_alloc w _) _) _).drew
set_option maxHeartbeats 8000000 in
set_option maxRecDepth 100000 in
theorem pEntriesBody (bv v : Value) (l : List Tk) (F T : Nat) (c : Int) (w : World) (h : Reads encT w v l) (hs : l.length ≤ 100000) (hf : ∀ x ∈ l, x.2.1 ≤ 1000000) (h1 : F ≤ T) (h2 : T ≤ l.length) :
    Calls Try.prog 14 #[bv, v, .agg #[.int .i64 5, .int .i64 F, .int .i64 T, .int .i64 c]] w (GivesE 42 (Rw.entsB F ((l.drop F).take (T - F))) (Rw.restB F ((l.drop F).take (T - F))) w) := by
  obtain ⟨a, cap, rfl⟩ := h.shape
  obtain ⟨u, hu, hru⟩ := cut_lh (P := Try.prog) tyT h h1 h2
  have hfs : ∀ x ∈ (l.drop F).take (T - F), x.2.1 ≤ 1000000 := fun x hx => hf x (List.mem_of_mem_drop (List.mem_of_mem_take hx))
  have hlen : ((l.drop F).take (T - F)).length = T - F := by rw [List.length_take, List.length_drop]; omega
  obtain ⟨ts, hts⟩ : ∃ ts, (l.drop F).take (T - F) = ts := ⟨_, rfl⟩
  rw [hts] at hru hfs hlen ⊢
  obtain ⟨M, hM⟩ : ∃ M, T - F = M := ⟨_, rfl⟩
  rw [hM] at hlen
  have hmn : M ≤ 100000 := by omega
  have hfn : F ≤ 100000 := by omega
  obtain ⟨au, cu, rfl⟩ := hru.shape
  rw [hlen] at hu
  have HRu := Lib.hid (show Reads encT w (.slice au M cu) ts by rw [← hlen]; exact hru)
  have HFs := Lib.hid hfs
  have HLen := Lib.hid hlen
  have HLi := Lib.hid (fun W => pLies ⟨5, F, T, c⟩ l.length W h1 h2)
  obtain ⟨N, hN⟩ : ∃ N, l.length = N := ⟨_, rfl⟩
  rw [hN] at hs h2 HLi hu ⊢
  clear h hf hts hru hfs hlen hN
  go_enter Try.func14, Try.ntmps14
  go_wp2_with fail
  refine (HLi.out _).mono ?_
  rintro e w4 ⟨rfl, hb4⟩
  obtain ⟨w3, hw3⟩ : ∃ w3, ((w.alloc (.cells #[.int .i64 5, .int .i64 F, .int .i64 T, .int .i64 c] 33)).alloc (.cells #[.slice none 0 0] 35)).alloc (.cells #[.int .i64 0] 3) = w3 := ⟨_, rfl⟩
  rw [hw3] at hb4
  have c1 : w3.cell? ⟨w.heap.size, 1, none⟩ = some (.int .i64 F) := by rw [← hw3]; exact at_alloc (at_alloc (at_new rfl))
  have c2 : w3.cell? ⟨w.heap.size, 2, none⟩ = some (.int .i64 T) := by rw [← hw3]; exact at_alloc (at_alloc (at_new rfl))
  have e3 : w3.heap[w.heap.size + 1]? = some (.cells #[.slice none 0 0] 35 (0, 0)) := by
    rw [← hw3]
    have h := heap_alloc_new (w.alloc (.cells #[.int .i64 5, .int .i64 F, .int .i64 T, .int .i64 c] 33)) (.cells #[.slice none 0 0] 35)
    simp only [size_alloc] at h
    exact (Below.heap_alloc _ _ _ (by simp)).trans h
  have s3 : w3.heap[w.heap.size + 2]? = some (.cells #[.int .i64 0] 3 (0, 0)) := by
    rw [← hw3]
    have h := heap_alloc_new ((w.alloc (.cells #[.int .i64 5, .int .i64 F, .int .i64 T, .int .i64 c] 33)).alloc (.cells #[.slice none 0 0] 35)) (.cells #[.int .i64 0] 3)
    simp only [size_alloc] at h
    exact h
  have hb3 : Below w.heap.size w w3 := by rw [← hw3]; exact below_allocS (below_allocS (below_alloc w _) _) _
  have hlt3 := lt_of_block s3
  have C1 := at_below hb4 c1
  have C2 := at_below hb4 c2
  have E4 := (hb4.block _ (lt_of_block e3)).trans e3
  have S4 := (hb4.block _ hlt3).trans s3
  have HB4 := Lib.hid (below_from hb3 hb4)
  have HE4 := Lib.hid E4
  have HS4 := Lib.hid S4
  have HC1 := Lib.hid C1
  clear hb3 hb4 c1 c2 e3 s3 hw3 E4 S4 hlt3
  have hsz4 := HB4.out.size
  have hs4 : w.heap.size + 2 < w4.heap.size := lt_of_block HS4.out
  obtain ⟨w5, hw5⟩ : ∃ w5, w4.alloc (.cells #[.slice au M cu] 27) = w5 := ⟨_, rfl⟩
  obtain ⟨Bw, hBw⟩ : ∃ Bw, w4.heap.size = Bw := ⟨_, rfl⟩
  have row5 : w5.heap[Bw]? = some (.cells #[.slice au M cu] 27 (0, 0)) := by rw [← hw5, ← hBw]; exact heap_alloc_new _ _
  have hb5 : Below w4.heap.size w4 w5 := hw5 ▸ below_alloc w4 _
  have HW5 := Lib.hid hw5
  have HBw := Lib.hid hBw
  have hz5 : w5.heap.size = Bw + 1 := by rw [← hw5, ← hBw]; simp
  have HB5 := Lib.hid (below_from HB4.out hb5)
  have hfi := pFirst _ ts w5 (HRu.out.below HB5.out) (by rw [HLen.out]; omega)
  have HFi := Lib.hid hfi
  have hld := Rw.lead_le ts
  rw [HLen.out] at hld
  obtain ⟨A, hA⟩ : ∃ A, Rw.leadN ts = A := ⟨_, rfl⟩
  have HA := Lib.hid hA
  rw [hA] at hld HFi
  have E5 := (hb5.block _ (lt_of_block HE4.out)).trans HE4.out
  have S5 := (hb5.block _ (lt_of_block HS4.out)).trans HS4.out
  have C5 := at_below hb5 HC1.out
  have HE5 := Lib.hid E5
  have HS5 := Lib.hid S5
  have HC5 := Lib.hid C5
  have cr5 := cell_of_one row5
  have HR5 := Lib.hid row5
  rw [hBw] at hs4
  have HSz := Lib.hid (show w.heap.size + 2 < Bw ∧ w5.heap.size = Bw + 1 from ⟨hs4, hz5⟩)
  clear hsz4 hs4 hw5 hBw row5 hb5 hz5 hfi hA E5 S5 C5
  go_upto_region 4 with fail
  rw [HW5.out, HBw.out]
  clear C1 C2 HW5 HBw HB4 HE4 HS4 HC1
  go_wp2_with fail
  refine HFi.out.mono ?_
  rintro e w6 ⟨rfl, hb6⟩
  obtain ⟨Ba, hBa⟩ : ∃ Ba, w6.heap.size = Ba := ⟨_, rfl⟩
  obtain ⟨w7, hw7⟩ : ∃ w7, w6.alloc (.cells #[.int .i64 A] 3) = w7 := ⟨_, rfl⟩
  have hb67 : Below w6.heap.size w6 w7 := hw7 ▸ below_alloc w6 _
  have hb7 := below_from hb6 hb67
  have at7 : w7.heap[Ba]? = some (.cells #[.int .i64 A] 3 (0, 0)) := by rw [← hw7, ← hBa]; exact heap_alloc_new _ _
  have hbw : Bw < Ba := by have := hb6.size; have := HSz.out.2; omega
  have hm7 : EM w7 w.heap.size (w.heap.size + 1) (w.heap.size + 2) Bw Ba F (.slice none 0 0) [] 0 (.slice au M cu) A :=
    ⟨at_below hb7 HC5.out, (hb7.block _ (lt_of_block HE5.out)).trans HE5.out, (hb7.block _ (lt_of_block HS5.out)).trans HS5.out, (hb7.block _ (lt_of_block HR5.out)).trans HR5.out, at7, own_nil encE _ _, by have := HSz.out.1; omega⟩
  have HM8 := Lib.hid (hm7.setS ((F : Int) + (A : Int)))
  have HB8 := Lib.hid ((below_from HB5.out hb7).setCell (p := ⟨w.heap.size + 2, 0, none⟩) (by show w.heap.size ≤ w.heap.size + 2; omega) (.int .i64 ((F : Int) + (A : Int))))
  have C7 := hm7.r1
  have A7 := cell_of_one hm7.at'
  have S7 := cell_of_one hm7.s
  have Z7 := free_of_one hm7.s
  have HW7 := Lib.hid hw7
  have HBa := Lib.hid hBa
  clear hb6 hw7 hb67 hb7 at7 hm7 HFi cr5 HE5 HS5 HC5 HR5 hbw hBa
  go_upto_region 5 with fail
  rw [HW7.out, HBa.out]
  clear HW7 HBa HB5 HSz
  go_upto_region 6 with fail
  obtain ⟨w8, hw8⟩ : ∃ w8, w7.setCell ⟨w.heap.size + 2, 0, none⟩ (.int .i64 ((F : Int) + (A : Int))) = w8 := ⟨_, rfl⟩
  obtain ⟨Br, hBr⟩ : ∃ Br, w.heap.size = Br := ⟨_, rfl⟩
  obtain ⟨Be, hBe⟩ : ∃ Be, Br + 1 = Be := ⟨_, rfl⟩
  obtain ⟨Bs, hBs⟩ : ∃ Bs, Be + 1 = Bs := ⟨_, rfl⟩
  have hm8 := HM8.out
  have hb8 := HB8.out
  rw [show w.heap.size + 2 = w.heap.size + 1 + 1 from rfl] at hm8 hb8 hw8
  rw [hw8] at hm8 hb8
  rw [hBr, hBe, hBs] at hm8
  rw [hBr] at hb8
  rw [hw8, hBr, hBe, hBs]
  have HTk := Lib.hid (fun W (hb : Below Br w W) => HRu.out.below (hBr ▸ hb))
  have HAt := Lib.hid (fun W (hb : Below Br w W) j x (hj : ts[j]? = some x) => toks_at (a := au) (cap := cu) (l := ts) (by rw [HLen.out]; exact HRu.out.below (hBr ▸ hb)) j x hj)
  have HBr := Lib.hid hBr
  obtain ⟨DS, hDS⟩ : ∃ DS, Rw.dashesE F ts A = DS := ⟨_, rfl⟩
  obtain ⟨KQ, hKQ⟩ : ∃ KQ, Rw.dashesN ts A = KQ := ⟨_, rfl⟩
  have hlb := Rw.lead_blank ts
  have hea := Rw.ents_all F ts
  have hra := Rw.rest_all F ts
  rw [HA.out] at hlb hea hra
  rw [hKQ, hDS] at hea
  obtain ⟨EB, hEB⟩ : ∃ EB, Rw.entsB F ts = EB := ⟨_, rfl⟩
  obtain ⟨RB', hRB⟩ : ∃ RB', Rw.restB F ts = RB' := ⟨_, rfl⟩
  rw [hEB] at hea hra
  rw [hRB] at hra
  rw [hEB, hRB]
  have HEB := Lib.hid hEB
  have HRB := Lib.hid hRB
  have HEa := Lib.hid hea
  have HRa := Lib.hid hra
  have HLb := Lib.hid hlb
  have HDS := Lib.hid hDS
  have HKQ := Lib.hid hKQ
  have HM9 := Lib.hid hm8
  have HB9 := Lib.hid hb8
  clear hw8 C7 A7 S7 Z7 HM8 HB8 hBe hBs hBr HRu hm8 hb8 hDS hKQ hlb hea hra hEB hRB HA HLi hu h1 h2 hM
  go_upto_block 0 with fail
  go_cut [] (fun wx => ∃ (ev : Value) (rest : Nat), EM wx Br Be Bs Bw Ba F ev DS rest (.slice au M cu) KQ ∧ KQ ≤ M ∧ DS.length ≤ KQ ∧ Hid (rest = Rw.restOf (F + A) DS) ∧ Hid (Rw.blanks (ts.drop KQ) = 0) ∧ Below Br w wx)
  case first =>
    go_wp2_with fail
    go_loopw [] (fun wr => ∃ (p : Nat) (es : List Rw.E) (ev : Value) (rest : Nat), EM wr Br Be Bs Bw Ba F ev es rest (.slice au M cu) p ∧ p ≤ M ∧ es.length ≤ p ∧ Hid (rest = Rw.restOf (F + A) es) ∧ Hid (es ++ Rw.dashesE F ts p = DS) ∧ Hid (Rw.dashesN ts p = KQ) ∧ Hid (Rw.blanks (ts.drop p) = 0) ∧ Below Br w wr) (fun wr => M - (intOf ((wr.cell? ⟨Ba, 0, none⟩).getD undef)).toNat)
    case atStart => exact ⟨A, [], .slice none 0 0, F + A, by rw [show ((F + A : Nat) : Int) = (F : Int) + (A : Int) from by omega]; exact HM9.out, hld, Nat.zero_le _, Lib.hid rfl, HDS, HKQ, HLb, HB9.out⟩
    case round =>
      obtain ⟨p, es, ev, rest, hm, hp, hel, HR, HE, HK, HBl, hb⟩ := hrel
      have HM := Lib.hid hm
      have HB := Lib.hid hb
      have ca := cell_of_one hm.at'
      have cw := cell_of_one hm.row
      by_cases hpm : p < M
      · obtain ⟨x, hx⟩ : ∃ x, ts[p]? = some x := ⟨_, List.getElem?_eq_getElem (by rw [HLen.out]; exact hpm)⟩
        obtain ⟨b, off, rfl, c0, -, -⟩ := HAt.out wr hb p x hx
        have hi : (p : Int) < (M : Int) := by omega
        have hhd := Rw.headK_drop ts p x hx
        obtain ⟨K, hK⟩ : ∃ K, x.1 = K := ⟨_, rfl⟩
        rw [hK] at c0 hhd
        by_cases q : K = 5
        · have hst := Rw.dashes_step F ts p (by rw [hhd]; exact q)
          have hci := Rw.colA_in ts p (by rw [HLen.out]; exact hpm)
          have hen := pEnter true (p + 1) Br Be Bs Bw Ba F p ev _ es rest ts wr hm (fun W hW => HTk.out W (hb.trans hW)) (by rw [HLen.out]; omega) HFs.out (by rw [HLen.out]; omega) (by rw [HLen.out]; omega) (by omega) (by omega)
          rw [show ((p + 1 : Nat) : Int) = (p : Int) + 1 from by omega] at hen
          have hbi := Rw.blanks_in ts (p + 1) (by rw [HLen.out]; omega)
          rw [HLen.out] at hbi
          have hpb := Rw.past_blank ts (p + 1)
          obtain ⟨P2, hP2⟩ : ∃ P2, p + 1 + Rw.blanks (ts.drop (p + 1)) = P2 := ⟨_, rfl⟩
          rw [hP2] at hst hen hbi hpb
          have hp2 : p + 1 ≤ P2 := by omega
          have HSt := Lib.hid hst
          have HCi := Lib.hid hci
          have HEn := Lib.hid hen
          have HPb := Lib.hid hpb
          have g : ((K : Int) == 5) = true := by simp; omega
          clear hst hci hen hpb hP2 hm hb hx hhd q hK
          go_wp2_with fail
          refine HEn.out.mono ?_
          rintro e w2 ⟨rfl, ⟨ev2, hM2⟩, hb2⟩
          have HM2 := Lib.hid hM2
          have HB2 := Lib.hid (HB.out.trans hb2)
          have ca2 := cell_of_one hM2.at'
          clear hM2 hb2
          go_wp2
          go_roundw
          case rel =>
            refine ⟨P2, es ++ [⟨true, Rw.colA ts p, F + p, F + (p + 1)⟩], ev2, F + (p + 1), HM2.out, hbi, by simp; omega, Lib.hid (by rw [Rw.restOf_snoc]), Lib.hid ?_, Lib.hid (HSt.out.2.symm.trans HK.out), HPb, HB2.out⟩
            rw [List.append_assoc, ← HE.out, HSt.out.1, HCi.out]
            rfl
          case measure => simp [intOf, ca, ca2]; omega
        · have hst := Rw.dashes_stop F ts p (by rw [hhd]; exact q)
          have g : ((K : Int) == 5) = false := by simp; omega
          have hk : p = KQ := by rw [← HK.out]; exact hst.2.symm
          have he : es = DS := by rw [← HE.out, hst.1, List.append_nil]
          subst hk he
          clear hst q hK hhd hx hm hb
          go_wp2_with fail
          go_meet
          exact ⟨ev, rest, HM.out, hp, hel, HR, HBl, HB.out⟩
      · have hst := Rw.dashes_end F ts p (by rw [HLen.out]; omega)
        have hi : ¬ ((p : Int) < (M : Int)) := by omega
        have hk : p = KQ := by rw [← HK.out]; exact hst.2.symm
        have he : es = DS := by rw [← HE.out, hst.1, List.append_nil]
        subst hk he
        clear hst hm hb
        go_wp2_with fail
        go_meet
        exact ⟨ev, rest, HM.out, hp, hel, HR, HBl, HB.out⟩
  case rest =>
  obtain ⟨ev, rest, hm, hkm, hdl, HR, HBl, hb⟩ := hcut
  have hbk := pBehind _ ts KQ wc (HTk.out wc hb) (by rw [HLen.out]; omega) (by rw [HLen.out]; exact hkm)
  have hkk : kAt ts KQ = Rw.keyV ts KQ := by unfold kAt; rw [HBl.out, Nat.add_zero]
  rw [hkk] at hbk
  have hk0 := Rw.key_none F ts KQ
  have hk1 := Rw.key_some F ts KQ
  obtain ⟨V, hV⟩ : ∃ V, Rw.keyV ts KQ = V := ⟨_, rfl⟩
  rw [hV] at hbk hk0 hk1
  have HK0 := Lib.hid hk0
  have HK1 := Lib.hid hk1
  have HBk := Lib.hid hbk
  have HM := Lib.hid hm
  have HB := Lib.hid hb
  have ca := cell_of_one hm.at'
  have cw := cell_of_one hm.row
  clear hbk hkk hV hm hb HKQ HDS HM9 HB9 hk0 hk1
  go_upto_if 57 with fail
  refine HBk.out.mono ?_
  rintro e w2 ⟨rfl, rfl⟩
  go_upto_if 57 with fail
  go_cut [] (fun wx => ∃ (ev : Value) (p : Nat), EM wx Br Be Bs Bw Ba F ev EB RB' (.slice au M cu) p ∧ Below Br w wx)
  case first =>
    by_cases hv : V = -1
    · have hke := HK0.out hv
      have hE : DS = EB := by rw [HEa.out, hke, List.append_nil]
      have hRr : rest = RB' := by rw [HR.out, HRa.out, hE]
      subst hv
      have HM2 := Lib.hid (show EM wc Br Be Bs Bw Ba F ev EB RB' (.slice au M cu) KQ by rw [← hE, ← hRr]; exact HM.out)
      clear hke hE hRr
      go_wp2_with fail
      go_meet
      exact ⟨ev, KQ, HM2.out, HB.out⟩
    · obtain ⟨q, hq, hkq, hqn, hkn, hke⟩ := HK1.out hv
      rw [HLen.out] at hqn hkn
      have hci := Rw.colA_in ts KQ (by rw [HLen.out]; exact hkn)
      have hE : DS ++ [⟨false, Rw.colA ts KQ, F + KQ, F + q⟩] = EB := by rw [HEa.out, hke, hci]
      have hRr : F + q = RB' := by rw [HRa.out, ← hE, Rw.restOf_snoc]
      have hen := pEnter false q Br Be Bs Bw Ba F KQ ev _ DS rest ts wc HM.out (fun W hW => HTk.out W (HB.out.trans hW)) (by rw [HLen.out]; omega) HFs.out (by rw [HLen.out]; omega) (by rw [HLen.out]; omega) (by omega) (by omega)
      have HEn := Lib.hid hen
      have HE2 := Lib.hid hE
      have HR2 := Lib.hid hRr
      have g : ((q : Int) != -1) = true := by simp
      subst hq
      clear hen hE hRr hci hke hv
      go_wp2_with fail
      refine HEn.out.mono ?_
      rintro e w2 ⟨rfl, ⟨ev2, hM2⟩, hb2⟩
      rw [HE2.out, HR2.out] at hM2
      have HM2 := Lib.hid hM2
      have HB2 := Lib.hid (HB.out.trans hb2)
      clear hM2 hb2
      go_wp2
      go_meet
      exact ⟨ev2, _, HM2.out, HB2.out⟩
  case rest =>
  obtain ⟨ev2, p2, hm2, hb2⟩ := hcut
  obtain ⟨a3, cap3, hv3⟩ := (Reads.of_own (E := encE) hm2.own).shape
  subst hv3
  have ce := cell_of_one hm2.e
  have fe := free_of_one hm2.e
  have cs := cell_of_one hm2.s
  have fs := free_of_one hm2.s
  have hord := hm2.ord
  have HO := Lib.hid (ownsRow_setCell_below (ownsRow_setCell_below hm2.own (a := ⟨Be, 0, none⟩) (by show Be < _; omega) (.slice a3 EB.length cap3)) (a := ⟨Bs, 0, none⟩) (by show Bs < _; omega) (.int .i64 RB'))
  have HB2 := Lib.hid ((hb2.setCell (p := ⟨Be, 0, none⟩) (by show Br ≤ Be; omega) (.slice a3 EB.length cap3)).setCell (p := ⟨Bs, 0, none⟩) (by show Br ≤ Bs; omega) (.int .i64 RB'))
  have hes : Be ≠ Bs := by omega
  have HLo := Lib.hid (show w.heap.size ≤ Ba + 1 by have := HBr.out; omega)
  clear hm2 hb2 ca cw
  go_wp2_with fail
  go_region
  go_wp2_with fail
  refine bodyPost_ret (v := .tuple #[.slice a3 EB.length cap3, .int .i64 RB']) ?_ rfl ⟨.slice a3 EB.length cap3, by rw [HRB.out], by rw [HEB.out]; exact (own_base HO.out HLo.out).drew, by rw [HBr.out]; exact HB2.out.drew⟩
  simp [results, Try.results14, go_sem, ce, cs, cell_set_eq]
theorem pEntries (bv v : Value) (l : List Tk) (x : Rw.R) (w : World) (h : Reads encT w v l) (hs : l.length ≤ 100000) (hf : ∀ x ∈ l, x.2.1 ≤ 1000000) (h1 : x.from' ≤ x.to) (h2 : x.to ≤ l.length) :
    Calls Try.prog 14 #[bv, v, rAgg x] w (GivesE 42 (Rw.ents l x).1 (Rw.ents l x).2 w) := by
  by_cases hk : x.kind = 5
  · obtain ⟨k, f, t, c⟩ := x
    dsimp only at hk h1 h2
    subst hk
    have e : Rw.ents l ⟨5, f, t, c⟩ = (Rw.entsB f ((l.drop f).take (t - f)), Rw.restB f ((l.drop f).take (t - f))) := by unfold Rw.ents; rw [if_pos rfl]
    rw [e]
    exact pEntriesBody bv v l f t c w h hs hf h1 h2
  · have e : Rw.ents l x = ([], x.from') := by unfold Rw.ents; rw [if_neg hk]
    rw [e]
    exact pEntriesNone bv v l x w hk
end Go.Proofs.Ytaokjeopmhbddaa
