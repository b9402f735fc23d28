/- The chapter's own entries (correctorref9.Entries). -/
import Derived.Test.YtaokjeopmhbddaaErf
import Derived.Deep.DeepCutAuto
import Derived.Deep.CutBlock
import Derived.BigQuiet
namespace Go.Proofs.Ytaokjeopmhbddaa
open Go.RowKit
open Go.Proofs.Ytaokjeopmhbddaa.Sg
open Go.Proofs.Ytaokjeopmhbddaa.Sq
set_option linter.unusedVariables false

set_option maxHeartbeats 1000000 in
theorem rEntriesNone (v : Value) (x : Rw.R) (w : World) (hk : x.kind ≠ 5) :
    Calls Try.prog 15 #[v, rAgg x] w (GivesE 43 [] x.from' w) := by
  obtain ⟨k, f, t, c⟩ := x
  dsimp only at hk ⊢
  have g : ((k : Int) != 5) = true := by simp; omega
  clear hk
  go_enter Try.func15, Try.ntmps15
  go_wp2_with fail
  go_quiet (fail)
  go_wp2_with fail
  go_ret2
  exact ⟨_, rfl, own_nil encE _ _, below_drewN (below_alloc w _) nq⟩
theorem counts_lead (ts : List Tk) (k : Nat) (h : ∀ j x, j < k → ts[j]? = some x → Sc.counts x.1 = false) (hk : k = ts.length ∨ ∃ x, ts[k]? = some x ∧ Sc.counts x.1 = true) : Rw.leadN ts = k := Rw.lead_is ts k h hk
set_option maxHeartbeats 16000000 in
set_option maxRecDepth 100000 in
theorem rEntriesBody (v : Value) (l : List Tk) (F M T : Nat) (c : Int) (w : World) (h : Reads encT w v l) (hs : l.length ≤ 100000) (hf : ∀ x ∈ l, x.2.1 ≤ 1000000) (h1 : 0 < M) (hT : F + M = T) (h3 : T ≤ l.length) :
    Calls Try.prog 15 #[v, .agg #[.int .i64 5, .int .i64 F, .int .i64 T, .int .i64 c]] w (GivesE 43 (Rw.entsB F ((l.drop F).take M)) (Rw.restB F ((l.drop F).take M)) w) := by
  have h2 : F + M ≤ l.length := by omega
  have HSk := Lib.hid (fun W (hb : Below w.heap.size w W) p (hp : p ≤ M) => rSkip v l F M p W (h.below hb) (by omega) h2 hp)
  obtain ⟨a, cap, rfl⟩ := h.shape
  have hlen : ((l.drop F).take M).length = M := by rw [List.length_take, List.length_drop]; omega
  have hg := row_get l F M
  obtain ⟨ts, hts⟩ : ∃ ts, (l.drop F).take M = ts := ⟨_, rfl⟩
  rw [hts] at hlen hg HSk ⊢
  rw [hT] at HSk
  have HT := Lib.hid hT
  have h4 : F ≤ T ∧ M ≤ T := by omega
  have HAt := Lib.hid (fun W (hb : Below w.heap.size w W) j x (hj : ts[j]? = some x) => toks_at (h.below hb) (F + j) x (hg j x hj))
  have HFs := Lib.hid (fun j x (hj : ts[j]? = some x) => hf x (List.mem_of_getElem? (hg j x hj)))
  have HLen := Lib.hid hlen
  have HL := Lib.hid (Rw.lead_is ts)
  have hld := Rw.lead_le ts
  rw [hlen] at hld
  obtain ⟨A, hA⟩ : ∃ A, Rw.leadN ts = A := ⟨_, rfl⟩
  obtain ⟨DS, hDS⟩ : ∃ DS, Rw.dashesE F ts A = DS := ⟨_, rfl⟩
  obtain ⟨KQ, hKQ⟩ : ∃ KQ, Rw.dashesN ts A = KQ := ⟨_, rfl⟩
  have hea := Rw.ents_all F ts
  have hra := Rw.rest_all F ts
  rw [hA] at hea hra HL hld
  rw [hKQ, hDS] at hea
  obtain ⟨EB, hEB⟩ : ∃ EB, Rw.entsB F ts = EB := ⟨_, rfl⟩
  obtain ⟨RB', hRB⟩ : ∃ RB', Rw.restB F ts = RB' := ⟨_, rfl⟩
  rw [hEB] at hea hra
  rw [hRB] at hra
  rw [hEB, hRB]
  have HG := Lib.hid (fun e w' => show (∃ u, e = .returned (.tuple #[u, .int .i64 RB']) ∧ w'.ownsRow w.heap.size 43 4 u EB.length (encE.all EB) ∧ Below w.heap.size w w') → GivesE 43 EB RB' w e w' from fun h => h)
  obtain ⟨Q, hQ⟩ : ∃ Q, GivesE 43 EB RB' w = Q := ⟨_, rfl⟩
  rw [hQ] at HG ⊢
  have HEa := Lib.hid hea
  have HRa := Lib.hid hra
  have HDS := Lib.hid hDS
  have HKQ := Lib.hid hKQ
  obtain ⟨y, hy⟩ : ∃ y, ts[0]? = some y := ⟨_, List.getElem?_eq_getElem (by omega)⟩
  have hhf := Rw.headF_get ts y hy
  have hy1 := HFs.out 0 y hy
  have HY := Lib.hid hy
  have HHf := Lib.hid hhf
  obtain ⟨N, hN⟩ : ∃ N, l.length = N := ⟨_, rfl⟩
  rw [hN] at hs h3 HSk ⊢
  obtain ⟨w1, hw1⟩ : ∃ w1, w.alloc (.cells #[.int .i64 5, .int .i64 F, .int .i64 T, .int .i64 c] 33) = w1 := ⟨_, rfl⟩
  obtain ⟨Br, hBr⟩ : ∃ Br, w.heap.size = Br := ⟨_, rfl⟩
  have hb1 := below_alloc w (.cells #[.int .i64 5, .int .i64 F, .int .i64 T, .int .i64 c] 33)
  have c1 : w1.cell? ⟨Br, 1, none⟩ = some (.int .i64 F) := by rw [← hw1, ← hBr]; exact at_new rfl
  have c2 : w1.cell? ⟨Br, 2, none⟩ = some (.int .i64 T) := by rw [← hw1, ← hBr]; exact at_new rfl
  rw [hw1] at hb1
  have HB1 := Lib.hid hb1
  have HW1 := Lib.hid hw1
  have HBr := Lib.hid hBr
  have HC1 := Lib.hid (fun W (hb : Below w1.heap.size w1 W) => at_below hb c1)
  have HC2 := Lib.hid (fun W (hb : Below w1.heap.size w1 W) => at_below hb c2)
  clear hT h2 h hf hts hlen hg hA hDS hKQ hea hra hEB hRB hQ hy hhf hN hw1 hBr hb1 c1 c2
  go_enter Try.func15, Try.ntmps15
  go_upto_region 3 with fail
  rw [HW1.out, HBr.out]
  clear HW1 HBr
  have c1 := HC1.out w1 (Below.refl _ _)
  have c2 := HC2.out w1 (Below.refl _ _)
  go_upto_block 0 with fail
  go_cut [6] (fun q wx => q = .int .i64 (F + A : Nat) ∧ w1 = wx)
  case first =>
    go_wp2_with fail
    go_loopw [6] (fun iv wr => ∃ p : Nat, iv = .int .i64 (F + p : Nat) ∧ p ≤ M ∧ Hid (∀ j x, j < p → ts[j]? = some x → Sc.counts x.1 = false) ∧ w1 = wr) (fun iv _ => T - (intOf iv).toNat)
    case atStart => exact ⟨0, by go_num, Nat.zero_le _, Lib.hid (fun j x h => absurd h (Nat.not_lt_zero j)), rfl⟩
    case round =>
      obtain ⟨p, rfl, hp, HA, rfl⟩ := hrel
      by_cases hlt : p < M
      · obtain ⟨x, hx⟩ : ∃ x, ts[p]? = some x := ⟨_, List.getElem?_eq_getElem (by rw [HLen.out]; exact hlt)⟩
        obtain ⟨b, off, rfl, d0, -, -⟩ := HAt.out w1 HB1.out p x hx
        have hpt : F + p < T := by have := HT.out; omega
        have hi : ((F + p : Nat) : Int) < (T : Int) := by omega
        have hi2 : ((F + p : Nat) : Int) < (N : Int) := by omega
        have hc := fun W => refCounts x.1 W
        cases hq : Sc.counts x.1 with
        | true =>
          rw [hq] at hc
          have hres := HL.out p HA.out (.inr ⟨x, hx, hq⟩)
          have HC := Lib.hid hc
          have HRe := Lib.hid hres
          clear hc hq HA hx hres HL
          go_wp2_with fail
          refine (HC.out _).mono ?_
          rintro e w2 ⟨rfl, rfl⟩
          go_wp2_with fail
          go_meet
          exact ⟨by rw [HRe.out]; go_num, rfl⟩
        | false =>
          rw [hq] at hc
          have HA2 := Lib.hid (fun j y (hj : j < p + 1) (hy : ts[j]? = some y) => show Sc.counts y.1 = false by
            rcases Nat.lt_succ_iff_lt_or_eq.1 hj with h | h
            · exact HA.out j y h hy
            · subst h; rw [hx] at hy; injection hy with hy; subst hy; exact hq)
          have HC := Lib.hid hc
          clear hc hq HA hx HL
          go_wp2_with fail
          refine (HC.out _).mono ?_
          rintro e w2 ⟨rfl, rfl⟩
          go_wp2_with fail
          go_roundw
          case rel => exact ⟨p + 1, by go_num, by omega, HA2, trivial⟩
          case measure => simp [intOf]; omega
      · obtain rfl : p = M := by omega
        have hne : ¬ (((F + p : Nat) : Int) < (T : Int)) := by have := HT.out; omega
        have hres := HL.out p HA.out (.inl HLen.out.symm)
        have HRe := Lib.hid hres
        clear HA HL hlt hres
        go_wp2_with fail
        go_meet
        exact ⟨by rw [HRe.out]; go_num, rfl⟩
  case rest =>
  obtain ⟨rfl, rfl⟩ := hcut
  obtain ⟨b, off, rfl, -, y1, -⟩ := HAt.out w1 HB1.out 0 y HY.out
  simp only [Nat.add_zero] at y1
  have hF0 : (F : Int) < (N : Int) := by have := HT.out; omega
  clear HL
  have HCa := Lib.hid (fun p x (hx : ts[p]? = some x) => show Rw.cAt ts p = (x.2.1 : Int) - (y.2.1 : Int) by unfold Rw.cAt; rw [Rw.fromAt_get _ _ _ hx, HHf.out])
  go_upto_block 2 with fail
  clear c1 c2 y1
  go_cut [6, 9] (fun iv ev wx => iv = .int .i64 (F + KQ : Nat) ∧ wx.ownsRow w1.heap.size 43 4 ev DS.length (encE.all DS) ∧ Below w1.heap.size w1 wx ∧ KQ ≤ M ∧ DS.length ≤ KQ)
  case first =>
    go_wp2_with fail
    go_loopw [6, 9] (fun iv ev wr => ∃ (p : Nat) (es : List Rw.E), iv = .int .i64 (F + p : Nat) ∧ p ≤ M ∧ es.length ≤ p ∧ Hid (es ++ Rw.dashesE F ts p = DS) ∧ Hid (Rw.dashesN ts p = KQ) ∧ wr.ownsRow w1.heap.size 43 4 ev es.length (encE.all es) ∧ Below w1.heap.size w1 wr) (fun iv _ _ => T - (intOf iv).toNat)
    case atStart => exact ⟨A, [], by go_num, hld, Nat.zero_le _, HDS, HKQ, own_nil encE _ _, Below.refl _ _⟩
    case round =>
      obtain ⟨p, es, rfl, hp, hel, HE, HK, hown, hb⟩ := hrel
      have HO := Lib.hid hown
      have HB := Lib.hid hb
      have HBw := Lib.hid (below_from HB1.out hb)
      have c2 := HC2.out wr hb
      by_cases hlt : p < M
      · obtain ⟨x, hx⟩ : ∃ x, ts[p]? = some x := ⟨_, List.getElem?_eq_getElem (by rw [HLen.out]; exact hlt)⟩
        obtain ⟨b', off', he, d0, d1, -⟩ := HAt.out wr HBw.out p x hx
        injection he with he
        injection he with e1 e2
        subst e1 e2
        have hpt : F + p < T := by have := HT.out; omega
        have hi : ((F + p : Nat) : Int) < (T : Int) := by omega
        have hi2 : ((F + p : Nat) : Int) < (N : Int) := by omega
        have hhd := Rw.headK_drop ts p x hx
        have hx1 := HFs.out p x hx
        have hca := HCa.out p x hx
        obtain ⟨K, hK⟩ : ∃ K, x.1 = K := ⟨_, rfl⟩
        rw [hK] at d0 hhd
        by_cases q : K = 5
        · have hst := Rw.dashes_step F ts p (by rw [hhd]; exact q)
          have hsk := HSk.out
          have hbi := Rw.blanks_in ts (p + 1) (by rw [HLen.out]; omega)
          rw [HLen.out] at hbi
          obtain ⟨P2, hP2⟩ : ∃ P2, p + 1 + Rw.blanks (ts.drop (p + 1)) = P2 := ⟨_, rfl⟩
          have hs1 := fun W (hb : Below w.heap.size w W) => HSk.out W hb (p + 1) (by omega)
          rw [hP2] at hst hs1 hbi
          rw [show ((F + (p + 1) : Nat) : Int) = (F : Int) + (p : Int) + 1 from by omega] at hs1
          have hp2 : p + 1 ≤ P2 := by omega
          have HSt := Lib.hid hst
          have HS1 := Lib.hid hs1
          have HCs := Lib.hid (show encE.cells (Rw.dashE F ts p) = [.bool true, .int .i64 ((x.2.1 : Int) - (y.2.1 : Int)), .int .i64 ((F : Int) + (p : Int)), .int .i64 ((F : Int) + (p : Int) + 1)] by simp [encE, eCells, Rw.dashE, hca])
          have g : ((K : Int) == 5) = true := by simp; omega
          have HSz := Lib.hid hb.size
          clear hst hsk hs1 hP2 hx hhd q hK hown hb hca
          go_wp2_with (at_builtin; go_must (refine append_one tyF rfl (.tmp 52) (.tmp 64) rfl w1.heap.size _ es (Rw.dashE F ts p) _ HCs.out rfl HO.out rfl (by simp only [maxLen]; omega) (by omega) HSz.out ?_; intro v7 w7 hown7 hg7; have HO7 := Lib.hid hown7; have HB7 := Lib.hid ((HB.out.alloc HSz.out _).grown hg7 (by have := HSz.out; simp; omega) (fun k hk => (HO.out.lt k hk).1)); have c2 := HC2.out w7 HB7.out; clear hown7 hg7))
          refine (HS1.out w7 (below_from HB1.out HB7.out)).mono ?_
          rintro e w8 ⟨rfl, rfl⟩
          have hlen7 : (es ++ [Rw.dashE F ts p]).length = es.length + 1 := by simp
          go_wp2_with fail
          go_roundw
          case rel =>
            (repeat apply Exists.intro)
            refine ⟨⟨P2, es ++ [Rw.dashE F ts p], ?_, hbi, by omega, Lib.hid (by rw [List.append_assoc, ← HE.out, HSt.out.1]; rfl), Lib.hid (HSt.out.2.symm.trans HK.out), HO7.out, HB7.out⟩, rfl⟩
            go_num
          case measure => have := HT.out; simp [intOf]; omega
        · have hst := Rw.dashes_stop F ts p (by rw [hhd]; exact q)
          have g : ((K : Int) == 5) = false := by simp; omega
          have hk : p = KQ := by rw [← HK.out]; exact hst.2.symm
          have he : es = DS := by rw [← HE.out, hst.1, List.append_nil]
          subst hk he
          clear hst q hK hhd hx hown hb hca
          go_wp2_with fail
          go_meet
          exact ⟨rfl, HO.out, HB.out, hp, hel⟩
      · have hst := Rw.dashes_end F ts p (by rw [HLen.out]; omega)
        have hpt : ¬ (((F + p : Nat) : Int) < (T : Int)) := by have := HT.out; omega
        have hk : p = KQ := by rw [← HK.out]; exact hst.2.symm
        have he : es = DS := by rw [← HE.out, hst.1, List.append_nil]
        subst hk he
        clear hst hown hb
        go_wp2_with fail
        go_meet
        exact ⟨rfl, HO.out, HB.out, hp, hel⟩
  case rest =>
  obtain ⟨rfl, hown, hb, hkm, hdl⟩ := hcut
  have HO := Lib.hid hown
  have HB := Lib.hid hb
  have HBw := Lib.hid (below_from HB1.out hb)
  have c2 := HC2.out wc hb
  have hk0 := Rw.key_none F ts KQ
  have hk1 := Rw.key_some F ts KQ
  obtain ⟨V, hV⟩ : ∃ V, Rw.keyV ts KQ = V := ⟨_, rfl⟩
  rw [hV] at hk0 hk1
  have HK0 := Lib.hid hk0
  have HK1 := Lib.hid hk1
  have HV := Lib.hid hV
  clear hk0 hk1 hV hown hb HDS HKQ
  go_upto_block 4 with fail
  go_cut [10] (fun kv wx => ∃ q : Nat, kv = .int .i64 (F + q : Nat) ∧ q ≤ M ∧ Hid (Rw.keyV ts q = V) ∧ Hid (∀ x, ts[q]? = some x → Rw.isProp x.1 = false) ∧ wc = wx)
  case first =>
    go_wp2_with fail
    go_loopw [10] (fun kv wr => ∃ q : Nat, kv = .int .i64 (F + q : Nat) ∧ q ≤ M ∧ Hid (Rw.keyV ts q = V) ∧ wc = wr) (fun kv _ => T - (intOf kv).toNat)
    case atStart => exact ⟨KQ, by go_num, hkm, HV, rfl⟩
    case round =>
      obtain ⟨q, rfl, hq, HVq, rfl⟩ := hrel
      by_cases hlt : q < M
      · obtain ⟨x, hx⟩ : ∃ x, ts[q]? = some x := ⟨_, List.getElem?_eq_getElem (by rw [HLen.out]; exact hlt)⟩
        obtain ⟨b', off', he, d0, d1, -⟩ := HAt.out wc HBw.out q x hx
        injection he with he
        injection he with e1 e2
        subst e1 e2
        have hqt : F + q < T := by have := HT.out; omega
        have hi : ((F + q : Nat) : Int) < (T : Int) := by omega
        have hi2 : ((F + q : Nat) : Int) < (N : Int) := by omega
        have hbi := Rw.blanks_in ts (q + 1) (by rw [HLen.out]; omega)
        rw [HLen.out] at hbi
        have hs1 := HSk.out wc HBw.out (q + 1) (by omega)
        have hkp := Rw.keyV_prop ts q x hx
        obtain ⟨Q2, hQ2⟩ : ∃ Q2, q + 1 + Rw.blanks (ts.drop (q + 1)) = Q2 := ⟨_, rfl⟩
        rw [hQ2] at hs1 hbi hkp
        rw [show ((F + (q + 1) : Nat) : Int) = (F : Int) + (q : Int) + 1 from by omega] at hs1
        have hq2 : q + 1 ≤ Q2 := by omega
        have HS1 := Lib.hid hs1
        obtain ⟨K, hK⟩ : ∃ K, x.1 = K := ⟨_, rfl⟩
        rw [hK] at d0 hkp
        have HKp := Lib.hid hkp
        have HNp := Lib.hid (fun (h : Rw.isProp K = false) z (hz : ts[q]? = some z) => show Rw.isProp z.1 = false by rw [hx] at hz; injection hz with hz; subst hz; rw [hK]; exact h)
        clear hs1 hkp hQ2 hx hK d1
        by_cases q1 : K = 12
        · have g : ((K : Int) == 12) = true := by simp; omega
          have HV2 := Lib.hid (show Rw.keyV ts Q2 = V by rw [← HVq.out]; exact (HKp.out (by rw [q1]; rfl)).symm)
          clear q1 HNp HKp HVq
          go_wp2_with fail
          refine HS1.out.mono ?_
          rintro e w8 ⟨rfl, rfl⟩
          go_wp2_with fail
          go_roundw
          case rel =>
            (repeat apply Exists.intro)
            refine ⟨⟨Q2, ?_, hbi, HV2, trivial⟩, rfl⟩
            go_num
          case measure => have := HT.out; simp [intOf]; omega
        have g12 : ((K : Int) == 12) = false := by simp; omega
        by_cases q2 : K = 14
        · have g : ((K : Int) == 14) = true := by simp; omega
          have HV2 := Lib.hid (show Rw.keyV ts Q2 = V by rw [← HVq.out]; exact (HKp.out (by rw [q2]; rfl)).symm)
          clear q1 q2 HNp HKp HVq
          go_wp2_with fail
          refine HS1.out.mono ?_
          rintro e w8 ⟨rfl, rfl⟩
          go_wp2_with fail
          go_roundw
          case rel =>
            (repeat apply Exists.intro)
            refine ⟨⟨Q2, ?_, hbi, HV2, trivial⟩, rfl⟩
            go_num
          case measure => have := HT.out; simp [intOf]; omega
        have g14 : ((K : Int) == 14) = false := by simp; omega
        have HN2 := Lib.hid (HNp.out (by simp [Rw.isProp]; omega))
        clear q1 q2 HNp HKp HS1
        go_wp2_with fail
        go_meet
        exact ⟨q, by go_num, hq, HVq, HN2, rfl⟩
      · have hqt : ¬ (((F + q : Nat) : Int) < (T : Int)) := by have := HT.out; omega
        have HN2 := Lib.hid (fun z (hz : ts[q]? = some z) => show Rw.isProp z.1 = false by have := (List.getElem?_eq_some_iff.1 hz).1; have := HLen.out; omega)
        go_wp2_with fail
        go_meet
        exact ⟨q, by go_num, hq, HVq, HN2, rfl⟩
  case rest =>
  obtain ⟨q, rfl, hq, HVq, HNq, rfl⟩ := hcut
  obtain ⟨sb, hsb⟩ : ∃ sb : Bool, sb = (decide (q < M) && Rw.isScal (Rw.headK (ts.drop q))) := ⟨_, rfl⟩
  have HSb := Lib.hid hsb
  clear hsb
  go_upto_region 15 with fail
  go_cut [110] (fun z wx => z = .bool sb ∧ wc = wx)
  case first =>
    by_cases hlt : q < M
    · obtain ⟨x, hx⟩ : ∃ x, ts[q]? = some x := ⟨_, List.getElem?_eq_getElem (by rw [HLen.out]; exact hlt)⟩
      obtain ⟨b', off', he, d0, d1, -⟩ := HAt.out wc HBw.out q x hx
      injection he with he
      injection he with e1 e2
      subst e1 e2
      have hqt : F + q < T := by have := HT.out; omega
      have hi : ((F + q : Nat) : Int) < (T : Int) := by omega
      have hi2 : ((F + q : Nat) : Int) < (N : Int) := by omega
      have hsc := rScalar x.1 wc
      have hsb := HSb.out
      rw [Rw.headK_drop ts q x hx] at hsb
      rw [show Rw.isScal x.1 = sb by rw [hsb]; simp [hlt]] at hsc
      have HSc := Lib.hid hsc
      clear hx hsc hsb d1
      go_wp2_with fail
      refine HSc.out.mono ?_
      rintro e w8 ⟨rfl, rfl⟩
      go_wp2_with fail
      go_meet
      exact ⟨rfl, rfl⟩
    · have hqt : ¬ (((F + q : Nat) : Int) < (T : Int)) := by have := HT.out; omega
      have hsb : sb = false := by rw [HSb.out]; simp [hlt]
      subst hsb
      go_wp2_with fail
      go_meet
      exact ⟨rfl, rfl⟩
  case rest =>
  obtain ⟨rfl, rfl⟩ := hcut
  go_upto_if 110 with fail
  go_cut [10] (fun kv wx => ∃ r : Nat, kv = .int .i64 (F + r : Nat) ∧ r ≤ M ∧ Hid (Rw.colV ts r = V) ∧ wc = wx)
  case first =>
    have hsb := HSb.out
    by_cases hlt : q < M
    · obtain ⟨x, hx⟩ : ∃ x, ts[q]? = some x := ⟨_, List.getElem?_eq_getElem (by rw [HLen.out]; exact hlt)⟩
      rw [Rw.headK_drop ts q x hx] at hsb
      have hnp := HNq.out x hx
      cases sb with
      | true =>
        have hsc : Rw.isScal x.1 = true := by simp [hlt] at hsb; exact hsb
        have hbi := Rw.blanks_in ts (q + 1) (by rw [HLen.out]; omega)
        rw [HLen.out] at hbi
        have hs1 := HSk.out wc HBw.out (q + 1) (by omega)
        have hkp := Rw.keyV_scal ts q x hx hnp hsc
        rw [HVq.out] at hkp
        obtain ⟨Q2, hQ2⟩ : ∃ Q2, q + 1 + Rw.blanks (ts.drop (q + 1)) = Q2 := ⟨_, rfl⟩
        rw [hQ2] at hs1 hbi hkp
        rw [show ((F + (q + 1) : Nat) : Int) = (F : Int) + (q : Int) + 1 from by omega] at hs1
        have hqt : F + q < T := by have := HT.out; omega
        have HS1 := Lib.hid hs1
        have HKp := Lib.hid hkp
        clear hs1 hkp hQ2 hx hnp hsc hsb
        go_wp2_with fail
        refine HS1.out.mono ?_
        rintro e w8 ⟨rfl, rfl⟩
        go_wp2_with fail
        go_meet
        exact ⟨Q2, rfl, hbi, Lib.hid HKp.out.symm, rfl⟩
      | false =>
        have hsc : Rw.isScal x.1 = false := by simpa [hlt] using hsb.symm
        have hkp := Rw.keyV_other ts q x hx hnp hsc
        rw [HVq.out] at hkp
        have HKp := Lib.hid hkp
        clear hkp hx hnp hsc hsb
        go_wp2_with fail
        go_meet
        exact ⟨q, by go_num, hq, Lib.hid HKp.out.symm, rfl⟩
    · have hsf : sb = false := by rw [hsb]; simp [hlt]
      subst hsf
      have hkp := HVq.out
      rw [Rw.keyV_end ts q (by rw [HLen.out]; omega)] at hkp
      have HKp := Lib.hid (show Rw.colV ts q = V by rw [Rw.colV_end ts q (by rw [HLen.out]; omega)]; exact hkp)
      clear hkp hsb
      go_wp2_with fail
      go_meet
      exact ⟨q, by go_num, hq, HKp, rfl⟩
  case rest =>
  obtain ⟨r, rfl, hr, HVr, rfl⟩ := hcut
  clear HSb HVq HNq
  obtain ⟨cb, hcb⟩ : ∃ cb : Bool, cb = (decide (r < M) && (Rw.headK (ts.drop r) == 6)) := ⟨_, rfl⟩
  have HCb := Lib.hid hcb
  clear hcb
  go_upto_region 17 with fail
  go_cut [128] (fun z wx => z = .bool cb ∧ wc = wx)
  case first =>
    by_cases hlt : r < M
    · obtain ⟨x, hx⟩ : ∃ x, ts[r]? = some x := ⟨_, List.getElem?_eq_getElem (by rw [HLen.out]; exact hlt)⟩
      obtain ⟨b', off', he, d0, d1, -⟩ := HAt.out wc HBw.out r x hx
      injection he with he
      injection he with e1 e2
      subst e1 e2
      have hqt : F + r < T := by have := HT.out; omega
      have hi : ((F + r : Nat) : Int) < (T : Int) := by omega
      have hi2 : ((F + r : Nat) : Int) < (N : Int) := by omega
      have hcb := HCb.out
      rw [Rw.headK_drop ts r x hx] at hcb
      obtain ⟨K, hK⟩ : ∃ K, x.1 = K := ⟨_, rfl⟩
      rw [hK] at d0 hcb
      have g : ((K : Int) == 6) = cb := by
        rw [hcb]
        by_cases h6 : K = 6
        · subst h6; simp [hlt]
        · have e1 : ((K : Int) == 6) = false := by simp; omega
          have e2 : (K == 6) = false := by simp; exact h6
          rw [e1, e2]; simp
      clear hx hcb hK d1
      go_wp2_with fail
      go_meet
      exact ⟨rfl, rfl⟩
    · have hqt : ¬ (((F + r : Nat) : Int) < (T : Int)) := by have := HT.out; omega
      have hsb : cb = false := by rw [HCb.out]; simp [hlt]
      subst hsb
      go_wp2_with fail
      go_meet
      exact ⟨rfl, rfl⟩
  case rest =>
  obtain ⟨rfl, rfl⟩ := hcut
  go_upto_if 128 with fail
  go_cut [9] (fun ev wx => wx.ownsRow w1.heap.size 43 4 ev EB.length (encE.all EB) ∧ Below w1.heap.size w1 wx)
  case first =>
    have hcb := HCb.out
    have hvr := HVr.out
    cases cb with
    | true =>
      obtain ⟨hlt, h6⟩ : r < M ∧ Rw.headK (ts.drop r) = 6 := by simpa using hcb.symm
      have hv : V = ((r + 1 : Nat) : Int) := by rw [← hvr]; unfold Rw.colV; rw [if_pos h6]
      obtain ⟨q2, hq2, hkq, hqn, hkn, hke⟩ := HK1.out (by omega)
      obtain rfl : q2 = r + 1 := by omega
      rw [HLen.out] at hkn
      obtain ⟨x, hx⟩ : ∃ x, ts[KQ]? = some x := ⟨_, List.getElem?_eq_getElem (by rw [HLen.out]; exact hkn)⟩
      obtain ⟨b', off', he, d0, d1, -⟩ := HAt.out wc HBw.out KQ x hx
      injection he with he
      injection he with e1 e2
      subst e1 e2
      have hx1 := HFs.out KQ x hx
      have hca := HCa.out KQ x hx
      have hrt : F + r < T := by have := HT.out; omega
      have hi2 : ((F + KQ : Nat) : Int) < (N : Int) := by have := HT.out; omega
      have hE : DS ++ [⟨false, Rw.cAt ts KQ, F + KQ, F + (r + 1)⟩] = EB := by rw [HEa.out, hke]
      have HCs := Lib.hid (show encE.cells ⟨false, Rw.cAt ts KQ, F + KQ, F + (r + 1)⟩ = [.bool false, .int .i64 ((x.2.1 : Int) - (y.2.1 : Int)), .int .i64 ((F : Int) + (KQ : Int)), .int .i64 ((F : Int) + (r : Int) + 1)] by simp [encE, eCells, hca]; omega)
      have HE2 := Lib.hid hE
      have HSz := Lib.hid HB.out.size
      have hz : DS.length ≤ 100000 := by omega
      clear hcb hvr hv hq2 hke h6 hx hca hE d0 hkq hqn
      go_wp2_with (at_builtin; go_must (refine append_one tyF rfl (.tmp 129) (.tmp 141) rfl w1.heap.size _ DS ⟨false, Rw.cAt ts KQ, F + KQ, F + (r + 1)⟩ _ HCs.out rfl HO.out rfl (by simp only [maxLen]; omega) (by omega) HSz.out ?_; intro v7 w7 hown7 hg7))
      rw [HE2.out] at hown7
      go_meet
      exact ⟨hown7, (HB.out.alloc HSz.out _).grown hg7 (by have := HSz.out; simp; omega) (fun k hk => (HO.out.lt k hk).1)⟩
    | false =>
      have hv : V = -1 := by
        rw [← hvr]
        unfold Rw.colV
        rw [if_neg]
        intro h6
        rw [h6] at hcb
        by_cases hlt : r < M
        · simp [hlt] at hcb
        · rw [List.drop_eq_nil_of_le (by rw [HLen.out]; omega)] at h6; cases h6
      have hE : DS = EB := by rw [HEa.out, HK0.out hv, List.append_nil]
      subst hE
      clear hcb hvr hv
      go_wp2_with fail
      go_meet
      exact ⟨HO.out, HB.out⟩
  case rest =>
  obtain ⟨hown, hb⟩ := hcut
  rename World => w9
  have hR := Reads.of_own (E := encE) hown
  obtain ⟨a3, cap3, hv3⟩ := hR.shape
  subst hv3
  have HBf := Lib.hid (below_from HB1.out hb)
  have HOf := Lib.hid (own_base hown HB1.out.size)
  have hra := HRa.out
  clear HSk HAt HFs HK0 HK1 HV HVr HCb HEa HRa HO HB HBw HCa HC1 HC2
  rcases List.eq_nil_or_concat EB with hnil | ⟨E0, z, hz⟩
  · subst hnil
    have hrb : RB' = F + A := hra
    have HD := Lib.hid (HG.out _ w9 ⟨.slice none 0 0, rfl, own_nil encE _ _, HBf.out⟩)
    clear hown hb hR hra
    subst hrb
    go_wp2_with fail
    exact HD.out
  · rw [List.concat_eq_append] at hz
    have hlen : EB.length = E0.length + 1 := by rw [hz]; simp
    obtain ⟨m, hm⟩ : ∃ m, E0.length = m := ⟨_, rfl⟩
    rw [hm] at hlen
    have hzm : EB[m]? = some z := by rw [hz, ← hm]; simp
    have hsz := hR.size_le
    simp only [maxLen] at hsz
    rw [hlen] at hsz
    obtain ⟨b4, o4, rfl, -, -, -, z3⟩ := ents_at hR m z hzm
    have hrb : RB' = z.to := by rw [hra, hz, Rw.restOf_snoc]
    have HD := Lib.hid (fun n => HG.out (.returned (.tuple #[.slice (some ⟨b4, o4, none⟩) EB.length cap3, .int .i64 z.to])) (w9.drewN n) ⟨.slice (some ⟨b4, o4, none⟩) EB.length cap3, by rw [hrb], own_below HOf.out (below_drewN (Below.refl _ _) n), below_drewN HBf.out n⟩)
    have hm1 : (m : Int) < (m : Int) + 1 := by omega
    rw [hlen] at HD ⊢
    clear hown hb hR hra hz hzm hm hrb hlen HG HOf HBf
    go_wp2_with fail
    go_quiet (fail)
    go_wp2_with fail
    exact HD.out nq
theorem rEntries (v : Value) (l : List Tk) (x : Rw.R) (w : World) (h : Reads encT w v l) (hs : l.length ≤ 100000) (hf : ∀ x ∈ l, x.2.1 ≤ 1000000) (h1 : x.from' < x.to) (h2 : x.to ≤ l.length) :
    Calls Try.prog 15 #[v, rAgg x] w (GivesE 43 (Rw.ents l x).1 (Rw.ents l x).2 w) := by
  by_cases hk : x.kind = 5
  · obtain ⟨k, f, t, c⟩ := x
    dsimp only at hk h1 h2
    subst hk
    have e : Rw.ents l ⟨5, f, t, c⟩ = (Rw.entsB f ((l.drop f).take (t - f)), Rw.restB f ((l.drop f).take (t - f))) := by unfold Rw.ents; rw [if_pos rfl]
    rw [e]
    exact rEntriesBody v l f (t - f) t c w h hs hf (by omega) (by omega) h2
  · have e : Rw.ents l x = ([], x.from') := by unfold Rw.ents; rw [if_neg hk]
    rw [e]
    exact rEntriesNone v x w hk
end Go.Proofs.Ytaokjeopmhbddaa
