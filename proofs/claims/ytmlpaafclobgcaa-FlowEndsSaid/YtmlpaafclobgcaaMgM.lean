/- Several texts in one: Fw8 Fw9. -/
import Derived.Test.YtmlpaafclobgcaaFpl
import Derived.Test.YtmlpaafclobgcaaQt
import Derived.Test.YtmlpaafclobgcaaFw7
import Derived.Test.YtmlpaafclobgcaaDr
/- Package flow: planted. -/
namespace Go.Proofs.Ytmlpaafclobgcaa
open Go.RowKit
open Go.Proofs.Ytmlpaafclobgcaa.Sq
open Go.Proofs.Ytmlpaafclobgcaa.Ar
set_option linter.unusedVariables false

/-- What planted answers: a tree and a number; what was laid before B stays. -/
def Planted (B : Nat) (NR : Nat → Prop) (R : List Nd × Int) (w : World) (e : Ending) (w' : World) : Prop :=
  ∃ u, e = .returned (.tuple #[.agg #[u], .int .i64 R.2]) ∧ Nodes w' u R.1 ∧ Below B w w' ∧ ∀ k, k < w.heap.size → ¬ NR k → w'.heap[k]? = w.heap[k]?
set_option maxHeartbeats 4000000 in
set_option maxRecDepth 100000 in
theorem fPlanted0 (v : Value) (T0 : List Nd) (up : Int) (a : Option Addr) (cap : Nat) (w : World) (hN : Nodes w v T0) (hG : Ar.Good T0) (hs : T0.length ≤ 200) (hk : ∀ x ∈ T0, x.ks.length ≤ 200) :
    Calls Try.prog 23 #[.agg #[v], .int .i64 up, .slice a 0 cap] w (Planted w.heap.size (fun _ => False) (T0, -1) w) := by
  obtain ⟨ta, tc, rfl⟩ := hN.shape
  have hno : addN T0 (-1) 0 0 0 = (T0, -1) := by
    unfold addN mayAdd
    rfl
  have HA := Lib.hid (fun W (hb : Below w.heap.size w W) => by have := aAdd _ T0 (-1) 0 0 0 W (hN.below hb) hG hs hk; rw [hno] at this; exact this)
  obtain ⟨N, hNd⟩ : ∃ N, T0.length = N := ⟨_, rfl⟩
  rw [hNd] at HA ⊢
  have HNd := Lib.hid hNd
  obtain ⟨w1, hw1⟩ : ∃ w1, (w.alloc (.cells #[.slice ta N tc] 31)).alloc (.cells #[.slice none 0 0] 31) = w1 := ⟨_, rfl⟩
  obtain ⟨Bt, hBt⟩ : ∃ Bt, w.heap.size = Bt := ⟨_, rfl⟩
  obtain ⟨Br, hBr⟩ : ∃ Br, w.heap.size + 1 = Br := ⟨_, rfl⟩
  have hb1 := below_allocS (below_alloc w (.cells #[.slice ta N tc] 31)) (.cells #[.slice none 0 0] 31)
  have ct : w1.cell? ⟨Bt, 0, none⟩ = some (.slice ta N tc) := by rw [← hw1, ← hBt]; exact at_alloc (at_new rfl)
  have cr : Hld w1 Br 0 (.slice none 0 0) := by
    rw [← hw1, ← hBr]
    have h := hld_new (W := w.alloc (.cells #[.slice ta N tc] 31)) (C := #[.slice none 0 0]) (t := 31) (k := 0) rfl
    rw [size_alloc] at h
    exact h
  rw [hw1] at hb1
  have HB1 := Lib.hid hb1
  have HCr := Lib.hid cr
  have HA1 := Lib.hid (HA.out w1 hb1)
  have HW1 := Lib.hid hw1
  have hlo : w.heap.size ≤ Br := by omega
  have HBr := Lib.hid hBr
  have HBt := Lib.hid hBt
  have HQ := Lib.hid (fun u w' => show (Nodes w' u T0 ∧ Below w.heap.size w w') → Planted w.heap.size (fun _ => False) (T0, -1) w (.returned (.tuple #[.agg #[u], .int .i64 (-1)])) w' from fun h => ⟨u, rfl, h.1, h.2, fun k hk _ => h.2.block k hk⟩)
  obtain ⟨Q, hQ⟩ : ∃ Q, Planted w.heap.size (fun _ => False) (T0, -1) w = Q := ⟨_, rfl⟩
  rw [hQ] at HQ ⊢
  clear hN hG hs hk hno HA hw1 hBr hBt hb1 cr hNd hQ
  go_enter Try.func23, Try.ntmps23
  go_upto_region 1 with fail
  rw [HW1.out, HBr.out, HBt.out]
  clear HW1 HBr HBt
  go_wp2_with fail
  refine HA1.out.mono ?_
  rintro e w2 ⟨u, rfl, hn2, -, hb2⟩
  obtain ⟨ua, uc, rfl⟩ := hn2.shape
  rw [HNd.out] at hn2 ⊢
  have hcr := hld_below hb2 HCr.out
  have cr0 := hcr.1
  have fr0 := hcr.2
  have HD := Lib.hid (HQ.out (.slice ua N uc) _ ⟨hn2.set cr0 (.slice ua N uc), (below_from HB1.out hb2).setCell (p := ⟨Br, 0, none⟩) hlo _⟩)
  clear hn2 hb2 hcr HA1
  go_wp2_with fail
  refine bodyPost_ret (v := .tuple #[.agg #[.slice ua N uc], .int .i64 (-1)]) ?_ rfl HD.out
  simp [results, Try.results23, go_sem, cr0, cell_set_eq]
set_option maxHeartbeats 8000000 in
set_option maxRecDepth 100000 in
theorem fPlanted (v nv : Value) (T0 : List Nd) (up0 : Nat) (L : List Ln) (p0 : Ln) (B : Nat) (w : World) (hN : Nodes w v T0) (hG : Ar.Good T0) (hs : T0.length ≤ 200) (hk : ∀ x ∈ T0, x.ks.length ≤ 200)
    (hO : OT w B nv L) (hBw : B ≤ w.heap.size) (hLs : L.length ≤ 400000) (hkL : ∀ p ∈ L, p.nd.ks.length ≤ 400000 ∧ -1 ≤ p.nd.u ∧ p.nd.u ≤ 400000 ∧ ∀ z ∈ p.nd.ks, -200 ≤ z ∧ z ≤ 400000)
    (hp0 : L[0]? = some p0) (hm : mayAdd T0 up0 p0.nd.k p0.nd.f p0.nd.t = true) :
    Calls Try.prog 23 #[.agg #[v], .int .i64 up0, nv] w (Planted B (fun k => nv.ownBlock = some k ∨ ∃ p ∈ L, p.val.ownBlock = some k) (Fl.plantN T0 up0 (L.map Ln.nd)) w) := by
  have hL0 := (List.getElem?_eq_some_iff.1 hp0).1
  obtain ⟨ta, tc, rfl⟩ := hN.shape
  obtain ⟨g, cap, rfl, hBg, hfz, hc1, hc2⟩ := own_at hO.row hL0
  obtain ⟨NR, hNR⟩ : ∃ NR : Nat → Prop, (fun k => (Value.slice (some ⟨g, 0, none⟩) L.length cap).ownBlock = some k ∨ ∃ p ∈ L, p.val.ownBlock = some k) = NR := ⟨_, rfl⟩
  have hNg : NR g := by rw [← hNR]; exact .inl rfl
  have HNk := Lib.hid (show ∀ p ∈ L, ∀ k, p.val.ownBlock = some k → NR k from fun p hp k hk => by rw [← hNR]; exact .inr ⟨p, hp, hk⟩)
  rw [hNR]
  clear hNR
  -- what add answers
  obtain ⟨r, hr⟩ : ∃ r, addN T0 up0 p0.nd.k p0.nd.f p0.nd.t = r := ⟨_, rfl⟩
  have hr2 : r.2 = (T0.length : Int) := by
    obtain ⟨h0, h1, y, hy⟩ := may_up hm
    rw [← hr]; unfold addN; rw [if_pos hm, hy]
  have hrl : r.1.length = T0.length + 1 := by
    obtain ⟨h0, h1, y, hy⟩ := may_up hm
    rw [← hr]; unfold addN; rw [if_pos hm, hy]
    dsimp only
    rw [len_reachN _ _ (good_put hG up0 p0.nd.k p0.nd.f p0.nd.t y h0 hy (may_le hm hy).1)]
    simp
  have hres : Fl.plantN T0 up0 (L.map Ln.nd) = (r.1.take T0.length ++ Fl.shift up0 T0.length (L.map Ln.nd), (T0.length : Int)) := by
    cases L with
    | nil => simp at hL0
    | cons q Lr =>
      obtain rfl : q = p0 := by simpa using hp0
      show (if mayAdd T0 up0 q.nd.k q.nd.f q.nd.t = true then _ else _) = _
      rw [if_pos hm, hr]; rfl
  rw [hres]
  have HA := Lib.hid (fun W (hb : Below w.heap.size w W) => by have := aAddP _ T0 up0 p0.nd.k p0.nd.f p0.nd.t W (hN.below hb) hG hs hk; rw [hr] at this; unfold TreedAP at this; rw [hr2] at this; exact this)
  obtain ⟨M, hMd⟩ : ∃ M, T0.length = M := ⟨_, rfl⟩
  rw [hMd] at HA hrl hs ⊢
  obtain ⟨N, hNd⟩ : ∃ N, L.length = N := ⟨_, rfl⟩
  obtain ⟨w1, hw1⟩ : ∃ w1, (w.alloc (.cells #[.slice ta M tc] 31)).alloc (.cells #[.slice none 0 0] 31) = w1 := ⟨_, rfl⟩
  obtain ⟨Bt, hBt⟩ : ∃ Bt, w.heap.size = Bt := ⟨_, rfl⟩
  obtain ⟨Br, hBr⟩ : ∃ Br, w.heap.size + 1 = Br := ⟨_, rfl⟩
  have hb1 := below_allocS (below_alloc w (.cells #[.slice ta M tc] 31)) (.cells #[.slice none 0 0] 31)
  have ct : w1.cell? ⟨Bt, 0, none⟩ = some (.slice ta M tc) := by rw [← hw1, ← hBt]; exact at_alloc (at_new rfl)
  have kr : w1.heap[Br]? = some (.cells #[.slice none 0 0] 31 (0, 0)) := by
    rw [← hw1, ← hBr, ← size_alloc w (.cells #[.slice ta M tc] 31)]
    exact heap_alloc_new _ _
  rw [hw1] at hb1
  have hO1 := hO.below hb1
  -- the value's own node
  obtain ⟨ka0, kc0, hv0⟩ := (Reads.of_own (E := encI) (hO1.kids 0 p0 hp0)).shape
  obtain ⟨kn0, hkn0⟩ : ∃ kn0, p0.nd.ks.length = kn0 := ⟨_, rfl⟩
  rw [hkn0] at hv0
  have ce : ∀ (W : World) (LL : List Ln) (hW : OT W B (.slice (some ⟨g, 0, none⟩) L.length cap) LL) (i : Nat) (p : Ln) (hp : LL[i]? = some p) (k : Nat) (u : Value), (nCells p)[k]? = some u → W.cell? ⟨g, i * 6 + k, none⟩ = some u := fun W LL hW i p hp k u hu => by
    have hk6 : k < 6 := by have := (List.getElem?_eq_some_iff.1 hu).1; exact this
    have := hW.row.cells (g := g) rfl _ _ ((all_get encN LL i p hp k hk6).trans hu)
    rw [add_addr, Nat.zero_add] at this
    exact this
  have e0 : w1.cell? ⟨g, 0, none⟩ = some (.int .i64 p0.nd.k) := by have := ce w1 L hO1 0 p0 hp0 0 _ rfl; simpa using this
  have e1 : w1.cell? ⟨g, 1, none⟩ = some (.int .i64 p0.nd.f) := by have := ce w1 L hO1 0 p0 hp0 1 _ rfl; simpa using this
  have e2 : w1.cell? ⟨g, 2, none⟩ = some (.int .i64 p0.nd.t) := by have := ce w1 L hO1 0 p0 hp0 2 _ rfl; simpa using this
  have e3 : w1.cell? ⟨g, 3, none⟩ = some (.int .i64 p0.nd.u) := by have := ce w1 L hO1 0 p0 hp0 3 _ rfl; simpa using this
  have e4 : w1.cell? ⟨g, 4, none⟩ = some (.slice ka0 kn0 kc0) := by have := ce w1 L hO1 0 p0 hp0 4 _ rfl; rw [hv0] at this; simpa using this
  have e5 : w1.cell? ⟨g, 5, none⟩ = some (.bool p0.nd.y) := by have := ce w1 L hO1 0 p0 hp0 5 _ rfl; simpa using this
  obtain ⟨w2, hw2⟩ : ∃ w2, w1.alloc (.cells #[.int .i64 p0.nd.k, .int .i64 p0.nd.f, .int .i64 p0.nd.t, .int .i64 p0.nd.u, .slice ka0 kn0 kc0, .bool p0.nd.y] 38) = w2 := ⟨_, rfl⟩
  obtain ⟨Bv, hBv⟩ : ∃ Bv, w1.heap.size = Bv := ⟨_, rfl⟩
  have hb2 : Below w1.heap.size w1 w2 := hw2 ▸ below_alloc w1 _
  have kv : w2.heap[Bv]? = some (.cells #[.int .i64 p0.nd.k, .int .i64 p0.nd.f, .int .i64 p0.nd.t, .int .i64 p0.nd.u, .slice ka0 kn0 kc0, .bool p0.nd.y] 38 (0, 0)) := by rw [← hw2, ← hBv]; exact heap_alloc_new _ _
  have n0 : w2.cell? ⟨Bv, 0, none⟩ = some (.int .i64 p0.nd.k) := Joins.cell_of_block kv 0
  have n1 : w2.cell? ⟨Bv, 1, none⟩ = some (.int .i64 p0.nd.f) := Joins.cell_of_block kv 1
  have n2 : w2.cell? ⟨Bv, 2, none⟩ = some (.int .i64 p0.nd.t) := Joins.cell_of_block kv 2
  have ct2 := at_below hb2 ct
  have kr2 := (hb2.block Br (lt_of_block kr)).trans kr
  have hO2 := hO1.below hb2
  have hb12 := below_from hb1 hb2
  have HA2 := Lib.hid (HA.out w2 hb12)
  have HW1 := Lib.hid hw1
  have HW2 := Lib.hid hw2
  have HBr := Lib.hid hBr
  have HBt := Lib.hid hBt
  have HBv := Lib.hid hBv
  have HO2 := Lib.hid hO2
  have HKr2 := Lib.hid kr2
  have HB12 := Lib.hid hb12
  have HBw := Lib.hid hBw
  have HKL := Lib.hid hkL
  have HP0 := Lib.hid hp0
  have HR2 := Lib.hid hr2
  have HRl := Lib.hid hrl
  have HNd := Lib.hid hNd
  have HBg := Lib.hid hBg
  have hBrB : B ≤ Br := by omega
  have hgBr : g ≠ Br := fun e => row_off_box hO1.row kr (by decide) (by rw [← e]; rfl)
  have hgw : g < w.heap.size := (hO.row.lt g rfl).2
  have hBrw : w.heap.size ≤ Br := by omega
  have hNp : 0 < N := by omega
  have hNs : N ≤ 400000 := by omega
  have HQ := Lib.hid (fun u w' => show (Nodes w' u (r.1.take M ++ Fl.shift up0 M (L.map Ln.nd)) ∧ Below B w w' ∧ ∀ k, k < w.heap.size → ¬ NR k → w'.heap[k]? = w.heap[k]?) → Planted B NR (r.1.take M ++ Fl.shift up0 M (L.map Ln.nd), (M : Int)) w (.returned (.tuple #[.agg #[u], .int .i64 M])) w' from fun h => ⟨u, rfl, h⟩)
  obtain ⟨Q, hQ⟩ : ∃ Q, Planted B NR (r.1.take M ++ Fl.shift up0 M (L.map Ln.nd), (M : Int)) w = Q := ⟨_, rfl⟩
  rw [hQ] at HQ ⊢
  have HCe := Lib.hid ce
  rw [hNd] at HO2 HCe ⊢
  clear hN hG hk hO hBw hLs hkL hp0 hm hL0 hBg hfz hc1 hc2 hr hr2 hrl hres HA hMd hNd hw1 hb1 kr hO1 hw2 hb2 kv kr2 hO2 hb12 hQ ce hv0 hkn0 hBr hBv hBt
  go_enter Try.func23, Try.ntmps23
  go_upto_region 1 with fail
  rw [HW1.out, HBr.out, HBt.out]
  clear HW1 HBr HBt
  have gN : ((N : Int) == 0) = false := by simp; omega
  have gN0 : (0 : Int) < (N : Int) := by omega
  go_upto_region 4 with fail
  rw [HW2.out, HBv.out]
  clear HW2 e0 e1 e2 e3 e4 e5 ct
  go_wp2_with fail
  refine HA2.out.mono ?_
  rintro e w3 ⟨u, rfl, hn3, ⟨Lp, hLp, hPp⟩, hb3⟩
  have hLpl : Lp.length = M + 1 := by have := congrArg List.length hLp; rw [List.length_map] at this; exact this.trans HRl.out
  obtain ⟨gu, uc, hu, hBu, hfu, hlu1, hlu2⟩ := own_at hPp.row (by omega)
  rw [hLpl] at hu hlu1
  subst hu
  have kr3 := (hb3.block Br (lt_of_block HKr2.out)).trans HKr2.out
  have cr3 : w3.cell? ⟨Br, 0, none⟩ = some (.slice none 0 0) := cell_of_one kr3
  have fr3 : w3.frozen? ⟨Br, 0, none⟩ = false := Joins.unfrozen_of_block kr3 0
  obtain ⟨w4, hw4⟩ : ∃ w4, w3.setCell ⟨Br, 0, none⟩ (.slice (some ⟨gu, 0, none⟩) (M + 1) uc) = w4 := ⟨_, rfl⟩
  obtain ⟨Bp, hBp⟩ : ∃ Bp, w2.heap.size = Bp := ⟨_, rfl⟩
  have HPL := Lib.hid (show PL w w4 NR B Bp Br g gu M N cap uc L Lp from by
    rw [← hw4, ← hBp]
    refine ⟨(HO2.out.below hb3).box kr3 (by decide) (by decide) 0 _, hPp.box kr3 (by decide) (by decide) 0 _, Joins.block_setCell kr3 _, ?_, fun k hk _ => ?_⟩
    case refine_2 => rw [Below.heap_setCell _ _ _ _ (fun e => by have e : k = Br := e; omega), hb3.block k (Nat.lt_of_lt_of_le hk HB12.out.size), HB12.out.block k hk]
    exact (((HB12.out.mono HBw.out).trans (hb3.mono (Nat.le_trans HBw.out HB12.out.size))).setCell (p := ⟨Br, 0, none⟩) hBrB _))
  have hgBp : g < Bp := by have := HB12.out.size; omega
  have hwBp : w.heap.size ≤ Bp := by have := HB12.out.size; omega
  have HKlt := Lib.hid (fun (p : Ln) (hp : p ∈ L) (kg : Nat) (hk : p.val.ownBlock = some kg) => show kg < Bp from by
    obtain ⟨i, hi⟩ := List.getElem?_of_mem hp
    have := ((HO2.out.kids i p hi).lt kg hk).2
    omega)
  have HW4 := Lib.hid hw4
  have HLp := Lib.hid hLp
  have HLpl := Lib.hid hLpl
  have HBuw := Lib.hid (show Bp ≤ w4.heap.size from by rw [← hw4, ← hBp]; simpa using hb3.size)
  have gM : ((M : Int) == -1) = false := by simp
  clear hn3 hLp hPp hb3 hLpl hBu hfu hlu1 hlu2 kr3 hw4 hBp HA2 HO2 HKr2 HB12 ct2 n0 n1 n2
  go_upto_region 5 with fail
  rw [HW4.out]
  clear HW4 cr3 fr3
  go_wp2_with fail
  go_loopw [38] (fun iv wr => ∃ i : Nat, iv = .int .i64 i ∧ i ≤ N ∧ Hid (PL w wr NR B Bp Br g gu M N cap uc (turnN (M : Int) i L) Lp)) (fun iv _ => N - (intOf iv).toNat)
  case atStart => exact ⟨0, rfl, Nat.zero_le _, by rw [turn_zero]; exact HPL⟩
  case round =>
    obtain ⟨i, rfl, hi, HP⟩ := hrel
    by_cases hlt : i < N
    · obtain ⟨p, hp⟩ : ∃ p, L[i]? = some p := ⟨_, List.getElem?_eq_getElem (by rw [HNd.out]; exact hlt)⟩
      have hpt := turn_at (M : Int) i L i p hp
      rw [if_neg (Nat.lt_irrefl _)] at hpt
      have hpm := List.mem_of_getElem? hp
      obtain ⟨hkn, hu1, hu2, hzb⟩ := HKL.out p hpm
      have c3 := HP.out.cell i p hpt 3 _ rfl
      have f3 := HP.out.free (by rw [turn_len, HNd.out]; omega) (i * 6 + 3)
      have hP2 := HP.out.setU i p hpt (p.nd.u + (M : Int)) hgBp hNg
      obtain ⟨w5, hw5⟩ : ∃ w5, wr.setCell ⟨g, i * 6 + 3, none⟩ (.int .i64 (p.nd.u + (M : Int))) = w5 := ⟨_, rfl⟩
      rw [hw5] at hP2
      have hil : i < (turnN (M : Int) i L).length := by rw [turn_len, HNd.out]; exact hlt
      have hmz : ({ p with nd := { p.nd with u := p.nd.u + (M : Int) } } : Ln) = midP (M : Int) 0 p := (mid_zero _ _).symm
      rw [hmz] at hP2
      obtain ⟨ka, kc, hkv⟩ := (Reads.of_own (E := encI) (HP.out.ot.kids i p hpt)).shape
      obtain ⟨kn, hknd⟩ : ∃ kn, p.nd.ks.length = kn := ⟨_, rfl⟩
      rw [hknd] at hkv hkn
      have c4 : w5.cell? ⟨g, i * 6 + 4, none⟩ = some (.slice ka kn kc) := by
        have := hP2.cell i (midP (M : Int) 0 p) (List.getElem?_set_self hil) 4 _ rfl
        rw [← hkv]; exact this
      have gi : (i : Int) < (N : Int) := by omega
      obtain ⟨U, hU⟩ : ∃ U, p.nd.u = U := ⟨_, rfl⟩
      rw [hU] at c3 hu1 hu2 hw5
      have gw : wrap64 (U + (M : Int)) = U + (M : Int) := IntWalk.wrap64_in _ (by omega)
      have HP2 := Lib.hid hP2
      have HW5 := Lib.hid hw5
      have HP := Lib.hid hp
      have HPt := Lib.hid hpt
      have HKv := Lib.hid hkv
      have HKn := Lib.hid hknd
      have HZb := Lib.hid hzb
      have HPm := Lib.hid hpm
      clear hP2 hw5 hp hpt hkv hknd hzb hpm hmz hU
      go_upto_region 11 with fail
      rw [HW5.out]
      clear HW5 c3 f3
      go_wp2_with fail
      rename World => wq
      go_loopw [56] (fun jv ws => ∃ j : Nat, jv = .int .i64 j ∧ j ≤ kn ∧ Hid (PL w ws NR B Bp Br g gu M N cap uc ((turnN (M : Int) i L).set i (midP (M : Int) j p)) Lp)) (fun jv _ => kn - (intOf jv).toNat)
      case atStart => exact ⟨0, rfl, Nat.zero_le _, HP2⟩
      case round =>
        obtain ⟨j, rfl, hj, HPj⟩ := hrel
        have hil2 : i < (turnN (M : Int) i L).length := by rw [turn_len, HNd.out]; exact hlt
        have hget : ((turnN (M : Int) i L).set i (midP (M : Int) j p))[i]? = some (midP (M : Int) j p) := List.getElem?_set_self hil2
        by_cases hjl : j < kn
        · obtain ⟨z, hz⟩ : ∃ z, p.nd.ks[j]? = some z := ⟨_, List.getElem?_eq_getElem (by rw [HKn.out]; exact hjl)⟩
          obtain ⟨kg, kc', hv', ck, fk⟩ := HPj.out.kid i (midP (M : Int) j p) hget j z (mid_get _ _ _ _ hz)
          have hv2 : p.val = .slice (some ⟨kg, 0, none⟩) (midP (M : Int) j p).nd.ks.length kc' := hv'
          rw [mid_len, HKn.out, HKv.out] at hv2
          obtain ⟨e1, -, -⟩ := Value.slice.inj hv2
          subst e1
          have hz2 := HZb.out z (List.mem_of_getElem? hz)
          have c4j := HPj.out.cell i _ hget 4 _ rfl
          have c4k : wr.cell? ⟨g, i * 6 + 4, none⟩ = some (.slice (some ⟨kg, 0, none⟩) kn kc) := by rw [← HKv.out]; exact c4j
          have hkgb : kg < Bp := HKlt.out p HPm.out kg (by rw [HKv.out]; rfl)
          have hP3 := HPj.out.setK i j kg _ kc' (midP (M : Int) j p) hget hv' z (z + (M : Int)) (mid_get _ _ _ _ hz) hkgb (HNk.out p HPm.out kg (by rw [HKv.out]; rfl))
          rw [List.set_set, mid_next _ _ _ _ hz] at hP3
          have HP3 := Lib.hid hP3
          have gj : (j : Int) < (kn : Int) := by omega
          have gwz : wrap64 (z + (M : Int)) = z + (M : Int) := IntWalk.wrap64_in _ (by omega)
          clear hv' hv2 c4j hP3 hz hget hil2 HPj
          go_wp2_with fail
          go_roundw
          case rel => exact ⟨j + 1, by go_num, by omega, HP3⟩
          case measure => simp [intOf]; omega
        · obtain rfl : j = kn := by omega
          have hall := mid_all (M : Int) p
          rw [HKn.out] at hall
          have hP4 := HPj.out
          rw [hall, turn_next _ _ _ _ HP.out] at hP4
          have HP4 := Lib.hid hP4
          have gj : ¬ (j : Int) < (j : Int) := by omega
          clear hall hP4 hget hil2 HPj hjl
          go_wp2_with fail
          go_roundw
          case rel => exact ⟨i + 1, by go_num, by omega, HP4⟩
          case measure => simp [intOf]; omega
    · obtain rfl : i = N := by omega
      have gi : ¬ (i : Int) < (i : Int) := by omega
      have hpt := turn_at (M : Int) i L 0 p0 HP0.out
      rw [if_pos hNp] at hpt
      have c3 := HP.out.cell 0 _ hpt 3 _ rfl
      have f3 := HP.out.free (by rw [turn_len, HNd.out]; omega) (0 * 6 + 3)
      have hP2 := HP.out.setU 0 _ hpt (up0 : Int) hgBp hNg
      have hsh := turn_shift (up0 : Int) M L p0 HP0.out
      rw [HNd.out] at hsh
      obtain ⟨L', hL'⟩ : ∃ L', (turnN (M : Int) i L).set 0 { turnP (M : Int) p0 with nd := { (turnP (M : Int) p0).nd with u := (up0 : Int) } } = L' := ⟨_, rfl⟩
      rw [hL'] at hP2 hsh
      have hL'l : L'.length = i := by rw [← hL', List.length_set, turn_len, HNd.out]
      obtain ⟨w6, hw6⟩ : ∃ w6, wr.setCell ⟨g, 0 * 6 + 3, none⟩ (.int .i64 (up0 : Int)) = w6 := ⟨_, rfl⟩
      rw [hw6] at hP2
      simp only [Nat.zero_mul, Nat.zero_add] at c3 f3 hw6
      have cb6 := cell_of_one hP2.box
      have fb6 : w6.frozen? ⟨Br, 0, none⟩ = false := Joins.unfrozen_of_block hP2.box 0
      have hpt6 := hP2.pt.row
      have hLpl2 := HLpl.out
      have hcapu := own_cap hpt6
      have hsl : ∀ W : World, (Instr.slice 29 (.slice (some ⟨gu, 0, none⟩) (M + 1) uc) none (some (.int .i64 (M : Int))) none).run Try.prog W = .ok (.slice (some ⟨gu, 0, none⟩) M uc) W := fun W => by
        have hc := hcapu.2.2
        simp only [maxLen] at hc
        rw [run_slice_h W _ (some ⟨gu, 0, none⟩) (M + 1) uc (by rw [tyN.he]; exact tyN.ht) .i64 M (by omega) (by omega), tyN.he, tyN.size]
        simp [Result.andThen, sliced, add_addr]
      have hpre := own_prefix (E := encN) (n := M) hpt6 (by omega)
      have hlt2 : (Lp.take M).length = M := by rw [List.length_take]; omega
      have HPre := Lib.hid hpre
      have hrd := Reads.of_own (E := encN) hP2.ot.row
      have HRd := Lib.hid hrd
      have HP2 := Lib.hid hP2
      have HSh := Lib.hid hsh
      have HW6 := Lib.hid hw6
      have HL'l := Lib.hid hL'l
      have HMx := Lib.hid (show (Lp.take M).length + L'.length ≤ maxLen by rw [hlt2, hL'l]; simp only [maxLen]; omega)
      have HMy := Lib.hid (show ((Lp.take M).length + L'.length) * 64 ≤ 140737488355328 by rw [hlt2, hL'l]; omega)
      have HBp6 := Lib.hid (show Bp ≤ w6.heap.size from Nat.le_of_lt (Nat.lt_of_le_of_lt (hpt6.lt gu rfl).1 (hpt6.lt gu rfl).2))
      have HHlt2 := Lib.hid hlt2
      clear hP2 hsh hL' hL'l hw6 hpt6 hLpl2 hcapu hpre hlt2 hrd hpt HP HPL
      go_upto_region 18 with fail
      rw [HW6.out]
      clear HW6 c3 f3
      go_upto_region 19 with (at_builtin; go_must (refine append_all_at tyN rfl (.tmp 79) (.tmp 80) rfl Bp _ (Lp.take M) rfl HPre.out _ L' rfl HRd.out HMx.out HMy.out HBp6.out ?_; intro v9 w9 hown9 hg9 hat9; obtain ⟨a9, c9, hv9⟩ := (Reads.of_own (E := encN) hown9).shape; obtain ⟨n9, hn9⟩ : ∃ n9, (Lp.take M ++ L').length = n9 := ⟨_, rfl⟩; rw [hn9] at hv9; clear hn9; subst hv9; have HOwn9 := Lib.hid hown9; have HG9 := Lib.hid hg9; have hbx9 : w9.heap[Br]? = some (.cells #[.slice (some ⟨gu, 0, none⟩) (M + 1) uc] 31 (0, 0)) := (hg9.block Br (lt_of_block HP2.out.box) (fun e => row_off_box HP2.out.pt.row HP2.out.box (by decide) e.symm)).trans HP2.out.box; have HBx9 := Lib.hid hbx9; have cb9 := cell_of_one hbx9; have fb9 : w9.frozen? ⟨Br, 0, none⟩ = false := Joins.unfrozen_of_block hbx9 0; clear hown9 hg9 hat9 hbx9))
      have hnj := nodes_join (M := M) HP2.out.pt HP2.out.ot HOwn9.out HG9.out
      rw [List.map_append, List.map_take, HLp.out, HSh.out] at hnj
      have hb9 := HP2.out.bel.grown HG9.out (Nat.le_trans HP2.out.bel.size (Nat.le_refl _) |> fun h => by have := HP2.out.ot.row.lt g rfl; omega) (fun q hq => by have e : gu = q := Option.some.inj hq; have := (HP2.out.pt.row.lt gu rfl).1; have := (HP2.out.ot.row.lt g rfl).1; omega)
      have c10 : (w9.setCell ⟨Br, 0, none⟩ (.slice a9 n9 c9)).cell? ⟨Br, 0, none⟩ = some (.slice a9 n9 c9) := cell_set_eq _ _ _ (by rw [cb9]; rfl)
      have HD := Lib.hid (HQ.out (.slice a9 n9 c9) _ ⟨(hnj.set cb9 (.slice a9 n9 c9)).set c10 (.slice a9 n9 c9), (hb9.setCell (p := ⟨Br, 0, none⟩) hBrB _).setCell (p := ⟨Br, 0, none⟩) hBrB _, fun k hk hr => by
        have hkb : k ≠ Br := by omega
        rw [Below.heap_setCell _ _ _ _ hkb, Below.heap_setCell _ _ _ _ hkb, HG9.out.block k (Nat.lt_of_lt_of_le hk HP2.out.bel.size) (fun e => by have e : gu = k := Option.some.inj e.symm; have := (HP2.out.pt.row.lt gu rfl).1; omega)]
        exact HP2.out.keep k hk hr⟩)
      clear hnj hb9 HP2 HOwn9 HG9 HPre HRd
      go_wp2_with fail
      refine bodyPost_ret (v := .tuple #[.agg #[.slice a9 n9 c9], .int .i64 (M : Int)]) ?_ rfl HD.out
      simp [results, Try.results23, go_sem, cb9, cell_set_eq]
end Go.Proofs.Ytmlpaafclobgcaa

/- Package flow: Value. (Its drawn region by tools/gen_fw9.py.) -/
namespace Go.Proofs.Ytmlpaafclobgcaa
open Go.RowKit
open Go.Proofs.Ytmlpaafclobgcaa.Sq
open Go.Proofs.Ytmlpaafclobgcaa.Ar
set_option linter.unusedVariables false

theorem fValues (w0 : World) (rb : Nat) (tv : Value) (l : List Tk) (hT : TokOk l) : ∀ d : Nat, d ≤ 1000 → ValH w0 rb tv l d
  | 0 => fun h => fValue w0 rb tv l 0 hT h (fun d' e => by omega)
  | d + 1 => fun h => fValue w0 rb tv l (d + 1) hT h (fun d' e => by
    obtain rfl : d' = d := by omega
    exact fValues w0 rb tv l hT d' (by omega))
/-- What Value answers: the tree, the node, the token behind, what was told. -/
def Flowed (r : Int × Nat × Fl.St) (w : World) (e : Ending) (w' : World) : Prop :=
  ∃ u dv, e = .returned (.tuple #[.agg #[u], .int .i64 r.1, .int .i64 r.2.1, dv]) ∧ Nodes w' u r.2.2.t ∧ Reads encD w' dv r.2.2.d ∧ Below w.heap.size w w'
set_option maxHeartbeats 8000000 in
set_option maxRecDepth 100000 in
theorem fFlow (bv v tv : Value) (l : List Tk) (T0 : List Nd) (up0 at' d : Nat) (n b : Int) (w : World) (hl : Reads encT w v l) (hls : l.length ≤ 100000) (hTok : TokOk l) (hN : Nodes w tv T0) (hck : Ck T0 n) (hf : Fits T0 at' b up0) (hb : b ≤ at' + 1) (hpe : at' ≤ l.length) (hn : (l.length : Int) ≤ n)
    (hs : T0.length ≤ 200) (hk : ∀ x ∈ T0, x.ks.length ≤ 200) (hd : d ≤ 50) :
    Calls Try.prog 12 #[bv, v, .agg #[tv], .int .i64 up0, .int .i64 at', .int .i64 l.length, .int .i64 d] w (Flowed (Fl.valN l l.length d up0 at' ⟨T0, []⟩) w) := by
  have hplant := Fl.plant_is (l := l) (e := l.length) hn d at' b hck hf hb hpe
  have hG := hck.good
  obtain ⟨va, vc, rfl⟩ := hl.shape
  obtain ⟨ta, tc, rfl⟩ := hN.shape
  obtain ⟨v3, hv3, hr3⟩ := cut_h (P := Try.prog) tyT hl (Nat.le_refl _)
  rw [List.take_length] at hr3
  obtain ⟨a3, c3, rfl⟩ := hr3.shape
  obtain ⟨VR, hVR⟩ : ∃ VR, Fl.valN l l.length d up0 at' ⟨T0, []⟩ = VR := ⟨_, rfl⟩
  rw [hVR] at hplant ⊢
  obtain ⟨PR, hPR⟩ : ∃ PR, Fl.pvalN l l.length d (-1) at' ⟨[], []⟩ = PR := ⟨_, rfl⟩
  have hpv := Fl.pv_all (l := l) (e := l.length) d (-1) at' ⟨[], []⟩ hpe (by omega) (by show (-1 : Int) < 0; decide)
  rw [hPR] at hplant hpv
  have hkb : Fl.KB PR.2.q := by
    rcases hpv with ⟨e1, _⟩ | ⟨nx, s1, e1, _, _, _, g, _, _⟩
    · rw [e1]; intro i x h; simp at h
    · rw [e1]; exact g.kids (fun i x h => by simp at h)
  clear hpv
  obtain ⟨w1, hw1, hb1, kT, kR, kB⟩ := three_blks w (.cells #[.slice ta T0.length tc] 31) (.cells #[.slice none 0 0] 31) (.cells #[.slice none 0 0, .slice none 0 0, .slice none 0 0] 56)
  obtain ⟨Bt, hBt⟩ : ∃ Bt, w.heap.size = Bt := ⟨_, rfl⟩
  obtain ⟨Br, hBr⟩ : ∃ Br, w.heap.size + 1 = Br := ⟨_, rfl⟩
  obtain ⟨rb, hrb⟩ : ∃ rb, w.heap.size + 2 = rb := ⟨_, rfl⟩
  rw [hBt] at kT
  rw [hBr] at kR
  rw [hrb] at kB
  obtain ⟨w2, hw2⟩ : ∃ w2, w1.setCell ⟨rb, 0, none⟩ (.slice a3 l.length c3) = w2 := ⟨_, rfl⟩
  have hne1 : Bt ≠ rb := by omega
  have hne2 : Br ≠ rb := by omega
  have kT2 : w2.heap[Bt]? = some (.cells #[.slice ta T0.length tc] 31 (0, 0)) := by rw [← hw2, Below.heap_setCell _ _ _ _ hne1]; exact kT
  have kR2 : w2.heap[Br]? = some (.cells #[.slice none 0 0] 31 (0, 0)) := by rw [← hw2, Below.heap_setCell _ _ _ _ hne2]; exact kR
  have kB2 : w2.heap[rb]? = some (.cells #[.slice a3 l.length c3, .slice none 0 0, .slice none 0 0] 56 (0, 0)) := by rw [← hw2]; exact Joins.block_setCell kB _
  have hbe2 : Below w.heap.size w w2 := by rw [← hw2]; exact hb1.setCell (p := ⟨rb, 0, none⟩) (by show w.heap.size ≤ rb; omega) _
  have hM2 : RM w w2 rb (.slice a3 l.length c3) (.slice none 0 0) (.slice none 0 0) l [] [] := ⟨hbe2, hr3, hls, by omega, kB2, OT.nil _ _, own_nil encD _ _⟩
  have hS2 : RS w w2 rb (.slice a3 l.length c3) l ⟨[], []⟩ (RowOf (.slice none 0 0) (.slice none 0 0) []) := ⟨_, _, _, hM2, rfl, rfl⟩
  have hVal := fValues w rb (.slice a3 l.length c3) l hTok d (by omega) w2 (-1) at' ⟨[], []⟩ _ hS2 (by omega) (by show (-1 : Int) < 0; decide) hpe ⟨by show 0 + _ + _ ≤ _; omega, by show 0 + _ ≤ _; omega, fun i x h => by simp at h⟩
  rw [hPR] at hVal
  have c0 : w1.cell? ⟨rb, 0, none⟩ = some (.slice none 0 0) := (Joins.cell_of_block kB 0).trans rfl
  have f0 : w1.frozen? ⟨rb, 0, none⟩ = false := Joins.unfrozen_of_block kB 0
  have HVal := Lib.hid hVal
  have HPl := Lib.hid hplant
  have HKb := Lib.hid hkb
  have HT2 := Lib.hid kT2
  have HR2 := Lib.hid kR2
  have HN := Lib.hid (fun W (hb : Below w.heap.size w W) => hN.below hb)
  have HG := Lib.hid hG
  have HS := Lib.hid hs
  have HKs := Lib.hid hk
  have HLs := Lib.hid hls
  have HW1 := Lib.hid hw1
  have HW2 := Lib.hid hw2
  have HBt := Lib.hid hBt
  have HBr := Lib.hid hBr
  have HRb := Lib.hid hrb
  have HQ := Lib.hid (fun u dv w' => show (Nodes w' u VR.2.2.t ∧ Reads encD w' dv VR.2.2.d ∧ Below w.heap.size w w') → Flowed VR w (.returned (.tuple #[.agg #[u], .int .i64 VR.1, .int .i64 VR.2.1, dv])) w' from fun h => ⟨u, dv, rfl, h⟩)
  obtain ⟨Q, hQ⟩ : ∃ Q, Flowed VR w = Q := ⟨_, rfl⟩
  rw [hQ] at HQ ⊢
  have hlo1 : w.heap.size ≤ Br := by omega
  have HLo := Lib.hid (show w.heap.size ≤ Bt ∧ w.heap.size ≤ Br ∧ w.heap.size ≤ rb from ⟨by omega, by omega, by omega⟩)
  have HNe := Lib.hid (show Bt ≠ rb ∧ Br ≠ rb from ⟨hne1, hne2⟩)
  obtain ⟨TN, hTN⟩ : ∃ TN, T0.length = TN := ⟨_, rfl⟩
  obtain ⟨N, hNd⟩ : ∃ N, l.length = N := ⟨_, rfl⟩
  have HNd := Lib.hid hNd
  have HTN := Lib.hid hTN
  rw [hTN] at HW1 HT2 ⊢
  rw [hNd] at HW2 HVal hv3 hpe hls ⊢
  clear hkb hl hTok hN hck hf hb hn hs hk hplant hG hr3 hVR hPR hw1 hb1 kT kR kB hBt hBr hrb hw2 hne1 hne2 kT2 kR2 kB2 hbe2 hM2 hS2 hVal hQ hTN hNd
  go_enter Try.func12, Try.ntmps12
  go_upto_region 2 with fail
  rw [HW1.out, HRb.out, HBr.out, HBt.out]
  clear HW1 HRb HBr HBt
  go_upto_region 4 with fail
  rw [HW2.out]
  clear HW2 c0 f0 hv3
  go_wp2_with fail
  refine HVal.out.mono ?_
  rintro e w3 ⟨rfl, R3, ⟨nv, dv, L, hM3, hL3, rfl⟩, hF3⟩
  have hnone : ∀ k, ¬ RowOf (.slice none 0 0) (.slice none 0 0) [] k := fun k h => by
    rcases h with h | h | ⟨p, hp, _⟩
    · cases h
    · cases h
    · cases hp
  have hT3 := (hF3.block Bt (lt_of_block HT2.out) HNe.out.1 (hnone Bt)).trans HT2.out
  have hR3 := (hF3.block Br (lt_of_block HR2.out) HNe.out.2 (hnone Br)).trans HR2.out
  have hb3 := hM3.bel
  have cT := cell_of_one hT3
  have cR := cell_of_one hR3
  have c1 := hM3.cells.2.1
  have hLr := (Reads.of_own (E := encN) hM3.nodes.row).shape
  obtain ⟨na, nc, hnv⟩ := hLr
  rcases HPl.out with ⟨e1, e2⟩ | ⟨next, s', ps', e1, e2, g1, g2, g3, g4, g5, g6, g7, g8, g9, v, g10, g11⟩
  · subst e1 e2
    have hL0 : L = [] := by
      have h : L.map Ln.nd = [] := hL3
      exact List.map_eq_nil_iff.1 h
    subst hL0
    subst hnv
    have HPt := Lib.hid (fPlanted0 _ T0 (up0 : Int) na nc w3 (HN.out w3 hb3) HG.out HS.out HKs.out)
    rw [HTN.out] at HPt
    have HR3 := Lib.hid hR3
    have HB3 := Lib.hid hb3
    clear hF3 hM3 hL3 hnone hT3 hR3 hb3 HVal HN HG HKs HPl HT2 HR2 HKb
    go_wp2_with fail
    refine HPt.out.mono ?_
    rintro e w4 ⟨u, rfl, hn4, hb4, -⟩
    obtain ⟨ua, uc, rfl⟩ := hn4.shape
    rw [HTN.out] at hn4 ⊢
    have kR4 := (hb4.block Br (lt_of_block HR3.out)).trans HR3.out
    have cr4 := cell_of_one kR4
    have fr4 : w4.frozen? ⟨Br, 0, none⟩ = false := Joins.unfrozen_of_block kR4 0
    have c10 : (w4.setCell ⟨Br, 0, none⟩ (.slice ua TN uc)).cell? ⟨Br, 0, none⟩ = some (.slice ua TN uc) := cell_set_eq _ _ _ (by rw [cr4]; rfl)
    have HD := Lib.hid (HQ.out (.slice ua TN uc) (.slice none 0 0) _ ⟨(hn4.set cr4 (.slice ua TN uc)).set c10 (.slice ua TN uc), .inl ⟨rfl, rfl⟩, ((HB3.out.trans (hb4.mono HB3.out.size)).setCell (p := ⟨Br, 0, none⟩) hlo1 _).setCell (p := ⟨Br, 0, none⟩) hlo1 _⟩)
    clear hn4 hb4 kR4 HPt
    go_wp2_with fail
    refine bodyPost_ret (v := .tuple #[.agg #[.slice ua TN uc], .int .i64 (-1), .int .i64 (at' : Int), .slice none 0 0]) ?_ rfl HD.out
    simp [results, Try.results12, go_sem, c10, cell_set_eq]
  · subst e1 e2
    have hL3 : L.map Ln.nd = ps'.q := hL3
    have hLl : L.length = ps'.q.length := by rw [← hL3, List.length_map]
    obtain ⟨p0, hp0⟩ : ∃ p0, L[0]? = some p0 := ⟨_, List.getElem?_eq_getElem (by omega)⟩
    have hpv : p0.nd = v := by
      have h : (L.map Ln.nd)[0]? = some p0.nd := by rw [List.getElem?_map, hp0]; rfl
      rw [hL3, g10] at h
      exact (Option.some.inj h).symm
    have hql : ps'.q.length ≤ 400000 := by have := HLs.out; have := HS.out; omega
    have hpt := fPlanted _ nv T0 up0 L p0 w.heap.size w3 (HN.out w3 hb3) HG.out HS.out HKs.out hM3.nodes hb3.size (by omega) (fun p hp => by
      obtain ⟨i, hi⟩ := List.getElem?_of_mem hp
      have hx : ps'.q[i]? = some p.nd := by rw [← hL3, List.getElem?_map, hi]; rfl
      have hil := (List.getElem?_eq_some_iff.1 hx).1
      have h1 := g9 i p.nd hx
      have h2 := HKb.out i p.nd hx
      have h2 : p.nd.ks.length ≤ ps'.q.length := h2
      refine ⟨by omega, h1.1, by omega, fun z hz => ?_⟩
      have := h1.2.2 z hz
      have := HS.out
      omega) hp0 (by rw [hpv]; exact g11)
    rw [hL3, g6] at hpt
    have hnr : ∀ (k : Nat) (C : Array Value) (t : TypeId) (fr : Nat × Nat), w3.heap[k]? = some (.cells C t fr) → 3 ≠ t → 38 ≠ t → ¬ (nv.ownBlock = some k ∨ ∃ p ∈ L, p.val.ownBlock = some k) := fun k C t fr hh h1 h2 h3 => by
      rcases h3 with h3 | ⟨p, hp, h3⟩
      · exact row_off_box hM3.nodes.row hh h2 h3
      · obtain ⟨i, hi⟩ := List.getElem?_of_mem hp
        exact row_off_box (hM3.nodes.kids i p hi) hh h1 h3
    have hdt : ∀ k, dv.ownBlock = some k → k < w3.heap.size ∧ ¬ (nv.ownBlock = some k ∨ ∃ p ∈ L, p.val.ownBlock = some k) := fun k hk => by
      refine ⟨(hM3.told.lt k hk).2, fun h3 => ?_⟩
      rcases h3 with h3 | ⟨p, hp, h3⟩
      · exact own_types hM3.nodes.row hM3.told (by decide) k h3 hk
      · obtain ⟨i, hi⟩ := List.getElem?_of_mem hp
        exact own_types (hM3.nodes.kids i p hi) hM3.told (by decide) k h3 hk
    have hbx := hM3.box
    have HPt := Lib.hid hpt
    have HR3 := Lib.hid hR3
    have HB3 := Lib.hid hb3
    have HDt := Lib.hid hdt
    have HNr := Lib.hid hnr
    have HBx := Lib.hid hbx
    have HTo := Lib.hid hM3.told
    have HG4 := Lib.hid g4
    rw [HTN.out] at HPt HQ
    have gT : ((TN : Int) == -1) = false := by simp
    clear hF3 hM3 hL3 hnone hT3 hR3 hb3 HVal HN HG HKs HPl HT2 HR2 HKb hLl hp0 hpv hql hpt hnr hdt hbx g1 g2 g3 g4 g5 g6 g7 g8 g9 g10 g11
    subst hnv
    obtain ⟨LN, hLN⟩ : ∃ LN, L.length = LN := ⟨_, rfl⟩
    rw [hLN] at HPt HBx HDt HNr c1
    clear hLN
    go_wp2_with fail
    refine HPt.out.mono ?_
    rintro e w4 ⟨u, rfl, hn4, hb4, hkp⟩
    obtain ⟨ua, uc, rfl⟩ := hn4.shape
    obtain ⟨un, hun⟩ : ∃ un, s'.t.length = un := ⟨_, rfl⟩
    have hn4' : Nodes w4 (.slice ua un uc) s'.t := by rw [← hun]; exact hn4
    have hn4l : (s'.t, (TN : Int)).1.length = un := hun
    rw [hn4l]
    have kR4 := (hkp Br (lt_of_block HR3.out) (HNr.out _ _ _ _ HR3.out (by decide) (by decide))).trans HR3.out
    have kB4 := (hkp rb (lt_of_block HBx.out) (HNr.out _ _ _ _ HBx.out (by decide) (by decide))).trans HBx.out
    have hto4 := own_same HTo.out (fun k hk => hkp k (HDt.out k hk).1 (HDt.out k hk).2)
    obtain ⟨da, dc, hdv⟩ := (Reads.of_own (E := encD) hto4).shape
    have hrd4 := Reads.of_own (E := encD) hto4
    rw [hdv] at hrd4 kB4
    obtain ⟨dn, hdn⟩ : ∃ dn, ps'.d.length = dn := ⟨_, rfl⟩
    have hdn2 : (next, ps').2.d.length = dn := hdn
    rw [hdn2] at hrd4 kB4
    have cr4 := cell_of_one kR4
    have fr4 : w4.frozen? ⟨Br, 0, none⟩ = false := Joins.unfrozen_of_block kR4 0
    obtain ⟨w5, hw5⟩ : ∃ w5, w4.setCell ⟨Br, 0, none⟩ (.slice ua un uc) = w5 := ⟨_, rfl⟩
    have kR5 : w5.heap[Br]? = some (.cells #[.slice ua un uc] 31 (0, 0)) := by rw [← hw5]; exact Joins.block_setCell kR4 _
    have kB5 := (Below.heap_setCell w4 ⟨Br, 0, none⟩ (.slice ua un uc) rb (fun e => HNe.out.2 e.symm)).trans kB4
    rw [hw5] at kB5
    have hn5 := hn4'.set cr4 (.slice ua un uc)
    have hb5 := (HB3.out.trans (hb4.mono (Nat.le_refl _))).setCell (p := ⟨Br, 0, none⟩) hlo1 (.slice ua un uc)
    have hto5 : Reads encD w5 (.slice da dn dc) ps'.d := by
      have h := own_same (w' := w5) hto4 (fun k hk => by rw [← hw5]; exact Below.heap_setCell _ _ _ _ (fun e => row_off_box hto4 kR4 (by decide) (by have e : k = Br := e; rw [← e]; exact hk)))
      have := Reads.of_own (E := encD) h
      rw [hdv, hdn2] at this
      exact this
    rw [hw5] at hn5 hb5
    have q1 := cell_of_one kR5
    have q2 : w5.cell? ⟨rb, 2, none⟩ = some (.slice da dn dc) := (Joins.cell_of_block kB5 2).trans rfl
    have q3 : w5.frozen? ⟨Br, 0, none⟩ = false := Joins.unfrozen_of_block kR5 0
    have c10 : (w5.setCell ⟨Br, 0, none⟩ (.slice ua un uc)).cell? ⟨Br, 0, none⟩ = some (.slice ua un uc) := cell_set_eq _ _ _ (by rw [q1]; rfl)
    have x1 := c10
    have x2 : (w5.setCell ⟨Br, 0, none⟩ (.slice ua un uc)).cell? ⟨rb, 2, none⟩ = some (.slice da dn dc) := at_far HNe.out.2 q2
    have hto6 : Reads encD (w5.setCell ⟨Br, 0, none⟩ (.slice ua un uc)) (.slice da dn dc) ps'.d := by
      have h5 := own_same (w' := w5) hto4 (fun k hk => by rw [← hw5]; exact Below.heap_setCell _ _ _ _ (fun e => row_off_box hto4 kR4 (by decide) (by have e : k = Br := e; rw [← e]; exact hk)))
      have h := own_same (w' := w5.setCell ⟨Br, 0, none⟩ (.slice ua un uc)) h5 (fun k hk => Below.heap_setCell _ _ _ _ (fun e => row_off_box h5 kR5 (by decide) (by have e : k = Br := e; rw [← e]; exact hk)))
      have := Reads.of_own (E := encD) h
      rw [hdv, hdn2] at this
      exact this
    have hnd6 := hn5.set q1 (.slice ua un uc)
    have hbe6 := hb5.setCell (p := ⟨Br, 0, none⟩) hlo1 (.slice ua un uc)
    obtain ⟨w6, hw6⟩ : ∃ w6, w5.setCell ⟨Br, 0, none⟩ (.slice ua un uc) = w6 := ⟨_, rfl⟩
    rw [hw6] at c10 hto6 hnd6 hbe6
    have c10d : w6.drew.cell? ⟨Br, 0, none⟩ = some (.slice ua un uc) := c10
    have HD := Lib.hid (fun W (hW : Below w6.heap.size w6 W) => HQ.out (.slice ua un uc) (.slice da dn dc) W ⟨hnd6.below hW, by show Reads encD W _ s'.d; rw [HG4.out]; exact hto6.below hW, hbe6.trans (hW.mono hbe6.size)⟩)
    have HW5 := Lib.hid hw5
    have HW6 := Lib.hid hw6
    clear hn4 hb4 hkp hun hn4' hn4l kR4 kB4 hto4 hdv hrd4 hdn hdn2 hw5 kR5 kB5 hn5 hb5 hto5 hto6 hnd6 hbe6 hw6 HPt HR3 HB3 HDt HNr HBx HTo
    go_upto_region 6 with fail
    rw [HW5.out]
    clear HW5 cr4 fr4
    go_upto_region 8 with fail
    -- GEN R8
    refine wp_region_held_drew (S := fun wx => wx.cell? ⟨Br, 0, none⟩ = some (.slice ua un uc) ∧ wx.cell? ⟨rb, 2, none⟩ = some (.slice da dn dc)) (by kernel_rfl) (⟨q1, q2⟩) (fun hH => ?_)
    refine wpAnyH_take (i := 0) (oi := { dst := some 60, op := Op.load 31 (Operand.tmp 14), type := 31, pos := _, after := #[], guard := none }) (v := .agg #[.slice ua un uc]) rfl (by kernel_rfl) (by kernel_rfl) (by kernel_rfl) (fun _ _ _ h => h) (Or.inl ⟨rfl, fun W hW => ?_⟩) hH ?_
    · obtain ⟨z1, z2⟩ := hW; go_simp
    try simp only [Act.put, List.setIfInBounds_toArray, List.set_cons_zero, List.set_cons_succ]
    refine wpAnyH_take (i := 1) (oi := { dst := some 61, op := Op.move (Operand.tmp 15), type := 3, pos := _, after := #[{ on := 5, ground := Ground.gcOnly Departure.lateStores }], guard := none }) (v := .int .i64 (TN : Int)) rfl (by kernel_rfl) (by kernel_rfl) (by kernel_rfl) (fun _ _ _ h => h) (Or.inl ⟨rfl, fun W hW => ?_⟩) hH ?_
    · go_simp
    try simp only [Act.put, List.setIfInBounds_toArray, List.set_cons_zero, List.set_cons_succ]
    refine wpAnyH_take (i := 2) (oi := { dst := some 62, op := Op.move (Operand.tmp 16), type := 3, pos := _, after := #[{ on := 6, ground := Ground.gcOnly Departure.lateStores }], guard := none }) (v := .int .i64 (next : Int)) rfl (by kernel_rfl) (by kernel_rfl) (by kernel_rfl) (fun _ _ _ h => h) (Or.inl ⟨rfl, fun W hW => ?_⟩) hH ?_
    · go_simp
    try simp only [Act.put, List.setIfInBounds_toArray, List.set_cons_zero, List.set_cons_succ]
    refine wpAnyH_take (i := 3) (oi := { dst := some 63, op := Op.fieldAddr 56 (Operand.tmp 18) 2, type := 0, pos := _, after := #[{ on := 7, ground := Ground.gcOnly Departure.lateStores }], guard := none }) (v := .pointer (some ⟨rb, 2, none⟩)) rfl (by kernel_rfl) (by kernel_rfl) (by kernel_rfl) (fun _ _ _ h => h) (Or.inl ⟨rfl, fun W hW => ?_⟩) hH ?_
    · go_simp
    try simp only [Act.put, List.setIfInBounds_toArray, List.set_cons_zero, List.set_cons_succ]
    refine wpAnyH_take (i := 4) (oi := { dst := some 64, op := Op.load 32 (Operand.tmp 63), type := 32, pos := _, after := #[{ on := 3, ground := Ground.data }, { on := 7, ground := Ground.gcOnly Departure.lateStores }], guard := none }) (v := .slice da dn dc) rfl (by kernel_rfl) (by kernel_rfl) (by kernel_rfl) (fun _ _ _ h => h) (Or.inl ⟨rfl, fun W hW => ?_⟩) hH ?_
    · obtain ⟨z1, z2⟩ := hW; go_simp
    try simp only [Act.put, List.setIfInBounds_toArray, List.set_cons_zero, List.set_cons_succ]
    refine wpAnyH_ready (rs := [5]) (by kernel_rfl) (by simp) ?_
    refine AllReadyH.cons (o := { dst := none, op := Op.store 31 (Operand.tmp 14) (Operand.tmp 60), type := 0, pos := _, after := #[{ on := 0, ground := Ground.data }, { on := 0, ground := Ground.phase }, { on := 1, ground := Ground.textOnly Departure.lateStores }, { on := 2, ground := Ground.textOnly Departure.lateStores }, { on := 3, ground := Ground.textOnly Departure.lateStores }, { on := 4, ground := Ground.textOnly Departure.lateStores }], guard := none }) rfl (fun K hK => ?_) AllReadyH.nil
    go_simp
    refine hK.out _ _ (⟨x1, x2⟩) (fun hH2 => ?_)
    clear hK K
    try simp only [Act.put, List.setIfInBounds_toArray, List.set_cons_zero, List.set_cons_succ]
    refine wpAnyH_take (i := 6) (oi := { dst := some 15, op := Op.assign (Operand.tmp 61), type := 3, pos := _, after := #[{ on := 1, ground := Ground.data }, { on := 5, ground := Ground.chain }, { on := 0, ground := Ground.phase }, { on := 1, ground := Ground.phase }, { on := 2, ground := Ground.textOnly Departure.lateStores }, { on := 3, ground := Ground.textOnly Departure.lateStores }, { on := 4, ground := Ground.textOnly Departure.lateStores }, { on := 5, ground := Ground.phase }], guard := none }) (v := .int .i64 (TN : Int)) rfl (by kernel_rfl) (by kernel_rfl) (by kernel_rfl) (fun _ _ _ h => h) (Or.inl ⟨rfl, fun W hW => ?_⟩) hH2 ?_
    · go_simp
    try simp only [Act.put, List.setIfInBounds_toArray, List.set_cons_zero, List.set_cons_succ]
    refine wpAnyH_take (i := 7) (oi := { dst := some 16, op := Op.assign (Operand.tmp 62), type := 3, pos := _, after := #[{ on := 2, ground := Ground.data }, { on := 6, ground := Ground.chain }, { on := 0, ground := Ground.phase }, { on := 1, ground := Ground.phase }, { on := 2, ground := Ground.phase }, { on := 3, ground := Ground.textOnly Departure.lateStores }, { on := 4, ground := Ground.textOnly Departure.lateStores }, { on := 5, ground := Ground.phase }, { on := 6, ground := Ground.phase }], guard := none }) (v := .int .i64 (next : Int)) rfl (by kernel_rfl) (by kernel_rfl) (by kernel_rfl) (fun _ _ _ h => h) (Or.inl ⟨rfl, fun W hW => ?_⟩) hH2 ?_
    · go_simp
    try simp only [Act.put, List.setIfInBounds_toArray, List.set_cons_zero, List.set_cons_succ]
    refine wpAnyH_take (i := 8) (oi := { dst := some 17, op := Op.assign (Operand.tmp 64), type := 32, pos := _, after := #[{ on := 4, ground := Ground.data }, { on := 7, ground := Ground.chain }, { on := 0, ground := Ground.phase }, { on := 1, ground := Ground.phase }, { on := 2, ground := Ground.phase }, { on := 3, ground := Ground.phase }, { on := 4, ground := Ground.phase }, { on := 5, ground := Ground.phase }, { on := 6, ground := Ground.phase }, { on := 7, ground := Ground.phase }], guard := none }) (v := .slice da dn dc) rfl (by kernel_rfl) (by kernel_rfl) (by kernel_rfl) (fun _ _ _ h => h) (Or.inl ⟨rfl, fun W hW => ?_⟩) hH2 ?_
    · go_simp
    try simp only [Act.put, List.setIfInBounds_toArray, List.set_cons_zero, List.set_cons_succ]
    refine wpAnyH_done (by kernel_rfl) ?_ _
    -- END R8
    rw [HW6.out]
    have HDd := Lib.hid (HD.out w6.drew (Below.refl _ w6).drew)
    go_wp2_with fail
    refine bodyPost_ret (v := .tuple #[.agg #[.slice ua un uc], .int .i64 (TN : Int), .int .i64 (next : Int), .slice da dn dc]) ?_ rfl HDd.out
    simp [results, Try.results12, go_sem, c10d]
end Go.Proofs.Ytmlpaafclobgcaa
