/- The chapter's own arena (correctorref10): Add. -/
import Derived.Test.YthkieidcjakhgaaAr5
namespace Go.Proofs.Ythkieidcjakhgaa
open Go.RowKit
open Go.Proofs.Ythkieidcjakhgaa.Sq
open Go.Proofs.Ythkieidcjakhgaa.Ar
set_option linter.unusedVariables false

/-- A tree and a number are answered; where the tree is a new one (own) it is the call's own. -/
def TreedA (own : Bool) (R : List Nd × Int) (w : World) (e : Ending) (w' : World) : Prop :=
  ∃ u, e = .returned (.tuple #[.agg #[u], .int .i64 R.2]) ∧ Nodes w' u R.1 ∧ (own = true → ∃ L, L.map Ln.nd = R.1 ∧ OT w' w.heap.size u L) ∧ Below w.heap.size w w'
/-- May the node be put there, as far as what it goes into tells? -/
def fitsIn (l : List Nd) (p : Nd) (f : Int) : Bool := !(decide (f < p.f)) && match p.ks.getLast? with
  | none => true
  | some z => !(decide (f < atT l z))
theorem may_parts (l : List Nd) (up kind f t : Int) (p : Nd) (hp : l[up.toNat]? = some p) :
    mayAdd l up kind f t = (!(decide (up < 0) || decide ((l.length : Int) ≤ up) || decide (kind < 1) || decide (11 < kind) || decide (t < f) || decide (firstT l < t)) && fitsIn l p f) := by
  unfold mayAdd fitsIn
  rw [hp]
  rfl
theorem may_none (l : List Nd) (up kind f t : Int) (hb : (decide (up < 0) || decide ((l.length : Int) ≤ up) || decide (kind < 1) || decide (11 < kind) || decide (t < f) || decide (firstT l < t)) = true) : mayAdd l up kind f t = false := by
  unfold mayAdd
  rw [hb]; rfl
set_option maxHeartbeats 8000000 in
set_option maxRecDepth 100000 in
theorem rAdd (v : Value) (l : List Nd) (up kind f t : Int) (w : World) (h : Nodes w v l) (hG : Ar.Good l) (hs : l.length ≤ 500) (hk : ∀ x ∈ l, x.ks.length ≤ 500) :
    Calls Try.prog 15 #[.agg #[v], .int .i64 up, .int .i64 kind, .int .i64 f, .int .i64 t] w (TreedA (mayAdd l up kind f t) (addN l up kind f t) w) := by
  obtain ⟨a, cap, rfl⟩ := h.shape
  obtain ⟨y, hy, hyt⟩ := first_at hG.pos
  have HX := Lib.hid (fun W (hb : Below w.heap.size w W) => h.below hb)
  have HC := Lib.hid (fun W (hb : Below w.heap.size w W) => rCopied _ l W (h.below hb) (by omega) (fun x hx => Nat.le_trans (hk x hx) (by omega)))
  obtain ⟨N, hN⟩ : ∃ N, l.length = N := ⟨_, rfl⟩
  have hmn := may_none l up kind f t
  have hmp := may_parts l up kind f t
  have had : addN l up kind f t = if mayAdd l up kind f t = true then (match l[up.toNat]? with
    | none => (l, -1)
    | some p => (reachN ((l ++ [(⟨kind, f, t, up, [], false⟩ : Nd)]).set up.toNat { p with ks := p.ks ++ [(l.length : Int)] }) up t, (l.length : Int))) else (l, -1) := rfl
  obtain ⟨b1, hb1⟩ : ∃ b1, (decide (up < 0) || decide ((l.length : Int) ≤ up) || decide (kind < 1) || decide (11 < kind) || decide (t < f) || decide (firstT l < t)) = b1 := ⟨_, rfl⟩
  rw [hb1] at hmn hmp
  rw [hN, hyt] at hb1
  obtain ⟨M, hM⟩ : ∃ M, mayAdd l up kind f t = M := ⟨_, rfl⟩
  obtain ⟨R, hR⟩ : ∃ R, addN l up kind f t = R := ⟨_, rfl⟩
  rw [hM] at had hmn hmp
  rw [hR, hN] at had
  have HQ := Lib.hid (fun u z w' => show (R.2 = z ∧ Nodes w' u R.1 ∧ (M = true → ∃ L, L.map Ln.nd = R.1 ∧ OT w' w.heap.size u L) ∧ Below w.heap.size w w') → TreedA M R w (.returned (.tuple #[.agg #[u], .int .i64 z])) w' from fun h => ⟨u, by rw [h.1], h.2⟩)
  rw [hM, hR]
  obtain ⟨Q, hQ⟩ : ∃ Q, TreedA M R w = Q := ⟨_, rfl⟩
  rw [hQ] at HQ ⊢
  rw [hN] at HX HC ⊢
  rw [hN] at hs
  have hpos := hG.pos
  rw [hN] at hpos
  have HG := Lib.hid hG
  have HY := Lib.hid hy
  have HN := Lib.hid hN
  have HAd := Lib.hid had
  have HMn := Lib.hid hmn
  have HMp := Lib.hid hmp
  have HB1 := Lib.hid hb1
  have HKl := Lib.hid hk
  obtain ⟨w2, hw2⟩ : ∃ w2, (w.alloc (.cells #[.slice a N cap] 29)).alloc (.cells #[.slice none 0 0] 29) = w2 := ⟨_, rfl⟩
  obtain ⟨Bt, hBt⟩ : ∃ Bt, w.heap.size = Bt := ⟨_, rfl⟩
  obtain ⟨Br, hBr⟩ : ∃ Br, w.heap.size + 1 = Br := ⟨_, rfl⟩
  have hb2 := below_allocS (below_alloc w (.cells #[.slice a N cap] 29)) (.cells #[.slice none 0 0] 29)
  have ct : w2.cell? ⟨Bt, 0, none⟩ = some (.slice a N cap) := by rw [← hw2, ← hBt]; exact at_alloc (at_new rfl)
  have cr : Hld w2 Br 0 (.slice none 0 0) := by
    rw [← hw2, ← hBr]
    have h := hld_new (W := w.alloc (.cells #[.slice a N cap] 29)) (C := #[.slice none 0 0]) (t := 29) (k := 0) rfl
    rw [size_alloc] at h
    exact h
  rw [hw2] at hb2
  have HB2 := Lib.hid hb2
  have HCr := Lib.hid cr
  have HW2 := Lib.hid hw2
  have HBt := Lib.hid hBt
  have hlt : Br < w2.heap.size := lt_of_cell cr.1
  have hbr : w.heap.size ≤ Br := by omega
  have HBr := Lib.hid hBr
  have y0 := h.below hb2
  obtain ⟨b, off, ka, kc, rfl, -, -, y2, -, -, -, -⟩ := y0.at_ 0 y hy
  simp only [Nat.zero_mul, Nat.add_zero] at y2
  have hN0 : (0 : Int) < (N : Int) := by omega
  clear h hy hyt hk hN hM hR hQ had hmn hmp hb1 hG hw2 hBt hBr hb2 cr y0
  go_enter Try.func15, Try.ntmps15
  go_upto_region 1 with fail
  rw [HW2.out, HBr.out, HBt.out]
  clear HW2 HBr HBt
  go_cut [45] (fun q wx => q = .bool b1 ∧ w2 = wx)
  case first =>
    have hb1 := HB1.out
    by_cases q1 : up < 0
    · obtain rfl : b1 = true := by rw [← hb1]; simp [q1]
      clear hb1
      go_wp2_with fail
      go_meet
      exact ⟨rfl, rfl⟩
    by_cases q2 : (N : Int) ≤ up
    · obtain rfl : b1 = true := by rw [← hb1]; simp [q2]
      clear hb1
      go_wp2_with fail
      go_meet
      exact ⟨rfl, rfl⟩
    by_cases q3 : kind < 1
    · obtain rfl : b1 = true := by rw [← hb1]; simp [q3]
      clear hb1
      go_wp2_with fail
      go_meet
      exact ⟨rfl, rfl⟩
    by_cases q4 : 11 < kind
    · obtain rfl : b1 = true := by rw [← hb1]; simp [q4]
      clear hb1
      go_wp2_with fail
      go_meet
      exact ⟨rfl, rfl⟩
    by_cases q5 : t < f
    · obtain rfl : b1 = true := by rw [← hb1]; simp [q5]
      clear hb1
      go_wp2_with fail
      go_meet
      exact ⟨rfl, rfl⟩
    by_cases q6 : y.t < t
    · obtain rfl : b1 = true := by rw [← hb1]; simp [q6]
      clear hb1
      go_wp2_with fail
      go_meet
      exact ⟨rfl, rfl⟩
    · obtain rfl : b1 = false := by rw [← hb1]; simp [q1, q2, q3, q4, q5, q6]
      clear hb1
      go_wp2_with fail
      go_meet
      exact ⟨rfl, rfl⟩
  case rest =>
  obtain ⟨rfl, rfl⟩ := hcut
  have cr0 := HCr.out.1
  have fr0 := HCr.out.2
  cases b1 with
  | true =>
    obtain rfl : M = false := HMn.out rfl
    have hr : R = (l, -1) := by rw [HAd.out]; rfl
    have HD := Lib.hid (HQ.out (.slice (some ⟨b, off, none⟩) N cap) (-1) _ ⟨by rw [hr], by rw [hr]; exact HX.out _ (HB2.out.setCell (p := ⟨Br, 0, none⟩) hbr (.slice (some ⟨b, off, none⟩) N cap)), fun e => absurd e (by decide), HB2.out.setCell (p := ⟨Br, 0, none⟩) hbr (.slice (some ⟨b, off, none⟩) N cap)⟩)
    clear hr
    go_wp2_with fail
    refine bodyPost_ret (v := .tuple #[.agg #[.slice (some ⟨b, off, none⟩) N cap], .int .i64 (-1)]) ?_ rfl HD.out
    simp [results, Try.results15, go_sem, cr0, cell_set_eq]
  | false =>
    have hb1 := HB1.out
    obtain ⟨⟨⟨⟨⟨h0, hN1⟩, hk1⟩, hk2⟩, hft⟩, hyt⟩ : ((((0 ≤ up ∧ up < N) ∧ 1 ≤ kind) ∧ kind ≤ 11) ∧ f ≤ t) ∧ t ≤ y.t := by simpa using hb1
    obtain ⟨i, rfl⟩ : ∃ i : Nat, up = (i : Int) := ⟨up.toNat, by omega⟩
    have hi : i < N := by omega
    obtain ⟨p, hp⟩ : ∃ p, l[i]? = some p := ⟨_, List.getElem?_eq_getElem (by rw [HN.out]; exact hi)⟩
    have hmp := HMp.out p (by rw [Int.toNat_natCast]; exact hp)
    have had := HAd.out
    rw [Int.toNat_natCast, hp] at had
    dsimp only at had
    have HAd2 := Lib.hid had
    have y0 := HX.out w2 HB2.out
    rw [← HN.out] at y0
    obtain ⟨b', off', ka2, kc2, he, p0, p1, p2, p3, p4, p5, hkr⟩ := y0.at_ i p hp
    injection he with he
    injection he with e1 e2
    subst e1 e2
    obtain ⟨pb, hpb⟩ : ∃ pb, w2.heap.size = pb := ⟨_, rfl⟩
    obtain ⟨w3, hw3⟩ : ∃ w3, w2.alloc (.cells #[.int .i64 p.k, .int .i64 p.f, .int .i64 p.t, .int .i64 p.u, .slice ka2 p.ks.length kc2, .bool p.y] 48) = w3 := ⟨_, rfl⟩
    have hb3 : Below w2.heap.size w2 w3 := hw3 ▸ below_alloc w2 _
    have blk : w3.heap[pb]? = some (.cells #[.int .i64 p.k, .int .i64 p.f, .int .i64 p.t, .int .i64 p.u, .slice ka2 p.ks.length kc2, .bool p.y] 48 (0, 0)) := by rw [← hw3, ← hpb]; exact heap_alloc_new _ _
    have n1 : w3.cell? ⟨pb, 1, none⟩ = some (.int .i64 p.f) := Joins.cell_of_block blk 1
    have n4 : w3.cell? ⟨pb, 4, none⟩ = some (.slice ka2 p.ks.length kc2) := Joins.cell_of_block blk 4
    have ct3 := at_below hb3 ct
    have HKr := Lib.hid (hkr.below hb3)
    have HB3 := Lib.hid (below_from HB2.out hb3)
    have hcr3 := hld_below hb3 HCr.out
    have HCr3 := Lib.hid hcr3
    have hb3s := hb3.size
    have HW3 := Lib.hid hw3
    have HPb := Lib.hid hpb
    have HP := Lib.hid hp
    have HMp2 := Lib.hid (show M = fitsIn l p f by rw [hmp]; rfl)
    have HPf0 := Lib.hid (show M = true → p.f ≤ t from fun e => by
      have h := HMp2.out
      rw [e] at h
      unfold fitsIn at h
      by_cases hc : f < p.f
      · rw [decide_eq_true hc] at h; cases h
      · omega)
    have hii : (i : Int) < (N : Int) := by omega
    have hkl := HKl.out p (List.mem_of_getElem? hp)
    clear hb1 hmp had y0 hkr hpb hw3 hb3 blk hp hcr3 HAd HMn HMp HB1
    go_upto_region 4 with fail
    rw [HW3.out, HPb.out]
    clear HW3 HPb p0 p1 p2 p3 p4 p5 cr0 fr0 ct y2
    go_cut [78] (fun q wx => q = .bool (!M) ∧ Below w3.heap.size w3 wx)
    case first =>
      have hm := HMp2.out
      unfold fitsIn at hm
      by_cases q1 : f < p.f
      · obtain rfl : M = false := by rw [hm]; simp [q1]
        clear hm
        go_wp2_with fail
        go_quiet (fail)
        have hq := below_drewN (Below.refl w3.heap.size w3) nq
        go_wp2_with fail
        go_meet
        exact ⟨rfl, hq⟩
      have e1 : decide (f < p.f) = false := by simp; omega
      cases hks : p.ks with
      | nil =>
        obtain rfl : M = true := by rw [hm, hks, e1]; rfl
        rw [hks] at n4
        clear hm hks
        simp only [List.length_nil] at n4
        go_wp2_with fail
        go_quiet (fail)
        have hq := below_drewN (Below.refl w3.heap.size w3) nq
        go_wp2_with fail
        go_meet
        exact ⟨rfl, hq⟩
      | cons k0 kr =>
        obtain ⟨m, hm1⟩ : ∃ m, p.ks.length = m + 1 := ⟨kr.length, by rw [hks]; rfl⟩
        obtain ⟨z, hz⟩ : ∃ z, p.ks[m]? = some z := ⟨_, List.getElem?_eq_getElem (by omega)⟩
        have hlast : p.ks.getLast? = some z := by rw [List.getLast?_eq_getElem?, hm1]; exact hz
        rw [hlast, e1] at hm
        dsimp only at hm
        have hzk := HG.out.kid i p HP.out z (List.mem_of_getElem? hz)
        rw [HN.out] at hzk
        obtain ⟨zn, rfl⟩ : ∃ zn : Nat, z = (zn : Int) := ⟨z.toNat, by omega⟩
        obtain ⟨c, hc⟩ : ∃ c, l[zn]? = some c := ⟨_, List.getElem?_eq_getElem (by rw [HN.out]; omega)⟩
        have hat : atT l (zn : Int) = c.t := by unfold atT; rw [Int.toNat_natCast, hc]
        rw [hat] at hm
        obtain ⟨kb, ko, rfl, z0⟩ := kids_at HKr.out m _ hz
        have yc := HX.out w3 HB3.out
        rw [← HN.out] at yc
        obtain ⟨b9, off9, _, _, he, -, -, c2, -, -, -, -⟩ := yc.at_ zn c hc
        injection he with he
        injection he with e2 e3
        subst e2 e3
        rw [hm1] at n4
        have g0 : (0 : Int) < (m : Int) + 1 := by omega
        have gw : IntKind.i64.wrap ((m : Int) + 1 - 1) = (m : Int) := by
          have : (m : Int) + 1 - 1 = (m : Int) := by omega
          rw [this]; exact IntWalk.i64_in _ (by omega)
        have gw2 : IntKind.i64.wrap (m : Int) = (m : Int) := IntWalk.i64_in _ (by omega)
        have g1 : (m : Int) < (m : Int) + 1 := by omega
        have g2 : (zn : Int) < (N : Int) := by omega
        have n4' : w3.cell? ⟨pb, 4, none⟩ = some (.slice (some ⟨kb, ko, none⟩) (m + 1) kc2) := n4
        clear n4 hks hlast hzk hz hc hat yc hm1
        by_cases q2 : f < c.t
        · obtain rfl : M = false := by rw [hm]; simp [q2]
          clear hm
          go_wp2_with fail
          go_quiet (fail)
          have hq := below_drewN (Below.refl w3.heap.size w3) nq
          go_wp2_with fail
          go_meet
          exact ⟨rfl, hq⟩
        · obtain rfl : M = true := by rw [hm]; simp [q2]
          have e4 : decide (f < c.t) = false := by simp; omega
          clear hm
          go_wp2_with fail
          go_quiet (fail)
          have hq := below_drewN (Below.refl w3.heap.size w3) nq
          go_wp2_with fail
          go_meet
          exact ⟨rfl, hq⟩
    case rest =>
    obtain ⟨rfl, hbc⟩ := hcut
    rename World => w4
    have ct4 := at_below hbc ct3
    have cr4 := hld_below hbc HCr3.out
    have cr40 := cr4.1
    have fr40 := cr4.2
    have HCr4 := Lib.hid cr4
    have HB4 := Lib.hid (below_from HB3.out hbc)
    have hb4s := hbc.size
    clear hbc ct3 n1 n4 HKr HCr3 cr4 HMp2
    cases M with
    | false =>
      have hr : R = (l, -1) := by rw [HAd2.out]; rfl
      have HD := Lib.hid (HQ.out (.slice (some ⟨b, off, none⟩) N cap) (-1) _ ⟨by rw [hr], by rw [hr]; exact HX.out _ (HB4.out.setCell (p := ⟨Br, 0, none⟩) hbr (.slice (some ⟨b, off, none⟩) N cap)), fun e => absurd e (by decide), HB4.out.setCell (p := ⟨Br, 0, none⟩) hbr (.slice (some ⟨b, off, none⟩) N cap)⟩)
      clear hr
      go_wp2_with fail
      refine bodyPost_ret (v := .tuple #[.agg #[.slice (some ⟨b, off, none⟩) N cap], .int .i64 (-1)]) ?_ rfl HD.out
      simp [results, Try.results15, go_sem, cr40, cell_set_eq]
    | true =>
      have hr := HAd2.out
      rw [if_pos rfl] at hr
      have HPf := Lib.hid (HPf0.out rfl)
      have HRr := Lib.hid hr
      have HCw := Lib.hid (HC.out w4 HB4.out)
      clear hr
      go_wp2_with fail
      refine HCw.out.mono ?_
      rintro e w5 ⟨u, rfl, ⟨L, hL, hO⟩, hb5⟩
      have hln : L.length = N := by rw [← HN.out, ← hL, List.length_map]
      obtain ⟨g, cp, hu, hBg, _, _, _⟩ := own_at hO.row (by omega)
      subst hu
      obtain ⟨pl, hpl⟩ : ∃ pl, L[i]? = some pl := ⟨_, List.getElem?_eq_getElem (by omega)⟩
      have hpn : pl.nd = p := by
        have h1 : (L.map Ln.nd)[i]? = some pl.nd := by rw [List.getElem?_map, hpl]; rfl
        rw [hL, HP.out] at h1
        exact (Option.some.inj h1).symm
      rw [hln] at hO ⊢
      have HO := Lib.hid hO
      have HL := Lib.hid hL
      have HLn := Lib.hid hln
      have HPl := Lib.hid hpl
      have HPn := Lib.hid hpn
      have HB5 := Lib.hid (below_from HB4.out hb5)
      have cr5 := hld_below hb5 HCr4.out
      have HCr5 := Lib.hid cr5
      have hb5s := hb5.size
      have HW45 := Lib.hid hb5
      have HRow5 := Lib.hid (show w5.ownsRow w4.heap.size 48 encN.k (.slice (some ⟨g, 0, none⟩) N cp) L.length (encN.all L) from hO.row)
      have hmx : L.length + 1 ≤ maxLen := by simp only [maxLen]; omega
      have hmy : (L.length + 1) * 64 ≤ 140737488355328 := by omega
      have HMx := Lib.hid hmx
      have HMy := Lib.hid hmy
      clear hL hO hln hpl hpn hBg hb5 cr5 hmx hmy cr40 fr40 ct4
      go_upto_region 9 with (at_builtin; go_must (refine append_one tyN rfl (.tmp 84) (.tmp 90) rfl w4.heap.size _ L (⟨⟨kind, f, t, (i : Int), [], false⟩, none, 0, 0⟩ : Ln) _ rfl rfl HRow5.out rfl HMx.out HMy.out hb5s ?_; intro v6 w6 hown6 hg6; obtain ⟨g6, cp6, hv6, hBg6, hfz6, hlc6, hcm6⟩ := own_at hown6 (by simp); rw [show (L ++ [(⟨⟨kind, f, t, (i : Int), [], false⟩, none, 0, 0⟩ : Ln)]).length = N + 1 from by rw [List.length_append, HLn.out]; rfl] at hv6 hlc6; subst hv6; have HOwn6 := Lib.hid hown6; have HG6 := Lib.hid hg6; have HBg6 := Lib.hid hBg6; have HFz6 := Lib.hid hfz6; clear hown6 hg6 hBg6 hfz6))
      have hO6 := HO.out.push (p := (⟨⟨kind, f, t, (i : Int), [], false⟩, none, 0, 0⟩ : Ln)) (own_nil encI _ _) (fun j q _ gg hgg => by cases hgg) HG6.out HOwn6.out
      have hb6 : Below w4.heap.size w5 w6 := ((below_alloc w5 _).mono hb5s).grown HG6.out (by simp; omega) (fun q hq => (HRow5.out.lt q hq).1)
      have hL6 : (L ++ [(⟨⟨kind, f, t, (i : Int), [], false⟩, none, 0, 0⟩ : Ln)]).map Ln.nd = l ++ [⟨kind, f, t, (i : Int), [], false⟩] := by rw [List.map_append, HL.out]; rfl
      have hpl6 : (L ++ [(⟨⟨kind, f, t, (i : Int), [], false⟩, none, 0, 0⟩ : Ln)])[i]? = some pl := by rw [List.getElem?_append_left (by rw [HLn.out]; exact hi)]; exact HPl.out
      have hln6 : (L ++ [(⟨⟨kind, f, t, (i : Int), [], false⟩, none, 0, 0⟩ : Ln)]).length = N + 1 := by rw [List.length_append, HLn.out]; rfl
      obtain ⟨L6, hL6d⟩ : ∃ L6, L ++ [(⟨⟨kind, f, t, (i : Int), [], false⟩, none, 0, 0⟩ : Ln)] = L6 := ⟨_, rfl⟩
      rw [hL6d] at hO6 hL6 hpl6 hln6
      have hrow6 := hO6.row
      have c4 : w6.cell? ⟨g6, i * 6 + 4, none⟩ = some pl.val := by
        have := hrow6.cells (g := g6) rfl _ _ ((all_get encN L6 i pl hpl6 4 (by decide)).trans rfl)
        rw [add_addr, Nat.zero_add] at this
        exact this
      have HO6 := Lib.hid hO6
      have HL6 := Lib.hid hL6
      have HPl6 := Lib.hid hpl6
      have HLn6 := Lib.hid hln6
      have HB6 := Lib.hid (HB5.out.trans (hb6.mono HB4.out.size))
      have cr6 : Hld w6 Br 0 (.slice none 0 0) := ⟨by rw [hb6.cell (p := ⟨Br, 0, none⟩) (by show Br < w4.heap.size; omega)]; exact HCr5.out.1, by rw [hb6.frozen (p := ⟨Br, 0, none⟩) (by show Br < w4.heap.size; omega)]; exact HCr5.out.2⟩
      have HCr6 := Lib.hid cr6
      have hb6s : w4.heap.size ≤ w6.heap.size := Nat.le_trans hb5s hb6.size
      have HPv := Lib.hid (HO6.out.kids i pl HPl6.out)
      have hkv := (Reads.of_own (E := encI) HPv.out)
      have hks6 : pl.nd.ks.length ≤ 500 := by rw [HPn.out]; exact hkl
      have HKx := Lib.hid (show pl.nd.ks.length + [(N : Int)].length ≤ maxLen by simp only [maxLen, List.length_cons, List.length_nil]; omega)
      have HKy := Lib.hid (show (pl.nd.ks.length + [(N : Int)].length) * 8 ≤ 140737488355328 by simp only [List.length_cons, List.length_nil]; omega)
      have hi6 : (i : Int) < (N : Int) + 1 := by omega
      clear hO6 hL6 hpl6 hln6 hL6d hrow6 hb6 cr6 hkv HO HRow5
      have hbs6 : w4.heap.size ≤ (w6.alloc (.cells #[.int .i64 (N : Int)] 3)).heap.size := by simp; omega
      go_upto_region 10 with (at_builtin; go_must (refine append_all_at tyI rfl (.tmp 98) (.tmp 100) rfl w4.heap.size _ pl.nd.ks rfl (HPv.out.alloc _) _ [(N : Int)] rfl (laid_reads w6 (N : Int) [.int .i64 (N : Int)] 3 rfl) HKx.out HKy.out hbs6 ?_; intro kv7 w7 hown7 hg7 hat7; obtain ⟨a7, c7, hv7⟩ := (Reads.of_own (E := encI) hown7).shape; obtain ⟨n7, hn7⟩ : ∃ n7, (pl.nd.ks ++ [(N : Int)]).length = n7 := ⟨_, rfl⟩; rw [hn7] at hv7; clear hn7; subst hv7; have HOwn7 := Lib.hid hown7; have HG7 := Lib.hid hg7; have HAt7 := Lib.hid hat7; have hrow7 := (HO6.out.row.alloc _).kept hg7 (off_row (own_types (HO6.out.kids i pl HPl6.out) HO6.out.row (by decide))); have d4 : w7.cell? ⟨g6, i * 6 + 4, none⟩ = some pl.val := (by have h5 := hrow7.cells (g := g6) rfl _ _ ((all_get encN L6 i pl HPl6.out 4 (by decide)).trans rfl); rw [add_addr, Nat.zero_add] at h5; exact h5); obtain ⟨gx, cpx, hvx, _, hfx, _, _⟩ := own_at (E := encN) hrow7 (by rw [HLn6.out]; omega); have ex := (Value.slice.inj hvx).1; injection ex with ex; injection ex with ex; have fz4 : w7.frozen? ⟨g6, i * 6 + 4, none⟩ = false := (by rw [ex]; exact hfx _); clear hown7 hg7 hat7 hrow7 hvx hfx ex))
      have hO8 := HO6.out.kid HPl6.out (N : Int) HG7.out HOwn7.out HAt7.out
      have hb8 : Below w4.heap.size w6 (w7.setCell ⟨g6, i * 6 + 4, none⟩ (.slice a7 n7 c7)) := ((((below_alloc w6 _).mono hb6s).grown HG7.out hbs6 (fun q hq => (HPv.out.lt q hq).1))).setCell (p := ⟨g6, i * 6 + 4, none⟩) HBg6.out _
      obtain ⟨w8, hw8⟩ : ∃ w8, w7.setCell ⟨g6, i * 6 + 4, none⟩ (.slice a7 n7 c7) = w8 := ⟨_, rfl⟩
      rw [hw8] at hO8 hb8
      have hnd : ({ pl.nd with ks := pl.nd.ks ++ [(N : Int)] } : Nd) = { p with ks := p.ks ++ [(N : Int)] } := by rw [HPn.out]
      rw [hnd] at hO8
      have hL8 : (L6.set i ⟨{ p with ks := p.ks ++ [(N : Int)] }, a7, n7, c7⟩).map Ln.nd = (l ++ [(⟨kind, f, t, (i : Int), [], false⟩ : Nd)]).set i { p with ks := p.ks ++ [(N : Int)] } := by rw [List.map_set, HL6.out]
      have hln8 : (L6.set i ⟨{ p with ks := p.ks ++ [(N : Int)] }, a7, n7, c7⟩).length = N + 1 := by rw [List.length_set]; exact HLn6.out
      obtain ⟨L8, hL8d⟩ : ∃ L8, L6.set i ⟨{ p with ks := p.ks ++ [(N : Int)] }, a7, n7, c7⟩ = L8 := ⟨_, rfl⟩
      rw [hL8d] at hO8 hL8 hln8
      have hG8 : Ar.Good (L8.map Ln.nd) := by
        rw [hL8]
        have := good_put HG.out (i : Int) kind f t p (by omega) (by rw [Int.toNat_natCast]; exact HP.out) HPf.out
        rw [Int.toNat_natCast, HN.out] at this
        exact this
      have hre := rReach g6 cp6 w4.heap.size (N + 1) L8 (i : Int) t w8 hO8 hln8 hG8 (by omega) (by omega)
      rw [hL8] at hre
      have hr1 : R.1 = reachN ((l ++ [(⟨kind, f, t, (i : Int), [], false⟩ : Nd)]).set i { p with ks := p.ks ++ [(N : Int)] }) (i : Int) t := by rw [HRr.out]
      have hr2 : R.2 = (N : Int) := by rw [HRr.out]
      rw [← hr1] at hre
      have HR2 := Lib.hid hr2
      have HRe := Lib.hid hre
      have HB8 := Lib.hid (HB6.out.trans (hb8.mono HB4.out.size))
      have cr8 : Hld w8 Br 0 (.slice none 0 0) := ⟨by rw [hb8.cell (p := ⟨Br, 0, none⟩) (by show Br < w4.heap.size; omega)]; exact HCr6.out.1, by rw [hb8.frozen (p := ⟨Br, 0, none⟩) (by show Br < w4.heap.size; omega)]; exact HCr6.out.2⟩
      have HCr8 := Lib.hid cr8
      have HW8 := Lib.hid hw8
      clear hO8 hb8 hw8 hnd hL8 hln8 hL8d hG8 hre hr1 hr2 cr8 d4 fz4 c4
      rw [HW8.out]
      clear HW8
      go_wp2_with fail
      refine HRe.out.mono ?_
      rintro e w9 ⟨rfl, ⟨L9, hL9, hO9⟩, hb9⟩
      have hbl : Br < w4.heap.size := by omega
      have cr9 : Hld w9 Br 0 (.slice none 0 0) := ⟨by rw [hb9.cell (p := ⟨Br, 0, none⟩) hbl]; exact HCr8.out.1, by rw [hb9.frozen (p := ⟨Br, 0, none⟩) hbl]; exact HCr8.out.2⟩
      have cr90 := cr9.1
      have fr90 := cr9.2
      have hO10 := hO9.setTo Br hbl (.slice (some ⟨g6, 0, none⟩) (N + 1) cp6)
      have hb10 := (HB8.out.trans (hb9.mono HB4.out.size)).setCell (p := ⟨Br, 0, none⟩) hbr (.slice (some ⟨g6, 0, none⟩) (N + 1) cp6)
      have HD := Lib.hid (HQ.out (.slice (some ⟨g6, 0, none⟩) (N + 1) cp6) (N : Int) _ ⟨HR2.out, hL9 ▸ hO10.nodes, fun _ => ⟨L9, hL9, hO10.base HB4.out.size⟩, hb10⟩)
      clear hL9 hO9 hb9 cr9 hO10 hb10
      go_wp2
      refine bodyPost_ret (v := .tuple #[.agg #[.slice (some ⟨g6, 0, none⟩) (N + 1) cp6], .int .i64 (N : Int)]) ?_ rfl HD.out
      simp [results, Try.results15, go_sem, cr90, cell_set_eq]
end Go.Proofs.Ythkieidcjakhgaa
