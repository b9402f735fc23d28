/- Several texts in one: Aq8 Aq8b Aqa. -/
import Derived.Test.YtmlpaafclobgcaaAq7
import Derived.Test.YtmlpaafclobgcaaMgH
/- Package arena: free, fits. -/
namespace Go.Proofs.Ytmlpaafclobgcaa
open Go.RowKit
open Go.Proofs.Ytmlpaafclobgcaa.Sq
open Go.Proofs.Ytmlpaafclobgcaa.Ar
set_option linter.unusedVariables false

/-- Where a new node may begin in a node. -/
def freeN (l : List Nd) (p : Nd) : Int := match p.ks.getLast? with
  | none => p.f
  | some z => atT l z
theorem fits_free {l : List Nd} (h : Ar.Good l) (i : Nat) (p : Nd) (hp : l[i]? = some p) (f : Int) : fitsIn l p f = decide (freeN l p ≤ f) := by
  unfold fitsIn freeN
  cases hl : p.ks.getLast? with
  | none =>
    dsimp only
    rw [Bool.and_true]
    by_cases c : f < p.f
    · simp [c]
    · simp [c]
      omega
  | some z =>
    dsimp only
    have hz : z ∈ p.ks := List.mem_of_getLast? hl
    have hk := h.kid i p hp z hz
    obtain ⟨y, hy⟩ : ∃ y, l[z.toNat]? = some y := ⟨_, List.getElem?_eq_getElem (by omega)⟩
    have he := h.ext i p hp z hz y hy
    have ha : atT l z = y.t := by unfold atT; rw [hy]
    simp only [ha]
    by_cases c : f < y.t
    · simp [c]
    · have c1 : ¬ f < p.f := by omega
      simp [c, c1]
      omega
/-- May the node be added, as package arena asks it. -/
theorem may_free {l : List Nd} (h : Ar.Good l) (i : Nat) (p : Nd) (hp : l[i]? = some p) (kind f t : Int) :
    mayAdd l i kind f t = (decide (1 ≤ kind) && decide (kind ≤ 11) && (decide (freeN l p ≤ f) && decide (f ≤ t) && decide (t ≤ firstT l))) := by
  have hi := (List.getElem?_eq_some_iff.1 hp).1
  rw [may_parts l i kind f t p (by rw [Int.toNat_natCast]; exact hp), fits_free h i p hp]
  have e1 : decide ((i : Int) < 0) = false := decide_eq_false (by omega)
  have e2 : decide ((l.length : Int) ≤ (i : Int)) = false := decide_eq_false (by omega)
  rw [e1, e2]
  by_cases c1 : kind < 1 <;> by_cases c2 : 11 < kind <;> by_cases c3 : t < f <;> by_cases c4 : firstT l < t <;> by_cases c5 : freeN l p ≤ f <;> simp [c1, c2, c3, c4, c5] <;> omega
theorem may_has {l : List Nd} (up kind f t : Int) (h : hasN l.length up = false) : mayAdd l up kind f t = false := by
  refine may_none l up kind f t ?_
  unfold hasN at h
  by_cases c1 : up < 0
  · simp [c1]
  · have c2 : (l.length : Int) ≤ up := by
      by_cases c : up < (l.length : Int)
      · simp [c] at h; omega
      · omega
    simp [c2]
set_option maxHeartbeats 4000000 in
set_option maxRecDepth 100000 in
theorem aFree (v : Value) (l : List Nd) (i : Nat) (p : Nd) (w : World) (h : Nodes w v l) (hG : Ar.Good l) (hs : l.length ≤ 500) (hk : ∀ x ∈ l, x.ks.length ≤ 500) (hp : l[i]? = some p) :
    Calls Try.prog 73 #[.agg #[v], .int .i64 i] w (fun e w' => e = .returned (.int .i64 (freeN l p)) ∧ Below w.heap.size w w') := by
  obtain ⟨a, cap, rfl⟩ := h.shape
  obtain ⟨R, hR⟩ : ∃ R, freeN l p = R := ⟨_, rfl⟩
  rw [hR]
  have hi := (List.getElem?_eq_some_iff.1 hp).1
  have HX := Lib.hid (fun W (hb : Below w.heap.size w W) => h.below hb)
  have hkp := hk p (List.mem_of_getElem? hp)
  obtain ⟨N, hN⟩ : ∃ N, l.length = N := ⟨_, rfl⟩
  rw [hN] at hs hi HX ⊢
  have HN := Lib.hid hN
  obtain ⟨Bt, hBt⟩ : ∃ Bt, w.heap.size = Bt := ⟨_, rfl⟩
  obtain ⟨w1, hw1⟩ : ∃ w1, w.alloc (.cells #[.slice a N cap] 31) = w1 := ⟨_, rfl⟩
  have hb1 : Below w.heap.size w w1 := hw1 ▸ below_alloc w _
  have ct : w1.cell? ⟨Bt, 0, none⟩ = some (.slice a N cap) := by rw [← hw1, ← hBt]; exact at_new rfl
  have hX1 := HX.out w1 hb1
  rw [← HN.out] at hX1
  obtain ⟨b, off, ka, kc, rfl, p0, p1, p2, p3, p4, p5, hkr⟩ := hX1.at_ i p hp
  obtain ⟨xb, hxb⟩ : ∃ xb, w1.heap.size = xb := ⟨_, rfl⟩
  obtain ⟨w2, hw2⟩ : ∃ w2, w1.alloc (.cells #[.int .i64 p.k, .int .i64 p.f, .int .i64 p.t, .int .i64 p.u, .slice ka p.ks.length kc, .bool p.y] 38) = w2 := ⟨_, rfl⟩
  have hb2 : Below w1.heap.size w1 w2 := hw2 ▸ below_alloc w1 _
  have blk : w2.heap[xb]? = some (.cells #[.int .i64 p.k, .int .i64 p.f, .int .i64 p.t, .int .i64 p.u, .slice ka p.ks.length kc, .bool p.y] 38 (0, 0)) := by rw [← hw2, ← hxb]; exact heap_alloc_new _ _
  have ct2 := at_below hb2 ct
  have HB2 := Lib.hid (below_from hb1 hb2)
  have HBlk := Lib.hid blk
  have HKr := Lib.hid (hkr.below hb2)
  have HW1 := Lib.hid hw1
  have HBt := Lib.hid hBt
  have HW2 := Lib.hid hw2
  have HXb := Lib.hid hxb
  have HG := Lib.hid hG
  have HP := Lib.hid hp
  have HR := Lib.hid hR
  have hii : (i : Int) < (N : Int) := by omega
  clear h hG hk hp hR hN hBt hw1 hb1 hX1 hxb hw2 hb2 blk hkr
  go_enter Try.func73, Try.ntmps73
  go_upto_region 1 with fail
  rw [HW1.out, HBt.out]
  clear HW1 HBt
  go_upto_region 2 with fail
  rw [HW2.out, HXb.out]
  clear HW2 HXb p0 p1 p2 p3 p4 p5 ct
  have n1 := Joins.cell_of_block HBlk.out 1
  have n4 := Joins.cell_of_block HBlk.out 4
  have hr := HR.out
  unfold freeN at hr
  cases hks : p.ks with
  | nil =>
    rw [hks] at hr
    have hr : p.f = R := hr
    have n4' : w2.cell? ⟨xb, 4, none⟩ = some (.slice ka 0 kc) := by rw [n4, hks]; rfl
    clear n4 hks
    subst hr
    go_upto_region 3 with fail
    go_big_quiet (fail)
    have n1' : (w2.drewN nq).cell? ⟨xb, 1, none⟩ = some (.int .i64 p.f) := (World.cell?_drewN _ _ _).trans n1
    have hq := below_drewN HB2.out nq
    obtain ⟨W, hW⟩ : ∃ W, w2.drewN nq = W := ⟨_, rfl⟩
    rw [hW] at n1' hq
    rw [hW]
    have HD := Lib.hid hq
    clear hW hq n1 ct2 n4'
    go_wp2_with fail
    go_ret
    exact ⟨rfl, HD.out⟩
  | cons k0 kr =>
    obtain ⟨m, hm1⟩ : ∃ m, p.ks.length = m + 1 := ⟨kr.length, by rw [hks]; rfl⟩
    obtain ⟨z, hz⟩ : ∃ z, p.ks[m]? = some z := ⟨_, List.getElem?_eq_getElem (by omega)⟩
    have hlast : p.ks.getLast? = some z := by rw [List.getLast?_eq_getElem?, hm1]; exact hz
    rw [hlast] at hr
    have hr : atT l z = R := hr
    have hzk := HG.out.kid i p HP.out z (List.mem_of_getElem? hz)
    rw [HN.out] at hzk
    obtain ⟨zn, rfl⟩ : ∃ zn : Nat, z = (zn : Int) := ⟨z.toNat, by omega⟩
    obtain ⟨c, hc⟩ : ∃ c, l[zn]? = some c := ⟨_, List.getElem?_eq_getElem (by rw [HN.out]; omega)⟩
    have hat : atT l (zn : Int) = c.t := by unfold atT; rw [Int.toNat_natCast, hc]
    rw [hat] at hr
    subst hr
    obtain ⟨kb, ko, hka, z0⟩ := kids_at HKr.out m _ hz
    subst hka
    have yc := HX.out w2 HB2.out
    rw [← HN.out] at yc
    obtain ⟨b9, off9, _, _, he, -, -, c2, -, -, -, -⟩ := yc.at_ zn c hc
    injection he with he
    injection he with e2 e3
    subst e2 e3
    have n4' : w2.cell? ⟨xb, 4, none⟩ = some (.slice (some ⟨kb, ko, none⟩) (m + 1) kc) := by rw [n4, ← hm1]; rfl
    have g0 : (0 : Int) < (m : Int) + 1 := by omega
    have g0' : decide ((0 : Int) < (m : Int) + 1) = true := decide_eq_true g0
    have gw : IntKind.i64.wrap ((m : Int) + 1 - 1) = (m : Int) := by
      have : (m : Int) + 1 - 1 = (m : Int) := by omega
      rw [this]; exact IntWalk.i64_in _ (by omega)
    have gw2 : IntKind.i64.wrap (m : Int) = (m : Int) := IntWalk.i64_in _ (by omega)
    have g1 : (m : Int) < (m : Int) + 1 := by omega
    have g2 : (zn : Int) < (N : Int) := by omega
    have hhas : hasN N (zn : Int) = true := by unfold hasN; simp; omega
    have hH := has_any (some ⟨b, off, none⟩) N cap (zn : Int) w2.drew (by omega)
    rw [hhas] at hH
    have HH := Lib.hid hH
    clear n4 hks hlast hzk hz hc hat yc hm1 hH hhas n1
    go_upto_region 3 with fail
    refine wp_region_quiet_tail 10 (by kernel_rfl) (by kernel_rfl) ?_
    simp only [List.take_succ_cons, List.take_zero, List.drop_succ_cons, List.drop_zero]
    repeat (go_big_quiet_step (fail))
    refine wpQuiet_nil ?_
    go_wp2_with fail
    refine HH.out.mono ?_
    rintro e w3 ⟨rfl, hb3⟩
    have ct3 : w3.cell? ⟨Bt, 0, none⟩ = some (.slice (some ⟨b, off, none⟩) N cap) := at_below hb3 (at_drew ct2)
    have n43 : w3.cell? ⟨xb, 4, none⟩ = some (.slice (some ⟨kb, ko, none⟩) (m + 1) kc) := at_below hb3 (at_drew n4')
    have z03 : w3.cell? ⟨kb, ko + m, none⟩ = some (.int .i64 (zn : Int)) := at_below hb3 (at_drew z0)
    have c23 := at_below hb3 (at_drew c2)
    have HB3 := Lib.hid (below_from HB2.out.drew hb3)
    clear hb3 ct2 n4' z0 c2
    go_wp2_with fail
    go_big_quiet (fail)
    have HD := Lib.hid (below_drewN HB3.out nq)
    go_wp2_with fail
    go_ret
    exact ⟨rfl, HD.out⟩
set_option maxHeartbeats 8000000 in
set_option maxRecDepth 100000 in
theorem aFits (v : Value) (l : List Nd) (up kind f t : Int) (w : World) (h : Nodes w v l) (hG : Ar.Good l) (hs : l.length ≤ 500) (hk : ∀ x ∈ l, x.ks.length ≤ 500) :
    Calls Try.prog 67 #[.agg #[v], .agg #[.int .i64 up, .int .i64 t, .int .i64 kind, .int .i64 f]] w (fun e w' => e = .returned (.bool (mayAdd l up kind f t)) ∧ Below w.heap.size w w') := by
  obtain ⟨a, cap, rfl⟩ := h.shape
  obtain ⟨R, hR⟩ : ∃ R, mayAdd l up kind f t = R := ⟨_, rfl⟩
  have hno := may_has (l := l) up kind f t
  have hyes := fun (i : Nat) (p : Nd) (e : up = (i : Int)) (hp : l[i]? = some p) => show mayAdd l up kind f t = (decide (1 ≤ kind) && decide (kind ≤ 11) && (decide (freeN l p ≤ f) && decide (f ≤ t) && decide (t ≤ firstT l))) from by rw [e]; exact may_free hG i p hp kind f t
  rw [hR] at hno hyes ⊢
  obtain ⟨y, hy, hyt⟩ := first_at hG.pos
  rw [hyt] at hyes
  have HX := Lib.hid (fun W (hb : Below w.heap.size w W) => h.below hb)
  have HFr := Lib.hid (fun W i p (hb : Below w.heap.size w W) => aFree (.slice a l.length cap) l i p W (h.below hb) hG hs hk)
  have hpos := hG.pos
  obtain ⟨N, hN⟩ : ∃ N, l.length = N := ⟨_, rfl⟩
  rw [hN] at hs HX HFr hno hpos ⊢
  have HN := Lib.hid hN
  have HNo := Lib.hid hno
  have HYe := Lib.hid hyes
  have HY := Lib.hid hy
  obtain ⟨Bt, hBt⟩ : ∃ Bt, w.heap.size = Bt := ⟨_, rfl⟩
  obtain ⟨Ba, hBa⟩ : ∃ Ba, w.heap.size + 1 = Ba := ⟨_, rfl⟩
  obtain ⟨w1, hw1⟩ : ∃ w1, (w.alloc (.cells #[.slice a N cap] 31)).alloc (.cells #[.int .i64 up, .int .i64 t, .int .i64 kind, .int .i64 f] 82) = w1 := ⟨_, rfl⟩
  have hb1 : Below w.heap.size w w1 := hw1 ▸ below_allocS (below_alloc w _) _
  have ct : w1.cell? ⟨Bt, 0, none⟩ = some (.slice a N cap) := by rw [← hw1, ← hBt]; exact at_alloc (at_new rfl)
  have hsz : (w.alloc (.cells #[.slice a N cap] 31)).heap.size = Ba := by rw [size_alloc]; exact hBa
  have a0 : w1.cell? ⟨Ba, 0, none⟩ = some (.int .i64 up) := by rw [← hw1, ← hsz]; exact at_new rfl
  have a1 : w1.cell? ⟨Ba, 1, none⟩ = some (.int .i64 t) := by rw [← hw1, ← hsz]; exact at_new rfl
  have a2 : w1.cell? ⟨Ba, 2, none⟩ = some (.int .i64 kind) := by rw [← hw1, ← hsz]; exact at_new rfl
  have a3 : w1.cell? ⟨Ba, 3, none⟩ = some (.int .i64 f) := by rw [← hw1, ← hsz]; exact at_new rfl
  have HB1 := Lib.hid hb1
  have HH := Lib.hid (fun W => has_any a N cap up W (by omega))
  have HW1 := Lib.hid hw1
  have HBt := Lib.hid hBt
  have HBa := Lib.hid hBa
  clear h hG hk hR hN hBt hBa hw1 hb1 hsz hno hyes hy hyt
  go_enter Try.func67, Try.ntmps67
  go_upto_region 1 with fail
  rw [HW1.out, HBa.out, HBt.out]
  clear HW1 HBt HBa
  go_wp2_with fail
  refine (HH.out _).mono ?_
  rintro e w2 ⟨rfl, hb2⟩
  have ct2 := at_below hb2 ct
  have a02 := at_below hb2 a0
  have a12 := at_below hb2 a1
  have a22 := at_below hb2 a2
  have a32 := at_below hb2 a3
  have HB2 := Lib.hid (below_from HB1.out hb2)
  clear hb2 ct a0 a1 a2 a3
  cases hh : hasN N up with
  | false =>
    obtain rfl : R = false := HNo.out hh
    clear hh
    go_wp2_with fail
    go_ret
    exact ⟨rfl, HB2.out⟩
  | true =>
    obtain ⟨i, rfl⟩ : ∃ i : Nat, up = (i : Int) := ⟨up.toNat, by unfold hasN at hh; simp at hh; omega⟩
    have hi : i < N := by unfold hasN at hh; simp at hh; omega
    obtain ⟨p, hp⟩ : ∃ p, l[i]? = some p := ⟨_, List.getElem?_eq_getElem (by rw [HN.out]; exact hi)⟩
    have hy0 := HYe.out i p rfl hp
    clear hh
    by_cases q1 : 1 ≤ kind
    case neg =>
      obtain rfl : R = false := by rw [hy0]; simp [q1]
      have d1 : decide (kind < 1) = true := decide_eq_true (by omega)
      have d1' : kind < 1 := by omega
      clear hy0 hp q1
      go_wp2_with fail
      go_ret
      exact ⟨rfl, HB2.out⟩
    have d1 : decide (kind < 1) = false := decide_eq_false (by omega)
    by_cases q2 : kind ≤ 11
    case neg =>
      obtain rfl : R = false := by rw [hy0]; simp [q2]
      have d2 : decide (11 < kind) = true := decide_eq_true (by omega)
      have d2' : 11 < kind := by omega
      clear hy0 hp q2
      go_wp2_with fail
      go_ret
      exact ⟨rfl, HB2.out⟩
    have d2 : decide (11 < kind) = false := decide_eq_false (by omega)
    have hye : R = (decide (freeN l p ≤ f) && decide (f ≤ t) && decide (t ≤ y.t)) := by rw [hy0]; simp [q1, q2]
    clear hy0
    have hF := HFr.out w2.drew i p HB2.out.drew hp
    obtain ⟨fr, hfr⟩ : ∃ fr, freeN l p = fr := ⟨_, rfl⟩
    rw [hfr] at hF hye
    have HF := Lib.hid hF
    have hX2 := HX.out w2 HB2.out
    rw [← HN.out] at hX2
    obtain ⟨b, off, _, _, rfl, -, -, y2, -, -, -, -⟩ := hX2.at_ 0 y HY.out
    simp only [Nat.zero_mul, Nat.add_zero] at y2
    have hN0 : (0 : Int) < (N : Int) := by omega
    clear hp hF hfr hX2 HH HFr HX HNo HYe q1 q2
    by_cases q3 : fr ≤ f
    case neg =>
      obtain rfl : R = false := by rw [hye]; simp [q3]
      have d3 : decide (fr ≤ f) = false := decide_eq_false q3
      clear hye q3
      go_wp2_with fail
      -- FITS 0
      refine wp_region_held_drew (S := fun wx => wx.cell? ⟨Bt, 0, none⟩ = some (.slice (some ⟨b, off, none⟩) N cap) ∧ wx.cell? ⟨Ba, 0, none⟩ = some (.int .i64 (i : Int)) ∧ wx.cell? ⟨Ba, 1, none⟩ = some (.int .i64 t) ∧ wx.cell? ⟨Ba, 3, none⟩ = some (.int .i64 f) ∧ wx.cell? ⟨b, off + 2, none⟩ = some (.int .i64 y.t)) (by kernel_rfl) (⟨ct2, a02, a12, a32, y2⟩) (fun hH => ?_)
      refine wpAnyH_take (i := 0) (oi := { dst := some 21, op := Op.load 31 (Operand.tmp 2), type := 31, pos := _, after := #[], guard := none }) (v := .agg #[.slice (some ⟨b, off, none⟩) N cap]) rfl (by kernel_rfl) (by kernel_rfl) (by kernel_rfl) (fun _ _ _ h => h) (Or.inl ⟨rfl, fun W hW => ?_⟩) hH ?_
      · obtain ⟨z1, z2, z3, z4, z5⟩ := hW; go_simp
      try simp only [Act.put, List.setIfInBounds_toArray, List.set_cons_zero, List.set_cons_succ]
      refine wpAnyH_take (i := 1) (oi := { dst := some 22, op := Op.fieldAddr 82 (Operand.tmp 3) 0, type := 0, pos := _, after := #[], guard := none }) (v := .pointer (some ⟨Ba, 0, none⟩)) rfl (by kernel_rfl) (by kernel_rfl) (by kernel_rfl) (fun _ _ _ h => h) (Or.inl ⟨rfl, fun W hW => ?_⟩) hH ?_
      · go_simp
      try simp only [Act.put, List.setIfInBounds_toArray, List.set_cons_zero, List.set_cons_succ]
      refine wpAnyH_take (i := 2) (oi := { dst := some 23, op := Op.fieldAddr 80 (Operand.tmp 22) 0, type := 0, pos := _, after := #[{ on := 1, ground := Ground.data }], guard := none }) (v := .pointer (some ⟨Ba, 0, none⟩)) rfl (by kernel_rfl) (by kernel_rfl) (by kernel_rfl) (fun _ _ _ h => h) (Or.inl ⟨rfl, fun W hW => ?_⟩) hH ?_
      · go_simp
      try simp only [Act.put, List.setIfInBounds_toArray, List.set_cons_zero, List.set_cons_succ]
      refine wpAnyH_take (i := 3) (oi := { dst := some 24, op := Op.load 3 (Operand.tmp 23), type := 3, pos := _, after := #[{ on := 2, ground := Ground.data }], guard := none }) (v := .int .i64 (i : Int)) rfl (by kernel_rfl) (by kernel_rfl) (by kernel_rfl) (fun _ _ _ h => h) (Or.inl ⟨rfl, fun W hW => ?_⟩) hH ?_
      · obtain ⟨z1, z2, z3, z4, z5⟩ := hW; go_simp
      try simp only [Act.put, List.setIfInBounds_toArray, List.set_cons_zero, List.set_cons_succ]
      refine wpAnyH_take (i := 5) (oi := { dst := some 26, op := Op.fieldAddr 82 (Operand.tmp 3) 2, type := 0, pos := _, after := #[], guard := none }) (v := .pointer (some ⟨Ba, 3, none⟩)) rfl (by kernel_rfl) (by kernel_rfl) (by kernel_rfl) (fun _ _ _ h => h) (Or.inl ⟨rfl, fun W hW => ?_⟩) hH ?_
      · go_simp
      try simp only [Act.put, List.setIfInBounds_toArray, List.set_cons_zero, List.set_cons_succ]
      refine wpAnyH_take (i := 6) (oi := { dst := some 27, op := Op.load 3 (Operand.tmp 26), type := 3, pos := _, after := #[{ on := 5, ground := Ground.data }], guard := none }) (v := .int .i64 f) rfl (by kernel_rfl) (by kernel_rfl) (by kernel_rfl) (fun _ _ _ h => h) (Or.inl ⟨rfl, fun W hW => ?_⟩) hH ?_
      · obtain ⟨z1, z2, z3, z4, z5⟩ := hW; go_simp
      try simp only [Act.put, List.setIfInBounds_toArray, List.set_cons_zero, List.set_cons_succ]
      refine wpAnyH_ready (rs := [4]) (by kernel_rfl) (by simp) ?_
      refine AllReadyH.cons (o := { dst := some 25, op := Op.call { callee := Callee.value (Operand.func 73), args := #[Operand.tmp 21, Operand.tmp 24], argTypes := #[31, 3] }, type := 3, pos := _, after := #[{ on := 0, ground := Ground.data }, { on := 3, ground := Ground.data }], guard := none }) rfl (fun K hK => ?_) AllReadyH.nil
      go_simp
      refine HF.out.mono ?_
      rintro e w3 ⟨rfl, hb3⟩
      have a03 := at_below hb3 (at_drew a02)
      have a13 := at_below hb3 (at_drew a12)
      have a33 := at_below hb3 (at_drew a32)
      have ct3 := at_below hb3 (at_drew ct2)
      have y23 := at_below hb3 (at_drew y2)
      have HB3 := Lib.hid (below_from HB2.out.drew hb3)
      clear hb3
      try go_wp2_with fail
      refine hK.out _ _ (⟨ct3, a03, a13, a33, y23⟩) (fun hH2 => ?_)
      clear hK K
      try simp only [Act.put, List.setIfInBounds_toArray, List.set_cons_zero, List.set_cons_succ]
      refine wpAnyH_take (i := 7) (oi := { dst := some 28, op := Op.binOp BinOp.leq 3 (Operand.tmp 25) (Operand.tmp 27) 3, type := 4, pos := _, after := #[{ on := 4, ground := Ground.data }, { on := 6, ground := Ground.data }], guard := none }) (v := .bool false) rfl (by kernel_rfl) (by kernel_rfl) (by kernel_rfl) (fun _ _ _ h => h) (Or.inl ⟨rfl, fun W hW => ?_⟩) hH2 ?_
      · go_simp
      try simp only [Act.put, List.setIfInBounds_toArray, List.set_cons_zero, List.set_cons_succ]
      refine wpAnyH_take (i := 8) (oi := { dst := some 29, op := Op.move (Operand.tmp 28), type := 4, pos := _, after := #[{ on := 7, ground := Ground.data }, { on := 4, ground := Ground.chain }], guard := none }) (v := .bool false) rfl (by kernel_rfl) (by kernel_rfl) (by kernel_rfl) (fun _ _ _ h => h) (Or.inl ⟨rfl, fun W hW => ?_⟩) hH2 ?_
      · go_simp
      try simp only [Act.put, List.setIfInBounds_toArray, List.set_cons_zero, List.set_cons_succ]
      refine wpAnyH_take (i := 9) (oi := { dst := some 30, op := Op.fieldAddr 82 (Operand.tmp 3) 2, type := 0, pos := _, after := #[{ on := 8, ground := Ground.guard }], guard := some (8, true) }) (v := undef) rfl (by kernel_rfl) (by kernel_rfl) (by kernel_rfl) (fun _ _ _ h => h) (Or.inr ⟨rfl, rfl⟩) hH2 ?_
      try simp only [Act.put, List.setIfInBounds_toArray, List.set_cons_zero, List.set_cons_succ]
      refine wpAnyH_take (i := 10) (oi := { dst := some 31, op := Op.load 3 (Operand.tmp 30), type := 3, pos := _, after := #[{ on := 9, ground := Ground.data }, { on := 8, ground := Ground.guard }], guard := some (8, true) }) (v := undef) rfl (by kernel_rfl) (by kernel_rfl) (by kernel_rfl) (fun _ _ _ h => h) (Or.inr ⟨rfl, rfl⟩) hH2 ?_
      try simp only [Act.put, List.setIfInBounds_toArray, List.set_cons_zero, List.set_cons_succ]
      refine wpAnyH_take (i := 11) (oi := { dst := some 32, op := Op.fieldAddr 82 (Operand.tmp 3) 0, type := 0, pos := _, after := #[{ on := 8, ground := Ground.guard }], guard := some (8, true) }) (v := undef) rfl (by kernel_rfl) (by kernel_rfl) (by kernel_rfl) (fun _ _ _ h => h) (Or.inr ⟨rfl, rfl⟩) hH2 ?_
      try simp only [Act.put, List.setIfInBounds_toArray, List.set_cons_zero, List.set_cons_succ]
      refine wpAnyH_take (i := 12) (oi := { dst := some 33, op := Op.fieldAddr 80 (Operand.tmp 32) 1, type := 0, pos := _, after := #[{ on := 11, ground := Ground.data }, { on := 8, ground := Ground.guard }], guard := some (8, true) }) (v := undef) rfl (by kernel_rfl) (by kernel_rfl) (by kernel_rfl) (fun _ _ _ h => h) (Or.inr ⟨rfl, rfl⟩) hH2 ?_
      try simp only [Act.put, List.setIfInBounds_toArray, List.set_cons_zero, List.set_cons_succ]
      refine wpAnyH_take (i := 13) (oi := { dst := some 34, op := Op.load 3 (Operand.tmp 33), type := 3, pos := _, after := #[{ on := 12, ground := Ground.data }, { on := 8, ground := Ground.guard }], guard := some (8, true) }) (v := undef) rfl (by kernel_rfl) (by kernel_rfl) (by kernel_rfl) (fun _ _ _ h => h) (Or.inr ⟨rfl, rfl⟩) hH2 ?_
      try simp only [Act.put, List.setIfInBounds_toArray, List.set_cons_zero, List.set_cons_succ]
      refine wpAnyH_take (i := 14) (oi := { dst := some 35, op := Op.binOp BinOp.leq 3 (Operand.tmp 31) (Operand.tmp 34) 3, type := 4, pos := _, after := #[{ on := 10, ground := Ground.data }, { on := 13, ground := Ground.data }, { on := 8, ground := Ground.guard }], guard := some (8, true) }) (v := undef) rfl (by kernel_rfl) (by kernel_rfl) (by kernel_rfl) (fun _ _ _ h => h) (Or.inr ⟨rfl, rfl⟩) hH2 ?_
      try simp only [Act.put, List.setIfInBounds_toArray, List.set_cons_zero, List.set_cons_succ]
      refine wpAnyH_take (i := 15) (oi := { dst := some 36, op := Op.pick (Operand.tmp 29) (Operand.tmp 35) (Operand.const (Value.bool false)), type := 4, pos := _, after := #[{ on := 8, ground := Ground.data }, { on := 14, ground := Ground.data }], guard := none }) (v := .bool false) rfl (by kernel_rfl) (by kernel_rfl) (by kernel_rfl) (fun _ _ _ h => h) (Or.inl ⟨rfl, fun W hW => ?_⟩) hH2 ?_
      · go_simp
      try simp only [Act.put, List.setIfInBounds_toArray, List.set_cons_zero, List.set_cons_succ]
      refine wpAnyH_take (i := 16) (oi := { dst := some 37, op := Op.move (Operand.tmp 36), type := 4, pos := _, after := #[{ on := 15, ground := Ground.data }, { on := 8, ground := Ground.chain }], guard := none }) (v := .bool false) rfl (by kernel_rfl) (by kernel_rfl) (by kernel_rfl) (fun _ _ _ h => h) (Or.inl ⟨rfl, fun W hW => ?_⟩) hH2 ?_
      · go_simp
      try simp only [Act.put, List.setIfInBounds_toArray, List.set_cons_zero, List.set_cons_succ]
      refine wpAnyH_take (i := 17) (oi := { dst := some 38, op := Op.fieldAddr 82 (Operand.tmp 3) 0, type := 0, pos := _, after := #[{ on := 16, ground := Ground.guard }], guard := some (16, true) }) (v := undef) rfl (by kernel_rfl) (by kernel_rfl) (by kernel_rfl) (fun _ _ _ h => h) (Or.inr ⟨rfl, rfl⟩) hH2 ?_
      try simp only [Act.put, List.setIfInBounds_toArray, List.set_cons_zero, List.set_cons_succ]
      refine wpAnyH_take (i := 18) (oi := { dst := some 39, op := Op.fieldAddr 80 (Operand.tmp 38) 1, type := 0, pos := _, after := #[{ on := 17, ground := Ground.data }, { on := 16, ground := Ground.guard }], guard := some (16, true) }) (v := undef) rfl (by kernel_rfl) (by kernel_rfl) (by kernel_rfl) (fun _ _ _ h => h) (Or.inr ⟨rfl, rfl⟩) hH2 ?_
      try simp only [Act.put, List.setIfInBounds_toArray, List.set_cons_zero, List.set_cons_succ]
      refine wpAnyH_take (i := 19) (oi := { dst := some 40, op := Op.load 3 (Operand.tmp 39), type := 3, pos := _, after := #[{ on := 18, ground := Ground.data }, { on := 16, ground := Ground.guard }], guard := some (16, true) }) (v := undef) rfl (by kernel_rfl) (by kernel_rfl) (by kernel_rfl) (fun _ _ _ h => h) (Or.inr ⟨rfl, rfl⟩) hH2 ?_
      try simp only [Act.put, List.setIfInBounds_toArray, List.set_cons_zero, List.set_cons_succ]
      refine wpAnyH_take (i := 20) (oi := { dst := some 41, op := Op.fieldAddr 31 (Operand.tmp 2) 0, type := 0, pos := _, after := #[{ on := 16, ground := Ground.guard }], guard := some (16, true) }) (v := undef) rfl (by kernel_rfl) (by kernel_rfl) (by kernel_rfl) (fun _ _ _ h => h) (Or.inr ⟨rfl, rfl⟩) hH2 ?_
      try simp only [Act.put, List.setIfInBounds_toArray, List.set_cons_zero, List.set_cons_succ]
      refine wpAnyH_take (i := 21) (oi := { dst := some 42, op := Op.load 29 (Operand.tmp 41), type := 29, pos := _, after := #[{ on := 20, ground := Ground.data }, { on := 16, ground := Ground.guard }], guard := some (16, true) }) (v := undef) rfl (by kernel_rfl) (by kernel_rfl) (by kernel_rfl) (fun _ _ _ h => h) (Or.inr ⟨rfl, rfl⟩) hH2 ?_
      try simp only [Act.put, List.setIfInBounds_toArray, List.set_cons_zero, List.set_cons_succ]
      refine wpAnyH_take (i := 22) (oi := { dst := some 43, op := Op.indexAddr 29 (Operand.tmp 42) (Operand.const (Value.int IntKind.i64 0)), type := 0, pos := _, after := #[{ on := 21, ground := Ground.data }, { on := 16, ground := Ground.guard }], guard := some (16, true) }) (v := undef) rfl (by kernel_rfl) (by kernel_rfl) (by kernel_rfl) (fun _ _ _ h => h) (Or.inr ⟨rfl, rfl⟩) hH2 ?_
      try simp only [Act.put, List.setIfInBounds_toArray, List.set_cons_zero, List.set_cons_succ]
      refine wpAnyH_take (i := 23) (oi := { dst := some 44, op := Op.fieldAddr 38 (Operand.tmp 43) 2, type := 0, pos := _, after := #[{ on := 22, ground := Ground.data }, { on := 16, ground := Ground.guard }], guard := some (16, true) }) (v := undef) rfl (by kernel_rfl) (by kernel_rfl) (by kernel_rfl) (fun _ _ _ h => h) (Or.inr ⟨rfl, rfl⟩) hH2 ?_
      try simp only [Act.put, List.setIfInBounds_toArray, List.set_cons_zero, List.set_cons_succ]
      refine wpAnyH_take (i := 24) (oi := { dst := some 45, op := Op.load 3 (Operand.tmp 44), type := 3, pos := _, after := #[{ on := 23, ground := Ground.data }, { on := 16, ground := Ground.guard }], guard := some (16, true) }) (v := undef) rfl (by kernel_rfl) (by kernel_rfl) (by kernel_rfl) (fun _ _ _ h => h) (Or.inr ⟨rfl, rfl⟩) hH2 ?_
      try simp only [Act.put, List.setIfInBounds_toArray, List.set_cons_zero, List.set_cons_succ]
      refine wpAnyH_take (i := 25) (oi := { dst := some 46, op := Op.binOp BinOp.leq 3 (Operand.tmp 40) (Operand.tmp 45) 3, type := 4, pos := _, after := #[{ on := 19, ground := Ground.data }, { on := 24, ground := Ground.data }, { on := 16, ground := Ground.guard }], guard := some (16, true) }) (v := undef) rfl (by kernel_rfl) (by kernel_rfl) (by kernel_rfl) (fun _ _ _ h => h) (Or.inr ⟨rfl, rfl⟩) hH2 ?_
      try simp only [Act.put, List.setIfInBounds_toArray, List.set_cons_zero, List.set_cons_succ]
      refine wpAnyH_take (i := 26) (oi := { dst := some 47, op := Op.pick (Operand.tmp 37) (Operand.tmp 46) (Operand.const (Value.bool false)), type := 4, pos := _, after := #[{ on := 16, ground := Ground.data }, { on := 25, ground := Ground.data }], guard := none }) (v := .bool false) rfl (by kernel_rfl) (by kernel_rfl) (by kernel_rfl) (fun _ _ _ h => h) (Or.inl ⟨rfl, fun W hW => ?_⟩) hH2 ?_
      · go_simp
      try simp only [Act.put, List.setIfInBounds_toArray, List.set_cons_zero, List.set_cons_succ]
      refine wpAnyH_take (i := 27) (oi := { dst := some 4, op := Op.assign (Operand.tmp 47), type := 4, pos := _, after := #[{ on := 26, ground := Ground.data }, { on := 16, ground := Ground.chain }, { on := 0, ground := Ground.phase }, { on := 1, ground := Ground.phase }, { on := 2, ground := Ground.phase }, { on := 3, ground := Ground.phase }, { on := 4, ground := Ground.phase }, { on := 5, ground := Ground.phase }, { on := 6, ground := Ground.phase }, { on := 7, ground := Ground.phase }, { on := 8, ground := Ground.phase }, { on := 9, ground := Ground.phase }, { on := 10, ground := Ground.phase }, { on := 11, ground := Ground.phase }, { on := 12, ground := Ground.phase }, { on := 13, ground := Ground.phase }, { on := 14, ground := Ground.phase }, { on := 15, ground := Ground.phase }, { on := 16, ground := Ground.phase }, { on := 17, ground := Ground.phase }, { on := 18, ground := Ground.phase }, { on := 19, ground := Ground.phase }, { on := 20, ground := Ground.phase }, { on := 21, ground := Ground.phase }, { on := 22, ground := Ground.phase }, { on := 23, ground := Ground.phase }, { on := 24, ground := Ground.phase }, { on := 25, ground := Ground.phase }, { on := 26, ground := Ground.phase }], guard := none }) (v := .bool false) rfl (by kernel_rfl) (by kernel_rfl) (by kernel_rfl) (fun _ _ _ h => h) (Or.inl ⟨rfl, fun W hW => ?_⟩) hH2 ?_
      · go_simp
      try simp only [Act.put, List.setIfInBounds_toArray, List.set_cons_zero, List.set_cons_succ]
      refine wpAnyH_done (by kernel_rfl) ?_ _
      -- END 0
      go_wp2_with fail
      go_ret
      exact ⟨rfl, HB3.out⟩
    have d3 : decide (fr ≤ f) = true := decide_eq_true q3
    by_cases q4 : f ≤ t
    case neg =>
      obtain rfl : R = false := by rw [hye]; simp [q4]
      have d4 : decide (f ≤ t) = false := decide_eq_false q4
      clear hye q3 q4
      go_wp2_with fail
      -- FITS 1
      refine wp_region_held_drew (S := fun wx => wx.cell? ⟨Bt, 0, none⟩ = some (.slice (some ⟨b, off, none⟩) N cap) ∧ wx.cell? ⟨Ba, 0, none⟩ = some (.int .i64 (i : Int)) ∧ wx.cell? ⟨Ba, 1, none⟩ = some (.int .i64 t) ∧ wx.cell? ⟨Ba, 3, none⟩ = some (.int .i64 f) ∧ wx.cell? ⟨b, off + 2, none⟩ = some (.int .i64 y.t)) (by kernel_rfl) (⟨ct2, a02, a12, a32, y2⟩) (fun hH => ?_)
      refine wpAnyH_take (i := 0) (oi := { dst := some 21, op := Op.load 31 (Operand.tmp 2), type := 31, pos := _, after := #[], guard := none }) (v := .agg #[.slice (some ⟨b, off, none⟩) N cap]) rfl (by kernel_rfl) (by kernel_rfl) (by kernel_rfl) (fun _ _ _ h => h) (Or.inl ⟨rfl, fun W hW => ?_⟩) hH ?_
      · obtain ⟨z1, z2, z3, z4, z5⟩ := hW; go_simp
      try simp only [Act.put, List.setIfInBounds_toArray, List.set_cons_zero, List.set_cons_succ]
      refine wpAnyH_take (i := 1) (oi := { dst := some 22, op := Op.fieldAddr 82 (Operand.tmp 3) 0, type := 0, pos := _, after := #[], guard := none }) (v := .pointer (some ⟨Ba, 0, none⟩)) rfl (by kernel_rfl) (by kernel_rfl) (by kernel_rfl) (fun _ _ _ h => h) (Or.inl ⟨rfl, fun W hW => ?_⟩) hH ?_
      · go_simp
      try simp only [Act.put, List.setIfInBounds_toArray, List.set_cons_zero, List.set_cons_succ]
      refine wpAnyH_take (i := 2) (oi := { dst := some 23, op := Op.fieldAddr 80 (Operand.tmp 22) 0, type := 0, pos := _, after := #[{ on := 1, ground := Ground.data }], guard := none }) (v := .pointer (some ⟨Ba, 0, none⟩)) rfl (by kernel_rfl) (by kernel_rfl) (by kernel_rfl) (fun _ _ _ h => h) (Or.inl ⟨rfl, fun W hW => ?_⟩) hH ?_
      · go_simp
      try simp only [Act.put, List.setIfInBounds_toArray, List.set_cons_zero, List.set_cons_succ]
      refine wpAnyH_take (i := 3) (oi := { dst := some 24, op := Op.load 3 (Operand.tmp 23), type := 3, pos := _, after := #[{ on := 2, ground := Ground.data }], guard := none }) (v := .int .i64 (i : Int)) rfl (by kernel_rfl) (by kernel_rfl) (by kernel_rfl) (fun _ _ _ h => h) (Or.inl ⟨rfl, fun W hW => ?_⟩) hH ?_
      · obtain ⟨z1, z2, z3, z4, z5⟩ := hW; go_simp
      try simp only [Act.put, List.setIfInBounds_toArray, List.set_cons_zero, List.set_cons_succ]
      refine wpAnyH_take (i := 5) (oi := { dst := some 26, op := Op.fieldAddr 82 (Operand.tmp 3) 2, type := 0, pos := _, after := #[], guard := none }) (v := .pointer (some ⟨Ba, 3, none⟩)) rfl (by kernel_rfl) (by kernel_rfl) (by kernel_rfl) (fun _ _ _ h => h) (Or.inl ⟨rfl, fun W hW => ?_⟩) hH ?_
      · go_simp
      try simp only [Act.put, List.setIfInBounds_toArray, List.set_cons_zero, List.set_cons_succ]
      refine wpAnyH_take (i := 6) (oi := { dst := some 27, op := Op.load 3 (Operand.tmp 26), type := 3, pos := _, after := #[{ on := 5, ground := Ground.data }], guard := none }) (v := .int .i64 f) rfl (by kernel_rfl) (by kernel_rfl) (by kernel_rfl) (fun _ _ _ h => h) (Or.inl ⟨rfl, fun W hW => ?_⟩) hH ?_
      · obtain ⟨z1, z2, z3, z4, z5⟩ := hW; go_simp
      try simp only [Act.put, List.setIfInBounds_toArray, List.set_cons_zero, List.set_cons_succ]
      refine wpAnyH_ready (rs := [4]) (by kernel_rfl) (by simp) ?_
      refine AllReadyH.cons (o := { dst := some 25, op := Op.call { callee := Callee.value (Operand.func 73), args := #[Operand.tmp 21, Operand.tmp 24], argTypes := #[31, 3] }, type := 3, pos := _, after := #[{ on := 0, ground := Ground.data }, { on := 3, ground := Ground.data }], guard := none }) rfl (fun K hK => ?_) AllReadyH.nil
      go_simp
      refine HF.out.mono ?_
      rintro e w3 ⟨rfl, hb3⟩
      have a03 := at_below hb3 (at_drew a02)
      have a13 := at_below hb3 (at_drew a12)
      have a33 := at_below hb3 (at_drew a32)
      have ct3 := at_below hb3 (at_drew ct2)
      have y23 := at_below hb3 (at_drew y2)
      have HB3 := Lib.hid (below_from HB2.out.drew hb3)
      clear hb3
      try go_wp2_with fail
      refine hK.out _ _ (⟨ct3, a03, a13, a33, y23⟩) (fun hH2 => ?_)
      clear hK K
      try simp only [Act.put, List.setIfInBounds_toArray, List.set_cons_zero, List.set_cons_succ]
      refine wpAnyH_take (i := 7) (oi := { dst := some 28, op := Op.binOp BinOp.leq 3 (Operand.tmp 25) (Operand.tmp 27) 3, type := 4, pos := _, after := #[{ on := 4, ground := Ground.data }, { on := 6, ground := Ground.data }], guard := none }) (v := .bool true) rfl (by kernel_rfl) (by kernel_rfl) (by kernel_rfl) (fun _ _ _ h => h) (Or.inl ⟨rfl, fun W hW => ?_⟩) hH2 ?_
      · go_simp
      try simp only [Act.put, List.setIfInBounds_toArray, List.set_cons_zero, List.set_cons_succ]
      refine wpAnyH_take (i := 8) (oi := { dst := some 29, op := Op.move (Operand.tmp 28), type := 4, pos := _, after := #[{ on := 7, ground := Ground.data }, { on := 4, ground := Ground.chain }], guard := none }) (v := .bool true) rfl (by kernel_rfl) (by kernel_rfl) (by kernel_rfl) (fun _ _ _ h => h) (Or.inl ⟨rfl, fun W hW => ?_⟩) hH2 ?_
      · go_simp
      try simp only [Act.put, List.setIfInBounds_toArray, List.set_cons_zero, List.set_cons_succ]
      refine wpAnyH_take (i := 9) (oi := { dst := some 30, op := Op.fieldAddr 82 (Operand.tmp 3) 2, type := 0, pos := _, after := #[{ on := 8, ground := Ground.guard }], guard := some (8, true) }) (v := .pointer (some ⟨Ba, 3, none⟩)) rfl (by kernel_rfl) (by kernel_rfl) (by kernel_rfl) (fun _ _ _ h => h) (Or.inl ⟨rfl, fun W hW => ?_⟩) hH2 ?_
      · go_simp
      try simp only [Act.put, List.setIfInBounds_toArray, List.set_cons_zero, List.set_cons_succ]
      refine wpAnyH_take (i := 10) (oi := { dst := some 31, op := Op.load 3 (Operand.tmp 30), type := 3, pos := _, after := #[{ on := 9, ground := Ground.data }, { on := 8, ground := Ground.guard }], guard := some (8, true) }) (v := .int .i64 f) rfl (by kernel_rfl) (by kernel_rfl) (by kernel_rfl) (fun _ _ _ h => h) (Or.inl ⟨rfl, fun W hW => ?_⟩) hH2 ?_
      · obtain ⟨z1, z2, z3, z4, z5⟩ := hW; go_simp
      try simp only [Act.put, List.setIfInBounds_toArray, List.set_cons_zero, List.set_cons_succ]
      refine wpAnyH_take (i := 11) (oi := { dst := some 32, op := Op.fieldAddr 82 (Operand.tmp 3) 0, type := 0, pos := _, after := #[{ on := 8, ground := Ground.guard }], guard := some (8, true) }) (v := .pointer (some ⟨Ba, 0, none⟩)) rfl (by kernel_rfl) (by kernel_rfl) (by kernel_rfl) (fun _ _ _ h => h) (Or.inl ⟨rfl, fun W hW => ?_⟩) hH2 ?_
      · go_simp
      try simp only [Act.put, List.setIfInBounds_toArray, List.set_cons_zero, List.set_cons_succ]
      refine wpAnyH_take (i := 12) (oi := { dst := some 33, op := Op.fieldAddr 80 (Operand.tmp 32) 1, type := 0, pos := _, after := #[{ on := 11, ground := Ground.data }, { on := 8, ground := Ground.guard }], guard := some (8, true) }) (v := .pointer (some ⟨Ba, 1, none⟩)) rfl (by kernel_rfl) (by kernel_rfl) (by kernel_rfl) (fun _ _ _ h => h) (Or.inl ⟨rfl, fun W hW => ?_⟩) hH2 ?_
      · go_simp
      try simp only [Act.put, List.setIfInBounds_toArray, List.set_cons_zero, List.set_cons_succ]
      refine wpAnyH_take (i := 13) (oi := { dst := some 34, op := Op.load 3 (Operand.tmp 33), type := 3, pos := _, after := #[{ on := 12, ground := Ground.data }, { on := 8, ground := Ground.guard }], guard := some (8, true) }) (v := .int .i64 t) rfl (by kernel_rfl) (by kernel_rfl) (by kernel_rfl) (fun _ _ _ h => h) (Or.inl ⟨rfl, fun W hW => ?_⟩) hH2 ?_
      · obtain ⟨z1, z2, z3, z4, z5⟩ := hW; go_simp
      try simp only [Act.put, List.setIfInBounds_toArray, List.set_cons_zero, List.set_cons_succ]
      refine wpAnyH_take (i := 14) (oi := { dst := some 35, op := Op.binOp BinOp.leq 3 (Operand.tmp 31) (Operand.tmp 34) 3, type := 4, pos := _, after := #[{ on := 10, ground := Ground.data }, { on := 13, ground := Ground.data }, { on := 8, ground := Ground.guard }], guard := some (8, true) }) (v := .bool false) rfl (by kernel_rfl) (by kernel_rfl) (by kernel_rfl) (fun _ _ _ h => h) (Or.inl ⟨rfl, fun W hW => ?_⟩) hH2 ?_
      · go_simp
      try simp only [Act.put, List.setIfInBounds_toArray, List.set_cons_zero, List.set_cons_succ]
      refine wpAnyH_take (i := 15) (oi := { dst := some 36, op := Op.pick (Operand.tmp 29) (Operand.tmp 35) (Operand.const (Value.bool false)), type := 4, pos := _, after := #[{ on := 8, ground := Ground.data }, { on := 14, ground := Ground.data }], guard := none }) (v := .bool false) rfl (by kernel_rfl) (by kernel_rfl) (by kernel_rfl) (fun _ _ _ h => h) (Or.inl ⟨rfl, fun W hW => ?_⟩) hH2 ?_
      · go_simp
      try simp only [Act.put, List.setIfInBounds_toArray, List.set_cons_zero, List.set_cons_succ]
      refine wpAnyH_take (i := 16) (oi := { dst := some 37, op := Op.move (Operand.tmp 36), type := 4, pos := _, after := #[{ on := 15, ground := Ground.data }, { on := 8, ground := Ground.chain }], guard := none }) (v := .bool false) rfl (by kernel_rfl) (by kernel_rfl) (by kernel_rfl) (fun _ _ _ h => h) (Or.inl ⟨rfl, fun W hW => ?_⟩) hH2 ?_
      · go_simp
      try simp only [Act.put, List.setIfInBounds_toArray, List.set_cons_zero, List.set_cons_succ]
      refine wpAnyH_take (i := 17) (oi := { dst := some 38, op := Op.fieldAddr 82 (Operand.tmp 3) 0, type := 0, pos := _, after := #[{ on := 16, ground := Ground.guard }], guard := some (16, true) }) (v := undef) rfl (by kernel_rfl) (by kernel_rfl) (by kernel_rfl) (fun _ _ _ h => h) (Or.inr ⟨rfl, rfl⟩) hH2 ?_
      try simp only [Act.put, List.setIfInBounds_toArray, List.set_cons_zero, List.set_cons_succ]
      refine wpAnyH_take (i := 18) (oi := { dst := some 39, op := Op.fieldAddr 80 (Operand.tmp 38) 1, type := 0, pos := _, after := #[{ on := 17, ground := Ground.data }, { on := 16, ground := Ground.guard }], guard := some (16, true) }) (v := undef) rfl (by kernel_rfl) (by kernel_rfl) (by kernel_rfl) (fun _ _ _ h => h) (Or.inr ⟨rfl, rfl⟩) hH2 ?_
      try simp only [Act.put, List.setIfInBounds_toArray, List.set_cons_zero, List.set_cons_succ]
      refine wpAnyH_take (i := 19) (oi := { dst := some 40, op := Op.load 3 (Operand.tmp 39), type := 3, pos := _, after := #[{ on := 18, ground := Ground.data }, { on := 16, ground := Ground.guard }], guard := some (16, true) }) (v := undef) rfl (by kernel_rfl) (by kernel_rfl) (by kernel_rfl) (fun _ _ _ h => h) (Or.inr ⟨rfl, rfl⟩) hH2 ?_
      try simp only [Act.put, List.setIfInBounds_toArray, List.set_cons_zero, List.set_cons_succ]
      refine wpAnyH_take (i := 20) (oi := { dst := some 41, op := Op.fieldAddr 31 (Operand.tmp 2) 0, type := 0, pos := _, after := #[{ on := 16, ground := Ground.guard }], guard := some (16, true) }) (v := undef) rfl (by kernel_rfl) (by kernel_rfl) (by kernel_rfl) (fun _ _ _ h => h) (Or.inr ⟨rfl, rfl⟩) hH2 ?_
      try simp only [Act.put, List.setIfInBounds_toArray, List.set_cons_zero, List.set_cons_succ]
      refine wpAnyH_take (i := 21) (oi := { dst := some 42, op := Op.load 29 (Operand.tmp 41), type := 29, pos := _, after := #[{ on := 20, ground := Ground.data }, { on := 16, ground := Ground.guard }], guard := some (16, true) }) (v := undef) rfl (by kernel_rfl) (by kernel_rfl) (by kernel_rfl) (fun _ _ _ h => h) (Or.inr ⟨rfl, rfl⟩) hH2 ?_
      try simp only [Act.put, List.setIfInBounds_toArray, List.set_cons_zero, List.set_cons_succ]
      refine wpAnyH_take (i := 22) (oi := { dst := some 43, op := Op.indexAddr 29 (Operand.tmp 42) (Operand.const (Value.int IntKind.i64 0)), type := 0, pos := _, after := #[{ on := 21, ground := Ground.data }, { on := 16, ground := Ground.guard }], guard := some (16, true) }) (v := undef) rfl (by kernel_rfl) (by kernel_rfl) (by kernel_rfl) (fun _ _ _ h => h) (Or.inr ⟨rfl, rfl⟩) hH2 ?_
      try simp only [Act.put, List.setIfInBounds_toArray, List.set_cons_zero, List.set_cons_succ]
      refine wpAnyH_take (i := 23) (oi := { dst := some 44, op := Op.fieldAddr 38 (Operand.tmp 43) 2, type := 0, pos := _, after := #[{ on := 22, ground := Ground.data }, { on := 16, ground := Ground.guard }], guard := some (16, true) }) (v := undef) rfl (by kernel_rfl) (by kernel_rfl) (by kernel_rfl) (fun _ _ _ h => h) (Or.inr ⟨rfl, rfl⟩) hH2 ?_
      try simp only [Act.put, List.setIfInBounds_toArray, List.set_cons_zero, List.set_cons_succ]
      refine wpAnyH_take (i := 24) (oi := { dst := some 45, op := Op.load 3 (Operand.tmp 44), type := 3, pos := _, after := #[{ on := 23, ground := Ground.data }, { on := 16, ground := Ground.guard }], guard := some (16, true) }) (v := undef) rfl (by kernel_rfl) (by kernel_rfl) (by kernel_rfl) (fun _ _ _ h => h) (Or.inr ⟨rfl, rfl⟩) hH2 ?_
      try simp only [Act.put, List.setIfInBounds_toArray, List.set_cons_zero, List.set_cons_succ]
      refine wpAnyH_take (i := 25) (oi := { dst := some 46, op := Op.binOp BinOp.leq 3 (Operand.tmp 40) (Operand.tmp 45) 3, type := 4, pos := _, after := #[{ on := 19, ground := Ground.data }, { on := 24, ground := Ground.data }, { on := 16, ground := Ground.guard }], guard := some (16, true) }) (v := undef) rfl (by kernel_rfl) (by kernel_rfl) (by kernel_rfl) (fun _ _ _ h => h) (Or.inr ⟨rfl, rfl⟩) hH2 ?_
      try simp only [Act.put, List.setIfInBounds_toArray, List.set_cons_zero, List.set_cons_succ]
      refine wpAnyH_take (i := 26) (oi := { dst := some 47, op := Op.pick (Operand.tmp 37) (Operand.tmp 46) (Operand.const (Value.bool false)), type := 4, pos := _, after := #[{ on := 16, ground := Ground.data }, { on := 25, ground := Ground.data }], guard := none }) (v := .bool false) rfl (by kernel_rfl) (by kernel_rfl) (by kernel_rfl) (fun _ _ _ h => h) (Or.inl ⟨rfl, fun W hW => ?_⟩) hH2 ?_
      · go_simp
      try simp only [Act.put, List.setIfInBounds_toArray, List.set_cons_zero, List.set_cons_succ]
      refine wpAnyH_take (i := 27) (oi := { dst := some 4, op := Op.assign (Operand.tmp 47), type := 4, pos := _, after := #[{ on := 26, ground := Ground.data }, { on := 16, ground := Ground.chain }, { on := 0, ground := Ground.phase }, { on := 1, ground := Ground.phase }, { on := 2, ground := Ground.phase }, { on := 3, ground := Ground.phase }, { on := 4, ground := Ground.phase }, { on := 5, ground := Ground.phase }, { on := 6, ground := Ground.phase }, { on := 7, ground := Ground.phase }, { on := 8, ground := Ground.phase }, { on := 9, ground := Ground.phase }, { on := 10, ground := Ground.phase }, { on := 11, ground := Ground.phase }, { on := 12, ground := Ground.phase }, { on := 13, ground := Ground.phase }, { on := 14, ground := Ground.phase }, { on := 15, ground := Ground.phase }, { on := 16, ground := Ground.phase }, { on := 17, ground := Ground.phase }, { on := 18, ground := Ground.phase }, { on := 19, ground := Ground.phase }, { on := 20, ground := Ground.phase }, { on := 21, ground := Ground.phase }, { on := 22, ground := Ground.phase }, { on := 23, ground := Ground.phase }, { on := 24, ground := Ground.phase }, { on := 25, ground := Ground.phase }, { on := 26, ground := Ground.phase }], guard := none }) (v := .bool false) rfl (by kernel_rfl) (by kernel_rfl) (by kernel_rfl) (fun _ _ _ h => h) (Or.inl ⟨rfl, fun W hW => ?_⟩) hH2 ?_
      · go_simp
      try simp only [Act.put, List.setIfInBounds_toArray, List.set_cons_zero, List.set_cons_succ]
      refine wpAnyH_done (by kernel_rfl) ?_ _
      -- END 1
      go_wp2_with fail
      go_ret
      exact ⟨rfl, HB3.out⟩
    have d4 : decide (f ≤ t) = true := decide_eq_true q4
    by_cases q5 : t ≤ y.t
    case neg =>
      obtain rfl : R = false := by rw [hye]; simp [q5]
      have d5 : decide (t ≤ y.t) = false := decide_eq_false q5
      clear hye q3 q4 q5
      go_wp2_with fail
      -- FITS 2
      refine wp_region_held_drew (S := fun wx => wx.cell? ⟨Bt, 0, none⟩ = some (.slice (some ⟨b, off, none⟩) N cap) ∧ wx.cell? ⟨Ba, 0, none⟩ = some (.int .i64 (i : Int)) ∧ wx.cell? ⟨Ba, 1, none⟩ = some (.int .i64 t) ∧ wx.cell? ⟨Ba, 3, none⟩ = some (.int .i64 f) ∧ wx.cell? ⟨b, off + 2, none⟩ = some (.int .i64 y.t)) (by kernel_rfl) (⟨ct2, a02, a12, a32, y2⟩) (fun hH => ?_)
      refine wpAnyH_take (i := 0) (oi := { dst := some 21, op := Op.load 31 (Operand.tmp 2), type := 31, pos := _, after := #[], guard := none }) (v := .agg #[.slice (some ⟨b, off, none⟩) N cap]) rfl (by kernel_rfl) (by kernel_rfl) (by kernel_rfl) (fun _ _ _ h => h) (Or.inl ⟨rfl, fun W hW => ?_⟩) hH ?_
      · obtain ⟨z1, z2, z3, z4, z5⟩ := hW; go_simp
      try simp only [Act.put, List.setIfInBounds_toArray, List.set_cons_zero, List.set_cons_succ]
      refine wpAnyH_take (i := 1) (oi := { dst := some 22, op := Op.fieldAddr 82 (Operand.tmp 3) 0, type := 0, pos := _, after := #[], guard := none }) (v := .pointer (some ⟨Ba, 0, none⟩)) rfl (by kernel_rfl) (by kernel_rfl) (by kernel_rfl) (fun _ _ _ h => h) (Or.inl ⟨rfl, fun W hW => ?_⟩) hH ?_
      · go_simp
      try simp only [Act.put, List.setIfInBounds_toArray, List.set_cons_zero, List.set_cons_succ]
      refine wpAnyH_take (i := 2) (oi := { dst := some 23, op := Op.fieldAddr 80 (Operand.tmp 22) 0, type := 0, pos := _, after := #[{ on := 1, ground := Ground.data }], guard := none }) (v := .pointer (some ⟨Ba, 0, none⟩)) rfl (by kernel_rfl) (by kernel_rfl) (by kernel_rfl) (fun _ _ _ h => h) (Or.inl ⟨rfl, fun W hW => ?_⟩) hH ?_
      · go_simp
      try simp only [Act.put, List.setIfInBounds_toArray, List.set_cons_zero, List.set_cons_succ]
      refine wpAnyH_take (i := 3) (oi := { dst := some 24, op := Op.load 3 (Operand.tmp 23), type := 3, pos := _, after := #[{ on := 2, ground := Ground.data }], guard := none }) (v := .int .i64 (i : Int)) rfl (by kernel_rfl) (by kernel_rfl) (by kernel_rfl) (fun _ _ _ h => h) (Or.inl ⟨rfl, fun W hW => ?_⟩) hH ?_
      · obtain ⟨z1, z2, z3, z4, z5⟩ := hW; go_simp
      try simp only [Act.put, List.setIfInBounds_toArray, List.set_cons_zero, List.set_cons_succ]
      refine wpAnyH_take (i := 5) (oi := { dst := some 26, op := Op.fieldAddr 82 (Operand.tmp 3) 2, type := 0, pos := _, after := #[], guard := none }) (v := .pointer (some ⟨Ba, 3, none⟩)) rfl (by kernel_rfl) (by kernel_rfl) (by kernel_rfl) (fun _ _ _ h => h) (Or.inl ⟨rfl, fun W hW => ?_⟩) hH ?_
      · go_simp
      try simp only [Act.put, List.setIfInBounds_toArray, List.set_cons_zero, List.set_cons_succ]
      refine wpAnyH_take (i := 6) (oi := { dst := some 27, op := Op.load 3 (Operand.tmp 26), type := 3, pos := _, after := #[{ on := 5, ground := Ground.data }], guard := none }) (v := .int .i64 f) rfl (by kernel_rfl) (by kernel_rfl) (by kernel_rfl) (fun _ _ _ h => h) (Or.inl ⟨rfl, fun W hW => ?_⟩) hH ?_
      · obtain ⟨z1, z2, z3, z4, z5⟩ := hW; go_simp
      try simp only [Act.put, List.setIfInBounds_toArray, List.set_cons_zero, List.set_cons_succ]
      refine wpAnyH_ready (rs := [4]) (by kernel_rfl) (by simp) ?_
      refine AllReadyH.cons (o := { dst := some 25, op := Op.call { callee := Callee.value (Operand.func 73), args := #[Operand.tmp 21, Operand.tmp 24], argTypes := #[31, 3] }, type := 3, pos := _, after := #[{ on := 0, ground := Ground.data }, { on := 3, ground := Ground.data }], guard := none }) rfl (fun K hK => ?_) AllReadyH.nil
      go_simp
      refine HF.out.mono ?_
      rintro e w3 ⟨rfl, hb3⟩
      have a03 := at_below hb3 (at_drew a02)
      have a13 := at_below hb3 (at_drew a12)
      have a33 := at_below hb3 (at_drew a32)
      have ct3 := at_below hb3 (at_drew ct2)
      have y23 := at_below hb3 (at_drew y2)
      have HB3 := Lib.hid (below_from HB2.out.drew hb3)
      clear hb3
      try go_wp2_with fail
      refine hK.out _ _ (⟨ct3, a03, a13, a33, y23⟩) (fun hH2 => ?_)
      clear hK K
      try simp only [Act.put, List.setIfInBounds_toArray, List.set_cons_zero, List.set_cons_succ]
      refine wpAnyH_take (i := 7) (oi := { dst := some 28, op := Op.binOp BinOp.leq 3 (Operand.tmp 25) (Operand.tmp 27) 3, type := 4, pos := _, after := #[{ on := 4, ground := Ground.data }, { on := 6, ground := Ground.data }], guard := none }) (v := .bool true) rfl (by kernel_rfl) (by kernel_rfl) (by kernel_rfl) (fun _ _ _ h => h) (Or.inl ⟨rfl, fun W hW => ?_⟩) hH2 ?_
      · go_simp
      try simp only [Act.put, List.setIfInBounds_toArray, List.set_cons_zero, List.set_cons_succ]
      refine wpAnyH_take (i := 8) (oi := { dst := some 29, op := Op.move (Operand.tmp 28), type := 4, pos := _, after := #[{ on := 7, ground := Ground.data }, { on := 4, ground := Ground.chain }], guard := none }) (v := .bool true) rfl (by kernel_rfl) (by kernel_rfl) (by kernel_rfl) (fun _ _ _ h => h) (Or.inl ⟨rfl, fun W hW => ?_⟩) hH2 ?_
      · go_simp
      try simp only [Act.put, List.setIfInBounds_toArray, List.set_cons_zero, List.set_cons_succ]
      refine wpAnyH_take (i := 9) (oi := { dst := some 30, op := Op.fieldAddr 82 (Operand.tmp 3) 2, type := 0, pos := _, after := #[{ on := 8, ground := Ground.guard }], guard := some (8, true) }) (v := .pointer (some ⟨Ba, 3, none⟩)) rfl (by kernel_rfl) (by kernel_rfl) (by kernel_rfl) (fun _ _ _ h => h) (Or.inl ⟨rfl, fun W hW => ?_⟩) hH2 ?_
      · go_simp
      try simp only [Act.put, List.setIfInBounds_toArray, List.set_cons_zero, List.set_cons_succ]
      refine wpAnyH_take (i := 10) (oi := { dst := some 31, op := Op.load 3 (Operand.tmp 30), type := 3, pos := _, after := #[{ on := 9, ground := Ground.data }, { on := 8, ground := Ground.guard }], guard := some (8, true) }) (v := .int .i64 f) rfl (by kernel_rfl) (by kernel_rfl) (by kernel_rfl) (fun _ _ _ h => h) (Or.inl ⟨rfl, fun W hW => ?_⟩) hH2 ?_
      · obtain ⟨z1, z2, z3, z4, z5⟩ := hW; go_simp
      try simp only [Act.put, List.setIfInBounds_toArray, List.set_cons_zero, List.set_cons_succ]
      refine wpAnyH_take (i := 11) (oi := { dst := some 32, op := Op.fieldAddr 82 (Operand.tmp 3) 0, type := 0, pos := _, after := #[{ on := 8, ground := Ground.guard }], guard := some (8, true) }) (v := .pointer (some ⟨Ba, 0, none⟩)) rfl (by kernel_rfl) (by kernel_rfl) (by kernel_rfl) (fun _ _ _ h => h) (Or.inl ⟨rfl, fun W hW => ?_⟩) hH2 ?_
      · go_simp
      try simp only [Act.put, List.setIfInBounds_toArray, List.set_cons_zero, List.set_cons_succ]
      refine wpAnyH_take (i := 12) (oi := { dst := some 33, op := Op.fieldAddr 80 (Operand.tmp 32) 1, type := 0, pos := _, after := #[{ on := 11, ground := Ground.data }, { on := 8, ground := Ground.guard }], guard := some (8, true) }) (v := .pointer (some ⟨Ba, 1, none⟩)) rfl (by kernel_rfl) (by kernel_rfl) (by kernel_rfl) (fun _ _ _ h => h) (Or.inl ⟨rfl, fun W hW => ?_⟩) hH2 ?_
      · go_simp
      try simp only [Act.put, List.setIfInBounds_toArray, List.set_cons_zero, List.set_cons_succ]
      refine wpAnyH_take (i := 13) (oi := { dst := some 34, op := Op.load 3 (Operand.tmp 33), type := 3, pos := _, after := #[{ on := 12, ground := Ground.data }, { on := 8, ground := Ground.guard }], guard := some (8, true) }) (v := .int .i64 t) rfl (by kernel_rfl) (by kernel_rfl) (by kernel_rfl) (fun _ _ _ h => h) (Or.inl ⟨rfl, fun W hW => ?_⟩) hH2 ?_
      · obtain ⟨z1, z2, z3, z4, z5⟩ := hW; go_simp
      try simp only [Act.put, List.setIfInBounds_toArray, List.set_cons_zero, List.set_cons_succ]
      refine wpAnyH_take (i := 14) (oi := { dst := some 35, op := Op.binOp BinOp.leq 3 (Operand.tmp 31) (Operand.tmp 34) 3, type := 4, pos := _, after := #[{ on := 10, ground := Ground.data }, { on := 13, ground := Ground.data }, { on := 8, ground := Ground.guard }], guard := some (8, true) }) (v := .bool true) rfl (by kernel_rfl) (by kernel_rfl) (by kernel_rfl) (fun _ _ _ h => h) (Or.inl ⟨rfl, fun W hW => ?_⟩) hH2 ?_
      · go_simp
      try simp only [Act.put, List.setIfInBounds_toArray, List.set_cons_zero, List.set_cons_succ]
      refine wpAnyH_take (i := 15) (oi := { dst := some 36, op := Op.pick (Operand.tmp 29) (Operand.tmp 35) (Operand.const (Value.bool false)), type := 4, pos := _, after := #[{ on := 8, ground := Ground.data }, { on := 14, ground := Ground.data }], guard := none }) (v := .bool true) rfl (by kernel_rfl) (by kernel_rfl) (by kernel_rfl) (fun _ _ _ h => h) (Or.inl ⟨rfl, fun W hW => ?_⟩) hH2 ?_
      · go_simp
      try simp only [Act.put, List.setIfInBounds_toArray, List.set_cons_zero, List.set_cons_succ]
      refine wpAnyH_take (i := 16) (oi := { dst := some 37, op := Op.move (Operand.tmp 36), type := 4, pos := _, after := #[{ on := 15, ground := Ground.data }, { on := 8, ground := Ground.chain }], guard := none }) (v := .bool true) rfl (by kernel_rfl) (by kernel_rfl) (by kernel_rfl) (fun _ _ _ h => h) (Or.inl ⟨rfl, fun W hW => ?_⟩) hH2 ?_
      · go_simp
      try simp only [Act.put, List.setIfInBounds_toArray, List.set_cons_zero, List.set_cons_succ]
      refine wpAnyH_take (i := 17) (oi := { dst := some 38, op := Op.fieldAddr 82 (Operand.tmp 3) 0, type := 0, pos := _, after := #[{ on := 16, ground := Ground.guard }], guard := some (16, true) }) (v := .pointer (some ⟨Ba, 0, none⟩)) rfl (by kernel_rfl) (by kernel_rfl) (by kernel_rfl) (fun _ _ _ h => h) (Or.inl ⟨rfl, fun W hW => ?_⟩) hH2 ?_
      · go_simp
      try simp only [Act.put, List.setIfInBounds_toArray, List.set_cons_zero, List.set_cons_succ]
      refine wpAnyH_take (i := 18) (oi := { dst := some 39, op := Op.fieldAddr 80 (Operand.tmp 38) 1, type := 0, pos := _, after := #[{ on := 17, ground := Ground.data }, { on := 16, ground := Ground.guard }], guard := some (16, true) }) (v := .pointer (some ⟨Ba, 1, none⟩)) rfl (by kernel_rfl) (by kernel_rfl) (by kernel_rfl) (fun _ _ _ h => h) (Or.inl ⟨rfl, fun W hW => ?_⟩) hH2 ?_
      · go_simp
      try simp only [Act.put, List.setIfInBounds_toArray, List.set_cons_zero, List.set_cons_succ]
      refine wpAnyH_take (i := 19) (oi := { dst := some 40, op := Op.load 3 (Operand.tmp 39), type := 3, pos := _, after := #[{ on := 18, ground := Ground.data }, { on := 16, ground := Ground.guard }], guard := some (16, true) }) (v := .int .i64 t) rfl (by kernel_rfl) (by kernel_rfl) (by kernel_rfl) (fun _ _ _ h => h) (Or.inl ⟨rfl, fun W hW => ?_⟩) hH2 ?_
      · obtain ⟨z1, z2, z3, z4, z5⟩ := hW; go_simp
      try simp only [Act.put, List.setIfInBounds_toArray, List.set_cons_zero, List.set_cons_succ]
      refine wpAnyH_take (i := 20) (oi := { dst := some 41, op := Op.fieldAddr 31 (Operand.tmp 2) 0, type := 0, pos := _, after := #[{ on := 16, ground := Ground.guard }], guard := some (16, true) }) (v := .pointer (some ⟨Bt, 0, none⟩)) rfl (by kernel_rfl) (by kernel_rfl) (by kernel_rfl) (fun _ _ _ h => h) (Or.inl ⟨rfl, fun W hW => ?_⟩) hH2 ?_
      · go_simp
      try simp only [Act.put, List.setIfInBounds_toArray, List.set_cons_zero, List.set_cons_succ]
      refine wpAnyH_take (i := 21) (oi := { dst := some 42, op := Op.load 29 (Operand.tmp 41), type := 29, pos := _, after := #[{ on := 20, ground := Ground.data }, { on := 16, ground := Ground.guard }], guard := some (16, true) }) (v := .slice (some ⟨b, off, none⟩) N cap) rfl (by kernel_rfl) (by kernel_rfl) (by kernel_rfl) (fun _ _ _ h => h) (Or.inl ⟨rfl, fun W hW => ?_⟩) hH2 ?_
      · obtain ⟨z1, z2, z3, z4, z5⟩ := hW; go_simp
      try simp only [Act.put, List.setIfInBounds_toArray, List.set_cons_zero, List.set_cons_succ]
      refine wpAnyH_take (i := 22) (oi := { dst := some 43, op := Op.indexAddr 29 (Operand.tmp 42) (Operand.const (Value.int IntKind.i64 0)), type := 0, pos := _, after := #[{ on := 21, ground := Ground.data }, { on := 16, ground := Ground.guard }], guard := some (16, true) }) (v := .pointer (some ⟨b, off, none⟩)) rfl (by kernel_rfl) (by kernel_rfl) (by kernel_rfl) (fun _ _ _ h => h) (Or.inl ⟨rfl, fun W hW => ?_⟩) hH2 ?_
      · go_simp
      try simp only [Act.put, List.setIfInBounds_toArray, List.set_cons_zero, List.set_cons_succ]
      refine wpAnyH_take (i := 23) (oi := { dst := some 44, op := Op.fieldAddr 38 (Operand.tmp 43) 2, type := 0, pos := _, after := #[{ on := 22, ground := Ground.data }, { on := 16, ground := Ground.guard }], guard := some (16, true) }) (v := .pointer (some ⟨b, off + 2, none⟩)) rfl (by kernel_rfl) (by kernel_rfl) (by kernel_rfl) (fun _ _ _ h => h) (Or.inl ⟨rfl, fun W hW => ?_⟩) hH2 ?_
      · go_simp
      try simp only [Act.put, List.setIfInBounds_toArray, List.set_cons_zero, List.set_cons_succ]
      refine wpAnyH_take (i := 24) (oi := { dst := some 45, op := Op.load 3 (Operand.tmp 44), type := 3, pos := _, after := #[{ on := 23, ground := Ground.data }, { on := 16, ground := Ground.guard }], guard := some (16, true) }) (v := .int .i64 y.t) rfl (by kernel_rfl) (by kernel_rfl) (by kernel_rfl) (fun _ _ _ h => h) (Or.inl ⟨rfl, fun W hW => ?_⟩) hH2 ?_
      · obtain ⟨z1, z2, z3, z4, z5⟩ := hW; go_simp
      try simp only [Act.put, List.setIfInBounds_toArray, List.set_cons_zero, List.set_cons_succ]
      refine wpAnyH_take (i := 25) (oi := { dst := some 46, op := Op.binOp BinOp.leq 3 (Operand.tmp 40) (Operand.tmp 45) 3, type := 4, pos := _, after := #[{ on := 19, ground := Ground.data }, { on := 24, ground := Ground.data }, { on := 16, ground := Ground.guard }], guard := some (16, true) }) (v := .bool false) rfl (by kernel_rfl) (by kernel_rfl) (by kernel_rfl) (fun _ _ _ h => h) (Or.inl ⟨rfl, fun W hW => ?_⟩) hH2 ?_
      · go_simp
      try simp only [Act.put, List.setIfInBounds_toArray, List.set_cons_zero, List.set_cons_succ]
      refine wpAnyH_take (i := 26) (oi := { dst := some 47, op := Op.pick (Operand.tmp 37) (Operand.tmp 46) (Operand.const (Value.bool false)), type := 4, pos := _, after := #[{ on := 16, ground := Ground.data }, { on := 25, ground := Ground.data }], guard := none }) (v := .bool false) rfl (by kernel_rfl) (by kernel_rfl) (by kernel_rfl) (fun _ _ _ h => h) (Or.inl ⟨rfl, fun W hW => ?_⟩) hH2 ?_
      · go_simp
      try simp only [Act.put, List.setIfInBounds_toArray, List.set_cons_zero, List.set_cons_succ]
      refine wpAnyH_take (i := 27) (oi := { dst := some 4, op := Op.assign (Operand.tmp 47), type := 4, pos := _, after := #[{ on := 26, ground := Ground.data }, { on := 16, ground := Ground.chain }, { on := 0, ground := Ground.phase }, { on := 1, ground := Ground.phase }, { on := 2, ground := Ground.phase }, { on := 3, ground := Ground.phase }, { on := 4, ground := Ground.phase }, { on := 5, ground := Ground.phase }, { on := 6, ground := Ground.phase }, { on := 7, ground := Ground.phase }, { on := 8, ground := Ground.phase }, { on := 9, ground := Ground.phase }, { on := 10, ground := Ground.phase }, { on := 11, ground := Ground.phase }, { on := 12, ground := Ground.phase }, { on := 13, ground := Ground.phase }, { on := 14, ground := Ground.phase }, { on := 15, ground := Ground.phase }, { on := 16, ground := Ground.phase }, { on := 17, ground := Ground.phase }, { on := 18, ground := Ground.phase }, { on := 19, ground := Ground.phase }, { on := 20, ground := Ground.phase }, { on := 21, ground := Ground.phase }, { on := 22, ground := Ground.phase }, { on := 23, ground := Ground.phase }, { on := 24, ground := Ground.phase }, { on := 25, ground := Ground.phase }, { on := 26, ground := Ground.phase }], guard := none }) (v := .bool false) rfl (by kernel_rfl) (by kernel_rfl) (by kernel_rfl) (fun _ _ _ h => h) (Or.inl ⟨rfl, fun W hW => ?_⟩) hH2 ?_
      · go_simp
      try simp only [Act.put, List.setIfInBounds_toArray, List.set_cons_zero, List.set_cons_succ]
      refine wpAnyH_done (by kernel_rfl) ?_ _
      -- END 2
      go_wp2_with fail
      go_ret
      exact ⟨rfl, HB3.out⟩
    case pos =>
      have d5 : decide (t ≤ y.t) = true := decide_eq_true q5
      obtain rfl : R = true := by rw [hye]; simp [q3, q4, q5]
      clear hye q3 q4 q5
      go_wp2_with fail
      -- FITS 3
      refine wp_region_held_drew (S := fun wx => wx.cell? ⟨Bt, 0, none⟩ = some (.slice (some ⟨b, off, none⟩) N cap) ∧ wx.cell? ⟨Ba, 0, none⟩ = some (.int .i64 (i : Int)) ∧ wx.cell? ⟨Ba, 1, none⟩ = some (.int .i64 t) ∧ wx.cell? ⟨Ba, 3, none⟩ = some (.int .i64 f) ∧ wx.cell? ⟨b, off + 2, none⟩ = some (.int .i64 y.t)) (by kernel_rfl) (⟨ct2, a02, a12, a32, y2⟩) (fun hH => ?_)
      refine wpAnyH_take (i := 0) (oi := { dst := some 21, op := Op.load 31 (Operand.tmp 2), type := 31, pos := _, after := #[], guard := none }) (v := .agg #[.slice (some ⟨b, off, none⟩) N cap]) rfl (by kernel_rfl) (by kernel_rfl) (by kernel_rfl) (fun _ _ _ h => h) (Or.inl ⟨rfl, fun W hW => ?_⟩) hH ?_
      · obtain ⟨z1, z2, z3, z4, z5⟩ := hW; go_simp
      try simp only [Act.put, List.setIfInBounds_toArray, List.set_cons_zero, List.set_cons_succ]
      refine wpAnyH_take (i := 1) (oi := { dst := some 22, op := Op.fieldAddr 82 (Operand.tmp 3) 0, type := 0, pos := _, after := #[], guard := none }) (v := .pointer (some ⟨Ba, 0, none⟩)) rfl (by kernel_rfl) (by kernel_rfl) (by kernel_rfl) (fun _ _ _ h => h) (Or.inl ⟨rfl, fun W hW => ?_⟩) hH ?_
      · go_simp
      try simp only [Act.put, List.setIfInBounds_toArray, List.set_cons_zero, List.set_cons_succ]
      refine wpAnyH_take (i := 2) (oi := { dst := some 23, op := Op.fieldAddr 80 (Operand.tmp 22) 0, type := 0, pos := _, after := #[{ on := 1, ground := Ground.data }], guard := none }) (v := .pointer (some ⟨Ba, 0, none⟩)) rfl (by kernel_rfl) (by kernel_rfl) (by kernel_rfl) (fun _ _ _ h => h) (Or.inl ⟨rfl, fun W hW => ?_⟩) hH ?_
      · go_simp
      try simp only [Act.put, List.setIfInBounds_toArray, List.set_cons_zero, List.set_cons_succ]
      refine wpAnyH_take (i := 3) (oi := { dst := some 24, op := Op.load 3 (Operand.tmp 23), type := 3, pos := _, after := #[{ on := 2, ground := Ground.data }], guard := none }) (v := .int .i64 (i : Int)) rfl (by kernel_rfl) (by kernel_rfl) (by kernel_rfl) (fun _ _ _ h => h) (Or.inl ⟨rfl, fun W hW => ?_⟩) hH ?_
      · obtain ⟨z1, z2, z3, z4, z5⟩ := hW; go_simp
      try simp only [Act.put, List.setIfInBounds_toArray, List.set_cons_zero, List.set_cons_succ]
      refine wpAnyH_take (i := 5) (oi := { dst := some 26, op := Op.fieldAddr 82 (Operand.tmp 3) 2, type := 0, pos := _, after := #[], guard := none }) (v := .pointer (some ⟨Ba, 3, none⟩)) rfl (by kernel_rfl) (by kernel_rfl) (by kernel_rfl) (fun _ _ _ h => h) (Or.inl ⟨rfl, fun W hW => ?_⟩) hH ?_
      · go_simp
      try simp only [Act.put, List.setIfInBounds_toArray, List.set_cons_zero, List.set_cons_succ]
      refine wpAnyH_take (i := 6) (oi := { dst := some 27, op := Op.load 3 (Operand.tmp 26), type := 3, pos := _, after := #[{ on := 5, ground := Ground.data }], guard := none }) (v := .int .i64 f) rfl (by kernel_rfl) (by kernel_rfl) (by kernel_rfl) (fun _ _ _ h => h) (Or.inl ⟨rfl, fun W hW => ?_⟩) hH ?_
      · obtain ⟨z1, z2, z3, z4, z5⟩ := hW; go_simp
      try simp only [Act.put, List.setIfInBounds_toArray, List.set_cons_zero, List.set_cons_succ]
      refine wpAnyH_ready (rs := [4]) (by kernel_rfl) (by simp) ?_
      refine AllReadyH.cons (o := { dst := some 25, op := Op.call { callee := Callee.value (Operand.func 73), args := #[Operand.tmp 21, Operand.tmp 24], argTypes := #[31, 3] }, type := 3, pos := _, after := #[{ on := 0, ground := Ground.data }, { on := 3, ground := Ground.data }], guard := none }) rfl (fun K hK => ?_) AllReadyH.nil
      go_simp
      refine HF.out.mono ?_
      rintro e w3 ⟨rfl, hb3⟩
      have a03 := at_below hb3 (at_drew a02)
      have a13 := at_below hb3 (at_drew a12)
      have a33 := at_below hb3 (at_drew a32)
      have ct3 := at_below hb3 (at_drew ct2)
      have y23 := at_below hb3 (at_drew y2)
      have HB3 := Lib.hid (below_from HB2.out.drew hb3)
      clear hb3
      try go_wp2_with fail
      refine hK.out _ _ (⟨ct3, a03, a13, a33, y23⟩) (fun hH2 => ?_)
      clear hK K
      try simp only [Act.put, List.setIfInBounds_toArray, List.set_cons_zero, List.set_cons_succ]
      refine wpAnyH_take (i := 7) (oi := { dst := some 28, op := Op.binOp BinOp.leq 3 (Operand.tmp 25) (Operand.tmp 27) 3, type := 4, pos := _, after := #[{ on := 4, ground := Ground.data }, { on := 6, ground := Ground.data }], guard := none }) (v := .bool true) rfl (by kernel_rfl) (by kernel_rfl) (by kernel_rfl) (fun _ _ _ h => h) (Or.inl ⟨rfl, fun W hW => ?_⟩) hH2 ?_
      · go_simp
      try simp only [Act.put, List.setIfInBounds_toArray, List.set_cons_zero, List.set_cons_succ]
      refine wpAnyH_take (i := 8) (oi := { dst := some 29, op := Op.move (Operand.tmp 28), type := 4, pos := _, after := #[{ on := 7, ground := Ground.data }, { on := 4, ground := Ground.chain }], guard := none }) (v := .bool true) rfl (by kernel_rfl) (by kernel_rfl) (by kernel_rfl) (fun _ _ _ h => h) (Or.inl ⟨rfl, fun W hW => ?_⟩) hH2 ?_
      · go_simp
      try simp only [Act.put, List.setIfInBounds_toArray, List.set_cons_zero, List.set_cons_succ]
      refine wpAnyH_take (i := 9) (oi := { dst := some 30, op := Op.fieldAddr 82 (Operand.tmp 3) 2, type := 0, pos := _, after := #[{ on := 8, ground := Ground.guard }], guard := some (8, true) }) (v := .pointer (some ⟨Ba, 3, none⟩)) rfl (by kernel_rfl) (by kernel_rfl) (by kernel_rfl) (fun _ _ _ h => h) (Or.inl ⟨rfl, fun W hW => ?_⟩) hH2 ?_
      · go_simp
      try simp only [Act.put, List.setIfInBounds_toArray, List.set_cons_zero, List.set_cons_succ]
      refine wpAnyH_take (i := 10) (oi := { dst := some 31, op := Op.load 3 (Operand.tmp 30), type := 3, pos := _, after := #[{ on := 9, ground := Ground.data }, { on := 8, ground := Ground.guard }], guard := some (8, true) }) (v := .int .i64 f) rfl (by kernel_rfl) (by kernel_rfl) (by kernel_rfl) (fun _ _ _ h => h) (Or.inl ⟨rfl, fun W hW => ?_⟩) hH2 ?_
      · obtain ⟨z1, z2, z3, z4, z5⟩ := hW; go_simp
      try simp only [Act.put, List.setIfInBounds_toArray, List.set_cons_zero, List.set_cons_succ]
      refine wpAnyH_take (i := 11) (oi := { dst := some 32, op := Op.fieldAddr 82 (Operand.tmp 3) 0, type := 0, pos := _, after := #[{ on := 8, ground := Ground.guard }], guard := some (8, true) }) (v := .pointer (some ⟨Ba, 0, none⟩)) rfl (by kernel_rfl) (by kernel_rfl) (by kernel_rfl) (fun _ _ _ h => h) (Or.inl ⟨rfl, fun W hW => ?_⟩) hH2 ?_
      · go_simp
      try simp only [Act.put, List.setIfInBounds_toArray, List.set_cons_zero, List.set_cons_succ]
      refine wpAnyH_take (i := 12) (oi := { dst := some 33, op := Op.fieldAddr 80 (Operand.tmp 32) 1, type := 0, pos := _, after := #[{ on := 11, ground := Ground.data }, { on := 8, ground := Ground.guard }], guard := some (8, true) }) (v := .pointer (some ⟨Ba, 1, none⟩)) rfl (by kernel_rfl) (by kernel_rfl) (by kernel_rfl) (fun _ _ _ h => h) (Or.inl ⟨rfl, fun W hW => ?_⟩) hH2 ?_
      · go_simp
      try simp only [Act.put, List.setIfInBounds_toArray, List.set_cons_zero, List.set_cons_succ]
      refine wpAnyH_take (i := 13) (oi := { dst := some 34, op := Op.load 3 (Operand.tmp 33), type := 3, pos := _, after := #[{ on := 12, ground := Ground.data }, { on := 8, ground := Ground.guard }], guard := some (8, true) }) (v := .int .i64 t) rfl (by kernel_rfl) (by kernel_rfl) (by kernel_rfl) (fun _ _ _ h => h) (Or.inl ⟨rfl, fun W hW => ?_⟩) hH2 ?_
      · obtain ⟨z1, z2, z3, z4, z5⟩ := hW; go_simp
      try simp only [Act.put, List.setIfInBounds_toArray, List.set_cons_zero, List.set_cons_succ]
      refine wpAnyH_take (i := 14) (oi := { dst := some 35, op := Op.binOp BinOp.leq 3 (Operand.tmp 31) (Operand.tmp 34) 3, type := 4, pos := _, after := #[{ on := 10, ground := Ground.data }, { on := 13, ground := Ground.data }, { on := 8, ground := Ground.guard }], guard := some (8, true) }) (v := .bool true) rfl (by kernel_rfl) (by kernel_rfl) (by kernel_rfl) (fun _ _ _ h => h) (Or.inl ⟨rfl, fun W hW => ?_⟩) hH2 ?_
      · go_simp
      try simp only [Act.put, List.setIfInBounds_toArray, List.set_cons_zero, List.set_cons_succ]
      refine wpAnyH_take (i := 15) (oi := { dst := some 36, op := Op.pick (Operand.tmp 29) (Operand.tmp 35) (Operand.const (Value.bool false)), type := 4, pos := _, after := #[{ on := 8, ground := Ground.data }, { on := 14, ground := Ground.data }], guard := none }) (v := .bool true) rfl (by kernel_rfl) (by kernel_rfl) (by kernel_rfl) (fun _ _ _ h => h) (Or.inl ⟨rfl, fun W hW => ?_⟩) hH2 ?_
      · go_simp
      try simp only [Act.put, List.setIfInBounds_toArray, List.set_cons_zero, List.set_cons_succ]
      refine wpAnyH_take (i := 16) (oi := { dst := some 37, op := Op.move (Operand.tmp 36), type := 4, pos := _, after := #[{ on := 15, ground := Ground.data }, { on := 8, ground := Ground.chain }], guard := none }) (v := .bool true) rfl (by kernel_rfl) (by kernel_rfl) (by kernel_rfl) (fun _ _ _ h => h) (Or.inl ⟨rfl, fun W hW => ?_⟩) hH2 ?_
      · go_simp
      try simp only [Act.put, List.setIfInBounds_toArray, List.set_cons_zero, List.set_cons_succ]
      refine wpAnyH_take (i := 17) (oi := { dst := some 38, op := Op.fieldAddr 82 (Operand.tmp 3) 0, type := 0, pos := _, after := #[{ on := 16, ground := Ground.guard }], guard := some (16, true) }) (v := .pointer (some ⟨Ba, 0, none⟩)) rfl (by kernel_rfl) (by kernel_rfl) (by kernel_rfl) (fun _ _ _ h => h) (Or.inl ⟨rfl, fun W hW => ?_⟩) hH2 ?_
      · go_simp
      try simp only [Act.put, List.setIfInBounds_toArray, List.set_cons_zero, List.set_cons_succ]
      refine wpAnyH_take (i := 18) (oi := { dst := some 39, op := Op.fieldAddr 80 (Operand.tmp 38) 1, type := 0, pos := _, after := #[{ on := 17, ground := Ground.data }, { on := 16, ground := Ground.guard }], guard := some (16, true) }) (v := .pointer (some ⟨Ba, 1, none⟩)) rfl (by kernel_rfl) (by kernel_rfl) (by kernel_rfl) (fun _ _ _ h => h) (Or.inl ⟨rfl, fun W hW => ?_⟩) hH2 ?_
      · go_simp
      try simp only [Act.put, List.setIfInBounds_toArray, List.set_cons_zero, List.set_cons_succ]
      refine wpAnyH_take (i := 19) (oi := { dst := some 40, op := Op.load 3 (Operand.tmp 39), type := 3, pos := _, after := #[{ on := 18, ground := Ground.data }, { on := 16, ground := Ground.guard }], guard := some (16, true) }) (v := .int .i64 t) rfl (by kernel_rfl) (by kernel_rfl) (by kernel_rfl) (fun _ _ _ h => h) (Or.inl ⟨rfl, fun W hW => ?_⟩) hH2 ?_
      · obtain ⟨z1, z2, z3, z4, z5⟩ := hW; go_simp
      try simp only [Act.put, List.setIfInBounds_toArray, List.set_cons_zero, List.set_cons_succ]
      refine wpAnyH_take (i := 20) (oi := { dst := some 41, op := Op.fieldAddr 31 (Operand.tmp 2) 0, type := 0, pos := _, after := #[{ on := 16, ground := Ground.guard }], guard := some (16, true) }) (v := .pointer (some ⟨Bt, 0, none⟩)) rfl (by kernel_rfl) (by kernel_rfl) (by kernel_rfl) (fun _ _ _ h => h) (Or.inl ⟨rfl, fun W hW => ?_⟩) hH2 ?_
      · go_simp
      try simp only [Act.put, List.setIfInBounds_toArray, List.set_cons_zero, List.set_cons_succ]
      refine wpAnyH_take (i := 21) (oi := { dst := some 42, op := Op.load 29 (Operand.tmp 41), type := 29, pos := _, after := #[{ on := 20, ground := Ground.data }, { on := 16, ground := Ground.guard }], guard := some (16, true) }) (v := .slice (some ⟨b, off, none⟩) N cap) rfl (by kernel_rfl) (by kernel_rfl) (by kernel_rfl) (fun _ _ _ h => h) (Or.inl ⟨rfl, fun W hW => ?_⟩) hH2 ?_
      · obtain ⟨z1, z2, z3, z4, z5⟩ := hW; go_simp
      try simp only [Act.put, List.setIfInBounds_toArray, List.set_cons_zero, List.set_cons_succ]
      refine wpAnyH_take (i := 22) (oi := { dst := some 43, op := Op.indexAddr 29 (Operand.tmp 42) (Operand.const (Value.int IntKind.i64 0)), type := 0, pos := _, after := #[{ on := 21, ground := Ground.data }, { on := 16, ground := Ground.guard }], guard := some (16, true) }) (v := .pointer (some ⟨b, off, none⟩)) rfl (by kernel_rfl) (by kernel_rfl) (by kernel_rfl) (fun _ _ _ h => h) (Or.inl ⟨rfl, fun W hW => ?_⟩) hH2 ?_
      · go_simp
      try simp only [Act.put, List.setIfInBounds_toArray, List.set_cons_zero, List.set_cons_succ]
      refine wpAnyH_take (i := 23) (oi := { dst := some 44, op := Op.fieldAddr 38 (Operand.tmp 43) 2, type := 0, pos := _, after := #[{ on := 22, ground := Ground.data }, { on := 16, ground := Ground.guard }], guard := some (16, true) }) (v := .pointer (some ⟨b, off + 2, none⟩)) rfl (by kernel_rfl) (by kernel_rfl) (by kernel_rfl) (fun _ _ _ h => h) (Or.inl ⟨rfl, fun W hW => ?_⟩) hH2 ?_
      · go_simp
      try simp only [Act.put, List.setIfInBounds_toArray, List.set_cons_zero, List.set_cons_succ]
      refine wpAnyH_take (i := 24) (oi := { dst := some 45, op := Op.load 3 (Operand.tmp 44), type := 3, pos := _, after := #[{ on := 23, ground := Ground.data }, { on := 16, ground := Ground.guard }], guard := some (16, true) }) (v := .int .i64 y.t) rfl (by kernel_rfl) (by kernel_rfl) (by kernel_rfl) (fun _ _ _ h => h) (Or.inl ⟨rfl, fun W hW => ?_⟩) hH2 ?_
      · obtain ⟨z1, z2, z3, z4, z5⟩ := hW; go_simp
      try simp only [Act.put, List.setIfInBounds_toArray, List.set_cons_zero, List.set_cons_succ]
      refine wpAnyH_take (i := 25) (oi := { dst := some 46, op := Op.binOp BinOp.leq 3 (Operand.tmp 40) (Operand.tmp 45) 3, type := 4, pos := _, after := #[{ on := 19, ground := Ground.data }, { on := 24, ground := Ground.data }, { on := 16, ground := Ground.guard }], guard := some (16, true) }) (v := .bool true) rfl (by kernel_rfl) (by kernel_rfl) (by kernel_rfl) (fun _ _ _ h => h) (Or.inl ⟨rfl, fun W hW => ?_⟩) hH2 ?_
      · go_simp
      try simp only [Act.put, List.setIfInBounds_toArray, List.set_cons_zero, List.set_cons_succ]
      refine wpAnyH_take (i := 26) (oi := { dst := some 47, op := Op.pick (Operand.tmp 37) (Operand.tmp 46) (Operand.const (Value.bool false)), type := 4, pos := _, after := #[{ on := 16, ground := Ground.data }, { on := 25, ground := Ground.data }], guard := none }) (v := .bool true) rfl (by kernel_rfl) (by kernel_rfl) (by kernel_rfl) (fun _ _ _ h => h) (Or.inl ⟨rfl, fun W hW => ?_⟩) hH2 ?_
      · go_simp
      try simp only [Act.put, List.setIfInBounds_toArray, List.set_cons_zero, List.set_cons_succ]
      refine wpAnyH_take (i := 27) (oi := { dst := some 4, op := Op.assign (Operand.tmp 47), type := 4, pos := _, after := #[{ on := 26, ground := Ground.data }, { on := 16, ground := Ground.chain }, { on := 0, ground := Ground.phase }, { on := 1, ground := Ground.phase }, { on := 2, ground := Ground.phase }, { on := 3, ground := Ground.phase }, { on := 4, ground := Ground.phase }, { on := 5, ground := Ground.phase }, { on := 6, ground := Ground.phase }, { on := 7, ground := Ground.phase }, { on := 8, ground := Ground.phase }, { on := 9, ground := Ground.phase }, { on := 10, ground := Ground.phase }, { on := 11, ground := Ground.phase }, { on := 12, ground := Ground.phase }, { on := 13, ground := Ground.phase }, { on := 14, ground := Ground.phase }, { on := 15, ground := Ground.phase }, { on := 16, ground := Ground.phase }, { on := 17, ground := Ground.phase }, { on := 18, ground := Ground.phase }, { on := 19, ground := Ground.phase }, { on := 20, ground := Ground.phase }, { on := 21, ground := Ground.phase }, { on := 22, ground := Ground.phase }, { on := 23, ground := Ground.phase }, { on := 24, ground := Ground.phase }, { on := 25, ground := Ground.phase }, { on := 26, ground := Ground.phase }], guard := none }) (v := .bool true) rfl (by kernel_rfl) (by kernel_rfl) (by kernel_rfl) (fun _ _ _ h => h) (Or.inl ⟨rfl, fun W hW => ?_⟩) hH2 ?_
      · go_simp
      try simp only [Act.put, List.setIfInBounds_toArray, List.set_cons_zero, List.set_cons_succ]
      refine wpAnyH_done (by kernel_rfl) ?_ _
      -- END 3
      go_wp2_with fail
      go_ret
      exact ⟨rfl, HB3.out⟩
end Go.Proofs.Ytmlpaafclobgcaa

/- Package arena: changed, once or not at all. -/
namespace Go.Proofs.Ytmlpaafclobgcaa
open Go.RowKit
open Go.Proofs.Ytmlpaafclobgcaa.Sq
open Go.Proofs.Ytmlpaafclobgcaa.Ar
set_option linter.unusedVariables false

theorem changed_none (v : Value) (l : List Nd) (w : World) (h : Nodes w v l) (hG : Ar.Good l) (hs : l.length ≤ 500) (hk : ∀ x ∈ l, x.ks.length ≤ 500) :
    Calls Try.prog 68 #[.agg #[v], .slice none 0 0] w (TreedP l w) :=
  aChanged .none v l none 0 w h hG hs hk trivial (fun k hk => absurd hk (Nat.not_lt_zero k))
theorem changed_one (ch : Ch) (hn : ch.n = 1) (v : Value) (l : List Nd) (w : World) (cb : Nat) (h : Nodes w v l) (hG : Ar.Good l) (hs : l.length ≤ 500) (hk : ∀ x ∈ l, x.ks.length ≤ 500) (ho : ch.ok l) (hc : w.cell? ⟨cb, 0, none⟩ = some ch.cell) :
    Calls Try.prog 68 #[.agg #[v], .slice (some ⟨cb, 0, none⟩) 1 1] w (TreedP (ch.res l) w) := by
  have := aChanged ch v l (some ⟨cb, 0, none⟩) 1 w h hG hs hk ho (fun k hk => by
    rw [hn] at hk
    obtain rfl : k = 0 := by omega
    exact ⟨cb, rfl, hc⟩)
  rw [hn] at this
  exact this
end Go.Proofs.Ytmlpaafclobgcaa

/- Package arena: Add. -/
namespace Go.Proofs.Ytmlpaafclobgcaa
open Go.RowKit
open Go.Proofs.Ytmlpaafclobgcaa.Sq
open Go.Proofs.Ytmlpaafclobgcaa.Ar
set_option linter.unusedVariables false

theorem add_yes {l : List Nd} {up kind f t : Int} (hm : mayAdd l up kind f t = true) : ∃ (i : Nat), up = (i : Int) ∧ (Ch.add i kind f t).ok l ∧ addN l up kind f t = ((Ch.add i kind f t).res l, (l.length : Int)) := by
  obtain ⟨h0, h1, p, hp⟩ := may_up hm
  obtain ⟨i, rfl⟩ : ∃ i : Nat, up = (i : Int) := ⟨up.toNat, by omega⟩
  have hf := (may_le hm hp).1
  have hp2 := hp
  rw [Int.toNat_natCast] at hp2
  refine ⟨i, rfl, ⟨p, hp2, hf⟩, ?_⟩
  unfold addN
  rw [if_pos hm, hp]
  simp only [Ch.res, hp2, putN, Int.toNat_natCast]
/-- A tree and a number are answered; the tree is the call's own. -/
def TreedAP (R : List Nd × Int) (w : World) (e : Ending) (w' : World) : Prop :=
  ∃ u, e = .returned (.tuple #[.agg #[u], .int .i64 R.2]) ∧ Nodes w' u R.1 ∧ (∃ L, L.map Ln.nd = R.1 ∧ PT w' w.heap.size u L) ∧ Below w.heap.size w w'
set_option maxHeartbeats 8000000 in
set_option maxRecDepth 100000 in
theorem aAddP : ∀ (v : Value) (l : List Nd) (up kind f t : Int) (w : World), Nodes w v l → Ar.Good l → l.length ≤ 200 → (∀ x ∈ l, x.ks.length ≤ 200) →
  Calls Try.prog 49 #[.agg #[v], .int .i64 up, .int .i64 kind, .int .i64 f, .int .i64 t] w (TreedAP (addN l up kind f t) w) := by
  intro v l up kind f t w h hG hs hk
  obtain ⟨a, cap, rfl⟩ := h.shape
  obtain ⟨R, hR⟩ : ∃ R, addN l up kind f t = R := ⟨_, rfl⟩
  have HX := Lib.hid (fun W (hb : Below w.heap.size w W) => h.below hb)
  have HC0 := Lib.hid (fun W (hb : Below w.heap.size w W) => changed_none _ l W (h.below hb) hG (by omega) (fun x hx => Nat.le_trans (hk x hx) (by omega)))
  have HC1 := Lib.hid (fun (k : Nat) W cb (ho : (Ch.add k kind f t).ok l) (hb : Below w.heap.size w W) (hc : W.cell? ⟨cb, 0, none⟩ = some (Ch.add k kind f t).cell) => changed_one (.add k kind f t) rfl _ l W cb (h.below hb) hG (by omega) (fun x hx => Nat.le_trans (hk x hx) (by omega)) ho hc)
  have HFi := Lib.hid (fun W (hb : Below w.heap.size w W) => aFits _ l up kind f t W (h.below hb) hG (by omega) (fun x hx => Nat.le_trans (hk x hx) (by omega)))
  have hyes := fun hm => add_yes (l := l) (up := up) (kind := kind) (f := f) (t := t) hm
  have hno : mayAdd l up kind f t = false → addN l up kind f t = (l, -1) := fun e => by unfold addN; rw [e]; rfl
  obtain ⟨M, hM⟩ : ∃ M, mayAdd l up kind f t = M := ⟨_, rfl⟩
  rw [hM] at HFi hyes hno
  rw [hR] at hyes hno ⊢
  have HQ := Lib.hid (fun u z w' => show (R.2 = z ∧ Nodes w' u R.1 ∧ (∃ L, L.map Ln.nd = R.1 ∧ PT w' w.heap.size u L) ∧ Below w.heap.size w w') → TreedAP R w (.returned (.tuple #[.agg #[u], .int .i64 z])) w' from fun h => ⟨u, by rw [h.1], h.2⟩)
  obtain ⟨Q, hQ⟩ : ∃ Q, TreedAP R w = Q := ⟨_, rfl⟩
  rw [hQ] at HQ ⊢
  obtain ⟨N, hN⟩ : ∃ N, l.length = N := ⟨_, rfl⟩
  rw [hN] at HX HC0 HC1 HFi hyes hs ⊢
  have HN := Lib.hid hN
  have HYes := Lib.hid hyes
  have HNot := Lib.hid hno
  obtain ⟨w1, hw1⟩ : ∃ w1, (w.alloc (.cells #[.slice a N cap] 31)).alloc (.cells #[.slice none 0 0] 31) = w1 := ⟨_, rfl⟩
  obtain ⟨Bt, hBt⟩ : ∃ Bt, w.heap.size = Bt := ⟨_, rfl⟩
  obtain ⟨Br, hBr⟩ : ∃ Br, w.heap.size + 1 = Br := ⟨_, rfl⟩
  have hb1 := below_allocS (below_alloc w (.cells #[.slice a N cap] 31)) (.cells #[.slice none 0 0] 31)
  have ct : w1.cell? ⟨Bt, 0, none⟩ = some (.slice a N cap) := by rw [← hw1, ← hBt]; exact at_alloc (at_new rfl)
  have cr : Hld w1 Br 0 (.slice none 0 0) := by
    rw [← hw1, ← hBr]
    have h := hld_new (W := w.alloc (.cells #[.slice a N cap] 31)) (C := #[.slice none 0 0]) (t := 31) (k := 0) rfl
    rw [size_alloc] at h
    exact h
  rw [hw1] at hb1
  obtain ⟨Ba, hBa⟩ : ∃ Ba, w1.heap.size = Ba := ⟨_, rfl⟩
  obtain ⟨w2, hw2⟩ : ∃ w2, w1.alloc (.cells #[.int .i64 up, .int .i64 t, .int .i64 kind, .int .i64 f] 82) = w2 := ⟨_, rfl⟩
  have hb2 : Below w1.heap.size w1 w2 := hw2 ▸ below_alloc w1 _
  have ct2 := at_below hb2 ct
  have cr2 := hld_below hb2 cr
  have a0 : w2.cell? ⟨Ba, 0, none⟩ = some (.int .i64 up) := by rw [← hw2, ← hBa]; exact at_new rfl
  have a1 : w2.cell? ⟨Ba, 1, none⟩ = some (.int .i64 t) := by rw [← hw2, ← hBa]; exact at_new rfl
  have a2 : w2.cell? ⟨Ba, 2, none⟩ = some (.int .i64 kind) := by rw [← hw2, ← hBa]; exact at_new rfl
  have a3 : w2.cell? ⟨Ba, 3, none⟩ = some (.int .i64 f) := by rw [← hw2, ← hBa]; exact at_new rfl
  have hn1 : Br ≠ Bt := by omega
  have hn2 : Br ≠ Ba := by have h9 : Br < w1.heap.size := lt_of_cell cr.1; omega
  have HB2 := Lib.hid (below_from hb1 hb2)
  have HCr2 := Lib.hid cr2
  have HFw := Lib.hid (HFi.out w2 (below_from hb1 hb2))
  have HW1 := Lib.hid hw1
  have HBt := Lib.hid hBt
  have HBr := Lib.hid hBr
  have HW2 := Lib.hid hw2
  have HBa := Lib.hid hBa
  have hwr : w.heap.size ≤ Br := by omega
  clear h hG hk hR hQ hN hM hyes hno hw1 hBt hBr hb1 cr hBa hw2 hb2 cr2 ct HFi
  go_enter Try.func49, Try.ntmps49
  go_upto_region 1 with fail
  rw [HW1.out, HBr.out, HBt.out]
  clear HW1 HBr HBt
  go_upto_region 2 with fail
  rw [HW2.out, HBa.out]
  clear HW2 HBa
  go_wp2_with fail
  refine HFw.out.mono ?_
  rintro e w3 ⟨rfl, hb3⟩
  have ct3 := at_below hb3 ct2
  have a03 := at_below hb3 a0
  have a13 := at_below hb3 a1
  have a23 := at_below hb3 a2
  have a33 := at_below hb3 a3
  have HCr3 := Lib.hid (hld_below hb3 HCr2.out)
  have HB3 := Lib.hid (below_from HB2.out hb3)
  clear hb3 ct2 a0 a1 a2 a3
  cases M with
  | false =>
    have hr := HNot.out rfl
    have HC03 := Lib.hid (HC0.out w3 HB3.out)
    clear HC0 HYes
    go_wp2_with fail
    refine HC03.out.mono ?_
    rintro e w4 ⟨u, rfl, hn, ⟨Lp, hLp, hPp⟩, hb⟩
    obtain ⟨ua, uc, rfl⟩ := hn.shape
    rw [HN.out] at hn hPp ⊢
    have hc := hld_below hb HCr3.out
    have cr0 := hc.1
    have fr0 := hc.2
    have HD := Lib.hid (HQ.out (.slice ua N uc) (-1) _ ⟨by rw [hr], by rw [hr]; exact hn.set cr0 (.slice ua N uc), ⟨Lp, by rw [hr]; exact hLp, (hPp.setLow (lt_of_cell HCr3.out.1) _).base HB3.out.size⟩, (below_from HB3.out hb).setCell (p := ⟨Br, 0, none⟩) hwr _⟩)
    clear hn hb hc hr hLp hPp
    go_wp2_with fail
    refine bodyPost_ret (v := .tuple #[.agg #[.slice ua N uc], .int .i64 (-1)]) ?_ rfl HD.out
    simp [results, Try.results49, go_sem, cr0, cell_set_eq]
  | true =>
    obtain ⟨i, rfl, hok, hr⟩ := HYes.out rfl
    have hcall := HC1.out i (w3.drew.alloc (.cells #[.iface 82 (.agg #[.int .i64 i, .int .i64 t, .int .i64 kind, .int .i64 f])] 20)) w3.heap.size hok (below_allocS HB3.out.drew _) (at_new (W := w3.drew) rfl)
    have HCa := Lib.hid hcall
    have HB4 := Lib.hid (below_allocS HB3.out.drew (.cells #[.iface 82 (.agg #[.int .i64 i, .int .i64 t, .int .i64 kind, .int .i64 f])] 20))
    have HCr4 := Lib.hid (hld_alloc (o := .cells #[.iface 82 (.agg #[.int .i64 i, .int .i64 t, .int .i64 kind, .int .i64 f])] 20) (hld_drew HCr3.out))
    have HR := Lib.hid hr
    have b0 := fun o => at_alloc (o := o) (at_drew a03)
    have b1 := fun o => at_alloc (o := o) (at_drew a13)
    have b2 := fun o => at_alloc (o := o) (at_drew a23)
    have b3 := fun o => at_alloc (o := o) (at_drew a33)
    have bt := fun o => at_alloc (o := o) (at_drew ct3)
    have HB0 := Lib.hid (And.intro bt (And.intro b0 (And.intro b1 (And.intro b2 b3))))
    clear hcall hok hr HC0 HC1 HYes HNot b0 b1 b2 b3 bt
    go_wp2_with fail
    -- ADD
    refine wp_region_held_drew (S := fun wx => wx.cell? ⟨Bt, 0, none⟩ = some (.slice a N cap) ∧ wx.cell? ⟨Ba, 0, none⟩ = some (.int .i64 (i : Int)) ∧ wx.cell? ⟨Ba, 1, none⟩ = some (.int .i64 t) ∧ wx.cell? ⟨Ba, 2, none⟩ = some (.int .i64 kind) ∧ wx.cell? ⟨Ba, 3, none⟩ = some (.int .i64 f)) (by kernel_rfl) (⟨ct3, a03, a13, a23, a33⟩) (fun hH => ?_)
    refine wpAnyH_take (i := 0) (oi := { dst := some 25, op := Op.load 31 (Operand.tmp 5), type := 31, pos := _, after := #[], guard := none }) (v := .agg #[.slice a N cap]) rfl (by kernel_rfl) (by kernel_rfl) (by kernel_rfl) (fun _ _ _ h => h) (Or.inl ⟨rfl, fun W hW => ?_⟩) hH ?_
    · obtain ⟨z1, z2, z3, z4, z5⟩ := hW; go_simp
    try simp only [Act.put, List.setIfInBounds_toArray, List.set_cons_zero, List.set_cons_succ]
    refine wpAnyH_take (i := 1) (oi := { dst := some 26, op := Op.load 82 (Operand.tmp 12), type := 82, pos := _, after := #[], guard := none }) (v := .agg #[.int .i64 (i : Int), .int .i64 t, .int .i64 kind, .int .i64 f]) rfl (by kernel_rfl) (by kernel_rfl) (by kernel_rfl) (fun _ _ _ h => h) (Or.inl ⟨rfl, fun W hW => ?_⟩) hH ?_
    · obtain ⟨z1, z2, z3, z4, z5⟩ := hW; go_simp
    try simp only [Act.put, List.setIfInBounds_toArray, List.set_cons_zero, List.set_cons_succ]
    refine wpAnyH_take (i := 2) (oi := { dst := some 27, op := Op.makeInterface 82 (Operand.tmp 26), type := 20, pos := _, after := #[{ on := 1, ground := Ground.data }], guard := none }) (v := .iface 82 (.agg #[.int .i64 (i : Int), .int .i64 t, .int .i64 kind, .int .i64 f])) rfl (by kernel_rfl) (by kernel_rfl) (by kernel_rfl) (fun _ _ _ h => h) (Or.inl ⟨rfl, fun W hW => ?_⟩) hH ?_
    · go_simp
    try simp only [Act.put, List.setIfInBounds_toArray, List.set_cons_zero, List.set_cons_succ]
    refine wpAnyH_take (i := 5) (oi := { dst := some 30, op := Op.fieldAddr 31 (Operand.tmp 5) 0, type := 0, pos := _, after := #[], guard := none }) (v := .pointer (some ⟨Bt, 0, none⟩)) rfl (by kernel_rfl) (by kernel_rfl) (by kernel_rfl) (fun _ _ _ h => h) (Or.inl ⟨rfl, fun W hW => ?_⟩) hH ?_
    · go_simp
    try simp only [Act.put, List.setIfInBounds_toArray, List.set_cons_zero, List.set_cons_succ]
    refine wpAnyH_take (i := 6) (oi := { dst := some 31, op := Op.load 29 (Operand.tmp 30), type := 29, pos := _, after := #[{ on := 5, ground := Ground.data }], guard := none }) (v := .slice a N cap) rfl (by kernel_rfl) (by kernel_rfl) (by kernel_rfl) (fun _ _ _ h => h) (Or.inl ⟨rfl, fun W hW => ?_⟩) hH ?_
    · obtain ⟨z1, z2, z3, z4, z5⟩ := hW; go_simp
    try simp only [Act.put, List.setIfInBounds_toArray, List.set_cons_zero, List.set_cons_succ]
    refine wpAnyH_take (i := 7) (oi := { dst := some 32, op := Op.call { callee := Callee.builtin Builtin.len, args := #[Operand.tmp 31], argTypes := #[29] }, type := 3, pos := _, after := #[{ on := 6, ground := Ground.data }], guard := none }) (v := .int .i64 (N : Int)) rfl (by kernel_rfl) (by kernel_rfl) (by kernel_rfl) (fun _ _ _ h => h) (Or.inl ⟨rfl, fun W hW => ?_⟩) hH ?_
    · go_simp
    try simp only [Act.put, List.setIfInBounds_toArray, List.set_cons_zero, List.set_cons_succ]
    refine wpAnyH_ready (rs := [3]) (by kernel_rfl) (by simp) ?_
    refine AllReadyH.cons (o := { dst := some 28, op := Op.buildSlice 88 1 #[(0, Operand.tmp 27)], type := 88, pos := _, after := #[{ on := 2, ground := Ground.data }], guard := none }) rfl (fun K hK => ?_) AllReadyH.nil
    go_simp
    refine hK.out _ _ (⟨HB0.out.1 _, HB0.out.2.1 _, HB0.out.2.2.1 _, HB0.out.2.2.2.1 _, HB0.out.2.2.2.2 _⟩) (fun hH2 => ?_)
    clear hK K
    try simp only [Act.put, List.setIfInBounds_toArray, List.set_cons_zero, List.set_cons_succ]
    refine wpAnyH_ready (rs := [4]) (by kernel_rfl) (by simp) ?_
    refine AllReadyH.cons (o := { dst := some 29, op := Op.call { callee := Callee.value (Operand.func 68), args := #[Operand.tmp 25, Operand.tmp 28], argTypes := #[31, 88] }, type := 31, pos := _, after := #[{ on := 0, ground := Ground.data }, { on := 3, ground := Ground.data }], guard := none }) rfl (fun K hK => ?_) AllReadyH.nil
    go_simp
    refine HCa.out.mono ?_
    rintro e w4 ⟨u, rfl, hn, ⟨Lp, hLp, hPp⟩, hb⟩
    obtain ⟨ua, uc, rfl⟩ := hn.shape
    obtain ⟨un, hun⟩ : ∃ un, ((Ch.add i kind f t).res l).length = un := ⟨_, rfl⟩
    rw [hun] at hn hPp ⊢
    clear hun
    have HNn := Lib.hid hn
    have hc := hld_below hb HCr4.out
    have cr0 := hc.1
    have fr0 := hc.2
    have d0 := at_below hb (HB0.out.2.1 _)
    have d1 := at_below hb (HB0.out.2.2.1 _)
    have d2 := at_below hb (HB0.out.2.2.2.1 _)
    have d3 := at_below hb (HB0.out.2.2.2.2 _)
    have dt := at_below hb (HB0.out.1 _)
    have HB5 := Lib.hid (below_from HB4.out hb)
    have HPp := Lib.hid hPp
    have HLp := Lib.hid hLp
    clear hb hn hc hPp hLp
    try go_wp2_with fail
    refine hK.out _ _ (⟨dt, d0, d1, d2, d3⟩) (fun hH2 => ?_)
    clear hK K
    try simp only [Act.put, List.setIfInBounds_toArray, List.set_cons_zero, List.set_cons_succ]
    refine wpAnyH_ready (rs := [8]) (by kernel_rfl) (by simp) ?_
    refine AllReadyH.cons (o := { dst := none, op := Op.store 31 (Operand.tmp 10) (Operand.tmp 29), type := 0, pos := _, after := #[{ on := 4, ground := Ground.data }, { on := 4, ground := Ground.chain }, { on := 0, ground := Ground.phase }, { on := 1, ground := Ground.phase }, { on := 2, ground := Ground.phase }, { on := 3, ground := Ground.phase }, { on := 4, ground := Ground.phase }, { on := 5, ground := Ground.textOnly Departure.lateStores }, { on := 6, ground := Ground.textOnly Departure.lateStores }, { on := 7, ground := Ground.textOnly Departure.lateStoresUnsure }], guard := none }) rfl (fun K hK => ?_) AllReadyH.nil
    go_simp
    refine hK.out _ _ (⟨at_far hn1 dt, at_far hn2 d0, at_far hn2 d1, at_far hn2 d2, at_far hn2 d3⟩) (fun hH2 => ?_)
    clear hK K
    try simp only [Act.put, List.setIfInBounds_toArray, List.set_cons_zero, List.set_cons_succ]
    refine wpAnyH_take (i := 9) (oi := { dst := some 11, op := Op.assign (Operand.tmp 32), type := 3, pos := _, after := #[{ on := 7, ground := Ground.data }, { on := 8, ground := Ground.chain }, { on := 0, ground := Ground.phase }, { on := 1, ground := Ground.phase }, { on := 2, ground := Ground.phase }, { on := 3, ground := Ground.phase }, { on := 4, ground := Ground.phase }, { on := 5, ground := Ground.phase }, { on := 6, ground := Ground.phase }, { on := 7, ground := Ground.phase }, { on := 8, ground := Ground.phase }], guard := none }) (v := .int .i64 (N : Int)) rfl (by kernel_rfl) (by kernel_rfl) (by kernel_rfl) (fun _ _ _ h => h) (Or.inl ⟨rfl, fun W hW => ?_⟩) hH2 ?_
    · go_simp
    try simp only [Act.put, List.setIfInBounds_toArray, List.set_cons_zero, List.set_cons_succ]
    refine wpAnyH_done (by kernel_rfl) ?_ _
    have HD := Lib.hid (HQ.out (.slice ua un uc) (N : Int) (w4.setCell ⟨Br, 0, none⟩ (.slice ua un uc)) ⟨by rw [HR.out], by rw [HR.out]; exact HNn.out.set cr0 (.slice ua un uc), ⟨Lp, by rw [HR.out]; exact HLp.out, (HPp.out.setLow (lt_of_cell HCr4.out.1) _).base HB4.out.size⟩, HB5.out.setCell (p := ⟨Br, 0, none⟩) hwr _⟩)
    clear hH hH2
    go_wp2_with fail
    refine bodyPost_ret (v := .tuple #[.agg #[.slice ua un uc], .int .i64 (N : Int)]) ?_ rfl HD.out
    simp [results, Try.results49, go_sem, cr0, cell_set_eq]
    -- END
theorem aAdd : ∀ (v : Value) (l : List Nd) (up kind f t : Int) (w : World), Nodes w v l → Ar.Good l → l.length ≤ 200 → (∀ x ∈ l, x.ks.length ≤ 200) →
  Calls Try.prog 49 #[.agg #[v], .int .i64 up, .int .i64 kind, .int .i64 f, .int .i64 t] w (TreedA false (addN l up kind f t) w) := fun v l up kind f t w h hG hs hk =>
  (aAddP v l up kind f t w h hG hs hk).mono (fun e w' ⟨u, h1, h2, _, h4⟩ => ⟨u, h1, h2, fun e => absurd e (by decide), h4⟩)
end Go.Proofs.Ytmlpaafclobgcaa
