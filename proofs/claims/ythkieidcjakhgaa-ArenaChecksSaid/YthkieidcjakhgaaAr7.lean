/- The chapter's own arena (correctorref10): Same. -/
import Derived.Test.YthkieidcjakhgaaAr5
namespace Go.Proofs.Ythkieidcjakhgaa
open Go.RowKit
open Go.Proofs.Ythkieidcjakhgaa.Sq
open Go.Proofs.Ythkieidcjakhgaa.Ar
set_option linter.unusedVariables false

namespace Ar
theorem same_len : ∀ (l q : List Nd), l.length ≠ q.length → sameN l q = false
  | [], [] => fun h => absurd rfl h
  | [], _ :: _ => fun _ => rfl
  | _ :: _, [] => fun _ => rfl
  | x :: r, y :: s => fun h => by
    rw [sameN, same_len r s (by simpa using h), Bool.and_false]
theorem same_all : ∀ (l q : List Nd), l.length = q.length → (∀ (j : Nat) x y, l[j]? = some x → q[j]? = some y → sameNd x y = true) → sameN l q = true
  | [], [] => fun _ _ => rfl
  | [], _ :: _ => fun h => by simp at h
  | _ :: _, [] => fun h => by simp at h
  | x :: r, y :: s => fun h ha => by
    rw [sameN, ha 0 x y rfl rfl, Bool.true_and]
    exact same_all r s (by simpa using h) (fun j a b h1 h2 => ha (j + 1) a b h1 h2)
theorem same_no : ∀ (l q : List Nd) (j : Nat) x y, l[j]? = some x → q[j]? = some y → sameNd x y = false → sameN l q = false
  | [], q, j, x, y => fun h => by simp at h
  | _ :: _, [], j, x, y => fun _ h => by simp at h
  | a :: r, b :: s, j, x, y => fun h1 h2 h => by
    cases j with
    | zero =>
      injection h1 with h1; injection h2 with h2
      subst h1 h2
      rw [sameN, h, Bool.false_and]
    | succ j => rw [sameN, same_no r s j x y h1 h2 h, Bool.and_false]
/-- All but the kids themselves. -/
def headN (x y : Nd) : Bool := decide (x.k = y.k) && decide (x.f = y.f) && decide (x.t = y.t) && decide (x.u = y.u) && (x.y == y.y) && decide (x.ks.length = y.ks.length)
theorem head_no {x y : Nd} (h : headN x y = false) : sameNd x y = false := by
  cases e : sameNd x y with
  | false => rfl
  | true =>
    unfold sameNd at e
    simp only [Bool.and_eq_true, decide_eq_true_eq] at e
    obtain ⟨⟨⟨⟨⟨e1, e2⟩, e3⟩, e4⟩, e5⟩, e6⟩ := e
    rw [← h]; unfold headN
    simp [e1, e2, e3, e4, e6] at e5 ⊢
    exact e5
theorem head_kids {x y : Nd} (h : headN x y = true) : sameNd x y = decide (x.ks = y.ks) := by
  unfold headN at h
  simp only [Bool.and_eq_true, decide_eq_true_eq] at h
  obtain ⟨⟨⟨⟨⟨e1, e2⟩, e3⟩, e4⟩, e5⟩, e6⟩ := h
  unfold sameNd
  simp [e1, e2, e3, e4] at e5 ⊢
  intro _
  exact e5
theorem head_len {x y : Nd} (h : headN x y = true) : x.ks.length = y.ks.length := by
  unfold headN at h
  simp only [Bool.and_eq_true, decide_eq_true_eq] at h
  exact h.2
theorem kids_no {x y : Nd} (k : Nat) (a b : Int) (h1 : x.ks[k]? = some a) (h2 : y.ks[k]? = some b) (h : a ≠ b) : sameNd x y = false := by
  unfold sameNd
  have : decide (x.ks = y.ks) = false := decide_eq_false (fun e => h (by rw [e, h2] at h1; exact (Option.some.inj h1).symm))
  rw [this, Bool.and_false]
theorem kids_all {x y : Nd} (h : headN x y = true) (ha : x.ks.take x.ks.length = y.ks.take x.ks.length) : sameNd x y = true := by
  rw [head_kids h]
  rw [List.take_length] at ha
  rw [head_len h, List.take_length] at ha
  exact decide_eq_true ha
end Ar
set_option maxHeartbeats 4000000 in
set_option maxRecDepth 100000 in
theorem rSame (v1 v2 : Value) (l q : List Nd) (w : World) (h : Nodes w v1 l) (h2 : Nodes w v2 q) (hs : l.length ≤ 1000) (hs2 : q.length ≤ 1000) (hk : ∀ x ∈ l, x.ks.length ≤ 1000) (hk2 : ∀ x ∈ q, x.ks.length ≤ 1000) :
    Calls Try.prog 17 #[.agg #[v1], .agg #[v2]] w (fun e w' => e = .returned (.bool (sameN l q)) ∧ Below w.heap.size w w') := by
  obtain ⟨a, cap, rfl⟩ := h.shape
  obtain ⟨a2, cap2, rfl⟩ := h2.shape
  obtain ⟨R, hR⟩ : ∃ R, sameN l q = R := ⟨_, rfl⟩
  have hln := same_len l q
  have hno := same_no l q
  have hall := same_all l q
  rw [hR] at hln hno hall ⊢
  have HX := Lib.hid (fun W (hb : Below w.heap.size w W) j x (hj : l[j]? = some x) => (h.below hb).at_ j x hj)
  have HX2 := Lib.hid (fun W (hb : Below w.heap.size w W) j x (hj : q[j]? = some x) => (h2.below hb).at_ j x hj)
  have HKs := Lib.hid hk
  have HKs2 := Lib.hid hk2
  have HQ := Lib.hid (fun b w' => show (b = R ∧ Below w.heap.size w w') → (fun e (w' : World) => e = Ending.returned (.bool R) ∧ Below w.heap.size w w') (.returned (.bool b)) w' from fun h => ⟨by rw [h.1], h.2⟩)
  obtain ⟨Q, hQ⟩ : ∃ Q, (fun e (w' : World) => e = Ending.returned (.bool R) ∧ Below w.heap.size w w') = Q := ⟨_, rfl⟩
  rw [hQ] at HQ ⊢
  obtain ⟨N, hN⟩ : ∃ N, l.length = N := ⟨_, rfl⟩
  obtain ⟨M, hM⟩ : ∃ M, q.length = M := ⟨_, rfl⟩
  rw [hN] at hs hln hall ⊢
  rw [hM] at hs2 hln hall ⊢
  have HN := Lib.hid hN
  have HM := Lib.hid hM
  have HLn := Lib.hid hln
  have HNo := Lib.hid hno
  have HAll := Lib.hid hall
  obtain ⟨w1, hw1⟩ : ∃ w1, (w.alloc (.cells #[.slice a N cap] 29)).alloc (.cells #[.slice a2 M cap2] 29) = w1 := ⟨_, rfl⟩
  obtain ⟨B, hB⟩ : ∃ B, w.heap.size = B := ⟨_, rfl⟩
  have hb1 := below_allocS (below_alloc w (.cells #[.slice a N cap] 29)) (.cells #[.slice a2 M cap2] 29)
  have c1 : w1.cell? ⟨B, 0, none⟩ = some (.slice a N cap) := by rw [← hw1, ← hB]; exact at_alloc (at_new rfl)
  have c2 : w1.cell? ⟨B + 1, 0, none⟩ = some (.slice a2 M cap2) := by
    rw [← hw1, ← hB]
    have h := at_new (W := w.alloc (.cells #[.slice a N cap] 29)) (C := #[.slice a2 M cap2]) (t := 29) (k := 0) rfl
    rw [size_alloc] at h
    exact h
  rw [hw1] at hb1
  obtain ⟨B2, hB2⟩ : ∃ B2, w.heap.size + 1 = B2 := ⟨_, rfl⟩
  have hB2' : B + 1 = B2 := by rw [← hB]; exact hB2
  rw [hB2'] at c2
  have HB1 := Lib.hid hb1
  have HC1 := Lib.hid (fun W (hb : Below w1.heap.size w1 W) => at_below hb c1)
  have HC2 := Lib.hid (fun W (hb : Below w1.heap.size w1 W) => at_below hb c2)
  have HW1 := Lib.hid hw1
  have HBe := Lib.hid hB
  have HBe2 := Lib.hid hB2
  clear h h2 hk hk2 hQ hN hM hw1 hB hB2 hB2' hb1 hR hln hno hall
  go_enter Try.func17, Try.ntmps17
  go_upto_region 1 with fail
  rw [HW1.out, HBe2.out, HBe.out]
  clear HW1
  by_cases hne : N = M
  · subst hne
    go_wp2_with fail
    go_loopw [5] (fun iv wr => ∃ (i : Nat), iv = .int .i64 i ∧ i ≤ N ∧ Hid (∀ (j : Nat) x y, j < i → l[j]? = some x → q[j]? = some y → sameNd x y = true) ∧ Hid (Below w1.heap.size w1 wr)) (fun iv _ => N - (intOf iv).toNat)
    case atStart => exact ⟨0, rfl, Nat.zero_le _, Lib.hid (fun j x y hj => absurd hj (Nat.not_lt_zero j)), Lib.hid (Below.refl _ _)⟩
    case round =>
      obtain ⟨i, rfl, hi, HA, HB⟩ := hrel
      have c1 := HC1.out wr HB.out
      have c2 := HC2.out wr HB.out
      by_cases hlt : i < N
      · obtain ⟨x, hx⟩ : ∃ x, l[i]? = some x := ⟨_, List.getElem?_eq_getElem (by rw [HN.out]; exact hlt)⟩
        obtain ⟨y, hy⟩ : ∃ y, q[i]? = some y := ⟨_, List.getElem?_eq_getElem (by rw [HM.out]; exact hlt)⟩
        obtain ⟨b, off, ka, kc, rfl, x0, x1, x2, x3, x4, x5, hkr⟩ := HX.out wr (below_from HB1.out HB.out) i x hx
        obtain ⟨b2, off2, ka2, kc2, rfl, y0, y1, y2, y3, y4, y5, hkr2⟩ := HX2.out wr (below_from HB1.out HB.out) i y hy
        have hii : (i : Int) < (N : Int) := by omega
        have hkl := HKs.out x (List.mem_of_getElem? hx)
        have hkl2 := HKs2.out y (List.mem_of_getElem? hy)
        have HRd := Lib.hid hkr
        have HRd2 := Lib.hid hkr2
        have HXi := Lib.hid hx
        have HYi := Lib.hid hy
        clear hx hy hkr hkr2
        go_upto_region 6 with fail
        go_upto_region 6 with fail
        go_cut [6, 7] (fun p q wx => ∃ xb yb, p = .pointer (some ⟨xb, 0, none⟩) ∧ q = .pointer (some ⟨yb, 0, none⟩) ∧ Hid (wx.heap[xb]? = some (.cells #[.int .i64 x.k, .int .i64 x.f, .int .i64 x.t, .int .i64 x.u, .slice ka x.ks.length kc, .bool x.y] 48 (0, 0))) ∧ Hid (wx.heap[yb]? = some (.cells #[.int .i64 y.k, .int .i64 y.f, .int .i64 y.t, .int .i64 y.u, .slice ka2 y.ks.length kc2, .bool y.y] 48 (0, 0))) ∧ Hid (Below wr.heap.size wr wx))
        case first =>
          have c1a := fun o => at_alloc (o := o) c1
          have c1b := fun o o2 => at_alloc (o := o2) (at_alloc (o := o) c1)
          have c2a := fun o => at_alloc (o := o) c2
          have c2b := fun o o2 => at_alloc (o := o2) (at_alloc (o := o) c2)
          have x0a := fun o => at_alloc (o := o) x0
          have x0b := fun o o2 => at_alloc (o := o2) (at_alloc (o := o) x0)
          have x1a := fun o => at_alloc (o := o) x1
          have x1b := fun o o2 => at_alloc (o := o2) (at_alloc (o := o) x1)
          have x2a := fun o => at_alloc (o := o) x2
          have x2b := fun o o2 => at_alloc (o := o2) (at_alloc (o := o) x2)
          have x3a := fun o => at_alloc (o := o) x3
          have x3b := fun o o2 => at_alloc (o := o2) (at_alloc (o := o) x3)
          have x4a := fun o => at_alloc (o := o) x4
          have x4b := fun o o2 => at_alloc (o := o2) (at_alloc (o := o) x4)
          have x5a := fun o => at_alloc (o := o) x5
          have x5b := fun o o2 => at_alloc (o := o2) (at_alloc (o := o) x5)
          have y0a := fun o => at_alloc (o := o) y0
          have y0b := fun o o2 => at_alloc (o := o2) (at_alloc (o := o) y0)
          have y1a := fun o => at_alloc (o := o) y1
          have y1b := fun o o2 => at_alloc (o := o2) (at_alloc (o := o) y1)
          have y2a := fun o => at_alloc (o := o) y2
          have y2b := fun o o2 => at_alloc (o := o2) (at_alloc (o := o) y2)
          have y3a := fun o => at_alloc (o := o) y3
          have y3b := fun o o2 => at_alloc (o := o2) (at_alloc (o := o) y3)
          have y4a := fun o => at_alloc (o := o) y4
          have y4b := fun o o2 => at_alloc (o := o2) (at_alloc (o := o) y4)
          have y5a := fun o => at_alloc (o := o) y5
          have y5b := fun o o2 => at_alloc (o := o2) (at_alloc (o := o) y5)
          go_region
          · go_wp2_with fail
            go_meet
            have hu : ((wr.alloc (.cells #[.int .i64 x.k, .int .i64 x.f, .int .i64 x.t, .int .i64 x.u, .slice ka x.ks.length kc, .bool x.y] 48)).alloc (.cells #[.int .i64 y.k, .int .i64 y.f, .int .i64 y.t, .int .i64 y.u, .slice ka2 y.ks.length kc2, .bool y.y] 48)).heap[wr.heap.size]? = some (.cells #[.int .i64 x.k, .int .i64 x.f, .int .i64 x.t, .int .i64 x.u, .slice ka x.ks.length kc, .bool x.y] 48 (0, 0)) := (Below.heap_alloc _ (.cells #[.int .i64 y.k, .int .i64 y.f, .int .i64 y.t, .int .i64 y.u, .slice ka2 y.ks.length kc2, .bool y.y] 48) _ (by simp)).trans (heap_alloc_new _ _)
            have hv : ((wr.alloc (.cells #[.int .i64 x.k, .int .i64 x.f, .int .i64 x.t, .int .i64 x.u, .slice ka x.ks.length kc, .bool x.y] 48)).alloc (.cells #[.int .i64 y.k, .int .i64 y.f, .int .i64 y.t, .int .i64 y.u, .slice ka2 y.ks.length kc2, .bool y.y] 48)).heap[wr.heap.size + 1]? = some (.cells #[.int .i64 y.k, .int .i64 y.f, .int .i64 y.t, .int .i64 y.u, .slice ka2 y.ks.length kc2, .bool y.y] 48 (0, 0)) := by
              have h := heap_alloc_new (wr.alloc (.cells #[.int .i64 x.k, .int .i64 x.f, .int .i64 x.t, .int .i64 x.u, .slice ka x.ks.length kc, .bool x.y] 48)) (.cells #[.int .i64 y.k, .int .i64 y.f, .int .i64 y.t, .int .i64 y.u, .slice ka2 y.ks.length kc2, .bool y.y] 48)
              rw [size_alloc] at h
              exact h
            have hw := below_allocS (below_alloc wr (.cells #[.int .i64 x.k, .int .i64 x.f, .int .i64 x.t, .int .i64 x.u, .slice ka x.ks.length kc, .bool x.y] 48)) (.cells #[.int .i64 y.k, .int .i64 y.f, .int .i64 y.t, .int .i64 y.u, .slice ka2 y.ks.length kc2, .bool y.y] 48)
            exact ⟨_, _, rfl, rfl, Lib.hid hu, Lib.hid hv, Lib.hid hw.drew⟩
          · go_wp2_with fail
            go_meet
            have hu : ((wr.alloc (.cells #[.int .i64 y.k, .int .i64 y.f, .int .i64 y.t, .int .i64 y.u, .slice ka2 y.ks.length kc2, .bool y.y] 48)).alloc (.cells #[.int .i64 x.k, .int .i64 x.f, .int .i64 x.t, .int .i64 x.u, .slice ka x.ks.length kc, .bool x.y] 48)).heap[wr.heap.size]? = some (.cells #[.int .i64 y.k, .int .i64 y.f, .int .i64 y.t, .int .i64 y.u, .slice ka2 y.ks.length kc2, .bool y.y] 48 (0, 0)) := (Below.heap_alloc _ (.cells #[.int .i64 x.k, .int .i64 x.f, .int .i64 x.t, .int .i64 x.u, .slice ka x.ks.length kc, .bool x.y] 48) _ (by simp)).trans (heap_alloc_new _ _)
            have hv : ((wr.alloc (.cells #[.int .i64 y.k, .int .i64 y.f, .int .i64 y.t, .int .i64 y.u, .slice ka2 y.ks.length kc2, .bool y.y] 48)).alloc (.cells #[.int .i64 x.k, .int .i64 x.f, .int .i64 x.t, .int .i64 x.u, .slice ka x.ks.length kc, .bool x.y] 48)).heap[wr.heap.size + 1]? = some (.cells #[.int .i64 x.k, .int .i64 x.f, .int .i64 x.t, .int .i64 x.u, .slice ka x.ks.length kc, .bool x.y] 48 (0, 0)) := by
              have h := heap_alloc_new (wr.alloc (.cells #[.int .i64 y.k, .int .i64 y.f, .int .i64 y.t, .int .i64 y.u, .slice ka2 y.ks.length kc2, .bool y.y] 48)) (.cells #[.int .i64 x.k, .int .i64 x.f, .int .i64 x.t, .int .i64 x.u, .slice ka x.ks.length kc, .bool x.y] 48)
              rw [size_alloc] at h
              exact h
            have hw := below_allocS (below_alloc wr (.cells #[.int .i64 y.k, .int .i64 y.f, .int .i64 y.t, .int .i64 y.u, .slice ka2 y.ks.length kc2, .bool y.y] 48)) (.cells #[.int .i64 x.k, .int .i64 x.f, .int .i64 x.t, .int .i64 x.u, .slice ka x.ks.length kc, .bool x.y] 48)
            exact ⟨_, _, rfl, rfl, Lib.hid hv, Lib.hid hu, Lib.hid hw.drew⟩
        case rest =>
        obtain ⟨xb, yb, rfl, rfl, HBx, HBy, HBw⟩ := hcut
        rename World => w3
        clear c1 c2 x0 x1 x2 x3 x4 x5 y0 y1 y2 y3 y4 y5
        have x0 := Joins.cell_of_block HBx.out 0
        have y0 := Joins.cell_of_block HBy.out 0
        have x1 := Joins.cell_of_block HBx.out 1
        have y1 := Joins.cell_of_block HBy.out 1
        have x2 := Joins.cell_of_block HBx.out 2
        have y2 := Joins.cell_of_block HBy.out 2
        have x3 := Joins.cell_of_block HBx.out 3
        have y3 := Joins.cell_of_block HBy.out 3
        have x4 := Joins.cell_of_block HBx.out 4
        have y4 := Joins.cell_of_block HBy.out 4
        have x5 := Joins.cell_of_block HBx.out 5
        have y5 := Joins.cell_of_block HBy.out 5
        go_upto_region 7 with fail
        go_cut [74] (fun q wx => q = .bool (!(headN x y)) ∧ w3 = wx)
        case first =>
          by_cases qk : x.k = y.k
          case neg =>
            have hm : headN x y = false := by unfold headN; simp [qk]
            have nk : (x.k == y.k) = false := by simp [qk]
            have mk : (x.k != y.k) = true := by simp [qk]
            clear qk
            go_wp2_with fail
            go_meet
            exact ⟨by rw [hm]; rfl, rfl⟩
          have nk : (x.k == y.k) = true := by simp [qk]
          have mk : (x.k != y.k) = false := by simp [qk]
          by_cases qf : x.f = y.f
          case neg =>
            have hm : headN x y = false := by unfold headN; simp [qf]
            have nf : (x.f == y.f) = false := by simp [qf]
            have mf : (x.f != y.f) = true := by simp [qf]
            clear qf qk
            go_wp2_with fail
            go_meet
            exact ⟨by rw [hm]; rfl, rfl⟩
          have nf : (x.f == y.f) = true := by simp [qf]
          have mf : (x.f != y.f) = false := by simp [qf]
          by_cases qt : x.t = y.t
          case neg =>
            have hm : headN x y = false := by unfold headN; simp [qt]
            have nt : (x.t == y.t) = false := by simp [qt]
            have mt : (x.t != y.t) = true := by simp [qt]
            clear qt qk qf
            go_wp2_with fail
            go_meet
            exact ⟨by rw [hm]; rfl, rfl⟩
          have nt : (x.t == y.t) = true := by simp [qt]
          have mt : (x.t != y.t) = false := by simp [qt]
          by_cases qu : x.u = y.u
          case neg =>
            have hm : headN x y = false := by unfold headN; simp [qu]
            have nu : (x.u == y.u) = false := by simp [qu]
            have mu : (x.u != y.u) = true := by simp [qu]
            clear qu qk qf qt
            go_wp2_with fail
            go_meet
            exact ⟨by rw [hm]; rfl, rfl⟩
          have nu : (x.u == y.u) = true := by simp [qu]
          have mu : (x.u != y.u) = false := by simp [qu]
          have hY : headN x y = ((x.y == y.y) && decide (x.ks.length = y.ks.length)) := by unfold headN; simp [qk, qf, qt, qu]
          obtain ⟨xy, hxy⟩ : ∃ xy, x.y = xy := ⟨_, rfl⟩
          obtain ⟨yy, hyy⟩ : ∃ yy, y.y = yy := ⟨_, rfl⟩
          rw [hxy] at x5 hY
          rw [hyy] at y5 hY
          clear hxy hyy qk qf qt qu
          by_cases qy : xy = yy
          case neg =>
            have hm : headN x y = false := by rw [hY]; simp [qy]
            clear hY
            cases xy
            all_goals cases yy
            all_goals first | exact absurd rfl qy | skip
            all_goals clear qy
            · go_wp2_with fail
              go_meet
              exact ⟨by rw [hm]; rfl, rfl⟩
            · go_wp2_with fail
              go_meet
              exact ⟨by rw [hm]; rfl, rfl⟩
          subst qy
          by_cases qn : x.ks.length = y.ks.length
          · have hm : headN x y = true := by rw [hY]; simp [qn]
            have nn : ((x.ks.length : Int) == (y.ks.length : Int)) = true := by simp [qn]
            have mn : ((x.ks.length : Int) != (y.ks.length : Int)) = false := by simp [bne, nn]
            have nn2 : (x.ks.length == y.ks.length) = true := by simp [qn]
            have mn2 : (x.ks.length != y.ks.length) = false := by simp [qn]
            clear hY qn
            cases xy
            · go_wp2_with fail
              go_meet
              exact ⟨by rw [hm]; rfl, rfl⟩
            · go_wp2_with fail
              go_meet
              exact ⟨by rw [hm]; rfl, rfl⟩
          · have hm : headN x y = false := by rw [hY]; simp [qn]
            have nn : ((x.ks.length : Int) == (y.ks.length : Int)) = false := by simp; omega
            have mn : ((x.ks.length : Int) != (y.ks.length : Int)) = true := by simp [bne, nn]
            have nn2 : (x.ks.length == y.ks.length) = false := by simp [qn]
            have mn2 : (x.ks.length != y.ks.length) = true := by simp [qn]
            clear hY qn
            cases xy
            · go_wp2_with fail
              go_meet
              exact ⟨by rw [hm]; rfl, rfl⟩
            · go_wp2_with fail
              go_meet
              exact ⟨by rw [hm]; rfl, rfl⟩
        case rest =>
        obtain ⟨rfl, rfl⟩ := hcut
        have HB3 := Lib.hid (HB.out.trans (HBw.out.mono HB.out.size))
        obtain ⟨H, hH⟩ : ∃ H, headN x y = H := ⟨_, rfl⟩
        rw [hH]
        cases H with
        | false =>
          have HD := Lib.hid (HQ.out false w3 ⟨(HNo.out i x y HXi.out HYi.out (head_no hH)).symm, below_from HB1.out HB3.out⟩)
          clear hH x0 x1 x2 x3 x4 x5 y0 y1 y2 y3 y4 y5
          go_wp2_with fail
          exact HD.out
        | true =>
          have hlen := head_len hH
          rw [← hlen] at y4 hkl2
          have HRy : Hid (Reads encI wr (.slice ka2 x.ks.length kc2) y.ks) := Lib.hid (by rw [hlen]; exact HRd2.out)
          obtain ⟨n, hn⟩ : ∃ n, x.ks.length = n := ⟨_, rfl⟩
          rw [hn] at x4 y4 HRy hkl hkl2
          have HRx : Hid (Reads encI wr (.slice ka n kc) x.ks) := Lib.hid (by rw [← hn]; exact HRd.out)
          have Hn := Lib.hid hn
          have HLe := Lib.hid hlen
          have HH := Lib.hid hH
          have HX4 := Lib.hid (fun W (hb : Below w3.heap.size w3 W) => at_below hb x4)
          have HY4 := Lib.hid (fun W (hb : Below w3.heap.size w3 W) => at_below hb y4)
          have HRx3 := Lib.hid (HRx.out.below HBw.out)
          have HRy3 := Lib.hid (HRy.out.below HBw.out)
          clear hlen hn hH x0 x1 x2 x3 x4 x5 y0 y1 y2 y3 y4 y5
          go_wp2_with fail
          go_loopw [8] (fun iv ws => ∃ (k : Nat), iv = .int .i64 k ∧ k ≤ n ∧ Hid (x.ks.take k = y.ks.take k) ∧ Hid (Below w3.heap.size w3 ws)) (fun iv _ => n - (intOf iv).toNat)
          case atStart => exact ⟨0, rfl, Nat.zero_le _, Lib.hid rfl, Lib.hid (Below.refl _ _)⟩
          case round =>
            rename World => ws
            obtain ⟨k, rfl, hk, HT, HBk⟩ := hrel
            have x4 := HX4.out ws HBk.out
            have y4 := HY4.out ws HBk.out
            by_cases hlk : k < n
            · obtain ⟨xa, hxa⟩ : ∃ xa, x.ks[k]? = some xa := ⟨_, List.getElem?_eq_getElem (by rw [Hn.out]; exact hlk)⟩
              obtain ⟨ya, hya⟩ : ∃ ya, y.ks[k]? = some ya := ⟨_, List.getElem?_eq_getElem (by rw [← HLe.out, Hn.out]; exact hlk)⟩
              have hr1 := HRx3.out.below HBk.out
              have hr2 := HRy3.out.below HBk.out
              rw [← Hn.out] at hr1
              rw [show n = y.ks.length from by rw [← HLe.out]; exact Hn.out.symm] at hr2
              obtain ⟨kb, ko, rfl, zx⟩ := kids_at hr1 k xa hxa
              obtain ⟨kb2, ko2, rfl, zy⟩ := kids_at hr2 k ya hya
              have hkk : (k : Int) < (n : Int) := by omega
              by_cases e : xa = ya
              · subst e
                have HT2 := Lib.hid (show x.ks.take (k + 1) = y.ks.take (k + 1) by rw [List.take_add_one, List.take_add_one, hxa, hya, HT.out])
                clear hxa hya hr1 hr2
                go_upto_region 12 with fail
                go_quiet (fail)
                have HB5 := Lib.hid (below_drewN (Below.refl ws.heap.size ws) nq)
                go_wp2_with fail
                go_roundw
                case rel =>
                  first
                    | exact ⟨k + 1, by go_num, by omega, HT2, Lib.hid (HBk.out.trans (HB5.out.mono HBk.out.size))⟩
                    | ((repeat apply Exists.intro); exact ⟨⟨k + 1, by go_num, by omega, HT2, Lib.hid (HBk.out.trans (HB5.out.mono HBk.out.size))⟩, rfl⟩)
                case measure => simp [intOf]; omega
              · have e1 : (xa == ya) = false := by simp [e]
                have e2 : (xa != ya) = true := by simp [e]
                have HD := Lib.hid (fun W (hb : Below ws.heap.size ws W) => HQ.out false W ⟨(HNo.out i x y HXi.out HYi.out (kids_no k xa ya hxa hya e)).symm, below_from HB1.out (HB3.out.trans ((HBk.out.trans (hb.mono HBk.out.size)).mono HB3.out.size))⟩)
                clear hxa hya hr1 hr2 e
                go_upto_region 12 with fail
                go_quiet (fail)
                have HB5 := Lib.hid (below_drewN (Below.refl ws.heap.size ws) nq)
                have HD2 := Lib.hid (HD.out _ HB5.out)
                go_wp2_with fail
                exact HD2.out
            · obtain rfl : k = n := by omega
              have hkk : ¬ ((k : Int) < (k : Int)) := by omega
              have hall : sameNd x y = true := kids_all HH.out (by rw [Hn.out]; exact HT.out)
              have HA2 := Lib.hid (show ∀ (j : Nat) x' y', j < i + 1 → l[j]? = some x' → q[j]? = some y' → sameNd x' y' = true from fun j x' y' hj h1 h2 => by
                by_cases e : j = i
                · subst e
                  rw [HXi.out] at h1
                  rw [HYi.out] at h2
                  injection h1 with h1
                  injection h2 with h2
                  subst h1 h2
                  exact hall
                · exact HA.out j x' y' (by omega) h1 h2)
              have HB6 := Lib.hid (HB3.out.trans (HBk.out.mono HB3.out.size))
              clear hall hlk
              go_wp2_with fail
              go_roundw
              case rel =>
                first
                  | exact ⟨i + 1, by go_num, by omega, HA2, HB6⟩
                  | ((repeat apply Exists.intro); exact ⟨⟨i + 1, by go_num, by omega, HA2, HB6⟩, rfl⟩)
              case measure => simp [intOf]; omega
      · obtain rfl : i = N := by omega
        have hii : ¬ ((i : Int) < (i : Int)) := by omega
        have hr : true = R := (HAll.out True.intro (fun j x y h1 h2 => HA.out j x y (by rw [← HN.out]; exact (List.getElem?_eq_some_iff.1 h1).1) h1 h2)).symm
        have HD := Lib.hid (HQ.out true wr ⟨hr, below_from HB1.out HB.out⟩)
        clear hlt hr
        go_wp2_with fail
        exact HD.out
  · have hnn : ((N : Int) == (M : Int)) = false := by simp; omega
    have HD := Lib.hid (HQ.out false w1 ⟨(HLn.out hne).symm, HB1.out⟩)
    clear hne
    go_wp2_with fail
    exact HD.out
end Go.Proofs.Ythkieidcjakhgaa
