/- The chapter's own arena (correctorref10): New, Grow. -/
import Derived.Test.YthkieidcjakhgaaAr4
import Derived.Test.YthkieidcjakhgaaHe
namespace Go.Proofs.Ythkieidcjakhgaa
open Go.RowKit
open Go.Proofs.Ythkieidcjakhgaa.Sq
open Go.Proofs.Ythkieidcjakhgaa.Ar
set_option linter.unusedVariables false

/-- A tree is answered; where it is a new one (own) it is the call's own. -/
def Treed (own : Bool) (R : List Nd) (w : World) (e : Ending) (w' : World) : Prop :=
  ∃ u, e = .returned (.agg #[u]) ∧ Nodes w' u R ∧ (own = true → ∃ L, L.map Ln.nd = R ∧ OT w' w.heap.size u L) ∧ Below w.heap.size w w'
/-- A literal row is the call's own. -/
theorem own_lit {α : Type} (E : Enc α) (w : World) (e B : Nat) (l : List α) (C : Array Value) (hC : C = (E.all l).toArray) (hl : l.length ≤ 1000) (hB : B ≤ w.heap.size) :
    (w.alloc (.cells C e)).ownsRow B e E.k (.slice (some ⟨w.heap.size, 0, none⟩) l.length l.length) l.length (E.all l) := by
  subst hC
  refine ⟨all_len E l, .inr ⟨w.heap.size, l.length, (E.all l).toArray, rfl, hB, heap_alloc_new w _, Nat.le_refl _, by simp only [maxLen]; omega, by simp [all_len], ?_⟩⟩
  rw [← all_len E l]
  simp
theorem ot_one (w : World) (B : Nat) (x : Nd) (hx : x.ks = []) (hB : B ≤ w.heap.size) : OT (w.alloc (.cells #[.int .i64 x.k, .int .i64 x.f, .int .i64 x.t, .int .i64 x.u, .slice none 0 0, .bool x.y] 48)) B (.slice (some ⟨w.heap.size, 0, none⟩) 1 1) [⟨x, none, 0, 0⟩] := by
  refine ⟨own_lit encN w _ B [(⟨x, none, 0, 0⟩ : Ln)] _ rfl (by simp) hB, fun i p hp => ?_, fun i j p q hij hp hq => ?_⟩
  · cases i with
    | zero =>
      obtain rfl : (⟨x, none, 0, 0⟩ : Ln) = p := by simpa using hp
      show World.ownsRow _ _ _ _ (.slice none 0 0) x.ks.length (encI.all x.ks)
      rw [hx]
      exact own_nil encI _ _
    | succ i => simp at hp
  · cases i with
    | zero =>
      cases j with
      | zero => exact absurd rfl hij
      | succ j => simp at hq
    | succ i => simp at hp
theorem OT.setTo {w : World} {B : Nat} {v : Value} {L : List Ln} (h : OT w B v L) (b : Nat) (hb : b < B) (u : Value) : OT (w.setCell ⟨b, 0, none⟩ u) B v L :=
  ⟨ownsRow_setCell_below h.row (a := ⟨b, 0, none⟩) hb u, fun i p hp => ownsRow_setCell_below (h.kids i p hp) (a := ⟨b, 0, none⟩) hb u, h.apart⟩
theorem ot_new (w : World) (u : Value) (x : Nd) (hx : x.ks = []) : OT ((w.alloc (.cells #[u] 29)).alloc (.cells #[.int .i64 x.k, .int .i64 x.f, .int .i64 x.t, .int .i64 x.u, .slice none 0 0, .bool x.y] 48)) w.heap.size (.slice (some ⟨w.heap.size + 1, 0, none⟩) 1 1) [⟨x, none, 0, 0⟩] := by
  have h := ot_one (w.alloc (.cells #[u] 29)) w.heap.size x hx (by simp)
  rw [size_alloc] at h
  exact h
set_option maxHeartbeats 1000000 in
theorem rNew (n : Int) (w : World) : Calls Try.prog 11 #[.int .i64 n] w (Treed true (newN n) w) := by
  obtain ⟨m, hm⟩ : ∃ m, (if n < 0 ∨ 32768 < n then 0 else n) = m := ⟨_, rfl⟩
  have e : newN n = [⟨1, 0, m, -1, [], false⟩] := by unfold newN; rw [hm]
  have hO := fun u => ot_new w u ⟨1, 0, m, -1, [], false⟩ rfl
  have HO := Lib.hid hO
  rw [e]
  have HB := Lib.hid (fun o o' => below_allocS (below_alloc w o) o')
  clear e hO
  by_cases h1 : n < 0
  · rw [if_pos (.inl h1)] at hm
    subst hm
    go_enter Try.func11, Try.ntmps11
    go_wp2
    refine bodyPost_ret (v := .agg #[.slice (some ⟨w.heap.size + 1, 0, none⟩) 1 1]) ?_ rfl ⟨_, rfl, (HO.out _).nodes, fun _ => ⟨_, rfl, HO.out _⟩, HB.out _ _⟩
    simp [results, Try.results11, go_sem]
  · by_cases h2 : 32768 < n
    · rw [if_pos (.inr h2)] at hm
      subst hm
      go_enter Try.func11, Try.ntmps11
      go_wp2
      refine bodyPost_ret (v := .agg #[.slice (some ⟨w.heap.size + 1, 0, none⟩) 1 1]) ?_ rfl ⟨_, rfl, (HO.out _).nodes, fun _ => ⟨_, rfl, HO.out _⟩, HB.out _ _⟩
      simp [results, Try.results11, go_sem]
    · rw [if_neg (fun h => h.elim h1 h2)] at hm
      subst hm
      go_enter Try.func11, Try.ntmps11
      go_wp2
      refine bodyPost_ret (v := .agg #[.slice (some ⟨w.heap.size + 1, 0, none⟩) 1 1]) ?_ rfl ⟨_, rfl, (HO.out _).nodes, fun _ => ⟨_, rfl, HO.out _⟩, HB.out _ _⟩
      simp [results, Try.results11, go_sem]
/-- A tree's first node. -/
theorem first_at {l : List Nd} (h : 0 < l.length) : ∃ x, l[0]? = some x ∧ firstT l = x.t := by
  cases l with
  | nil => simp at h
  | cons x r => exact ⟨x, rfl, rfl⟩
set_option maxHeartbeats 4000000 in
set_option maxRecDepth 100000 in
theorem rGrow (v : Value) (l : List Nd) (i t : Int) (w : World) (h : Nodes w v l) (hG : Ar.Good l) (hs : l.length ≤ 1000) (hk : ∀ x ∈ l, x.ks.length ≤ 1000) :
    Calls Try.prog 12 #[.agg #[v], .int .i64 i, .int .i64 t] w (Treed (mayGrow l i t) (growN l i t) w) := by
  obtain ⟨a, cap, rfl⟩ := h.shape
  obtain ⟨y, hy, hyt⟩ := first_at hG.pos
  have HX := Lib.hid (fun W (hb : Below w.heap.size w W) => h.below hb)
  have HC := Lib.hid (fun W (hb : Below w.heap.size w W) => rCopied _ l W (h.below hb) hs hk)
  obtain ⟨N, hN⟩ : ∃ N, l.length = N := ⟨_, rfl⟩
  have hm : mayGrow l i t = !(decide (i < 0) || decide ((N : Int) ≤ i) || decide (y.t < t)) := by unfold mayGrow; rw [hN, hyt]
  have hgr : growN l i t = if mayGrow l i t = true then reachN l i t else l := rfl
  obtain ⟨M, hM⟩ : ∃ M, mayGrow l i t = M := ⟨_, rfl⟩
  obtain ⟨R, hR⟩ : ∃ R, growN l i t = R := ⟨_, rfl⟩
  rw [hM] at hm hgr
  rw [hR] at hgr
  have HQ := Lib.hid (fun u w' => show (Nodes w' u R ∧ (M = true → ∃ L, L.map Ln.nd = R ∧ OT w' w.heap.size u L) ∧ Below w.heap.size w w') → Treed M R w (.returned (.agg #[u])) w' from fun h => ⟨u, rfl, h⟩)
  rw [hM, hR]
  obtain ⟨Q, hQ⟩ : ∃ Q, Treed M R w = Q := ⟨_, rfl⟩
  rw [hQ] at HQ ⊢
  rw [hN] at HX HC ⊢
  have hpos := hG.pos
  rw [hN] at hpos
  have HG := Lib.hid hG
  have HY := Lib.hid hy
  have HN := Lib.hid hN
  have HGr := Lib.hid hgr
  obtain ⟨w2, hw2⟩ : ∃ w2, (w.alloc (.cells #[.slice a N cap] 29)).alloc (.cells #[.slice none 0 0] 29) = w2 := ⟨_, rfl⟩
  obtain ⟨Bt, hBt⟩ : ∃ Bt, w.heap.size = Bt := ⟨_, rfl⟩
  obtain ⟨Br, hBr⟩ : ∃ Br, w.heap.size + 1 = Br := ⟨_, rfl⟩
  have hb2 := below_allocS (below_alloc w (.cells #[.slice a N cap] 29)) (.cells #[.slice none 0 0] 29)
  have ct : w2.cell? ⟨Bt, 0, none⟩ = some (.slice a N cap) := by rw [← hw2, ← hBt]; exact at_alloc (at_new rfl)
  have cr : Hld w2 Br 0 (.slice none 0 0) := by
    rw [← hw2, ← hBr]
    have h := hld_new (W := w.alloc (.cells #[.slice a N cap] 29)) (C := #[.slice none 0 0]) (t := 29) (k := 0) rfl
    rw [size_alloc] at h
    exact h
  rw [hw2] at hb2
  have HB2 := Lib.hid hb2
  have HCr := Lib.hid cr
  have HW2 := Lib.hid hw2
  have HBt := Lib.hid hBt
  have hlt : Br < w2.heap.size := lt_of_cell cr.1
  have hbr : w.heap.size ≤ Br := by omega
  have HBr := Lib.hid hBr
  clear h hy hyt hk hN hM hR hQ hgr hG hw2 hBt hBr hb2 cr
  go_enter Try.func12, Try.ntmps12
  go_upto_region 1 with fail
  rw [HW2.out, HBr.out, HBt.out]
  clear HW2 HBr HBt
  have cr0 := HCr.out.1
  have fr0 := HCr.out.2
  by_cases q1 : i < 0
  · obtain rfl : M = false := by rw [hm]; simp [q1]
    have hr : R = l := by rw [HGr.out]; rfl
    have HD := Lib.hid (HQ.out (.slice a N cap) _ ⟨by rw [hr]; exact HX.out _ (HB2.out.setCell (p := ⟨Br, 0, none⟩) hbr (.slice a N cap)), fun e => absurd e (by decide), HB2.out.setCell (p := ⟨Br, 0, none⟩) hbr (.slice a N cap)⟩)
    clear hm hr
    go_wp2_with fail
    refine bodyPost_ret (v := .agg #[.slice a N cap]) ?_ rfl HD.out
    simp [results, Try.results12, go_sem, cr0, cell_set_eq]
  by_cases q2 : (N : Int) ≤ i
  · obtain rfl : M = false := by rw [hm]; simp [q2]
    have hr : R = l := by rw [HGr.out]; rfl
    have HD := Lib.hid (HQ.out (.slice a N cap) _ ⟨by rw [hr]; exact HX.out _ (HB2.out.setCell (p := ⟨Br, 0, none⟩) hbr (.slice a N cap)), fun e => absurd e (by decide), HB2.out.setCell (p := ⟨Br, 0, none⟩) hbr (.slice a N cap)⟩)
    clear hm hr
    go_wp2_with fail
    refine bodyPost_ret (v := .agg #[.slice a N cap]) ?_ rfl HD.out
    simp [results, Try.results12, go_sem, cr0, cell_set_eq]
  have y0 := HX.out w2 HB2.out
  rw [← HN.out] at y0
  obtain ⟨b, off, ka, kc, rfl, -, -, y2, -, -, -, -⟩ := y0.at_ 0 y HY.out
  simp only [Nat.zero_mul, Nat.add_zero] at y2
  have hN0 : (0 : Int) < (N : Int) := by omega
  clear y0
  by_cases q3 : y.t < t
  · obtain rfl : M = false := by rw [hm]; simp [q3]
    have hr : R = l := by rw [HGr.out]; rfl
    have HD := Lib.hid (HQ.out (.slice (some ⟨b, off, none⟩) N cap) _ ⟨by rw [hr]; exact HX.out _ (HB2.out.setCell (p := ⟨Br, 0, none⟩) hbr (.slice (some ⟨b, off, none⟩) N cap)), fun e => absurd e (by decide), HB2.out.setCell (p := ⟨Br, 0, none⟩) hbr (.slice (some ⟨b, off, none⟩) N cap)⟩)
    clear hm hr
    go_wp2_with fail
    refine bodyPost_ret (v := .agg #[.slice (some ⟨b, off, none⟩) N cap]) ?_ rfl HD.out
    simp [results, Try.results12, go_sem, cr0, cell_set_eq]
  · have hmt : M = true := by rw [hm]; simp [q1, q2, q3]
    have hr : R = reachN l i t := by rw [HGr.out, if_pos hmt]
    have HRr := Lib.hid hr
    have HCw := Lib.hid (HC.out w2 HB2.out)
    clear hm hr hmt
    go_wp2_with fail
    refine HCw.out.mono ?_
    rintro e w3 ⟨u, rfl, ⟨L, hL, hO⟩, hb3⟩
    have hln : L.length = N := by rw [← HN.out, ← hL, List.length_map]
    obtain ⟨g, cp, hu, hBg, _, _, _⟩ := own_at hO.row (by omega)
    subst hu
    rw [hln] at hO ⊢
    have hre := rReach g cp w2.heap.size N L i t w3 hO hln (by rw [hL]; exact HG.out) (by omega) (by omega)
    rw [hL, ← HRr.out] at hre
    have HRe := Lib.hid hre
    have HB3 := Lib.hid (below_from HB2.out hb3)
    have cr3 := hld_below hb3 HCr.out
    have HCr3 := Lib.hid cr3
    have hb3s := hb3.size
    clear hL hO hln hBg hre hb3 cr3 y2 cr0 fr0
    go_wp2_with fail
    refine HRe.out.mono ?_
    rintro e w4 ⟨rfl, ⟨L2, hL2, hO2⟩, hb4⟩
    have cr4 : Hld w4 Br 0 (.slice none 0 0) := ⟨by rw [hb4.cell (p := ⟨Br, 0, none⟩) hlt]; exact HCr3.out.1, by rw [hb4.frozen (p := ⟨Br, 0, none⟩) hlt]; exact HCr3.out.2⟩
    have cr40 := cr4.1
    have fr40 := cr4.2
    have hO5 := hO2.setTo Br hlt (.slice (some ⟨g, 0, none⟩) N cp)
    have hb5 := (HB3.out.trans (hb4.mono HB2.out.size)).setCell (p := ⟨Br, 0, none⟩) hbr (.slice (some ⟨g, 0, none⟩) N cp)
    have HD := Lib.hid (HQ.out (.slice (some ⟨g, 0, none⟩) N cp) _ ⟨hL2 ▸ hO5.nodes, fun _ => ⟨L2, hL2, hO5.base HB2.out.size⟩, hb5⟩)
    clear hL2 hO2 hb4 cr4 hO5 hb5
    go_wp2
    refine bodyPost_ret (v := .agg #[.slice (some ⟨g, 0, none⟩) N cp]) ?_ rfl HD.out
    simp [results, Try.results12, go_sem, cr40, cell_set_eq]
end Go.Proofs.Ythkieidcjakhgaa
