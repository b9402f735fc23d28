/- Package arena: Grow, Add. -/
import Derived.Test.YthkieidcjakhgaaAq8
import Derived.Test.YthkieidcjakhgaaR10Tl
namespace Go.Proofs.Ythkieidcjakhgaa
open Go.RowKit
open Go.Proofs.Ythkieidcjakhgaa.Sq
open Go.Proofs.Ythkieidcjakhgaa.Ar
set_option linter.unusedVariables false

theorem changed_none (v : Value) (l : List Nd) (w : World) (h : Nodes w v l) (hG : Ar.Good l) (hs : l.length ≤ 500) (hk : ∀ x ∈ l, x.ks.length ≤ 500) :
    Calls Try.prog 26 #[.agg #[v], .slice none 0 0] w (Treed false l w) :=
  aChanged .none v l none 0 w h hG hs hk trivial (fun k hk => absurd hk (Nat.not_lt_zero k))
theorem changed_one (ch : Ch) (hn : ch.n = 1) (v : Value) (l : List Nd) (w : World) (cb : Nat) (h : Nodes w v l) (hG : Ar.Good l) (hs : l.length ≤ 500) (hk : ∀ x ∈ l, x.ks.length ≤ 500) (ho : ch.ok l) (hc : w.cell? ⟨cb, 0, none⟩ = some ch.cell) :
    Calls Try.prog 26 #[.agg #[v], .slice (some ⟨cb, 0, none⟩) 1 1] w (Treed false (ch.res l) w) := by
  have := aChanged ch v l (some ⟨cb, 0, none⟩) 1 w h hG hs hk ho (fun k hk => by
    rw [hn] at hk
    obtain rfl : k = 0 := by omega
    exact ⟨cb, rfl, hc⟩)
  rw [hn] at this
  exact this
set_option maxHeartbeats 4000000 in
set_option maxRecDepth 100000 in
theorem aGrow : PGrow := by
  intro v l i t w h hG hs hk
  obtain ⟨a, cap, rfl⟩ := h.shape
  obtain ⟨y, hy, hyt⟩ := first_at hG.pos
  obtain ⟨R, hR⟩ : ∃ R, growN l i t = R := ⟨_, rfl⟩
  have HX := Lib.hid (fun W (hb : Below w.heap.size w W) => h.below hb)
  have HC0 := Lib.hid (fun W (hb : Below w.heap.size w W) => changed_none _ l W (h.below hb) hG (by omega) (fun x hx => Nat.le_trans (hk x hx) (by omega)))
  have HC1 := Lib.hid (fun (k : Nat) W cb (hkl : k < l.length) (hb : Below w.heap.size w W) (hc : W.cell? ⟨cb, 0, none⟩ = some (Ch.grow k t).cell) => changed_one (.grow k t) rfl _ l W cb (h.below hb) hG (by omega) (fun x hx => Nat.le_trans (hk x hx) (by omega)) hkl hc)
  obtain ⟨N, hN⟩ : ∃ N, l.length = N := ⟨_, rfl⟩
  have hm : mayGrow l i t = !(decide (i < 0) || decide ((N : Int) ≤ i) || decide (y.t < t)) := by unfold mayGrow; rw [hN, hyt]
  have hgr : R = if mayGrow l i t = true then reachN l i t else l := hR.symm
  rw [hm] at hgr
  have HQ := Lib.hid (fun u w' => show (Nodes w' u R ∧ Below w.heap.size w w') → Treed false R w (.returned (.agg #[u])) w' from fun h => ⟨u, rfl, h.1, fun e => absurd e (by decide), h.2⟩)
  rw [hR]
  obtain ⟨Q, hQ⟩ : ∃ Q, Treed false R w = Q := ⟨_, rfl⟩
  rw [hQ] at HQ ⊢
  have hpos := hG.pos
  rw [hN] at HX HC0 HC1 hs hpos ⊢
  have HN := Lib.hid hN
  have HY := Lib.hid hy
  have HGr := Lib.hid hgr
  obtain ⟨w1, hw1⟩ : ∃ w1, (w.alloc (.cells #[.slice a N cap] 27)).alloc (.cells #[.slice none 0 0] 27) = w1 := ⟨_, rfl⟩
  obtain ⟨Bt, hBt⟩ : ∃ Bt, w.heap.size = Bt := ⟨_, rfl⟩
  obtain ⟨Br, hBr⟩ : ∃ Br, w.heap.size + 1 = Br := ⟨_, rfl⟩
  have hb1 := below_allocS (below_alloc w (.cells #[.slice a N cap] 27)) (.cells #[.slice none 0 0] 27)
  have ct : w1.cell? ⟨Bt, 0, none⟩ = some (.slice a N cap) := by rw [← hw1, ← hBt]; exact at_alloc (at_new rfl)
  have cr : Hld w1 Br 0 (.slice none 0 0) := by
    rw [← hw1, ← hBr]
    have h := hld_new (W := w.alloc (.cells #[.slice a N cap] 27)) (C := #[.slice none 0 0]) (t := 27) (k := 0) rfl
    rw [size_alloc] at h
    exact h
  rw [hw1] at hb1
  have HB1 := Lib.hid hb1
  have HCr := Lib.hid cr
  have HH := Lib.hid (fun W => has_any a N cap i W (by omega))
  have HW1 := Lib.hid hw1
  have HBt := Lib.hid hBt
  have HBr := Lib.hid hBr
  have hwr : w.heap.size ≤ Br := by omega
  clear h hG hk hR hQ hN hm hgr hy hyt hw1 hBt hBr hb1 cr
  go_enter Try.func16, Try.ntmps16
  go_upto_region 1 with fail
  rw [HW1.out, HBr.out, HBt.out]
  clear HW1 HBr HBt
  go_wp2_with fail
  refine (HH.out _).mono ?_
  rintro e w2 ⟨rfl, hb2⟩
  have ct2 := at_below hb2 ct
  have HCr2 := Lib.hid (hld_below hb2 HCr.out)
  have HB2 := Lib.hid (below_from HB1.out hb2)
  clear hb2 ct
  have hno : R = l → ∀ (e : Ending) (w4 : World), Treed false l w2 e w4 → ∃ ua un uc, e = .returned (.agg #[.slice ua un uc]) ∧ Hld w4 Br 0 (.slice none 0 0) ∧ Q (.returned (.agg #[.slice ua un uc])) (w4.setCell ⟨Br, 0, none⟩ (.slice ua un uc)) := by
    rintro rfl e w4 ⟨u, rfl, hn, -, hb⟩
    obtain ⟨ua, uc, rfl⟩ := hn.shape
    have hc := hld_below hb HCr2.out
    exact ⟨ua, _, uc, rfl, hc, HQ.out _ _ ⟨hn.set hc.1 _, (below_from HB2.out hb).setCell (p := ⟨Br, 0, none⟩) hwr _⟩⟩
  have HNo := Lib.hid hno
  have HC02 := Lib.hid (HC0.out w2 HB2.out)
  clear hno HC0
  cases hh : hasN N i with
  | false =>
    have hr : R = l := by
      rw [HGr.out, if_neg]
      unfold hasN at hh
      by_cases c1 : i < 0
      · simp [c1]
      · by_cases c2 : i < (N : Int)
        · simp [c2] at hh; omega
        · have : (N : Int) ≤ i := by omega
          simp [this]
    have HNo2 := Lib.hid (HNo.out hr)
    clear hh hr
    go_wp2_with fail
    refine HC02.out.mono ?_
    rintro e w4 ht
    obtain ⟨ua, un, uc, rfl, hc, hq⟩ := HNo2.out _ _ ht
    have cr0 := hc.1
    have fr0 := hc.2
    have HD := Lib.hid hq
    clear ht hc hq
    go_wp2_with fail
    refine bodyPost_ret (v := .agg #[.slice ua un uc]) ?_ rfl HD.out
    simp [results, Try.results16, go_sem, cr0, cell_set_eq]
  | true =>
    obtain ⟨k, rfl⟩ : ∃ k : Nat, i = (k : Int) := ⟨i.toNat, by unfold hasN at hh; simp at hh; omega⟩
    have hkN : k < N := by unfold hasN at hh; simp at hh; omega
    have hX2 := HX.out w2 HB2.out
    rw [← HN.out] at hX2
    obtain ⟨b, off, _, _, rfl, -, -, y2, -, -, -, -⟩ := hX2.at_ 0 y HY.out
    simp only [Nat.zero_mul, Nat.add_zero] at y2
    have hN0 : (0 : Int) < (N : Int) := by omega
    clear hX2 hh
    by_cases q : y.t < t
    · have hr : R = l := by rw [HGr.out, if_neg]; simp [q]
      have HNo2 := Lib.hid (HNo.out hr)
      have d1 : decide (y.t < t) = true := decide_eq_true q
      clear hr
      go_wp2_with fail
      refine HC02.out.mono ?_
      rintro e w4 ht
      obtain ⟨ua, un, uc, rfl, hc, hq⟩ := HNo2.out _ _ ht
      have cr0 := hc.1
      have fr0 := hc.2
      have HD := Lib.hid hq
      clear ht hc hq
      go_wp2_with fail
      refine bodyPost_ret (v := .agg #[.slice ua un uc]) ?_ rfl HD.out
      simp [results, Try.results16, go_sem, cr0, cell_set_eq]
    · have hr : (Ch.grow k t).res l = R := by
        rw [HGr.out, if_pos]
        · rfl
        · have h1 : ¬ ((k : Int) < 0) := by omega
          have h2 : ¬ ((N : Int) ≤ (k : Int)) := by omega
          simp [h1, h2, q]
      have d1 : decide (y.t < t) = false := decide_eq_false q
      have hcall := HC1.out k (w2.alloc (.cells #[.iface 55 (.agg #[.int .i64 k, .int .i64 t])] 20)) w2.heap.size hkN (below_allocS HB2.out _) (at_new rfl)
      rw [hr] at hcall
      have HCa := Lib.hid hcall
      have HB3 := Lib.hid (below_allocS HB2.out (.cells #[.iface 55 (.agg #[.int .i64 k, .int .i64 t])] 20))
      have HCr3 := Lib.hid (hld_alloc (o := .cells #[.iface 55 (.agg #[.int .i64 k, .int .i64 t])] 20) HCr2.out)
      clear hr hcall q
      go_wp2_with fail
      refine HCa.out.mono ?_
      rintro e w4 ⟨u, rfl, hn, -, hb⟩
      obtain ⟨ua, uc, rfl⟩ := hn.shape
      obtain ⟨un, hun⟩ : ∃ un, R.length = un := ⟨_, rfl⟩
      rw [hun] at hn ⊢
      have hc := hld_below hb HCr3.out
      have cr0 := hc.1
      have fr0 := hc.2
      have HD := Lib.hid (HQ.out _ _ ⟨hn.set cr0 (.slice ua un uc), (below_from HB3.out hb).setCell (p := ⟨Br, 0, none⟩) hwr _⟩)
      clear hn hb hc hun
      go_wp2_with fail
      refine bodyPost_ret (v := .agg #[.slice ua un uc]) ?_ rfl HD.out
      simp [results, Try.results16, go_sem, cr0, cell_set_eq]
end Go.Proofs.Ythkieidcjakhgaa
