/- Chapter 4's reference: Check, Map; the statements' Few. -/
import Derived.Test.YtomihekgcnilhaaE1
namespace Go.Proofs.Ytomihekgcnilhaa
open Go.RowKit
open Go.Proofs.Ytomihekgcnilhaa.Sq

/-- The texts of edits are no longer than texts can be. -/
def Short (l : List Et) : Prop := ∀ e ∈ l, e.p.size ≤ maxLen
/-- Where the one ahead of place k ends. -/
def prevT (l : List Et) : Nat → Option Int
  | 0 => none
  | k + 1 => (l[k]?).map (·.t)
theorem drop_at {l : List Et} {k : Nat} {x : Et} (h : l[k]? = some x) : (l.map Et.ed).drop k = x.ed :: (l.map Et.ed).drop (k + 1) := by
  have hk : k < l.length := (List.getElem?_eq_some_iff.1 h).1
  have e : (l.map Et.ed)[k]? = some x.ed := by rw [List.getElem?_map, h]; rfl
  rw [List.drop_eq_getElem_cons (by simpa using hk)]
  congr 1
  have := List.getElem?_eq_getElem (l := l.map Et.ed) (i := k) (by simpa using hk)
  rw [this] at e
  exact Option.some.inj e
theorem from_bad {n : Int} {q : Option Int} {e : Ed.E} {r : List Ed.E} (h : Ed.one n e ≠ 0) : Ed.checkFrom n q (e :: r) = Ed.one n e := by
  rw [Ed.checkFrom, if_pos h]
theorem from_low {n : Int} {q : Option Int} {e : Ed.E} {r : List Ed.E} (h : Ed.one n e = 0) (hl : Ed.low q e.f = true) : Ed.checkFrom n q (e :: r) = 6 := by
  rw [Ed.checkFrom, if_neg (by simp [h]), if_pos hl]
theorem from_on {n : Int} {q : Option Int} {e : Ed.E} {r : List Ed.E} (h : Ed.one n e = 0) (hl : Ed.low q e.f = false) : Ed.checkFrom n q (e :: r) = Ed.checkFrom n (some e.t) r := by
  rw [Ed.checkFrom, if_neg (by simp [h]), if_neg (by simp [hl])]
set_option maxHeartbeats 2000000 in
set_option maxRecDepth 100000 in
theorem refCheck (n : Int) (v : Value) (l : List Et) (w : World) (h : Edits w v l) (hS : Short l) :
    Calls Try.prog 19 #[.int .i64 n, v] w fun r w' => r = .returned (.int .i64 (Ed.check n (l.map Et.ed))) ∧ Below w.heap.size w w' := by
  have hsz := h.size_le
  unfold maxLen at hsz
  obtain ⟨a, cap, rfl⟩ := h.shape
  obtain ⟨N, hN⟩ : ∃ N, l.length = N := ⟨_, rfl⟩
  have HA := Lib.hid (fun k x hk => edits_at h k x hk)
  have HN := Lib.hid hN
  have HSh := Lib.hid hS
  have hlen : (l.map Et.ed).length = N := by rw [List.length_map, hN]
  rw [hN] at hsz
  rw [hN]
  unfold Ed.check
  rw [hlen]
  clear hN h hS hlen
  by_cases h200 : 200 < N
  · have h200' : (200 : Int) < (N : Int) := by omega
    rw [if_pos h200]
    go_enter Try.func19, Try.ntmps19
    go_wp2
    go_ret
    exact ⟨rfl, Below.refl _ _⟩
  · have h200' : ¬ ((200 : Int) < (N : Int)) := by omega
    rw [if_neg h200]
    obtain ⟨R, hR⟩ : ∃ R, Ed.checkFrom n none (l.map Et.ed) = R := ⟨_, rfl⟩
    have HR := Lib.hid hR
    rw [hR]
    clear hR
    go_enter Try.func19, Try.ntmps19
    go_wp2_with fail
    go_loopw [5, 6] (fun is _ wr => ∃ k : Nat, is = .int .i64 k ∧ k ≤ N ∧ Hid (Ed.checkFrom n (prevT l k) ((l.map Et.ed).drop k) = R) ∧ Below w.heap.size w wr) (fun is _ _ => N - (intOf is).toNat)
    case atStart => exact ⟨0, rfl, Nat.zero_le _, HR, Below.refl _ _⟩
    case round =>
      obtain ⟨k, rfl, hk, HK, hb⟩ := hrel
      by_cases hlt : k < N
      · have hkl : k < l.length := by rw [HN.out]; exact hlt
        obtain ⟨x, hx⟩ : ∃ x, l[k]? = some x := ⟨_, List.getElem?_eq_getElem hkl⟩
        obtain ⟨b, off, rfl, c0, c1, c2⟩ := HA.out k x hx
        rw [← hb.cell (p := ⟨b, off + k * 3, none⟩) (cell_lt c0)] at c0
        rw [← hb.cell (p := ⟨b, off + k * 3 + 1, none⟩) (cell_lt c1)] at c1
        rw [← hb.cell (p := ⟨b, off + k * 3 + 2, none⟩) (cell_lt c2)] at c2
        have hK := HK.out
        rw [drop_at hx] at hK
        have hone := fun w => refOne n x w (HSh.out x (List.mem_of_getElem? hx))
        obtain ⟨r, hr⟩ : ∃ r, Ed.one n x.ed = r := ⟨_, rfl⟩
        rw [hr] at hone
        have HOne := Lib.hid hone
        have HX := Lib.hid hx
        clear hone
        by_cases hr0 : r = 0
        · subst hr0
          cases k with
          | zero =>
            have e1 : prevT l (0 + 1) = some x.ed.t := by show (l[0]?).map _ = _; rw [hx]; rfl
            have HK2 := Lib.hid (show Ed.checkFrom n (prevT l (0 + 1)) ((l.map Et.ed).drop (0 + 1)) = R by
              rw [e1, ← hK]
              exact (from_on hr rfl).symm)
            clear e1 hr
            have HB := Lib.hid hb
            clear hK hx hb HK
            simp only [Nat.zero_mul, Nat.add_zero] at c0 c1 c2
            have hj2 : 0 < N := hlt
            have hj3 : (0 : Int) < (N : Int) := by omega
            go_wp2_with fail
            refine (HOne.out _).mono ?_
            rintro e w2 ⟨rfl, hb2⟩
            have hbw := HB.out.trans (hb2.mono HB.out.size)
            clear c0 c1 c2 hb2
            go_wp2_with fail
            go_quiet (fail)
            have HBq := Lib.hid (show Below w.heap.size w (w2.drewN nq) from ⟨hbw.os, hbw.tape, hbw.output, hbw.size, hbw.block⟩)
            clear hbw
            go_wp2
            go_roundw
            case rel => exact ⟨1, by rfl, by omega, HK2, HBq.out⟩
            case measure => simp [intOf]; omega
          | succ k =>
            have hkl' : k < l.length := by omega
            obtain ⟨y, hy⟩ : ∃ y, l[k]? = some y := ⟨_, List.getElem?_eq_getElem hkl'⟩
            obtain ⟨b', off', hbe, d0, d1, d2⟩ := HA.out k y hy
            injection hbe with hbe
            injection hbe with e1 e2
            subst e1
            subst e2
            rw [← hb.cell (p := ⟨b, off + k * 3 + 1, none⟩) (cell_lt d1)] at d1
            have hpq : prevT l (k + 1) = some y.t := by show (l[k]?).map _ = _; rw [hy]; rfl
            rw [hpq] at hK
            have HB := Lib.hid hb
            have hj0 : (0 : Int) ≤ (k : Int) := by omega
            have hj2 : (k : Int) < (N : Int) := by omega
            have hj3 : (k : Int) + 1 < (N : Int) := by omega
            have gj : (0 : Int) < (k : Int) + 1 := by omega
            have hjn : (0 : Int) ≤ (k : Int) + 1 := by omega
            have w1 : IntKind.i64.wrap ((k : Int) + 1 - 1) = (k : Int) := by rw [show (k : Int) + 1 - 1 = (k : Int) from by omega]; exact IntWalk.i64_in _ (by omega)
            have w2 : IntKind.i64.wrap (k : Int) = (k : Int) := IntWalk.i64_in _ (by omega)
            have w3 : ((k : Int) + 1).toNat = k + 1 := by omega
            rw [show (((k + 1 : Nat)) : Int) = (k : Int) + 1 from rfl]
            clear d0 d2 hx hy hb HK hpq
            by_cases hov : x.f < y.t
            · have HR6 := Lib.hid (show (6 : Int) = R by
                rw [← hK]
                exact (from_low (q := some y.t) hr (show decide (x.f < y.t) = true from decide_eq_true hov)).symm)
              clear hK hr
              go_wp2_with fail
              refine (HOne.out _).mono ?_
              rintro e wb ⟨rfl, hb2⟩
              have hbw := HB.out.trans (hb2.mono HB.out.size)
              rw [← hb2.cell (p := ⟨b, off + (k + 1) * 3, none⟩) (cell_lt c0)] at c0
              rw [← hb2.cell (p := ⟨b, off + k * 3 + 1, none⟩) (cell_lt d1)] at d1
              clear c1 c2 hb2
              go_wp2_with fail
              go_quiet (fail)
              have HBq := Lib.hid (show Below w.heap.size w (wb.drewN nq) from ⟨hbw.os, hbw.tape, hbw.output, hbw.size, hbw.block⟩)
              clear hbw
              go_wp2
              go_ret
              exact ⟨by rw [HR6.out]; rfl, HBq.out⟩
            · have hov' : decide (x.f < y.t) = false := decide_eq_false hov
              have HK2 := Lib.hid (show Ed.checkFrom n (prevT l (k + 1 + 1)) ((l.map Et.ed).drop (k + 1 + 1)) = R by
                have e : prevT l (k + 1 + 1) = some x.ed.t := by show (l[k + 1]?).map _ = _; rw [HX.out]; rfl
                rw [e, ← hK]
                exact (from_on (q := some y.t) hr (show decide (x.f < y.t) = false from hov')).symm)
              clear hK hov hr
              go_wp2_with fail
              refine (HOne.out _).mono ?_
              rintro e wb ⟨rfl, hb2⟩
              have hbw := HB.out.trans (hb2.mono HB.out.size)
              rw [← hb2.cell (p := ⟨b, off + (k + 1) * 3, none⟩) (cell_lt c0)] at c0
              rw [← hb2.cell (p := ⟨b, off + k * 3 + 1, none⟩) (cell_lt d1)] at d1
              clear c1 c2 hb2
              go_wp2_with fail
              go_quiet (fail)
              have HBq := Lib.hid (show Below w.heap.size w (wb.drewN nq) from ⟨hbw.os, hbw.tape, hbw.output, hbw.size, hbw.block⟩)
              clear hbw
              go_wp2
              go_roundw
              case rel => exact ⟨k + 1 + 1, by go_num, by omega, HK2, HBq.out⟩
              case measure => simp [intOf]; omega
        · have HRr := Lib.hid (show r = R by
            rw [← hK, ← hr]
            exact (from_bad (by rw [hr]; exact hr0)).symm)
          clear hr
          have hr1 : (r != 0) = true := by simp [hr0]
          have hr2 : (r == 0) = false := by simp [hr0]
          have HB := Lib.hid hb
          clear hK hx hb hr0 HK
          go_wp2_with fail
          refine (HOne.out _).mono ?_
          rintro e w2 ⟨rfl, hb2⟩
          have hbw := HB.out.trans (hb2.mono HB.out.size)
          clear c0 c1 c2 hb2
          go_wp2
          go_ret
          exact ⟨by rw [HRr.out]; rfl, hbw⟩
      · obtain rfl : k = N := by omega
        have HRz := Lib.hid (show (0 : Int) = R by
          have hK := HK.out
          rw [List.drop_of_length_le (by rw [List.length_map, HN.out]; exact Nat.le_refl _)] at hK
          exact hK)
        clear HK
        go_wp2
        go_ret
        exact ⟨by rw [← HRz.out]; rfl, hb⟩
end Go.Proofs.Ytomihekgcnilhaa
