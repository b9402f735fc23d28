/- package edit: Check. -/
import Derived.Test.YtomihekgcnilhaaPa
namespace Go.Proofs.Ytomihekgcnilhaa
open Go.RowKit
open Go.Proofs.Ytomihekgcnilhaa.Sq

/-- Where the one ahead of place k ends; 0 where there is none. -/
def lastT (l : List Et) : Nat → Int
  | 0 => 0
  | k + 1 => match l[k]? with
    | some e => e.t
    | none => 0
theorem last_next {l : List Et} {k : Nat} {x : Et} (h : l[k]? = some x) : lastT l (k + 1) = x.t := by simp [lastT, h]
theorem low_last {n : Int} {l : List Et} {k : Nat} {x : Et} (hk : k ≤ l.length) (h : Ed.one n x.ed = 0) : Ed.low (prevT l k) x.ed.f = decide (x.f < lastT l k) := by
  cases k with
  | zero =>
    have h1 : 0 ≤ x.f := (Ed.one_ok h).1
    have : decide (x.f < 0) = false := decide_eq_false (by omega)
    simp only [prevT, lastT, Ed.low]
    exact this.symm
  | succ k =>
    obtain ⟨y, hy⟩ : ∃ y, l[k]? = some y := ⟨_, List.getElem?_eq_getElem (by omega)⟩
    simp only [prevT, lastT, hy, Option.map_some, Ed.low]
    rfl
set_option maxHeartbeats 2000000 in
set_option maxRecDepth 100000 in
theorem editCheck (n : Int) (v : Value) (l : List Et) (w : World) (h : Edits w v l) (hS : Short l) :
    Calls Try.prog 18 #[.int .i64 n, v] w fun r w' => r = .returned (.int .i64 (Ed.check n (l.map Et.ed))) ∧ Below w.heap.size w w' := by
  have hsz := h.size_le
  unfold maxLen at hsz
  obtain ⟨a, cap, rfl⟩ := h.shape
  obtain ⟨N, hN⟩ : ∃ N, l.length = N := ⟨_, rfl⟩
  have HA := Lib.hid (fun k x hk => edits_at h k x hk)
  have HN := Lib.hid hN
  have HSh := Lib.hid hS
  have hlen : (l.map Et.ed).length = N := by rw [List.length_map, hN]
  rw [hN] at hsz
  rw [hN]
  unfold Ed.check
  rw [hlen]
  clear hN h hS hlen
  by_cases h200 : 200 < N
  · have h200' : (200 : Int) < (N : Int) := by omega
    rw [if_pos h200]
    go_enter Try.func18, Try.ntmps18
    go_wp2
    go_ret
    exact ⟨rfl, Below.refl _ _⟩
  · have h200' : ¬ ((200 : Int) < (N : Int)) := by omega
    rw [if_neg h200]
    obtain ⟨R, hR⟩ : ∃ R, Ed.checkFrom n none (l.map Et.ed) = R := ⟨_, rfl⟩
    have HR := Lib.hid hR
    rw [hR]
    clear hR
    go_enter Try.func18, Try.ntmps18
    go_wp2_with fail
    go_loopw [5, 14] (fun ls is wr => ∃ (k : Nat) (L : Int), is = .int .i64 k ∧ ls = .int .i64 L ∧ k ≤ N ∧ Hid (lastT l k = L) ∧ Hid (Ed.checkFrom n (prevT l k) ((l.map Et.ed).drop k) = R) ∧ Below w.heap.size w wr) (fun _ is _ => N - (intOf is).toNat)
    case atStart => exact ⟨0, 0, rfl, rfl, Nat.zero_le _, Lib.hid rfl, HR, Below.refl _ _⟩
    case round =>
      obtain ⟨k, L, rfl, rfl, hk, HL, HK, hb⟩ := hrel
      by_cases hlt : k < N
      · have hkl : k < l.length := by rw [HN.out]; exact hlt
        have hj2 : (k : Int) < (N : Int) := by omega
        obtain ⟨x, hx⟩ : ∃ x, l[k]? = some x := ⟨_, List.getElem?_eq_getElem hkl⟩
        obtain ⟨b, off, rfl, c0, c1, c2⟩ := HA.out k x hx
        rw [← hb.cell (p := ⟨b, off + k * 3, none⟩) (cell_lt c0)] at c0
        rw [← hb.cell (p := ⟨b, off + k * 3 + 1, none⟩) (cell_lt c1)] at c1
        rw [← hb.cell (p := ⟨b, off + k * 3 + 2, none⟩) (cell_lt c2)] at c2
        have hK := HK.out
        rw [drop_at hx] at hK
        have hone := fun w => checkOne_any n x w (HSh.out x (List.mem_of_getElem? hx))
        obtain ⟨r, hr⟩ : ∃ r, Ed.one n x.ed = r := ⟨_, rfl⟩
        rw [hr] at hone
        have HOne := Lib.hid hone
        have HX := Lib.hid hx
        have HB := Lib.hid hb
        clear hone hx hb HK
        by_cases hr0 : r = 0
        · subst hr0
          have hlow := low_last (l := l) (k := k) (Nat.le_of_lt hkl) hr
          rw [HL.out] at hlow
          by_cases hov : x.f < L
          · have HR6 := Lib.hid (show (6 : Int) = R by
              rw [← hK]
              exact (from_low hr (hlow.trans (decide_eq_true hov))).symm)
            clear hK hr hlow
            go_wp2_with fail
            refine (HOne.out _).mono ?_
            rintro e w2 ⟨rfl, hb2⟩
            obtain ⟨hc2, _hf2⟩ := bcell hb2
            have HB2 := Lib.hid hb2
            clear hb2
            go_wp2
            go_ret
            exact ⟨by rw [HR6.out]; rfl, (HB.out.alloc HB.out.size _).trans (HB2.out.mono (by have := HB.out.size; simp; omega))⟩
          · have hov' : decide (x.f < L) = false := decide_eq_false hov
            have HK2 := Lib.hid (show Ed.checkFrom n (prevT l (k + 1)) ((l.map Et.ed).drop (k + 1)) = R by
              have e : prevT l (k + 1) = some x.ed.t := by show (l[k]?).map _ = _; rw [HX.out]; rfl
              rw [e, ← hK]
              exact (from_on hr (hlow.trans hov')).symm)
            have HL2 := Lib.hid (last_next HX.out)
            clear hK hr hlow
            go_wp2_with fail
            refine (HOne.out _).mono ?_
            rintro e w2 ⟨rfl, hb2⟩
            obtain ⟨hc2, _hf2⟩ := bcell hb2
            have HB2 := Lib.hid hb2
            clear hb2
            go_wp2
            go_roundw
            case rel => exact ⟨k + 1, x.t, by go_num, rfl, by omega, HL2, HK2, (HB.out.alloc HB.out.size _).trans (HB2.out.mono (by have := HB.out.size; simp; omega))⟩
            case measure => simp [intOf]; omega
        · have HRr := Lib.hid (show r = R by
            rw [← hK, ← hr]
            exact (from_bad (by rw [hr]; exact hr0)).symm)
          have hr1 : (r != 0) = true := by simp [hr0]
          have hr2 : (r == 0) = false := by simp [hr0]
          clear hK hr0 hr
          go_wp2_with fail
          refine (HOne.out _).mono ?_
          rintro e w2 ⟨rfl, hb2⟩
          have HB2 := Lib.hid hb2
          clear hb2
          go_wp2
          go_ret
          exact ⟨by rw [HRr.out]; rfl, (HB.out.alloc HB.out.size _).trans (HB2.out.mono (by have := HB.out.size; simp; omega))⟩
      · obtain rfl : k = N := by omega
        have HRz := Lib.hid (show (0 : Int) = R by
          have hK := HK.out
          rw [List.drop_of_length_le (by rw [List.length_map, HN.out]; exact Nat.le_refl _)] at hK
          exact hK)
        clear HK
        go_wp2
        go_ret
        exact ⟨by rw [← HRz.out]; rfl, hb⟩
end Go.Proofs.Ytomihekgcnilhaa
