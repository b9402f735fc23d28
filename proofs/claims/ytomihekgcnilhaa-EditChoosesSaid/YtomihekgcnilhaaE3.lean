/- Chapter 4's reference: Map. -/
import Derived.Test.YtomihekgcnilhaaE2
namespace Go.Proofs.Ytomihekgcnilhaa
open Go.RowKit
open Go.Proofs.Ytomihekgcnilhaa.Sq

/-- Edits of a text that is not too long. -/
def Near (l : List Et) : Prop := ∀ e ∈ l, 0 ≤ e.f ∧ e.f ≤ e.t ∧ e.t ≤ 1000000 ∧ e.p.size ≤ 1000
theorem map_past {d x : Int} {e : Ed.E} {r : List Ed.E} (h : e.t ≤ x) : Ed.mapFrom d (e :: r) x = Ed.mapFrom (d + e.p.length - (e.t - e.f)) r x := by
  rw [Ed.mapFrom, if_pos h]
theorem map_in {d x : Int} {e : Ed.E} {r : List Ed.E} (h : ¬ e.t ≤ x) (h2 : e.f < x) : Ed.mapFrom d (e :: r) x = e.f + d + e.p.length := by
  rw [Ed.mapFrom, if_neg h, if_pos h2]
theorem map_on {d x : Int} {e : Ed.E} {r : List Ed.E} (h : ¬ e.t ≤ x) (h2 : ¬ e.f < x) : Ed.mapFrom d (e :: r) x = Ed.mapFrom d r x := by
  rw [Ed.mapFrom, if_neg h, if_neg h2]
set_option maxHeartbeats 2000000 in
set_option maxRecDepth 100000 in
theorem refMap (x : Int) (v : Value) (l : List Et) (w : World) (h : Edits w v l) (hS : Near l) (hl : l.length ≤ 200) (hx0 : 0 ≤ x) (hx1 : x ≤ 1000000) :
    Calls Try.prog 24 #[v, .int .i64 x] w fun r w' => r = .returned (.int .i64 (Ed.map (l.map Et.ed) x)) ∧ Below w.heap.size w w' := by
  obtain ⟨a, cap, rfl⟩ := h.shape
  obtain ⟨N, hN⟩ : ∃ N, l.length = N := ⟨_, rfl⟩
  have HA := Lib.hid (fun k y hk => edits_at h k y hk)
  have HN := Lib.hid hN
  have HS := Lib.hid hS
  rw [hN] at hl
  rw [hN]
  obtain ⟨R, hR⟩ : ∃ R, Ed.map (l.map Et.ed) x = R := ⟨_, rfl⟩
  have HR := Lib.hid (show Ed.mapFrom 0 ((l.map Et.ed).drop 0) x = R from hR)
  rw [hR]
  clear hR hN h hS
  go_enter Try.func24, Try.ntmps24
  go_wp2_with fail
  go_loopw [5, 6] (fun ds is wr => ∃ (d : Int) (k : Nat), ds = .int .i64 d ∧ is = .int .i64 k ∧ k ≤ N ∧ -((k : Int) * 1001000) ≤ d ∧ d ≤ (k : Int) * 1001000 ∧ Hid (Ed.mapFrom d ((l.map Et.ed).drop k) x = R) ∧ Below w.heap.size w wr) (fun _ is _ => N - (intOf is).toNat)
  case atStart => exact ⟨0, 0, rfl, rfl, Nat.zero_le _, by omega, by omega, HR, Below.refl _ _⟩
  case round =>
    obtain ⟨d, k, rfl, rfl, hk, hd1, hd2, HK, hb⟩ := hrel
    have hd3 : d ≤ 200200000 := by omega
    have hd4 : -200200000 ≤ d := by omega
    by_cases hlt : k < N
    · have hkl : k < l.length := by rw [HN.out]; exact hlt
      obtain ⟨y, hy⟩ : ∃ y, l[k]? = some y := ⟨_, List.getElem?_eq_getElem hkl⟩
      obtain ⟨b, off, rfl, c0, c1, c2⟩ := HA.out k y hy
      rw [← hb.cell (p := ⟨b, off + k * 3, none⟩) (cell_lt c0)] at c0
      rw [← hb.cell (p := ⟨b, off + k * 3 + 1, none⟩) (cell_lt c1)] at c1
      rw [← hb.cell (p := ⟨b, off + k * 3 + 2, none⟩) (cell_lt c2)] at c2
      have hK := HK.out
      rw [drop_at hy] at hK
      obtain ⟨n0, n1, n2, n3⟩ := HS.out y (List.mem_of_getElem? hy)
      have hp := Et.plen y
      obtain ⟨f, t, p⟩ := y
      simp only at c0 c1 c2 n0 n1 n2 n3 hp
      have hs1 : (p.size : Int) ≤ 1000 := by omega
      have hs0 : (0 : Int) ≤ (p.size : Int) := by omega
      have hj2 : (k : Int) < (N : Int) := by omega
      have hn2 : (N : Int) ≤ 200 := by omega
      by_cases g1 : t ≤ x
      · have HK2 := Lib.hid (show Ed.mapFrom (d + (p.size : Int) - (t - f)) ((l.map Et.ed).drop (k + 1)) x = R by
          rw [map_past (show (Et.ed ⟨f, t, p⟩).t ≤ x from g1), hp] at hK
          exact hK)
        clear hK HK hy hp
        go_wp2
        go_roundw
        case rel => exact ⟨_, k + 1, rfl, by go_num, by omega, by omega, by omega, HK2, hb.alloc hb.size _⟩
        case measure => simp [intOf]; omega
      · by_cases g2 : f < x
        · have HK2 := Lib.hid (show f + d + (p.size : Int) = R by
            rw [map_in (show ¬ (Et.ed ⟨f, t, p⟩).t ≤ x from g1) (show (Et.ed ⟨f, t, p⟩).f < x from g2), hp] at hK
            exact hK)
          clear hK HK hy hp
          go_wp2
          go_ret
          exact ⟨by rw [← HK2.out]; rfl, hb.alloc hb.size _⟩
        · have HK2 := Lib.hid (show Ed.mapFrom d ((l.map Et.ed).drop (k + 1)) x = R by
            rw [map_on (show ¬ (Et.ed ⟨f, t, p⟩).t ≤ x from g1) (show ¬ (Et.ed ⟨f, t, p⟩).f < x from g2)] at hK
            exact hK)
          clear hK HK hy hp
          go_wp2
          go_roundw
          case rel => exact ⟨_, k + 1, rfl, by go_num, by omega, by omega, by omega, HK2, hb.alloc hb.size _⟩
          case measure => simp [intOf]; omega
    · obtain rfl : k = N := by omega
      have HRz := Lib.hid (show x + d = R by
        have hK := HK.out
        rw [List.drop_of_length_le (by rw [List.length_map, HN.out]; exact Nat.le_refl _)] at hK
        exact hK)
      clear HK
      go_wp2
      go_ret
      exact ⟨by rw [← HRz.out]; rfl, hb⟩
end Go.Proofs.Ytomihekgcnilhaa
