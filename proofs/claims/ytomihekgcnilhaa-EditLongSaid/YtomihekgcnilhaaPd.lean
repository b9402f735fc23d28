/- package edit: in what order two edits stand (cmp.Compare, cmp.Or, inOrder). -/
import Derived.Test.YtomihekgcnilhaaPa
import Derived.Test.YtomihekgcnilhaaQt
namespace Go.Proofs.Ytomihekgcnilhaa
open Go.RowKit
open Go.Proofs.Ytomihekgcnilhaa.Sq

def cmpI (x y : Int) : Int := if x < y then -1 else if y < x then 1 else 0
def cmpE (a b : Et) : Int := if cmpI a.f b.f ≠ 0 then cmpI a.f b.f else cmpI a.t b.t
theorem cmp_ahead (a b : Et) : decide (cmpE a b < 0) = Ed.ahead a.ed b.ed := by
  have e : Ed.ahead a.ed b.ed = decide (a.f < b.f ∨ (a.f = b.f ∧ a.t < b.t)) := rfl
  rw [e]
  congr 1
  unfold cmpE cmpI
  refine propext ⟨fun h => ?_, fun h => ?_⟩
  · revert h
    repeat' split
    all_goals (intro h; omega)
  · repeat' split
    all_goals omega
theorem isNaN_any (x : Int) (w : World) : Calls Try.prog 41 #[.int .i64 x] w fun e w' => e = .returned (.bool false) ∧ w = w' := by
  have h : (x != x) = false := by simp
  go_enter Try.func41, Try.ntmps41
  go_wp2
  go_ret
  exact ⟨by simp, rfl⟩
set_option maxHeartbeats 400000 in
theorem compare_any (x y : Int) (w : World) : Calls Try.prog 40 #[.int .i64 x, .int .i64 y] w fun e w' => e = .returned (.int .i64 (cmpI x y)) ∧ w' = w := by
  unfold cmpI
  by_cases h1 : x < y
  · rw [if_pos h1]
    go_enter Try.func40, Try.ntmps40
    go_wp2_with ((with_reducible refine (isNaN_any _ _).mono ?_); rintro e w' ⟨rfl, rfl⟩)
    go_ret
    exact ⟨rfl, rfl⟩
  · rw [if_neg h1]
    by_cases h2 : y < x
    · rw [if_pos h2]
      go_enter Try.func40, Try.ntmps40
      go_wp2_with ((with_reducible refine (isNaN_any _ _).mono ?_); rintro e w' ⟨rfl, rfl⟩)
      go_ret
      exact ⟨rfl, rfl⟩
    · rw [if_neg h2]
      go_enter Try.func40, Try.ntmps40
      go_wp2_with ((with_reducible refine (isNaN_any _ _).mono ?_); rintro e w' ⟨rfl, rfl⟩)
      go_ret
      exact ⟨rfl, rfl⟩
set_option maxHeartbeats 400000 in
theorem or_any (x y : Int) (b : Nat) (w : World) (h0 : w.cell? ⟨b, 0, none⟩ = some (.int .i64 x)) (h1 : w.cell? ⟨b, 1, none⟩ = some (.int .i64 y)) :
    Calls Try.prog 39 #[.slice (some ⟨b, 0, none⟩) 2 2] w fun e w' => e = .returned (.int .i64 (if x ≠ 0 then x else y)) ∧ w = w' := by
  obtain ⟨R, hR⟩ : ∃ R, (if x ≠ 0 then x else y) = R := ⟨_, rfl⟩
  rw [hR]
  have HR := Lib.hid hR
  clear hR
  go_enter Try.func39, Try.ntmps39
  go_wp2
  go_loop [8] (fun is => ∃ k : Nat, is = .int .i64 k ∧ k ≤ 2 ∧ (k = 1 → x = 0) ∧ (k = 2 → x = 0 ∧ y = 0)) (fun is => 2 - (intOf is).toNat)
  case atStart => exact ⟨0, rfl, by omega, by omega, by omega⟩
  case round =>
    obtain ⟨k, rfl, hk, hx, hy⟩ := hrel
    have HX := Lib.hid hx
    have HY := Lib.hid hy
    clear hx hy
    match k, hk with
    | 0, _ =>
      by_cases hz : x = 0
      · have b1 : (x != 0) = false := by simp [hz]
        have HZ := Lib.hid hz
        clear hz
        go_wp2
        go_round
        case rel => exact ⟨1, rfl, by omega, fun _ => HZ.out, by omega⟩
        case measure => simp [intOf]
      · have b1 : (x != 0) = true := by simp [hz]
        have e := HR.out
        rw [if_pos hz] at e
        have HZ := Lib.hid e
        clear e hz
        go_wp2
        go_ret
        exact ⟨by rw [HZ.out]; rfl, rfl⟩
    | 1, _ =>
      have hx0 := HX.out rfl
      have e := HR.out
      rw [if_neg (by simp [hx0])] at e
      have HE := Lib.hid e
      have HX0 := Lib.hid hx0
      clear e hx0
      by_cases hz : y = 0
      · have b1 : (y != 0) = false := by simp [hz]
        have HZ := Lib.hid hz
        clear hz
        go_wp2
        go_round
        case rel => exact ⟨2, rfl, by omega, by omega, fun _ => ⟨HX0.out, HZ.out⟩⟩
        case measure => simp [intOf]
      · have b1 : (y != 0) = true := by simp [hz]
        clear hz
        go_wp2
        go_ret
        exact ⟨by rw [HE.out]; rfl, rfl⟩
    | 2, _ =>
      obtain ⟨hx0, hy0⟩ := HY.out rfl
      have e := HR.out
      rw [if_neg (by simp [hx0]), hy0] at e
      have HE := Lib.hid e
      clear e hx0 hy0
      go_wp2
      go_ret
      exact ⟨by rw [← HE.out]; rfl, rfl⟩
theorem at_one {W : World} {n : Nat} {x y : Value} {t : TypeId} (hn : n = W.heap.size) : (W.alloc (.cells #[x, y] t)).cell? ⟨n, 0, none⟩ = some x := by subst hn; rw [World.cell?_alloc_mark]; rfl
theorem at_two {W : World} {n : Nat} {x y : Value} {t : TypeId} (hn : n = W.heap.size) : (W.alloc (.cells #[x, y] t)).cell? ⟨n, 1, none⟩ = some y := by subst hn; rw [World.cell?_alloc_mark]; rfl
set_option maxHeartbeats 800000 in
theorem inOrder_any (x y : Et) (w : World) :
    Calls Try.prog 37 #[x.val, y.val] w fun e w' => e = .returned (.int .i64 (cmpE x y)) ∧ Below w.heap.size w w' := by
  obtain ⟨f, t, p⟩ := x
  obtain ⟨g, u, q⟩ := y
  obtain ⟨R, hR⟩ : ∃ R, cmpE ⟨f, t, p⟩ ⟨g, u, q⟩ = R := ⟨_, rfl⟩
  have hd : (if cmpI f g ≠ 0 then cmpI f g else cmpI t u) = R := hR
  have HD := Lib.hid hd
  rw [hR]
  clear hd hR
  go_enter Try.func37, Try.ntmps37
  go_wp2_with fail
  refine wp_region_quiet_tail 10 (by kernel_rfl) (by kernel_rfl) ?_
  simp only [List.take_succ_cons, List.take_zero, List.drop_succ_cons, List.drop_zero]
  repeat (go_big_quiet_step (exact (compare_any _ _ _) _))
  refine wpQuiet_nil ?_
  obtain ⟨x, hx⟩ : ∃ x, cmpI f g = x := ⟨_, rfl⟩
  obtain ⟨y, hy⟩ : ∃ y, cmpI t u = y := ⟨_, rfl⟩
  rw [hx, hy] at HD
  rw [hx, hy]
  clear hx hy
  have HO := Lib.hid (fun b W h0 h1 => by have h := or_any x y b W h0 h1; rw [HD.out] at h; exact h)
  clear HD
  go_wp2_with fail
  refine (HO.out _ _ ?c0 ?c1).mono ?_
  case c0 => exact at_one (by simp)
  case c1 => exact at_two (by simp)
  rintro e w2 ⟨rfl, rfl⟩
  go_wp2
  go_ret
  exact ⟨rfl, ((((Below.refl _ _).alloc (Nat.le_refl _) _).alloc (by simp) _).alloc (by simp; omega) _).drew⟩
end Go.Proofs.Ytomihekgcnilhaa
