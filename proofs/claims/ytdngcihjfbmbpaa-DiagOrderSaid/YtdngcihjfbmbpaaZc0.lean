/- cmp.Compare, cmp.Or of three whole numbers. -/
import Derived.Test.YtdngcihjfbmbpaaZdb
import Derived.LoopTactic
namespace Go.Proofs.Ytdngcihjfbmbpaa.Zm
open Go.RowKit
open Go.Proofs.Ytdngcihjfbmbpaa.Sq
open Go.Proofs.Ytdngcihjfbmbpaa.Zd

def cmpI (x y : Int) : Int := if x < y then -1 else if y < x then 1 else 0
def or3 (x y z : Int) : Int := if x ≠ 0 then x else if y ≠ 0 then y else z
theorem or_less (a b : Dg) : decide (or3 (cmpI a.f b.f) (cmpI a.t b.t) (cmpI a.code b.code) < 0) = less a b := by
  rw [Bool.eq_iff_iff, less_iff, decide_eq_true_iff]
  unfold or3 cmpI
  constructor
  · intro h
    revert h
    repeat' split
    all_goals (intro h; omega)
  · intro h
    repeat' split
    all_goals omega
theorem isNaN_any (x : Int) (w : World) : Calls Try.prog 42 #[.int .i64 x] w fun e w' => e = .returned (.bool false) ∧ w = w' := by
  have h : (x != x) = false := by simp
  go_enter Try.func42, Try.ntmps42
  go_wp2
  go_ret
  exact ⟨by simp, rfl⟩
set_option maxHeartbeats 400000 in
theorem compare_any (x y : Int) (w : World) : Calls Try.prog 41 #[.int .i64 x, .int .i64 y] w fun e w' => e = .returned (.int .i64 (cmpI x y)) ∧ w' = w := by
  unfold cmpI
  by_cases h1 : x < y
  · rw [if_pos h1]
    go_enter Try.func41, Try.ntmps41
    go_wp2_with ((with_reducible refine (isNaN_any _ _).mono ?_); rintro e w' ⟨rfl, rfl⟩)
    go_ret
    exact ⟨rfl, rfl⟩
  · rw [if_neg h1]
    by_cases h2 : y < x
    · rw [if_pos h2]
      go_enter Try.func41, Try.ntmps41
      go_wp2_with ((with_reducible refine (isNaN_any _ _).mono ?_); rintro e w' ⟨rfl, rfl⟩)
      go_ret
      exact ⟨rfl, rfl⟩
    · rw [if_neg h2]
      go_enter Try.func41, Try.ntmps41
      go_wp2_with ((with_reducible refine (isNaN_any _ _).mono ?_); rintro e w' ⟨rfl, rfl⟩)
      go_ret
      exact ⟨rfl, rfl⟩
set_option maxHeartbeats 800000 in
theorem or_any (x y z : Int) (b : Nat) (w : World) (h0 : w.cell? ⟨b, 0, none⟩ = some (.int .i64 x)) (h1 : w.cell? ⟨b, 1, none⟩ = some (.int .i64 y)) (h2 : w.cell? ⟨b, 2, none⟩ = some (.int .i64 z)) :
    Calls Try.prog 40 #[.slice (some ⟨b, 0, none⟩) 3 3] w fun e w' => e = .returned (.int .i64 (or3 x y z)) ∧ w = w' := by
  obtain ⟨R, hR⟩ : ∃ R, or3 x y z = R := ⟨_, rfl⟩
  rw [hR]
  unfold or3 at hR
  have HR := Lib.hid hR
  clear hR
  go_enter Try.func40, Try.ntmps40
  go_wp2
  go_loop [8] (fun is => ∃ k : Nat, is = .int .i64 k ∧ k ≤ 3 ∧ (1 ≤ k → x = 0) ∧ (2 ≤ k → y = 0) ∧ (3 ≤ k → z = 0)) (fun is => 3 - (intOf is).toNat)
  case atStart => exact ⟨0, rfl, by omega, by omega, by omega, by omega⟩
  case round =>
    obtain ⟨k, rfl, hk, hx, hy, hz⟩ := hrel
    have HX := Lib.hid hx
    have HY := Lib.hid hy
    have HZ := Lib.hid hz
    clear hx hy hz
    match k, hk with
    | 0, _ =>
      by_cases hz : x = 0
      · have b1 : (x != 0) = false := by simp [hz]
        have H0 := Lib.hid hz
        clear hz
        go_wp2
        go_round
        case rel => exact ⟨1, rfl, by omega, fun _ => H0.out, by omega, by omega⟩
        case measure => simp [intOf]
      · have b1 : (x != 0) = true := by simp [hz]
        have e := HR.out
        rw [if_pos hz] at e
        have H0 := Lib.hid e
        clear e hz
        go_wp2
        go_ret
        exact ⟨by rw [H0.out]; rfl, rfl⟩
    | 1, _ =>
      have hx0 := HX.out (Nat.le_refl _)
      have e := HR.out
      rw [if_neg (by simp [hx0])] at e
      have HE := Lib.hid e
      have HX0 := Lib.hid hx0
      clear e hx0
      by_cases hz : y = 0
      · have b1 : (y != 0) = false := by simp [hz]
        have H0 := Lib.hid hz
        clear hz
        go_wp2
        go_round
        case rel => exact ⟨2, rfl, by omega, fun _ => HX0.out, fun _ => H0.out, by omega⟩
        case measure => simp [intOf]
      · have b1 : (y != 0) = true := by simp [hz]
        have e := HE.out
        rw [if_pos hz] at e
        have H0 := Lib.hid e
        clear e hz
        go_wp2
        go_ret
        exact ⟨by rw [H0.out]; rfl, rfl⟩
    | 2, _ =>
      have hx0 := HX.out (by omega)
      have hy0 := HY.out (Nat.le_refl _)
      have e := HR.out
      rw [if_neg (by simp [hx0]), if_neg (by simp [hy0])] at e
      have HE := Lib.hid e
      have HX0 := Lib.hid hx0
      have HY0 := Lib.hid hy0
      clear e hx0 hy0
      by_cases hz : z = 0
      · have b1 : (z != 0) = false := by simp [hz]
        have H0 := Lib.hid hz
        clear hz
        go_wp2
        go_round
        case rel => exact ⟨3, rfl, by omega, fun _ => HX0.out, fun _ => HY0.out, fun _ => H0.out⟩
        case measure => simp [intOf]
      · have b1 : (z != 0) = true := by simp [hz]
        clear hz
        go_wp2
        go_ret
        exact ⟨by rw [HE.out]; rfl, rfl⟩
    | 3, _ =>
      have hx0 := HX.out (by omega)
      have hy0 := HY.out (by omega)
      have hz0 := HZ.out (Nat.le_refl _)
      have e := HR.out
      rw [if_neg (by simp [hx0]), if_neg (by simp [hy0]), hz0] at e
      have HE := Lib.hid e
      clear e hx0 hy0 hz0
      go_wp2
      go_ret
      exact ⟨by rw [← HE.out]; rfl, rfl⟩
end Go.Proofs.Ytdngcihjfbmbpaa.Zm
