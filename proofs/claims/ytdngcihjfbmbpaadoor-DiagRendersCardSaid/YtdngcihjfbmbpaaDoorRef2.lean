/- What the chapter's own text of signs computes (correctorref1.Next): the first sign of any bytes. -/
import Derived.Test.YtdngcihjfbmbpaaDoorRef1
import Derived.Test.YtdngcihjfbmbpaaDoorWorld
namespace Go.Proofs.YtdngcihjfbmbpaaDoor
open Go.RowKit
open Go.Proofs.YtdngcihjfbmbpaaDoor.Sg

set_option maxHeartbeats 1000000 in
set_option maxRecDepth 100000 in
theorem refNext_nil (w : World) : Calls Tryd.prog 28 #[.slice none 0 0] w fun e w' => e = .returned (.tuple #[.int .i32 (-1), .int .i64 0]) ∧ w = w' := by
  go_enter Tryd.func28, Tryd.ntmps28
  go_wp2
  go_ret2
  exact ⟨rfl, rfl⟩

set_option maxHeartbeats 1000000 in
set_option maxRecDepth 100000 in
theorem refNext_any (n b off cap x0 x1 x2 x3 : Nat) (w : World) (hm : n ≤ 9223372036854775807) (l0 : x0 < 256) (l1 : x1 < 256) (l2 : x2 < 256) (l3 : x3 < 256)
    (h0 : 0 < n → w.cell? ⟨b, off, none⟩ = some (.int .u8 x0)) (h1 : 1 < n → w.cell? ⟨b, off + 1, none⟩ = some (.int .u8 x1)) (h2 : 2 < n → w.cell? ⟨b, off + 2, none⟩ = some (.int .u8 x2)) (h3 : 3 < n → w.cell? ⟨b, off + 3, none⟩ = some (.int .u8 x3)) :
    Calls Tryd.prog 28 #[.slice (some ⟨b, off, none⟩) n cap] w fun e w' => e = .returned (.tuple #[.int .i32 (nxN n x0 x1 x2 x3).1, .int .i64 (nxN n x0 x1 x2 x3).2]) ∧ w = w' := by
  by_cases hz : n = 0
  · subst hz
    clear h0 h1 h2 h3
    rw [nx_none]
    go_enter Tryd.func28, Tryd.ntmps28
    go_wp2
    go_ret2
    exact ⟨rfl, rfl⟩
  · have hlt : (0 : Int) < (n : Int) := by omega
    have hne : ((n : Int) == 0) = false := by simp; omega
    have g0 := h0 (by omega)
    clear h0
    have t2 := nx_two n x0 x1 x2 x3 (by omega)
    have t3 := nx_three n x0 x1 x2 x3 (by omega)
    have t4 := nx_four n x0 x1 x2 x3 (by omega)
    by_cases c1 : x0 < 128
    · rw [nx_ascii n x0 x1 x2 x3 (by omega) c1]
      clear h1 h2 h3 t2 t3 t4
      go_enter Tryd.func28, Tryd.ntmps28
      go_wp2
      go_ret2
      exact ⟨rfl, rfl⟩
    by_cases c2 : x0 < 192
    · rw [nx_bad n x0 x1 x2 x3 (by omega) (by omega) (by omega)]
      clear h1 h2 h3 t2 t3 t4
      go_enter Tryd.func28, Tryd.ntmps28
      go_wp2
      go_ret2
      exact ⟨rfl, rfl⟩
    by_cases c3 : x0 < 224
    · rw [t2 (by omega) c3 l1]
      clear t2 t3 t4
      go_enter Tryd.func28, Tryd.ntmps28
      go_wp2_with fail
      refine (sign2 b off n cap ((x0 : Int) % 32) x1 w hm (by omega) (by omega) l1 h1).mono ?_
      rintro e w' ⟨rfl, rfl⟩
      go_wp2
      go_ret2
      rw [show ((x0 : Int) % 32).toNat = x0 % 32 from by omega]
      exact ⟨rfl, rfl⟩
    by_cases c4 : x0 < 240
    · rw [t3 (by omega) c4 l1 l2]
      clear t2 t3 t4
      go_enter Tryd.func28, Tryd.ntmps28
      go_wp2_with fail
      refine (sign3 b off n cap ((x0 : Int) % 16) x1 x2 w hm (by omega) (by omega) l1 l2 h1 h2).mono ?_
      rintro e w' ⟨rfl, rfl⟩
      go_wp2
      go_ret2
      rw [show ((x0 : Int) % 16).toNat = x0 % 16 from by omega]
      exact ⟨rfl, rfl⟩
    by_cases c5 : x0 < 248
    · rw [t4 (by omega) c5 l1 l2 l3]
      clear t2 t3 t4
      go_enter Tryd.func28, Tryd.ntmps28
      go_wp2_with fail
      refine (sign4 b off n cap ((x0 : Int) % 8) x1 x2 x3 w hm (by omega) (by omega) l1 l2 l3 h1 h2 h3).mono ?_
      rintro e w' ⟨rfl, rfl⟩
      go_wp2
      go_ret2
      rw [show ((x0 : Int) % 8).toNat = x0 % 8 from by omega]
      exact ⟨rfl, rfl⟩
    rw [nx_bad n x0 x1 x2 x3 (by omega) (by omega) (by omega)]
    clear h1 h2 h3 t2 t3 t4
    go_enter Tryd.func28, Tryd.ntmps28
    go_wp2
    go_ret2
    exact ⟨rfl, rfl⟩

theorem refNext (s : ByteArray) (n b off cap : Nat) (w : World) (hn : s.size = n) (hm : n ≤ 9223372036854775807) (hp : ∀ j, j < n → w.cell? ⟨b, off + j, none⟩ = some (.int .u8 (s.get! j).toNat)) :
    Calls Tryd.prog 28 #[.slice (some ⟨b, off, none⟩) n cap] w fun e w' => e = .returned (.tuple #[.int .i32 (nx s 0).1, .int .i64 (nx s 0).2]) ∧ w = w' := by
  have h := refNext_any n b off cap (s.get! 0).toNat (s.get! 1).toNat (s.get! 2).toNat (s.get! 3).toNat w hm (s.get! 0).toNat_lt (s.get! 1).toNat_lt (s.get! 2).toNat_lt (s.get! 3).toNat_lt (hp 0) (hp 1) (hp 2) (hp 3)
  simpa only [nx, hn, Nat.sub_zero, Nat.zero_add] using h
end Go.Proofs.YtdngcihjfbmbpaaDoor
