/- correctorlaw3.has: what is among others is found. -/
import Derived.Test.YtfikgocaidaheaaSpb
import Derived.Test.YtfikgocaidaheaaSrt2
import Derived.Test.YtfikgocaidaheaaSp1
namespace Go.Proofs.Ytfikgocaidaheaa
open Go.RowKit
open Go.Proofs.Ytfikgocaidaheaa.Hp

set_option maxHeartbeats 2000000 in
set_option maxRecDepth 100000 in
theorem has_true (w : World) (v : Value) (l : List (Int × Int)) (x1 x2 : Int) (h : Spans w v l) (hx : (x1, x2) ∈ l) :
    Calls Try.prog 18 #[v, .agg #[.int .i64 x1, .int .i64 x2]] w fun e w' => e = .returned (.bool true) ∧ Below w.heap.size w w' := by
  have hsz := h.size_le
  obtain ⟨a, cap, rfl⟩ := h.shape
  obtain ⟨N, hN⟩ : ∃ N, l.length = N := ⟨_, rfl⟩
  have HA := Lib.hid (fun k hk => h.at_ k hk)
  have HN := Lib.hid hN
  have HX := Lib.hid hx
  rw [hN] at hsz
  rw [hN]
  unfold maxLen at hsz
  obtain ⟨n, hn⟩ : ∃ n, w.heap.size = n := ⟨_, rfl⟩
  have hb0 := box_new w x1 x2
  have HB0 := Lib.hid hb0
  have gs := guard_span
  clear hN h hx hn hb0
  go_enter Try.func18, Try.ntmps18
  go_wp2_with fail
  go_loopw [5] (fun is wr => ∃ k : Nat, is = .int .i64 k ∧ k ≤ N ∧ (∀ j, j < k → Hp.at_ l j ≠ (x1, x2)) ∧ Below (w.alloc (box x1 x2)).heap.size (w.alloc (box x1 x2)) wr) (fun is _ => N - (intOf is).toNat)
  case atStart => exact ⟨0, rfl, Nat.zero_le _, fun j hj => absurd hj (by omega), Below.refl _ _⟩
  case round =>
    obtain ⟨k, rfl, hk, hno, hb⟩ := hrel
    have HNo := Lib.hid hno
    have HB := Lib.hid hb
    have b1 : wr.cell? ⟨w.heap.size, 0, none⟩ = some (.int .i64 x1) := (hb.cell (p := ⟨w.heap.size, 0, none⟩) (by simp)).trans HB0.out.1
    have b2 : wr.cell? ⟨w.heap.size, 1, none⟩ = some (.int .i64 x2) := (hb.cell (p := ⟨w.heap.size, 1, none⟩) (by simp)).trans HB0.out.2
    clear hno
    by_cases hlt : k < N
    · obtain ⟨b, off, rfl, c1, c2⟩ := HA.out k (by rw [HN.out]; exact hlt)
      obtain ⟨z, hz⟩ : ∃ z, Hp.at_ l k = z := ⟨_, rfl⟩
      obtain ⟨z1, z2⟩ := z
      rw [hz] at c1 c2
      dsimp only at c1 c2
      have hbw : Below w.heap.size w wr := (below_alloc w _).trans (hb.mono (by simp))
      rw [← hbw.cell (p := ⟨b, off + k * 2, none⟩) (lt_of_cell c1)] at c1
      rw [← hbw.cell (p := ⟨b, off + k * 2 + 1, none⟩) (lt_of_cell c2)] at c2
      have HZ := Lib.hid hz
      have hk0 : (0 : Int) ≤ (k : Int) := by omega
      have hk1 : (k : Int) < (N : Int) := by omega
      clear hz hb hbw
      by_cases he : z1 = x1 ∧ z2 = x2
      · obtain ⟨e1, e2⟩ := he
        subst e1
        subst e2
        have heql : ∀ W, (binOp .eql 23 (.agg #[.int .i64 z1, .int .i64 z2]) (.agg #[.int .i64 z1, .int .i64 z2])).run Try.prog W = .ok (.bool true) W := fun W => by rw [eql_span]; simp
        go_wp2_with fail
        go_quiet (fail)
        have hq : Below w.heap.size w (wr.drewN nq) := by
          have h := (below_alloc w (box z1 z2)).trans (HB.out.mono (by simp))
          exact ⟨h.os, h.tape, h.output, h.size, h.block⟩
        go_wp2
        go_ret
        exact ⟨rfl, hq⟩
      · have hbq : ((z1 == x1) && (z2 == x2)) = false := by simpa using he
        have heql : ∀ W, (binOp .eql 23 (.agg #[.int .i64 z1, .int .i64 z2]) (.agg #[.int .i64 x1, .int .i64 x2])).run Try.prog W = .ok (.bool false) W := fun W => by rw [eql_span, hbq]
        go_wp2_with fail
        go_quiet (fail)
        have hq : Below (w.alloc (box x1 x2)).heap.size (w.alloc (box x1 x2)) (wr.drewN nq) := ⟨HB.out.os, HB.out.tape, HB.out.output, HB.out.size, HB.out.block⟩
        have HQ := Lib.hid hq
        clear hq heql hbq
        go_wp2
        go_roundw
        case rel =>
          refine ⟨k + 1, by go_num, by omega, fun j hj => ?_, HQ.out⟩
          by_cases e : j = k
          · subst e
            rw [HZ.out]
            intro e
            exact he (by injection e with e1 e2; exact ⟨e1, e2⟩)
          · exact HNo.out j (by omega)
        case measure => simp [intOf]; omega
    · exfalso
      obtain ⟨j, hj, e⟩ := mem_at.1 HX.out
      rw [HN.out] at hj
      exact HNo.out j (by omega) e
end Go.Proofs.Ytfikgocaidaheaa
