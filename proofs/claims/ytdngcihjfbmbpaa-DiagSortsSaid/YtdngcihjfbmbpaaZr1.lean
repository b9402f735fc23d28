/- correctorref14.less, called. -/
import Derived.Test.YtdngcihjfbmbpaaZdb
import Derived.Lib.SmallJoins
import Derived.Deep.DeepCutAuto
import Derived.Deep.CutBlock
import Derived.BigQuiet
namespace Go.Proofs.Ytdngcihjfbmbpaa.Zm
open Go.RowKit
open Go.Proofs.Ytdngcihjfbmbpaa.Sq
open Go.Proofs.Ytdngcihjfbmbpaa.Zd
set_option linter.unusedVariables false

set_option maxHeartbeats 4000000 in
set_option maxRecDepth 100000 in
theorem rLess (a b : Dg) (w : World) : Calls Try.prog 16 #[.agg #[.int .i64 a.code, .int .i64 a.f, .int .i64 a.t], .agg #[.int .i64 b.code, .int .i64 b.f, .int .i64 b.t]] w fun e w' => e = .returned (.bool (less a b)) ∧ Below w.heap.size w w' := by
  obtain ⟨ac, af, at'⟩ := a
  obtain ⟨bc, bf, bt⟩ := b
  unfold less
  dsimp only
  obtain ⟨w2, hw2⟩ : ∃ w2, (w.alloc (.cells #[.int .i64 ac, .int .i64 af, .int .i64 at'] 28)).alloc (.cells #[.int .i64 bc, .int .i64 bf, .int .i64 bt] 28) = w2 := ⟨_, rfl⟩
  have hb : Below w.heap.size w w2 := hw2 ▸ (below_alloc w _).alloc (by simp) _
  have blk1 : w2.heap[w.heap.size]? = some (.cells #[.int .i64 ac, .int .i64 af, .int .i64 at'] 28 (0, 0)) := by
    rw [← hw2]
    exact ((below_alloc (w.alloc (.cells #[.int .i64 ac, .int .i64 af, .int .i64 at'] 28)) _).block _ (by simp)).trans (heap_alloc_new w _)
  have blk2 : w2.heap[w.heap.size + 1]? = some (.cells #[.int .i64 bc, .int .i64 bf, .int .i64 bt] 28 (0, 0)) := by
    rw [← hw2]
    have := heap_alloc_new (w.alloc (.cells #[.int .i64 ac, .int .i64 af, .int .i64 at'] 28)) (.cells #[.int .i64 bc, .int .i64 bf, .int .i64 bt] 28)
    simpa using this
  have p0 := Joins.cell_of_block blk1 0
  have p1 := Joins.cell_of_block blk1 1
  have p2 := Joins.cell_of_block blk1 2
  have q0 := Joins.cell_of_block blk2 0
  have q1 := Joins.cell_of_block blk2 1
  have q2 := Joins.cell_of_block blk2 2
  clear blk1 blk2
  by_cases h1 : af = bf
  · rw [if_pos h1]
    have n1 : (af == bf) = true := by simp [h1]
    by_cases h2 : at' = bt
    · rw [if_pos h2]
      have n2 : (at' == bt) = true := by simp [h2]
      clear h1 h2
      go_enter Try.func16, Try.ntmps16
      go_wp2_with fail
      go_ret
      exact ⟨by simp, by first | exact hb | (rw [← hw2] at hb; exact hb)⟩
    · rw [if_neg h2]
      have n2 : (at' == bt) = false := by simp; omega
      clear h1 h2
      go_enter Try.func16, Try.ntmps16
      go_wp2_with fail
      go_ret
      exact ⟨by simp, by first | exact hb | (rw [← hw2] at hb; exact hb)⟩
  · rw [if_neg h1]
    have n1 : (af == bf) = false := by simp; omega
    clear h1
    go_enter Try.func16, Try.ntmps16
    go_wp2_with fail
    go_ret
    exact ⟨by simp, by first | exact hb | (rw [← hw2] at hb; exact hb)⟩
end Go.Proofs.Ytdngcihjfbmbpaa.Zm
