/- span.take: the least one, and the heap without it. -/
import Derived.Test.YtdngcihjfbmbpaaZh2
namespace Go.Proofs.Ytdngcihjfbmbpaa.Zm
open Go.RowKit
open Go.Proofs.Ytdngcihjfbmbpaa.Sq
open Go.Proofs.Ytdngcihjfbmbpaa.Zd

/-- All that is said of the heap behind take. -/
def TakeDone (pb : Nat) (rb : Option Nat) (w : World) (l : List Dg) (e : Ending) (w' : World) : Prop :=
  ∃ (x1 x2 x3 : Int) (l' : List Dg), e = .returned (.agg #[.int .i64 x1, .int .i64 x2, .int .i64 x3]) ∧ HeapAt w' pb rb l' ∧ Keep pb rb w w' ∧ l'.length + 1 = l.length ∧ IsHeap l' l'.length ∧ (∀ y, y ∈ l ↔ y ∈ l' ∨ y = ⟨x1, x2, x3⟩) ∧ ∀ y ∈ l, less y ⟨x1, x2, x3⟩ = false
set_option maxHeartbeats 100000000 in
set_option maxRecDepth 10000000 in
theorem takeH (w : World) (pb : Nat) (rb : Option Nat) (l : List Dg) (n : Nat) (h : HeapAt w pb rb l) (hl : l.length ≤ 1000000) (hn : l.length = n + 1) (hh : IsHeap l (n + 1)) :
    Calls Try.prog 15 #[.pointer (some ⟨pb, 0, none⟩)] w (TakeDone pb rb w l) := by
  have hpl := h.pb_lt
  have hrl := h.rb_lt
  have HP := Lib.hid (heapPop (w.alloc (box 0 0 0)) pb rb l n (h.keep (below_alloc w _)) hl hn hh)
  have hne1 : w.heap.size ≠ pb := by omega
  have hne2 : rb ≠ some w.heap.size := fun e => by have := hrl _ e; omega
  clear h hl hn hh hrl
  have hta := assert_go
  go_enter Try.func15, Try.ntmps15
  go_wp2_with fail
  refine HP.out.mono ?_
  rintro e w1 ⟨⟨x1, x2, x3⟩, l', rfl, h1, h2, h3⟩
  obtain ⟨q0, z0⟩ := keep_here h2 hne1 hne2 (here_new (W := w) (C := #[.int .i64 0, .int .i64 0, .int .i64 0]) (k := 0) (t := 28) rfl rfl)
  obtain ⟨q1, z1⟩ := keep_here h2 hne1 hne2 (here_new (W := w) (C := #[.int .i64 0, .int .i64 0, .int .i64 0]) (k := 1) (t := 28) rfl rfl)
  obtain ⟨q2, z2⟩ := keep_here h2 hne1 hne2 (here_new (W := w) (C := #[.int .i64 0, .int .i64 0, .int .i64 0]) (k := 2) (t := 28) rfl rfl)
  have H3 := Lib.hid h3
  clear h3
  go_wp2
  refine bodyPost_ret (v := .agg #[.int .i64 x1, .int .i64 x2, .int .i64 x3]) ?_ rfl ⟨x1, x2, x3, l', rfl, ((h1.setOther hne1 hne2 0 _).setOther hne1 hne2 1 _).setOther hne1 hne2 2 _, Keep.setNew (Keep.setNew (Keep.setNew ((Keep.of_below (below_alloc w _)).trans h2 (.inl rfl)) (Nat.le_refl _) 0 _) (Nat.le_refl _) 1 _) (Nat.le_refl _) 2 _, H3.out⟩
  simp [results, Try.results15, go_sem, q0, q1, q2, cell_set_off, cell_set_eq]
end Go.Proofs.Ytdngcihjfbmbpaa.Zm
