/- The heap of diagnostics in memory: Push, Pop. -/
import Derived.Test.YtdngcihjfbmbpaaZl2
import Derived.Deep.AppendLies
import Derived.Deep.RegionLaw
import Derived.OneCell
namespace Go.Proofs.Ytdngcihjfbmbpaa.Zm
open Go.RowKit
open Go.Proofs.Ytdngcihjfbmbpaa.Sq
open Go.Proofs.Ytdngcihjfbmbpaa.Zd

/-- The heap holds l; all else that was there stays; its row is the same, or new. -/
def Grew (pb : Nat) (rb : Option Nat) (w : World) (l : List Dg) (w' : World) : Prop :=
  ∃ rb', HeapAt w' pb rb' l ∧ Keep pb rb w w' ∧ (rb' = rb ∨ ∃ g, rb' = some g ∧ w.heap.size ≤ g)
theorem push_done {w W0 w1 : World} {pb g cap : Nat} {v : Value} {l : List Dg} {a b c : Int} (hb : Below w.heap.size w W0) (h1 : w.heap[pb]? = some (.cells #[v] 34 (0, 0))) (hne : v.ownBlock ≠ some pb)
    (hg : W0.grownBy w1 v.ownBlock) (hown : w1.ownsRow (pb + 1) 28 3 (.slice (some ⟨g, 0, none⟩) (l.length + 1) cap) (l.length + 1) (cellsS l ++ [.int .i64 a, .int .i64 b, .int .i64 c])) (hat : v.ownBlock = some g ∨ w.heap.size ≤ g) :
    Grew pb v.ownBlock w (l ++ [(⟨a, b, c⟩ : Dg)]) (w1.setCell ⟨pb, 0, none⟩ (.slice (some ⟨g, 0, none⟩) (l.length + 1) cap)) := by
  have hlt : pb < w.heap.size := (Array.getElem?_eq_some_iff.1 h1).1
  have h2 : w1.heap[pb]? = some (.cells #[v] 34 (0, 0)) := by
    rw [hg.block pb (Nat.lt_of_lt_of_le hlt hb.size) (fun e => hne e.symm), hb.block pb hlt]; exact h1
  refine ⟨some g, ⟨_, one_setCell h2, ?_, rfl⟩, ⟨?_, ?_, ?_, ?_, ?_⟩, ?_⟩
  · have h3 := ownsRow_setCell_below hown (a := ⟨pb, 0, none⟩) (by simp) (.slice (some ⟨g, 0, none⟩) (l.length + 1) cap)
    rw [cellsS_app, show (l ++ [(⟨a, b, c⟩ : Dg)]).length = l.length + 1 from by simp]
    exact h3
  · exact hg.os.trans hb.os
  · exact hg.tape.trans hb.tape
  · exact hg.output.trans hb.output
  · rw [show (w1.setCell ⟨pb, 0, none⟩ (.slice (some ⟨g, 0, none⟩) (l.length + 1) cap)).heap.size = w1.heap.size from by simp]
    exact Nat.le_trans hb.size hg.size
  · intro k hk hk1 hk2
    rw [heap_setCell_other _ _ _ _ hk1, hg.block k (Nat.lt_of_lt_of_le hk hb.size) (fun e => hk2 e.symm)]
    exact hb.block k hk
  · rcases hat with h | h
    · exact .inl h.symm
    · exact .inr ⟨g, rfl, h⟩

theorem assert_ok (a b c : Int) (w : World) : (Instr.typeAssert (.iface 28 (.agg #[.int .i64 a, .int .i64 b, .int .i64 c])) 20 28 true).run Try.prog w = .ok (.tuple #[.agg #[.int .i64 a, .int .i64 b, .int .i64 c], .bool true]) w := by kernel_rfl
theorem assert_go (a b c : Int) (w : World) : (Instr.typeAssert (.iface 28 (.agg #[.int .i64 a, .int .i64 b, .int .i64 c])) 20 28 false).run Try.prog w = .ok (.agg #[.int .i64 a, .int .i64 b, .int .i64 c]) w := by kernel_rfl
theorem blk2 (w : World) (A : Obj) (cs : Array Value) (t : TypeId) : ((w.alloc A).alloc (.cells cs t)).heap[w.heap.size + 1]? = some (.cells cs t (0, 0)) := by
  have h : ((w.alloc A).alloc (.cells cs t)).heap[(w.alloc A).heap.size]? = some (.cells cs t (0, 0)) := by
    show ((w.alloc A).heap.push _)[(w.alloc A).heap.size]? = _
    exact Array.getElem?_push_size
  rwa [size_alloc] at h
theorem here_grown {W w' : World} {row : Option Nat} {b o : Nat} {u : Value} (hg : W.grownBy w' row) (hne : row ≠ some b) (h : Here W b o u) : Here w' b o u :=
  ⟨by rw [hg.cell_far ⟨b, o, none⟩ (lt_of_cell h.1) (Ne.symm hne)]; exact h.1, by rw [hg.frozen_far ⟨b, o, none⟩ (lt_of_cell h.1) (Ne.symm hne)]; exact h.2⟩
set_option maxHeartbeats 4000000 in
set_option maxRecDepth 100000 in
theorem pushH (w : World) (pb : Nat) (rb : Option Nat) (l : List Dg) (a b c : Int) (h : HeapAt w pb rb l) (hl : l.length ≤ 100000) :
    Calls Try.prog 38 #[.pointer (some ⟨pb, 0, none⟩), .iface 28 (.agg #[.int .i64 a, .int .i64 b, .int .i64 c])] w fun e w' => e = .returned (.tuple #[]) ∧ Grew pb rb w (l ++ [(⟨a, b, c⟩ : Dg)]) w' := by
  obtain ⟨v, h1, hown, rfl⟩ := h
  obtain ⟨i0, hi0, hz0, hz1, hz2⟩ := info_parts infoDiag
  have hlt : pb < w.heap.size := (Array.getElem?_eq_some_iff.1 h1).1
  have c0 : w.cell? ⟨pb, 0, none⟩ = some v := cell_of_block (o := 0) h1 rfl
  have f0 : w.frozen? ⟨pb, 0, none⟩ = false := free_of_block h1
  have hne : v.ownBlock ≠ some pb := fun e => by have := (hown.lt pb e).1; omega
  have H1 := Lib.hid h1
  clear h1
  have hta := assert_ok a b c
  go_enter Try.func38, Try.ntmps38
  go_wp2_with fail
  go_region_law ((refine step_append_lies _ (by rfl) _ _ _ (by rfl) (pb + 1) 28 i0 _ 3 24 Try.underlying22 hi0 hz0 hz1 hz2 rfl (by omega) v l.length (cellsS l) (by rfl) (((hown.alloc _).alloc _).drew) ⟨w.heap.size + 1, 0, none⟩ 1 1 [.int .i64 a, .int .i64 b, .int .i64 c] (by rfl) (by rfl) (World.news_of_block (cs := #[.int .i64 a, .int .i64 b, .int .i64 c]) (t := 28) (fr := (0, 0)) (by exact blk2 w _ _ _)) (by simp [Value.oneCell']) (by omega) (by unfold maxLen; omega) (by omega) (by simp; omega) (w.heap.size + 2) (by simp) ?_; intro gg cap w1 hown1 hgrow hat hgl; obtain ⟨hc1, hf1⟩ := here_grown hgrow hne (here_drew (here_alloc (here_alloc ⟨c0, f0⟩)))))
  all_goals
    go_end0
    refine ⟨rfl, push_done (W0 := ((w.alloc (box a b c)).alloc (box a b c)).drew) (Below.drew (Below.trans (below_alloc w _) (Below.mono (below_alloc (w.alloc (box a b c)) _) (by simp)))) H1.out hne hgrow hown1 ?_⟩
    rcases hat with h | h
    · exact .inl h
    · exact .inr (by omega)
/-- Pop: the last one is handed out. -/
theorem pop_done {w w1 : World} {pb g n cap : Nat} {cur : Array Value} {l : List Dg} (hb : Below w.heap.size w w1) (hpg : pb < g) (h1 : w.heap[pb]? = some (.cells #[.slice (some ⟨g, 0, none⟩) (n + 1) cap] 34 (0, 0))) (hc : w.heap[g]? = some (.cells cur 28 (0, 0)))
    (hn : l.length = n + 1) (hlc : n + 1 ≤ cap) (hm : cap ≤ maxLen) (h6 : cur.size = cap * 3) (h7 : cur.toList.take (l.length * 3) = cellsS l) :
    HeapAt (w1.setCell ⟨pb, 0, none⟩ (.slice (some ⟨g, 0, none⟩) n cap)) pb (some g) (l.take n) ∧ Keep pb (some g) w (w1.setCell ⟨pb, 0, none⟩ (.slice (some ⟨g, 0, none⟩) n cap)) := by
  have hlt : pb < w.heap.size := (Array.getElem?_eq_some_iff.1 h1).1
  have hlg : g < w.heap.size := (Array.getElem?_eq_some_iff.1 hc).1
  have h2 : w1.heap[pb]? = some (.cells #[.slice (some ⟨g, 0, none⟩) (n + 1) cap] 34 (0, 0)) := (hb.block pb hlt).trans h1
  have h3 : (w1.setCell ⟨pb, 0, none⟩ (.slice (some ⟨g, 0, none⟩) n cap)).heap[g]? = some (.cells cur 28 (0, 0)) := by
    rw [heap_setCell_other _ _ _ _ (by simp only; omega)]; exact (hb.block g hlg).trans hc
  have hln : (l.take n).length = n := by rw [List.length_take]; omega
  have h8 : cur.toList.take (n * 3) = cellsS (l.take n) := by
    rw [← cellsS_take, ← h7, List.take_take]
    congr 1
    omega
  refine ⟨⟨_, one_setCell h2, ⟨cellsS_len _, .inr ⟨g, cap, cur, by rw [hln], hpg, h3, by omega, hm, h6, by rw [hln]; exact h8⟩⟩, rfl⟩, ?_⟩
  exact (Keep.of_below hb).setPb 0 _
set_option maxHeartbeats 4000000 in
set_option maxRecDepth 100000 in
theorem popH (w : World) (pb : Nat) (rb : Option Nat) (l : List Dg) (n : Nat) (h : HeapAt w pb rb l) (hn : l.length = n + 1) :
    Calls Try.prog 37 #[.pointer (some ⟨pb, 0, none⟩)] w fun e w' => e = .returned (.iface 28 (.agg #[.int .i64 (at_ l n).code, .int .i64 (at_ l n).f, .int .i64 (at_ l n).t])) ∧ HeapAt w' pb rb (l.take n) ∧ Keep pb rb w w' := by
  rcases h.open_ with ⟨_, rfl, -⟩ | ⟨g, cap, cur, rfl, hpg, h1, hc, hlc, hm, h6, h7⟩
  · exact absurd hn (by simp)
  · obtain ⟨ci0, ci1, ci2⟩ := row_cells hc h7 rfl n (by omega)
    rw [hn] at h1 hlc
    have c0 : w.cell? ⟨pb, 0, none⟩ = some (.slice (some ⟨g, 0, none⟩) (n + 1) cap) := cell_of_block (o := 0) h1 rfl
    have f0 : w.frozen? ⟨pb, 0, none⟩ = false := free_of_block h1
    have hlg := lt_of_cell ci0
    have hlp := lt_of_cell c0
    dsimp only at hlg hlp
    obtain ⟨x, hx⟩ : ∃ x, (at_ l n).code = x := ⟨_, rfl⟩
    obtain ⟨y, hy⟩ : ∃ y, (at_ l n).f = y := ⟨_, rfl⟩
    obtain ⟨z, hz⟩ : ∃ z, (at_ l n).t = z := ⟨_, rfl⟩
    rw [hx] at ci0 ⊢
    rw [hy] at ci1 ⊢
    rw [hz] at ci2 ⊢
    have HD := Lib.hid (fun w1 hb => pop_done (w1 := w1) hb hpg h1 hc hn hlc hm h6 h7)
    clear h h1 hc h6 h7 hx hy hz
    unfold maxLen at hm
    have hn0 : (0 : Int) ≤ (n : Int) := by omega
    have hn1 : (n : Int) < (n : Int) + 1 := by omega
    go_enter Try.func37, Try.ntmps37
    go_wp2
    go_ret
    have q := HD.out w (Below.refl _ _)
    exact ⟨rfl, q.1.keep (below_alloc _ _), q.2.trans (Keep.of_below (below_alloc _ _)) (.inl rfl)⟩
end Go.Proofs.Ytdngcihjfbmbpaa.Zm
