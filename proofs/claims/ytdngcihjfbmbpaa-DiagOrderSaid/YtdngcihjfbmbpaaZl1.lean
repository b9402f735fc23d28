/- The heap of diagnostics in memory: a struct of one slice behind a pointer; Len, Less, Swap, Push, Pop: one contract a method. -/
import Derived.Test.YtdngcihjfbmbpaaZc0
import Derived.Test.YtdngcihjfbmbpaaQt
import Derived.WalkLawsBesides
import Derived.WalkSpells
import Derived.Outline
import Derived.Deep.RegionHeld3
import Derived.Deep.DeepMust
import Derived.BigRegion
import Derived.OwnWalk
import Derived.Deep.QuietTactic
import Derived.BigQuiet
import Derived.Deep.DeepCutAuto
import Derived.Deep.CutBlock
import Derived.Deep.RegionWith
namespace Go.Proofs.Ytdngcihjfbmbpaa.Zm
open Go.RowKit
open Go.Proofs.Ytdngcihjfbmbpaa.Sq
open Go.Proofs.Ytdngcihjfbmbpaa.Zd

/-- The block pb holds the slice of the diagnostics l, whose row lies in the block rb. -/
def HeapAt (w : World) (pb : Nat) (rb : Option Nat) (l : List Dg) : Prop :=
  ∃ v, w.heap[pb]? = some (.cells #[v] 34 (0, 0)) ∧ w.ownsRow (pb + 1) 28 3 v l.length (cellsS l) ∧ v.ownBlock = rb
/-- All that was there stays, but for the blocks pb and rb. -/
structure Keep (pb : Nat) (rb : Option Nat) (w w' : World) : Prop where
  os : w'.os = w.os
  tape : w'.tape = w.tape
  output : w'.output = w.output
  size : w.heap.size ≤ w'.heap.size
  block : ∀ k, k < w.heap.size → k ≠ pb → rb ≠ some k → w'.heap[k]? = w.heap[k]?
theorem Keep.refl (pb : Nat) (rb : Option Nat) (w : World) : Keep pb rb w w := ⟨rfl, rfl, rfl, Nat.le_refl _, fun _ _ _ _ => rfl⟩
theorem Keep.of_below {pb : Nat} {rb : Option Nat} {w w' : World} (h : Below w.heap.size w w') : Keep pb rb w w' := ⟨h.os, h.tape, h.output, h.size, fun k hk _ _ => h.block k hk⟩
theorem Keep.trans {pb : Nat} {rb rc : Option Nat} {a b c : World} (h : Keep pb rb a b) (k : Keep pb rc b c) (hr : rc = rb ∨ ∃ g, rc = some g ∧ a.heap.size ≤ g) : Keep pb rb a c := by
  refine ⟨k.os.trans h.os, k.tape.trans h.tape, k.output.trans h.output, Nat.le_trans h.size k.size, fun i hi h1 h2 => ?_⟩
  refine (k.block i (Nat.lt_of_lt_of_le hi h.size) h1 ?_).trans (h.block i hi h1 h2)
  rcases hr with rfl | ⟨g, rfl, hg⟩
  · exact h2
  · intro e; have := Option.some.inj e; omega
theorem Keep.drew {pb : Nat} {rb : Option Nat} {a w : World} (h : Keep pb rb a w) : Keep pb rb a w.drew := ⟨h.os, h.tape, h.output, h.size, h.block⟩
theorem Keep.setPb {pb : Nat} {rb : Option Nat} {a w : World} (h : Keep pb rb a w) (o : Nat) (v : Value) : Keep pb rb a (w.setCell ⟨pb, o, none⟩ v) :=
  ⟨h.os, h.tape, h.output, by simpa using h.size, fun k hk h1 h2 => by rw [Below.heap_setCell _ _ _ _ (by simpa using h1)]; exact h.block k hk h1 h2⟩
theorem Keep.setRb {pb g : Nat} {a w : World} (h : Keep pb (some g) a w) (o : Nat) (v : Value) : Keep pb (some g) a (w.setCell ⟨g, o, none⟩ v) :=
  ⟨h.os, h.tape, h.output, by simpa using h.size, fun k hk h1 h2 => by rw [Below.heap_setCell _ _ _ _ (by simp only [ne_eq]; intro e; exact h2 (by rw [e]))]; exact h.block k hk h1 h2⟩
theorem HeapAt.keep {w w' : World} {pb : Nat} {rb : Option Nat} {l : List Dg} (h : HeapAt w pb rb l) (hb : Below w.heap.size w w') : HeapAt w' pb rb l := by
  obtain ⟨v, h1, h2, h3⟩ := h
  have hlt : pb < w.heap.size := (Array.getElem?_eq_some_iff.1 h1).1
  exact ⟨v, (hb.block pb hlt).trans h1, own_below h2 hb, h3⟩
/-- The heap, opened: no row, or a row of a block of its own. -/
theorem HeapAt.open_ {w : World} {pb : Nat} {rb : Option Nat} {l : List Dg} (h : HeapAt w pb rb l) :
    (w.heap[pb]? = some (.cells #[.slice none 0 0] 34 (0, 0)) ∧ l = [] ∧ rb = none) ∨
    ∃ g cap cur, rb = some g ∧ pb < g ∧ w.heap[pb]? = some (.cells #[.slice (some ⟨g, 0, none⟩) l.length cap] 34 (0, 0)) ∧ w.heap[g]? = some (.cells cur 28 (0, 0)) ∧ l.length ≤ cap ∧ cap ≤ maxLen ∧ cur.size = cap * 3 ∧ cur.toList.take (l.length * 3) = cellsS l := by
  obtain ⟨v, h1, h2, h3⟩ := h
  rcases h2.2 with ⟨rfl, h0⟩ | ⟨g, cap, cur, rfl, hg, hc, h4, h5, h6, h7⟩
  · exact .inl ⟨h1, List.eq_nil_of_length_eq_zero h0, h3.symm⟩
  · exact .inr ⟨g, cap, cur, h3.symm, hg, h1, hc, h4, h5, h6, h7⟩
theorem cell_of_block {w : World} {b : Nat} {cur : Array Value} {t : TypeId} {o : Nat} {v : Value} (h : w.heap[b]? = some (.cells cur t (0, 0))) (hv : cur[o]? = some v) : w.cell? ⟨b, o, none⟩ = some v := by
  simp [World.cell?, h, hv]
theorem free_of_block {w : World} {b : Nat} {cur : Array Value} {t : TypeId} {o : Nat} (h : w.heap[b]? = some (.cells cur t (0, 0))) : w.frozen? ⟨b, o, none⟩ = false := by
  simp [World.frozen?, h]
/-- The three cells of each in a row. -/
theorem row_cells {w : World} {g n : Nat} {cur : Array Value} {l : List Dg} (hc : w.heap[g]? = some (.cells cur 28 (0, 0))) (h7 : cur.toList.take (l.length * 3) = cellsS l) (hn : l.length = n) (k : Nat) (hk : k < n) :
    w.cell? ⟨g, k * 3, none⟩ = some (.int .i64 (at_ l k).code) ∧ w.cell? ⟨g, k * 3 + 1, none⟩ = some (.int .i64 (at_ l k).f) ∧ w.cell? ⟨g, k * 3 + 2, none⟩ = some (.int .i64 (at_ l k).t) := by
  subst hn
  obtain ⟨e1, e2, e3⟩ := cellsS_get l k hk
  rw [← h7, List.getElem?_take, if_pos (by omega)] at e1
  rw [← h7, List.getElem?_take, if_pos (by omega)] at e2
  rw [← h7, List.getElem?_take, if_pos (by omega)] at e3
  exact ⟨cell_of_block hc (by rw [← Array.getElem?_toList]; exact e1), cell_of_block hc (by rw [← Array.getElem?_toList]; exact e2), cell_of_block hc (by rw [← Array.getElem?_toList]; exact e3)⟩

set_option maxHeartbeats 400000 in
theorem lenH (w : World) (pb : Nat) (rb : Option Nat) (l : List Dg) (h : HeapAt w pb rb l) :
    Calls Try.prog 14 #[.pointer (some ⟨pb, 0, none⟩)] w fun e w' => e = .returned (.int .i64 (l.length : Nat)) ∧ w = w' := by
  rcases h.open_ with ⟨h1, rfl, -⟩ | ⟨g, cap, cur, -, -, h1, -, -, -, -, -⟩
  · have c0 := cell_of_block (o := 0) h1 rfl
    clear h h1
    go_enter Try.func14, Try.ntmps14
    go_wp2
    go_ret
    exact ⟨rfl, rfl⟩
  · have c0 := cell_of_block (o := 0) h1 rfl
    clear h h1
    go_enter Try.func14, Try.ntmps14
    go_wp2
    go_ret
    exact ⟨rfl, rfl⟩
set_option maxHeartbeats 4000000 in
set_option maxRecDepth 100000 in
theorem lessH (w : World) (pb : Nat) (rb : Option Nat) (l : List Dg) (i j : Nat) (h : HeapAt w pb rb l) (hi : i < l.length) (hj : j < l.length) :
    Calls Try.prog 36 #[.pointer (some ⟨pb, 0, none⟩), .int .i64 i, .int .i64 j] w fun e w' => e = .returned (.bool (less (at_ l i) (at_ l j))) ∧ Below w.heap.size w w' := by
  rcases h.open_ with ⟨_, rfl, -⟩ | ⟨g, cap, cur, -, hpg, h1, hc, hlc, hm, -, h7⟩
  · exact absurd hi (by simp)
  · obtain ⟨n, hn⟩ : ∃ n, l.length = n := ⟨_, rfl⟩
    have c0 : w.cell? ⟨pb, 0, none⟩ = some (.slice (some ⟨g, 0, none⟩) l.length cap) := cell_of_block (o := 0) h1 rfl
    rw [hn] at c0 hi hj hlc
    obtain ⟨ci0, ci1, ci2⟩ := row_cells hc h7 hn i hi
    obtain ⟨cj0, cj1, cj2⟩ := row_cells hc h7 hn j hj
    obtain ⟨a, ha⟩ : ∃ a, at_ l i = a := ⟨_, rfl⟩
    obtain ⟨b, hb⟩ : ∃ b, at_ l j = b := ⟨_, rfl⟩
    rw [ha] at ci0 ci1 ci2
    rw [hb] at cj0 cj1 cj2
    rw [ha, hb]
    obtain ⟨R, hR⟩ : ∃ R, less a b = R := ⟨_, rfl⟩
    have hor := or_less a b
    rw [hR] at hor ⊢
    obtain ⟨a0, a1, a2⟩ := a
    obtain ⟨b0, b1, b2⟩ := b
    dsimp only at ci0 ci1 ci2 cj0 cj1 cj2 hor
    have HOR := Lib.hid hor
    have hlt := lt_of_cell ci0
    have hlp := lt_of_cell c0
    dsimp only at hlt hlp
    clear h h1 hc h7 hn ha hb hR hor
    unfold maxLen at hm
    have hi' : (i : Int) < (n : Int) := by omega
    have hj' : (j : Int) < (n : Int) := by omega
    have hi0 : (0 : Int) ≤ (i : Int) := by omega
    have hj0 : (0 : Int) ≤ (j : Int) := by omega
    go_enter Try.func36, Try.ntmps36
    go_upto_region 1 with fail
    go_cut [7, 8] (fun p q wx => ∃ xb yb, p = .pointer (some ⟨xb, 0, none⟩) ∧ q = .pointer (some ⟨yb, 0, none⟩) ∧ Hid (wx.heap[xb]? = some (.cells #[.int .i64 a0, .int .i64 a1, .int .i64 a2] 28 (0, 0))) ∧ Hid (wx.heap[yb]? = some (.cells #[.int .i64 b0, .int .i64 b1, .int .i64 b2] 28 (0, 0))) ∧ Hid (Below w.heap.size w wx))
    case first =>
      have c0A := fun o => at_alloc (o := o) c0
      have c0B := fun o o2 => at_alloc (o := o2) (at_alloc (o := o) c0)
      have ci0A := fun o => at_alloc (o := o) ci0
      have ci0B := fun o o2 => at_alloc (o := o2) (at_alloc (o := o) ci0)
      have ci1A := fun o => at_alloc (o := o) ci1
      have ci1B := fun o o2 => at_alloc (o := o2) (at_alloc (o := o) ci1)
      have ci2A := fun o => at_alloc (o := o) ci2
      have ci2B := fun o o2 => at_alloc (o := o2) (at_alloc (o := o) ci2)
      have cj0A := fun o => at_alloc (o := o) cj0
      have cj0B := fun o o2 => at_alloc (o := o2) (at_alloc (o := o) cj0)
      have cj1A := fun o => at_alloc (o := o) cj1
      have cj1B := fun o o2 => at_alloc (o := o2) (at_alloc (o := o) cj1)
      have cj2A := fun o => at_alloc (o := o) cj2
      have cj2B := fun o o2 => at_alloc (o := o2) (at_alloc (o := o) cj2)
      go_region
      · go_wp2_with fail
        go_meet
        have hu : ((w.alloc (.cells #[.int .i64 a0, .int .i64 a1, .int .i64 a2] 28)).alloc (.cells #[.int .i64 b0, .int .i64 b1, .int .i64 b2] 28)).heap[w.heap.size]? = some (.cells #[.int .i64 a0, .int .i64 a1, .int .i64 a2] 28 (0, 0)) := (Below.heap_alloc _ (.cells #[.int .i64 b0, .int .i64 b1, .int .i64 b2] 28) _ (by simp)).trans (heap_alloc_new _ _)
        have hv : ((w.alloc (.cells #[.int .i64 a0, .int .i64 a1, .int .i64 a2] 28)).alloc (.cells #[.int .i64 b0, .int .i64 b1, .int .i64 b2] 28)).heap[w.heap.size + 1]? = some (.cells #[.int .i64 b0, .int .i64 b1, .int .i64 b2] 28 (0, 0)) := by
          have h := heap_alloc_new (w.alloc (.cells #[.int .i64 a0, .int .i64 a1, .int .i64 a2] 28)) (.cells #[.int .i64 b0, .int .i64 b1, .int .i64 b2] 28)
          rw [size_alloc] at h
          exact h
        have hw := below_allocS (below_alloc w (.cells #[.int .i64 a0, .int .i64 a1, .int .i64 a2] 28)) (.cells #[.int .i64 b0, .int .i64 b1, .int .i64 b2] 28)
        exact ⟨_, _, rfl, rfl, Lib.hid hu, Lib.hid hv, Lib.hid hw.drew⟩
      · go_wp2_with fail
        go_meet
        have hu : ((w.alloc (.cells #[.int .i64 b0, .int .i64 b1, .int .i64 b2] 28)).alloc (.cells #[.int .i64 a0, .int .i64 a1, .int .i64 a2] 28)).heap[w.heap.size]? = some (.cells #[.int .i64 b0, .int .i64 b1, .int .i64 b2] 28 (0, 0)) := (Below.heap_alloc _ (.cells #[.int .i64 a0, .int .i64 a1, .int .i64 a2] 28) _ (by simp)).trans (heap_alloc_new _ _)
        have hv : ((w.alloc (.cells #[.int .i64 b0, .int .i64 b1, .int .i64 b2] 28)).alloc (.cells #[.int .i64 a0, .int .i64 a1, .int .i64 a2] 28)).heap[w.heap.size + 1]? = some (.cells #[.int .i64 a0, .int .i64 a1, .int .i64 a2] 28 (0, 0)) := by
          have h := heap_alloc_new (w.alloc (.cells #[.int .i64 b0, .int .i64 b1, .int .i64 b2] 28)) (.cells #[.int .i64 a0, .int .i64 a1, .int .i64 a2] 28)
          rw [size_alloc] at h
          exact h
        have hw := below_allocS (below_alloc w (.cells #[.int .i64 b0, .int .i64 b1, .int .i64 b2] 28)) (.cells #[.int .i64 a0, .int .i64 a1, .int .i64 a2] 28)
        exact ⟨_, _, rfl, rfl, Lib.hid hv, Lib.hid hu, Lib.hid hw.drew⟩
    case rest =>
      obtain ⟨xb, yb, rfl, rfl, HBx, HBy, HBw⟩ := hcut
      rename World => w3
      clear c0 ci0 ci1 ci2 cj0 cj1 cj2
      have x0 := cell_of_block (o := 0) HBx.out rfl
      have y0 := cell_of_block (o := 0) HBy.out rfl
      have x1 := cell_of_block (o := 1) HBx.out rfl
      have y1 := cell_of_block (o := 1) HBy.out rfl
      have x2 := cell_of_block (o := 2) HBx.out rfl
      have y2 := cell_of_block (o := 2) HBy.out rfl
      go_wp2_with fail
      refine wp_region_quiet_tail 15 (by kernel_rfl) (by kernel_rfl) ?_
      simp only [List.take_succ_cons, List.take_zero, List.drop_succ_cons, List.drop_zero]
      repeat (go_big_quiet_step (exact (compare_any _ _ _) _))
      refine wpQuiet_nil ?_
      obtain ⟨x, hx⟩ : ∃ x, cmpI a1 b1 = x := ⟨_, rfl⟩
      obtain ⟨y, hy⟩ : ∃ y, cmpI a2 b2 = y := ⟨_, rfl⟩
      obtain ⟨z, hz⟩ : ∃ z, cmpI a0 b0 = z := ⟨_, rfl⟩
      rw [hx, hy, hz] at HOR
      rw [hx, hy, hz]
      clear hx hy hz x0 x1 x2 y0 y1 y2
      obtain ⟨u, hu⟩ : ∃ u, or3 x y z = u := ⟨_, rfl⟩
      rw [hu] at HOR
      have HO := Lib.hid (fun b W h0 h1 h2 => by have h := or_any x y z b W h0 h1 h2; rw [hu] at h; exact h)
      have hd := HOR.out
      clear hu
      go_wp2_with fail
      refine (HO.out _ _ ?c0 ?c1 ?c2).mono ?_
      case c0 => exact at_new rfl
      case c1 => exact at_new rfl
      case c2 => exact at_new rfl
      rintro e w2 ⟨rfl, rfl⟩
      go_wp2
      go_ret
      exact ⟨rfl, HBw.out.trans (((below_alloc w3 _).drew).mono HBw.out.size)⟩
end Go.Proofs.Ytdngcihjfbmbpaa.Zm
