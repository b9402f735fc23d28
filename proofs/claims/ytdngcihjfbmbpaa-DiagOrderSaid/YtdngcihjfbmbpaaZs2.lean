/- diag.Sort: all are there, each once, in order. -/
import Derived.Test.YtdngcihjfbmbpaaZs1
import Derived.Test.YtdngcihjfbmbpaaZkl
import Derived.Test.YtdngcihjfbmbpaaDr
namespace Go.Proofs.Ytdngcihjfbmbpaa.Zm
open Go.RowKit
open Go.Proofs.Ytdngcihjfbmbpaa.Sq
open Go.Proofs.Ytdngcihjfbmbpaa.Zd
open Go.Proofs.Ytdngcihjfbmbpaa.Mp
set_option linter.unusedVariables false
set_option linter.unusedSimpArgs false

theorem len_le_sub : ∀ {l m : List Dg}, l.Nodup → (∀ y ∈ l, y ∈ m) → l.length ≤ m.length
  | [], _ => fun _ _ => Nat.zero_le _
  | x :: r, m => fun h k => by
    have hx := k x (by simp)
    have h2 := List.nodup_cons.1 h
    have h1 := len_le_sub (l := r) (m := m.erase x) h2.2 (fun y hy => (List.mem_erase_of_ne (fun e => h2.1 (by rw [← e]; exact hy))).2 (k y (by simp [hy])))
    rw [List.length_erase_of_mem hx] at h1
    have := List.length_pos_of_mem hx
    simp only [List.length_cons]
    omega
theorem nodup_sub : ∀ {m l : List Dg}, l.Nodup → (∀ y ∈ l, y ∈ m) → m.length ≤ l.length → m.Nodup
  | [], _ => fun _ _ _ => List.nodup_nil
  | x :: s, l => fun h k hl => by
    simp only [List.length_cons] at hl
    have hx : x ∉ s := fun hx => by
      have := len_le_sub (m := s) h (fun y hy => by
        rcases List.mem_cons.1 (k y hy) with rfl | h2
        · exact hx
        · exact h2)
      omega
    refine List.nodup_cons.2 ⟨hx, nodup_sub (l := l.erase x) (h.erase x) (fun y hy => ?_) ?_⟩
    · have := (List.Nodup.mem_erase_iff h).1 hy
      rcases List.mem_cons.1 (k y this.2) with e | h2
      · exact absurd e this.1
      · exact h2
    · rw [List.length_erase]
      split <;> omega
theorem take_more {l : List Dg} {k : Nat} (hk : k < l.length) : l.take (k + 1) = l.take k ++ [at_ l k] := by
  have e : at_ l k = l[k] := by simp [at_, hk]
  rw [List.take_succ_eq_append_getElem hk, e]
/-- All that is said of what Sort answers. -/
def SortDone (w : World) (l : List Dg) (e : Ending) (w' : World) : Prop :=
  ∃ vs, e = .returned vs ∧ w'.ownsRow w.heap.size 28 3 vs (sortD l).length (cellsS (sortD l)) ∧ Below w.heap.size w w'
/-- What the first loop holds ahead of the one at k. -/
def Got (w : World) (l : List Dg) (k : Nat) (wr : World) : Prop :=
  ∃ rb lk, HeapAt wr w.heap.size rb lk ∧ IsHeap lk lk.length ∧ lk.Nodup ∧ lk.length ≤ k ∧ (∀ y, y ∈ lk ↔ y ∈ l.take k) ∧ Times wr (w.heap.size + 1) (l.take k) ∧ Below w.heap.size w wr
/-- .. and once that one is counted. -/
def Mid (w : World) (l : List Dg) (k : Nat) (W : World) : Prop :=
  ∃ rb lk, HeapAt W w.heap.size rb lk ∧ IsHeap lk lk.length ∧ lk.Nodup ∧ lk.length ≤ k ∧ (∀ y, y ∈ lk ↔ y ∈ l.take k) ∧ Times W (w.heap.size + 1) (l.take (k + 1)) ∧ Below w.heap.size w W
theorem heap_times {w : World} {pb mb : Nat} {rb : Option Nat} {l m : List Dg} (h : HeapAt w pb rb l) (ht : Times w mb m) : rb ≠ some mb := by
  rintro rfl
  obtain ⟨f, ⟨es, c, h1, _⟩, _⟩ := ht
  rcases h.open_ with ⟨_, _, h3⟩ | ⟨g, cap, cur, h3, _, _, h2, _⟩
  · cases h3
  · injection h3 with h3
    subst h3
    rw [h2] at h1
    injection h1 with h1
    cases h1
theorem got_start (w : World) (l : List Dg) : Got w l 0 ((w.alloc (.cells #[.slice none 0 0] 34)).alloc (.map #[] 0)) := by
  refine ⟨none, [], HeapAt.keep ⟨_, ?_, World.ownsRow_nil _ _ _ _, rfl⟩ (below_alloc _ _), fun k _ h => absurd h (by simp), List.nodup_nil, Nat.le_refl _, fun y => by simp, ?_, (below_alloc w _).trans ((below_alloc _ _).mono (by simp))⟩
  · show (w.heap.push _)[w.heap.size]? = _
    exact Array.getElem?_push_size
  · have h := times_made (w.alloc (.cells #[.slice none 0 0] 34))
    rw [size_alloc] at h
    simpa using h
theorem mid_of {w wr W : World} {l : List Dg} {k : Nat} (h : Got w l k wr) (hk : k < l.length) (hs : wr.heap.size ≤ W.heap.size) (hos : W.os = wr.os ∧ W.tape = wr.tape ∧ W.output = wr.output) (hW : ∀ i, i < wr.heap.size → i ≠ w.heap.size + 1 → W.heap[i]? = wr.heap[i]?) (ht : Times W (w.heap.size + 1) (l.take k ++ [at_ l k])) : Mid w l k W := by
  obtain ⟨rb, lk, h1, h2, h3, h4, h5, h6, h7⟩ := h
  refine ⟨rb, lk, h1.same (hW _ h1.pb_lt (by omega)) (fun g hg => hW g (h1.rb_lt g hg).2 (fun e => heap_times h1 h6 (by rw [hg, e]))), h2, h3, h4, h5, by rw [take_more hk]; exact ht, ?_⟩
  exact ⟨hos.1.trans h7.os, hos.2.1.trans h7.tape, hos.2.2.trans h7.output, Nat.le_trans h7.size hs, fun i hi => (hW i (Nat.lt_of_lt_of_le hi h7.size) (by omega)).trans (h7.block i hi)⟩
theorem got_skip {w W : World} {l : List Dg} {k : Nat} (h : Mid w l k W) (hk : k < l.length) (hin : at_ l k ∈ l.take k) : Got w l (k + 1) W := by
  obtain ⟨rb, lk, h1, h2, h3, h4, h5, h6, h7⟩ := h
  refine ⟨rb, lk, h1, h2, h3, by omega, fun y => ?_, h6, h7⟩
  rw [h5, take_more hk, List.mem_append, List.mem_singleton]
  constructor
  · exact .inl
  · rintro (h | h)
    · exact h
    · rw [h]; exact hin
theorem got_push {w W W2 : World} {l lk l' : List Dg} {rb : Option Nat} {k : Nat} (hk : k < l.length) (hno : at_ l k ∉ l.take k) (h1 : HeapAt W w.heap.size rb lk) (h3 : lk.Nodup) (h4 : lk.length ≤ k) (h5 : ∀ y, y ∈ lk ↔ y ∈ l.take k) (h6 : Times W (w.heap.size + 1) (l.take (k + 1))) (h7 : Below w.heap.size w W)
    (hg : Grew w.heap.size rb W l' W2) (hs : Same (lk ++ [at_ l k]) l') (hi : IsHeap l' l'.length) : Got w l (k + 1) W2 := by
  have hne := heap_times h1 h6
  have hnd : (lk ++ [at_ l k]).Nodup := List.nodup_append.2 ⟨h3, by simp, fun a ha b hb => by
    rw [List.mem_singleton] at hb
    subst hb
    rintro rfl
    exact hno ((h5 _).1 ha)⟩
  have hlt := h6.lt
  obtain ⟨rb', g1, g2, g3⟩ := hg
  refine ⟨rb', l', g1, hi, nodup_sub hnd (fun y hy => (hs.2 y).1 hy) (Nat.le_of_eq hs.1.symm), by rw [← hs.1]; simp; omega, fun y => ?_, h6.same (g2.block _ hlt (by omega) hne), h7.trans (g2.below (fun g e => (h1.rb_lt g e).1) h7.size)⟩
  rw [← hs.2 y, take_more hk, List.mem_append, List.mem_append, h5]
/-- What the second loop holds: what is out, and what is left. -/
def Left (w : World) (l : List Dg) (B : Nat) (rb : Option Nat) (vs : Value) (n : Nat) (wr : World) : Prop :=
  ∃ out lk, HeapAt wr w.heap.size rb lk ∧ IsHeap lk lk.length ∧ lk.Nodup ∧ lk.length = n ∧ wr.ownsRow B 28 3 vs out.length (cellsS out) ∧ Srt out ∧ out.length + n ≤ l.length ∧ (∀ y, y ∈ l ↔ y ∈ out ∨ y ∈ lk) ∧ (∀ x ∈ out, ∀ y ∈ lk, less x y = true) ∧ Below w.heap.size w wr ∧ B ≤ wr.heap.size
/-- One more is out. -/
theorem left_put {w wr W W' : World} {l out lk l' : List Dg} {B n : Nat} {rb : Option Nat} {vs vs' : Value} {x : Dg} (hB : w.heap.size < B) (hrB : ∀ g, rb = some g → w.heap.size < g ∧ g < B)
    (hnd : lk.Nodup) (hown : wr.ownsRow B 28 3 vs out.length (cellsS out)) (hr : Srt out) (hlen : out.length + (n + 1) ≤ l.length) (hmem : ∀ y, y ∈ l ↔ y ∈ out ∨ y ∈ lk) (hord : ∀ x ∈ out, ∀ y ∈ lk, less x y = true) (hb : Below w.heap.size w wr) (hBw : B ≤ wr.heap.size)
    (h1 : HeapAt W w.heap.size rb l') (hk : Keep w.heap.size rb wr W) (hl' : l'.length + 1 = lk.length) (hln : lk.length = n + 1) (hi : IsHeap l' l'.length) (hlk : ∀ y, y ∈ lk ↔ y ∈ l' ∨ y = x) (hmin : ∀ y ∈ lk, less y x = false)
    (hown' : W'.ownsRow B 28 3 vs' (out ++ [x]).length (cellsS (out ++ [x]))) (hg : (W.alloc (box x.code x.f x.t)).grownBy W' vs.ownBlock) : Left w l B rb vs' n W' := by
  have h2 := below_alloc W (box x.code x.f x.t)
  have hsz : (W.alloc (box x.code x.f x.t)).heap.size = W.heap.size + 1 := size_alloc _ _
  have hgs := hg.size
  have hks := hk.size
  have hbW : Below w.heap.size w W := hb.trans (hk.below (fun g e => (hrB g e).1) hb.size)
  have hxl : (x :: l').Nodup := nodup_sub hnd (fun y hy => ((hlk y).1 hy).elim (fun h => List.mem_cons_of_mem _ h) (fun h => by simp [h])) (by simp; omega)
  have hxn := List.nodup_cons.1 hxl
  refine ⟨out ++ [x], l', (h1.keep h2).grown hg hB (fun g e => (hrB g e).2) (fun k e => (hown.lt k e).1), hi, hxn.2, by omega, hown', rises_snoc hr (fun y hy => hord y hy x ((hlk x).2 (.inr rfl))), by simp; omega, fun y => ?_, fun a ha y hy => ?_, ?_, ?_⟩
  · rw [hmem, hlk, List.mem_append, List.mem_singleton]
    constructor
    · rintro (h | h | h)
      · exact .inl (.inl h)
      · exact .inr h
      · exact .inl (.inr h)
    · rintro ((h | h) | h)
      · exact .inl h
      · exact .inr (.inr h)
      · exact .inr (.inl h)
  · rcases List.mem_append.1 ha with h | h
    · exact hord a h y ((hlk y).2 (.inl hy))
    · rw [List.mem_singleton.1 h]
      exact lt_of_ge_ne (hmin y ((hlk y).2 (.inl hy))) (fun e => hxn.1 (by rw [e]; exact hy))
  · exact (hbW.trans (h2.mono hbW.size)).grown hg (by rw [hsz]; have := hbW.size; omega) (fun k e => by have := (hown.lt k e).1; omega)
  · omega

set_option maxHeartbeats 8000000 in
set_option maxRecDepth 100000 in
theorem sortS (w : World) (v : Value) (l : List Dg) (h : Reads encZ w v l) (hwf : ∀ d ∈ l, Wf d) (hl : l.length ≤ 100000) :
    Calls Try.prog 8 #[v] w (SortDone w l) := by
  obtain ⟨a, cap, rfl⟩ := h.shape
  obtain ⟨N, hN⟩ : ∃ N, l.length = N := ⟨_, rfl⟩
  have HA := Lib.hid (fun k hk => diag_at h k hk)
  have HN := Lib.hid hN
  have HG := Lib.hid (got_start w l)
  have HW := Lib.hid (show ∀ k, k < N → Wf (at_ l k) from fun k hk => hwf _ (mem_at.2 ⟨k, by rw [hN]; exact hk, rfl⟩))
  rw [hN] at hl
  rw [hN]
  clear hN h hwf
  have hmm := @run_makeMap Try.prog
  go_enter Try.func8, Try.ntmps8
  go_wp2_with fail
  go_loopw [6, 13] (fun _ is wr => ∃ k : Nat, is = .int .i64 k ∧ k ≤ N ∧ Hid (Got w l k wr)) (fun _ is _ => N - (intOf is).toNat)
  case atStart => exact ⟨0, rfl, Nat.zero_le _, Lib.hid HG.out⟩
  case round =>
    obtain ⟨k, rfl, hk, HGk⟩ := hrel
    by_cases hlt : k < N
    · have hlen : k < l.length := by rw [HN.out]; exact hlt
      have HLn := Lib.hid hlen
      obtain ⟨b, off, rfl, c1, c2, c3⟩ := HA.out k hlen
      obtain ⟨x, hx⟩ : ∃ x, at_ l k = x := ⟨_, rfl⟩
      have hxw := HW.out k hlt
      rw [hx] at c1 c2 c3 hxw
      have HX := Lib.hid hx
      obtain ⟨x1, x2, x3⟩ := x
      dsimp only at c1 c2 c3
      obtain ⟨rb0, lk0, -, -, -, -, -, ht0, hb0⟩ := HGk.out
      rw [← hb0.cell (p := ⟨b, off + k * 3, none⟩) (lt_of_cell c1)] at c1
      rw [← hb0.cell (p := ⟨b, off + k * 3 + 1, none⟩) (lt_of_cell c2)] at c2
      rw [← hb0.cell (p := ⟨b, off + k * 3 + 2, none⟩) (lt_of_cell c3)] at c3
      have hmb := ht0.lt
      have ht1 : Times (wr.alloc (box x1 x2 x3)).drew (w.heap.size + 1) (l.take k) := (ht0.same ((below_alloc wr _).block _ hmb)).same rfl
      have HWf := Lib.hid hxw
      obtain ⟨u, st, w1, hr1, hr2, hg1, hs1⟩ := ht1.more ⟨x1, x2, x3⟩ hxw
      have hlk := ht1.look ⟨x1, x2, x3⟩ hxw
      obtain ⟨cn, hcn⟩ : ∃ cn, (l.take k).count (⟨x1, x2, x3⟩ : Dg) = cn := ⟨_, rfl⟩
      rw [hcn] at hr2 hs1 hlk
      obtain ⟨w2, hr3, ht3, hg3⟩ := hs1 w1 rfl
      have HC := Lib.hid hcn
      have bx := box_new wr x1 x2 x3
      have bsz : (wr.alloc (box x1 x2 x3)).drew.heap.size = wr.heap.size + 1 := size_alloc wr _
      have hbne : wr.heap.size ≠ w.heap.size + 1 := by omega
      have hcell1 : ∀ o u, (wr.alloc (box x1 x2 x3)).cell? ⟨wr.heap.size, o, none⟩ = some u → w1.cell? ⟨wr.heap.size, o, none⟩ = some u := fun o u hu =>
        (World.cell?_of_block (a := ⟨wr.heap.size, o, none⟩) (hg1.block _ (by show wr.heap.size < _; rw [bsz]; omega) (by simp; omega))).trans hu
      have hcell2 : ∀ o u, w1.cell? ⟨wr.heap.size, o, none⟩ = some u → w2.cell? ⟨wr.heap.size, o, none⟩ = some u := fun o u hu =>
        (World.cell?_of_block (a := ⟨wr.heap.size, o, none⟩) (hg3.block _ (lt_of_cell hu) (by simp; omega))).trans hu
      have hMid : Mid w l k w2 := mid_of HGk.out hlen (by have h1 := hg1.size; have h2 := hg3.size; rw [bsz] at h1; omega)
        ⟨hg3.os.trans hg1.os, hg3.tape.trans hg1.tape, hg3.output.trans hg1.output⟩
        (fun i hi hne => by
          rw [hg3.block i (by have h1 := hg1.size; rw [bsz] at h1; omega) (by simpa using hne), hg1.block i (by rw [bsz]; omega) (by simpa using hne)]
          exact (below_alloc wr _).block i hi)
        (by rw [HX.out]; exact ht3)
      have HM := Lib.hid hMid
      have hlk2 := ht3.look ⟨x1, x2, x3⟩ HWf.out
      have hcc : (l.take k ++ [(⟨x1, x2, x3⟩ : Dg)]).count ⟨x1, x2, x3⟩ = cn + 1 := by simp [hcn]
      rw [hcc] at hlk2
      have hcl : cn ≤ k := by rw [← hcn]; exact Nat.le_trans (List.count_le_length) (by simp; omega)
      have HL1 := Lib.hid hlk
      have HR1 := Lib.hid hr1
      have HR2 := Lib.hid hr2
      have HR3 := Lib.hid hr3
      have HL2 := Lib.hid hlk2
      have b0 := bx.1
      have b1 := bx.2.1
      have b2 := bx.2.2
      have d0 := hcell2 0 _ (hcell1 0 _ b0)
      have d1 := hcell2 1 _ (hcell1 1 _ b1)
      have d2 := hcell2 2 _ (hcell1 2 _ b2)
      have HD := Lib.hid (show w2.cell? ⟨wr.heap.size, 0, none⟩ = some (.int .i64 x1) ∧ w2.cell? ⟨wr.heap.size, 1, none⟩ = some (.int .i64 x2) ∧ w2.cell? ⟨wr.heap.size, 2, none⟩ = some (.int .i64 x3) from ⟨d0, d1, d2⟩)
      have HE := Lib.hid (show w1.cell? ⟨wr.heap.size, 0, none⟩ = some (.int .i64 x1) ∧ w1.cell? ⟨wr.heap.size, 1, none⟩ = some (.int .i64 x2) ∧ w1.cell? ⟨wr.heap.size, 2, none⟩ = some (.int .i64 x3) from ⟨hcell1 0 _ b0, hcell1 1 _ b1, hcell1 2 _ b2⟩)
      clear ht0 hb0 ht1 hxw hr1 hr2 hg1 hs1 hlk hcn hr3 ht3 hg3 bx bsz hcell1 hcell2 hMid hlk2 hcc hx d0 d1 d2 b0 b1 b2
      go_wp2_with fail
      obtain ⟨wa, hwa⟩ : ∃ wa, wr.alloc (.cells #[.int .i64 x1, .int .i64 x2, .int .i64 x3] 28) = wa := ⟨_, rfl⟩
      have HWA := Lib.hid hwa
      have bb := box_new wr x1 x2 x3
      rw [hwa] at bb
      obtain ⟨b0, b1, b2⟩ := bb
      have hL1 := HL1.out
      have hR1 := HR1.out
      rw [show wr.alloc (box x1 x2 x3) = wa from hwa] at hL1 hR1
      have HL1 := Lib.hid hL1
      have HR1 := Lib.hid hR1
      rw [hwa]
      clear hwa hL1 hR1
-- GEN R6
      refine wp_region_T (fun wx => wx.cell? ⟨wr.heap.size, 0, none⟩ = some (.int .i64 x1) ∧ wx.cell? ⟨wr.heap.size, 1, none⟩ = some (.int .i64 x2) ∧ wx.cell? ⟨wr.heap.size, 2, none⟩ = some (.int .i64 x3) ∧ (Instr.lookup 35 (.map (some (w.heap.size + 1))) (.agg #[.int .i64 x1, .int .i64 x2, .int .i64 x3]) false).run Try.prog wx = .ok (.int .i64 (cn : Nat)) wx) 6 (by kernel_rfl) ?_
      have hH : (fun wx : World => wx.cell? ⟨wr.heap.size, 0, none⟩ = some (.int .i64 x1) ∧ wx.cell? ⟨wr.heap.size, 1, none⟩ = some (.int .i64 x2) ∧ wx.cell? ⟨wr.heap.size, 2, none⟩ = some (.int .i64 x3) ∧ (Instr.lookup 35 (.map (some (w.heap.size + 1))) (.agg #[.int .i64 x1, .int .i64 x2, .int .i64 x3]) false).run Try.prog wx = .ok (.int .i64 (cn : Nat)) wx) wa.drew := ⟨b0, b1, b2, HL1.out⟩
      refine wpAnyT_take (i := 0) (oi := { dst := some 17, op := Op.move (Operand.tmp 4), type := 35, pos := _, after := #[], guard := none }) (v := .map (some (w.heap.size + 1))) rfl (by kernel_rfl) (by kernel_rfl) (by kernel_rfl) (by kernel_rfl) (by kernel_rfl) (fun _ _ _ h => h) (Or.inl ⟨rfl, fun W hW => ?_⟩) hH ?_
      · refine QuietRun.of_run ?_; go_simp
      try simp only [Act.put, List.setIfInBounds_toArray, List.set_cons_zero, List.set_cons_succ]
      refine wpAnyT_take (i := 1) (oi := { dst := some 18, op := Op.load 28 (Operand.tmp 6), type := 28, pos := _, after := #[], guard := none }) (v := .agg #[.int .i64 x1, .int .i64 x2, .int .i64 x3]) rfl (by kernel_rfl) (by kernel_rfl) (by kernel_rfl) (by kernel_rfl) (by kernel_rfl) (fun _ _ _ h => h) (Or.inl ⟨rfl, fun W hW => ?_⟩) hH ?_
      · refine QuietRun.of_run ?_; obtain ⟨z0, z1, z2, z3⟩ := hW; go_simp
      try simp only [Act.put, List.setIfInBounds_toArray, List.set_cons_zero, List.set_cons_succ]
      refine wpAnyT_take (i := 2) (oi := { dst := some 19, op := Op.lookup 35 (Operand.tmp 17) (Operand.tmp 18) false, type := 3, pos := _, after := #[{ on := 0, ground := Ground.data }, { on := 1, ground := Ground.data }], guard := none }) (v := .int .i64 (cn : Nat)) rfl (by kernel_rfl) (by kernel_rfl) (by kernel_rfl) (by kernel_rfl) (by kernel_rfl) (fun _ _ _ h => h) (Or.inl ⟨rfl, fun W hW => ?_⟩) hH ?_
      · refine QuietRun.of_run ?_; obtain ⟨z0, z1, z2, z3⟩ := hW; go_simp
      try simp only [Act.put, List.setIfInBounds_toArray, List.set_cons_zero, List.set_cons_succ]
      refine wpAnyT_take (i := 3) (oi := { dst := some 20, op := Op.binOp BinOp.add 3 (Operand.tmp 19) (Operand.const (Value.int IntKind.i64 1)) 3, type := 3, pos := _, after := #[{ on := 2, ground := Ground.data }], guard := none }) (v := .int .i64 ((cn : Int) + 1)) rfl (by kernel_rfl) (by kernel_rfl) (by kernel_rfl) (by kernel_rfl) (by kernel_rfl) (fun _ _ _ h => h) (Or.inl ⟨rfl, fun W hW => ?_⟩) hH ?_
      · refine QuietRun.of_run ?_; go_simp; rw [IntKind.wrap_i64]; omega
      try simp only [Act.put, List.setIfInBounds_toArray, List.set_cons_zero, List.set_cons_succ]
      refine wpAnyT_ready (rs := [4]) (by kernel_rfl) (by simp) ?_
      refine AllReadyT.cons (o := { dst := some 21, op := Op.mapEntry 35 (Operand.tmp 17) (Operand.tmp 18), type := 0, pos := _, after := #[{ on := 0, ground := Ground.data }, { on := 1, ground := Ground.data }, { on := 0, ground := Ground.phase }, { on := 1, ground := Ground.phase }, { on := 2, ground := Ground.textOnly Departure.mapOpAssignEntry }, { on := 3, ground := Ground.textOnly Departure.mapOpAssignEntry }], guard := none }) rfl (fun K hK => ?_) (AllReadyT.nil)
      refine step_entry rfl (.tmp 17) (.tmp 18) rfl _ _ _ rfl rfl HR1.out ?_
      refine hK.out _ _ (fun _ => ⟨HE.out.1, HE.out.2.1, HE.out.2.2, HR2.out⟩) (fun hH2 => ?_)
      clear hK K
      replace hH := hH2 (by kernel_rfl)
      clear hH2
      try simp only [Act.put, List.setIfInBounds_toArray, List.set_cons_zero, List.set_cons_succ]
      refine wpAnyT_take (i := 5) (oi := { dst := some 22, op := Op.extract (Operand.tmp 21) 1, type := 3, pos := _, after := #[{ on := 4, ground := Ground.data }], guard := none }) (v := goInt (st : Nat)) rfl (by kernel_rfl) (by kernel_rfl) (by kernel_rfl) (by kernel_rfl) (by kernel_rfl) (fun _ _ _ h => h) (Or.inl ⟨rfl, fun W hW => ?_⟩) hH ?_
      · refine QuietRun.of_run ?_; go_simp
      try simp only [Act.put, List.setIfInBounds_toArray, List.set_cons_zero, List.set_cons_succ]
      refine wpAnyT_ready (rs := [6]) (by kernel_rfl) (by simp) ?_
      refine AllReadyT.cons (o := { dst := none, op := Op.entryStore 35 (Operand.tmp 17) (Operand.tmp 22) (Operand.tmp 20), type := 0, pos := _, after := #[{ on := 0, ground := Ground.data }, { on := 5, ground := Ground.data }, { on := 3, ground := Ground.data }, { on := 4, ground := Ground.chain }, { on := 0, ground := Ground.phase }, { on := 1, ground := Ground.phase }, { on := 2, ground := Ground.phase }, { on := 3, ground := Ground.phase }, { on := 4, ground := Ground.phase }, { on := 5, ground := Ground.phase }], guard := none }) rfl (fun K hK => ?_) (AllReadyT.nil)
      refine step_estore rfl (.tmp 17) (.tmp 22) (.tmp 20) rfl _ _ _ rfl rfl rfl HR3.out ?_
      refine hK.out _ _ (fun h => absurd (h.symm.trans (show _ = true from by kernel_rfl)) (by decide)) (fun _ => ?_)
      clear hK K
      try simp only [Act.put, List.setIfInBounds_toArray, List.set_cons_zero, List.set_cons_succ]
      refine wpAnyT_done (by kernel_rfl) ?_ _
-- END R6
      clear b0 b1 b2 HE HR1 HR2 HR3 HL1
      obtain ⟨d0, d1, d2⟩ := HD.out
      have hL2 := HL2.out
      rw [show ((cn + 1 : Nat) : Int) = (cn : Int) + 1 from rfl] at hL2
      by_cases hc0 : cn = 0
      · subst hc0
        have hno : at_ l k ∉ l.take k := by
          rw [HX.out]
          intro hm
          have := List.count_pos_iff.2 hm
          rw [HC.out] at this
          omega
        obtain ⟨rb, lk, h1, h2, h3, h4, h5, h6, h7⟩ := HM.out
        have HP := Lib.hid (heapPush w2 w.heap.size rb lk x1 x2 x3 h1 (by omega) h2)
        have HS := Lib.hid (fun l' W2 hg hs hi => got_push (W2 := W2) (l' := l') HLn.out hno h1 h3 h4 h5 h6 h7 hg (by rw [HX.out]; exact hs) hi)
        clear h1 h2 h3 h4 h5 h6 h7 hno
        go_wp2_with fail
        refine HP.out.mono ?_
        rintro e W2 ⟨rfl, l', hg, hs, hi⟩
        have HR := Lib.hid (HS.out l' W2 hg hs hi)
        clear hg hs hi
        go_wp2
        go_roundw
        case rel => exact ⟨k + 1, by go_num, by omega, HR⟩
        case measure => simp [intOf]; omega
      · have g0 : ((cn : Int) + 1 == 1) = false := by simp; omega
        have hin : at_ l k ∈ l.take k := by
          rw [HX.out]
          exact List.count_pos_iff.1 (by rw [HC.out]; omega)
        have HR := Lib.hid (got_skip HM.out HLn.out hin)
        clear hin hc0
        go_wp2_with fail
        go_roundw
        case rel => exact ⟨k + 1, by go_num, by omega, HR⟩
        case measure => simp [intOf]; omega
    · obtain rfl : k = N := by omega
      obtain ⟨rb, lk, hh, hi, hnd, hn, hm, ht, hb⟩ := HGk.out
      have hB : w.heap.size < wr.heap.size := hh.pb_lt
      have HrB := Lib.hid (show ∀ g, rb = some g → w.heap.size < g ∧ g < wr.heap.size from hh.rb_lt)
      obtain ⟨n0, hn0⟩ : ∃ n0, lk.length = n0 := ⟨_, rfl⟩
      have HL := Lib.hid (show Left w l wr.heap.size rb (.slice none 0 0) n0 wr from ⟨[], lk, hh, hi, hnd, hn0, World.ownsRow_nil _ _ _ _, List.Pairwise.nil, by rw [HN.out, ← hn0]; simpa using hn, fun y => by rw [hm, ← HN.out, List.take_length]; simp, fun x hx => absurd hx (by simp), hb, Nat.le_refl _⟩)
      obtain ⟨B, hBe⟩ : ∃ B, wr.heap.size = B := ⟨_, rfl⟩
      have hnk : n0 ≤ k := by omega
      rw [hBe] at hB HrB HL
      have hkk : ¬ ((k : Int) < (k : Int)) := by omega
      clear hh hi hn hm hb hBe HA HG hnd ht hn0 HGk
      go_wp2_with fail
      go_loopg [7] n0 (fun gm vs wy => ∃ n : Nat, n ≤ gm ∧ Hid (Left w l B rb vs n wy))
      case atStart => exact ⟨n0, Nat.le_refl _, HL⟩
      case round =>
        rename World => wz
        obtain ⟨n, hng, HLf⟩ := hrel
        obtain ⟨out, lk, hh, hi, hnd, hn, hown, hrise, hlen, hmem, hord, hb, hBw⟩ := HLf.out
        have hlenC := lenH _ _ _ _ hh
        rw [hn] at hlenC
        have HC := Lib.hid hlenC
        clear hlenC
        cases n with
        | zero =>
          have HD := Lib.hid (show SortDone w l (.returned _) _ from ⟨_, rfl, by
            have e : sortD l = out := srt_eq (srt_sort l) hrise (fun y => by rw [mem_sort, hmem, List.eq_nil_of_length_eq_zero hn]; simp)
            rw [e]
            exact own_base hown (Nat.le_of_lt hB), hb⟩)
          clear hh hi hn hown hrise hlen hmem hord hb hBw HLf hnd
          go_wp2_with fail
          refine HC.out.mono ?_
          rintro e wq ⟨rfl, rfl⟩
          go_wp2
          go_ret
          exact HD.out
        | succ n =>
          have HT := Lib.hid (takeH wz w.heap.size rb lk n hh (by have := HN.out; omega) hn (by rw [hn] at hi; exact hi))
          have HP := Lib.hid (fun W W' x l' vs' h1 hk hl' hi hlk hmin hown' hg => left_put (W := W) (W' := W') (x := x) (l' := l') (vs' := vs') hB HrB.out hnd hown hrise hlen hmem hord hb hBw h1 hk hl' hn hi hlk hmin hown' hg)
          have HO := Lib.hid (fun W (hk : Keep w.heap.size rb wz W) => own_keep hown hk hB (fun g e => (HrB.out g e).2))
          obtain ⟨av, cv, rfl⟩ := (Reads.of_own (E := encZ) hown).shape
          obtain ⟨M, hM⟩ : ∃ M, out.length = M := ⟨_, rfl⟩
          have HMl := Lib.hid hM
          rw [hM] at HO HP
          rw [hM]
          have hlo : M ≤ 100000 := by have := HN.out; omega
          have Hlo := Lib.hid hlo
          have hn1 : (0 : Int) < (n : Int) + 1 := by omega
          clear hh hi hn hown hrise hlen hmem hord hb HLf hnd hlo hM
          go_wp2_with fail
          refine HC.out.mono ?_
          rintro e wq ⟨rfl, rfl⟩
          go_wp2_with fail
          refine HT.out.mono ?_
          rintro e w1 ⟨x1, x2, x3, l', rfl, h1, hk, hl1, hi1, hlk, hmin⟩
          have hown1 := HO.out w1 hk
          have HQ := Lib.hid (fun W' vs' hown' hg => HP.out w1 W' ⟨x1, x2, x3⟩ l' vs' h1 hk hl1 hi1 hlk hmin hown' hg)
          have hB1 := Nat.le_trans hBw hk.size
          clear h1 hk hl1 hi1 hlk hmin HT HO HC HP
          go_wp2_with (at_builtin; refine append_one tyZ rfl _ _ rfl B (.slice av M cv) out ⟨x1, x2, x3⟩ [.int .i64 x1, .int .i64 x2, .int .i64 x3] rfl rfl (by rw [HMl.out]; exact hown1) rfl (by rw [HMl.out]; have := Hlo.out; simp only [maxLen]; omega) (by rw [HMl.out]; have := Hlo.out; omega) hB1 ?_; intro v' W' hown' hg')
          have HR := Lib.hid (HQ.out W' v' hown' hg')
          clear hown' hg' hown1
          go_wp2
          go_roundg n
          case measure => omega
          case rel => exact ⟨n, Nat.le_refl _, HR⟩
end Go.Proofs.Ytdngcihjfbmbpaa.Zm
