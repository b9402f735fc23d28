/- The walk of correctorlaw14.DiagOrder: sorted, each stands ahead of the next one; all are there, and no others; sorted again it stays. -/
import Derived.Test.YtdngcihjfbmbpaaZlb
import Derived.Test.YtdngcihjfbmbpaaZs2
namespace Go.Proofs.Ytdngcihjfbmbpaa.Zm
open Go.RowKit
open Go.Proofs.Ytdngcihjfbmbpaa.Sq
open Go.Proofs.Ytdngcihjfbmbpaa.Zd
set_option linter.unusedVariables false

set_option maxHeartbeats 16000000 in
set_option maxRecDepth 100000 in
theorem walk_DiagOrder (v : Value) (l : List Dg) (w : World) (h : Reads encZ w v l) (hwf : ∀ d ∈ l, Wf d) :
    Calls Try.prog 4 #[v] w fun e w' => e = .returned (.bool true) ∧ Below w.heap.size w w' := by
  have H := Lib.hid (good_any v l w h)
  clear h hwf
  obtain ⟨B0, hB0⟩ : ∃ B0, w.heap.size = B0 := ⟨_, rfl⟩
  have HB0 := Lib.hid hB0
  obtain ⟨Q, hQ⟩ : ∃ Q, (fun e (w' : World) => e = Ending.returned (.bool true) ∧ Below w.heap.size w w') = Q := ⟨_, rfl⟩
  have HQ := Lib.hid (show ∀ w', Below B0 w w' → Q (.returned (.bool true)) w' from fun w' hb => by rw [← hQ]; exact ⟨rfl, by rw [hB0]; exact hb⟩)
  rw [hQ]
  clear hB0 hQ
  go_enter Try.func4, Try.ntmps4
  go_wp2_with fail
  refine (known14 w).mono ?_
  rintro e w1 ⟨rfl, rfl⟩
  go_wp2_with fail
  refine H.out.mono ?_
  rintro e w1 ⟨gv, rfl, hg, hb1⟩
  rw [HB0.out] at hb1
  have hgl := goodL_len l
  have hgw := goodL_wf l
  have HG := Lib.hid (show Reads encZ w1 gv (goodL l) from Reads.of_own (E := encZ) hg)
  have HB1 := Lib.hid hb1
  have hs1 : B0 ≤ w1.heap.size := by have := hb1.size; rw [HB0.out] at this; exact this
  clear hg hb1 H
  generalize goodL l = G at HG hgl hgw
  have HGw := Lib.hid hgw
  clear hgw
  go_wp2_with fail
  refine (sortS w1 gv G HG.out HGw.out (by omega)).mono ?_
  rintro e w2 ⟨xv, rfl, ho2, hb2⟩
  have HX := Lib.hid (show Reads encZ w2 xv (sortD G) from Reads.of_own (E := encZ) ho2)
  have HG2 := Lib.hid (HG.out.below hb2)
  have HB2 := Lib.hid (HB1.out.trans (hb2.mono hs1))
  have hs2 : B0 ≤ w2.heap.size := Nat.le_trans hs1 hb2.size
  have HSt := Lib.hid (srt_sort G)
  have HMs := Lib.hid (mem_sort G)
  have HXw := Lib.hid (show ∀ d ∈ sortD G, Wf d from fun d hd => HGw.out d ((mem_sort G d).1 hd))
  have HXs := Lib.hid (show sortD (sortD G) = sortD G from sort_srt (srt_sort G))
  clear ho2 hb2 HG HB1 HB0 hs1 HGw
  have hxl : (sortD G).length ≤ 40 := by
    have := len_le_sub (l := sortD G) (m := G) ((List.Pairwise.imp (fun {a b} (h : less a b = true) => fun e => by subst e; rw [less_irr] at h; cases h) HSt.out)) (fun y hy => (HMs.out y).1 hy)
    omega
  generalize sortD G = X at HX HSt HMs HXw HXs hxl
  obtain ⟨ga, gc, rfl⟩ := HG2.out.shape
  obtain ⟨xa, xc, rfl⟩ := HX.out.shape
  obtain ⟨M, hM⟩ : ∃ M, G.length = M := ⟨_, rfl⟩
  obtain ⟨N, hN⟩ : ∃ N, X.length = N := ⟨_, rfl⟩
  have HM := Lib.hid hM
  have HN := Lib.hid hN
  have HXat := Lib.hid (fun W (hW : Below w2.heap.size w2 W) j x hx => diag_cells (HX.out.below hW) j x hx)
  have HGat := Lib.hid (fun W (hW : Below w2.heap.size w2 W) j x hx => diag_cells (HG2.out.below hW) j x hx)
  rw [hM] at HG2 hgl ⊢
  rw [hN] at HX hxl ⊢
  clear hM hN
  go_wp2_with fail
  go_loopw [5, 6, 7] (fun iv _ _ wr => ∃ i : Nat, iv = .int .i64 ((i : Int) + 1) ∧ i ≤ N ∧ Hid (Below w2.heap.size w2 wr)) (fun iv _ _ _ => N + 1 - (intOf iv).toNat)
  case atStart => exact ⟨0, rfl, Nat.zero_le _, Lib.hid (Below.refl _ _)⟩
  case round =>
    obtain ⟨i, rfl, hin, HB⟩ := hrel
    by_cases hlt : i + 1 < N
    · obtain ⟨p, hp⟩ : ∃ p, X[i]? = some p := ⟨_, List.getElem?_eq_getElem (by rw [HN.out]; omega)⟩
      obtain ⟨q, hq⟩ : ∃ q, X[i + 1]? = some q := ⟨_, List.getElem?_eq_getElem (by rw [HN.out]; exact hlt)⟩
      have hpq : less p q = true := by
        have h1 := List.pairwise_iff_getElem.1 HSt.out i (i + 1) (by rw [HN.out]; omega) (by rw [HN.out]; exact hlt) (by omega)
        rw [(List.getElem?_eq_some_iff.1 hp).2, (List.getElem?_eq_some_iff.1 hq).2] at h1
        exact h1
      rw [less_iff] at hpq
      obtain ⟨b, off, rfl, ci0, ci1, ci2⟩ := HXat.out wr HB.out i p hp
      obtain ⟨b', off', hbb, cj0, cj1, cj2⟩ := HXat.out wr HB.out (i + 1) q hq
      injection hbb with hbb
      injection hbb with e1 e2
      subst e1 e2
      obtain ⟨a0, a1, a2⟩ := p
      obtain ⟨b0, b1, b2⟩ := q
      dsimp only at ci0 ci1 ci2 cj0 cj1 cj2 hpq
      have HLs := Lib.hid hpq
      obtain ⟨j, hj⟩ : ∃ j, i + 1 = j := ⟨_, rfl⟩
      rw [hj] at cj0 cj1 cj2
      have e1 : (i : Int) + 1 = (j : Int) := by omega
      have ii : (j : Int) < (N : Int) := by omega
      have ii2 : (i : Int) < (N : Int) := by omega
      have hj0 : (0 : Int) ≤ (j : Int) := by omega
      have hi0 : (0 : Int) ≤ (i : Int) := by omega
      have gw : IntKind.i64.wrap ((j : Int) - 1) = (i : Int) := by rw [show (j : Int) - 1 = (i : Int) from by omega]; exact IntWalk.i64_in _ (by omega)
      have HJ := Lib.hid hj
      rw [e1]
      clear hp hq hpq hj e1
      go_upto_region 8 with fail
      go_cut [6, 7] (fun p q wx => ∃ xb yb, p = .pointer (some ⟨xb, 0, none⟩) ∧ q = .pointer (some ⟨yb, 0, none⟩) ∧ Hid (wx.heap[xb]? = some (.cells #[.int .i64 a0, .int .i64 a1, .int .i64 a2] 28 (0, 0))) ∧ Hid (wx.heap[yb]? = some (.cells #[.int .i64 b0, .int .i64 b1, .int .i64 b2] 28 (0, 0))) ∧ Hid (Below wr.heap.size wr wx))
      case first =>
        have ci0A := fun o => at_alloc (o := o) ci0
        have ci0B := fun o o2 => at_alloc (o := o2) (at_alloc (o := o) ci0)
        have ci1A := fun o => at_alloc (o := o) ci1
        have ci1B := fun o o2 => at_alloc (o := o2) (at_alloc (o := o) ci1)
        have ci2A := fun o => at_alloc (o := o) ci2
        have ci2B := fun o o2 => at_alloc (o := o2) (at_alloc (o := o) ci2)
        have cj0A := fun o => at_alloc (o := o) cj0
        have cj0B := fun o o2 => at_alloc (o := o2) (at_alloc (o := o) cj0)
        have cj1A := fun o => at_alloc (o := o) cj1
        have cj1B := fun o o2 => at_alloc (o := o2) (at_alloc (o := o) cj1)
        have cj2A := fun o => at_alloc (o := o) cj2
        have cj2B := fun o o2 => at_alloc (o := o2) (at_alloc (o := o) cj2)
        go_region
        · go_wp2_with fail
          go_meet
          have hu : ((wr.alloc (.cells #[.int .i64 a0, .int .i64 a1, .int .i64 a2] 28)).alloc (.cells #[.int .i64 b0, .int .i64 b1, .int .i64 b2] 28)).heap[wr.heap.size]? = some (.cells #[.int .i64 a0, .int .i64 a1, .int .i64 a2] 28 (0, 0)) := (Below.heap_alloc _ (.cells #[.int .i64 b0, .int .i64 b1, .int .i64 b2] 28) _ (by simp)).trans (heap_alloc_new _ _)
          have hv : ((wr.alloc (.cells #[.int .i64 a0, .int .i64 a1, .int .i64 a2] 28)).alloc (.cells #[.int .i64 b0, .int .i64 b1, .int .i64 b2] 28)).heap[wr.heap.size + 1]? = some (.cells #[.int .i64 b0, .int .i64 b1, .int .i64 b2] 28 (0, 0)) := by
            have h := heap_alloc_new (wr.alloc (.cells #[.int .i64 a0, .int .i64 a1, .int .i64 a2] 28)) (.cells #[.int .i64 b0, .int .i64 b1, .int .i64 b2] 28)
            rw [size_alloc] at h
            exact h
          have hw := below_allocS (below_alloc wr (.cells #[.int .i64 a0, .int .i64 a1, .int .i64 a2] 28)) (.cells #[.int .i64 b0, .int .i64 b1, .int .i64 b2] 28)
          exact ⟨_, _, rfl, rfl, Lib.hid hu, Lib.hid hv, Lib.hid hw.drew⟩
        · go_wp2_with fail
          go_meet
          have hu : ((wr.alloc (.cells #[.int .i64 b0, .int .i64 b1, .int .i64 b2] 28)).alloc (.cells #[.int .i64 a0, .int .i64 a1, .int .i64 a2] 28)).heap[wr.heap.size]? = some (.cells #[.int .i64 b0, .int .i64 b1, .int .i64 b2] 28 (0, 0)) := (Below.heap_alloc _ (.cells #[.int .i64 a0, .int .i64 a1, .int .i64 a2] 28) _ (by simp)).trans (heap_alloc_new _ _)
          have hv : ((wr.alloc (.cells #[.int .i64 b0, .int .i64 b1, .int .i64 b2] 28)).alloc (.cells #[.int .i64 a0, .int .i64 a1, .int .i64 a2] 28)).heap[wr.heap.size + 1]? = some (.cells #[.int .i64 a0, .int .i64 a1, .int .i64 a2] 28 (0, 0)) := by
            have h := heap_alloc_new (wr.alloc (.cells #[.int .i64 b0, .int .i64 b1, .int .i64 b2] 28)) (.cells #[.int .i64 a0, .int .i64 a1, .int .i64 a2] 28)
            rw [size_alloc] at h
            exact h
          have hw := below_allocS (below_alloc wr (.cells #[.int .i64 b0, .int .i64 b1, .int .i64 b2] 28)) (.cells #[.int .i64 a0, .int .i64 a1, .int .i64 a2] 28)
          exact ⟨_, _, rfl, rfl, Lib.hid hv, Lib.hid hu, Lib.hid hw.drew⟩
      case rest =>
        obtain ⟨xb, yb, rfl, rfl, HBx, HBy, HBw⟩ := hcut
        rename World => w3
        clear ci0 ci1 ci2 cj0 cj1 cj2 gw
        have x0 := cell_of_block (o := 0) HBx.out rfl
        have y0 := cell_of_block (o := 0) HBy.out rfl
        have x1 := cell_of_block (o := 1) HBx.out rfl
        have y1 := cell_of_block (o := 1) HBy.out rfl
        have x2 := cell_of_block (o := 2) HBx.out rfl
        have y2 := cell_of_block (o := 2) HBy.out rfl
        have HBn := Lib.hid (show Below w2.heap.size w2 w3 from HB.out.trans (HBw.out.mono HB.out.size))
        have t1 : ¬ (b1 < a1) := by have := HLs.out; omega
        by_cases h1 : a1 = b1
        · subst h1
          have t2 : ¬ (b2 < a2) := by have := HLs.out; omega
          by_cases h2 : a2 = b2
          · subst h2
            have t3 : ¬ (b0 ≤ a0) := by have := HLs.out; omega
            go_wp2_with fail
            go_roundw
            case rel => exact ⟨i + 1, by have := HJ.out; go_num, by omega, HBn⟩
            case measure => have := HJ.out; simp [intOf]; omega
          · have t3 : (a2 == b2) = false := by simp [h2]
            clear h2
            go_wp2_with fail
            go_roundw
            case rel => exact ⟨i + 1, by have := HJ.out; go_num, by omega, HBn⟩
            case measure => have := HJ.out; simp [intOf]; omega
        · have t3 : (a1 == b1) = false := by simp [h1]
          clear h1
          go_wp2_with fail
          go_roundw
          case rel => exact ⟨i + 1, by have := HJ.out; go_num, by omega, HBn⟩
          case measure => have := HJ.out; simp [intOf]; omega
    · have ii : ¬ ((i : Int) + 1 < (N : Int)) := by omega
      clear hlt
      have HBa := Lib.hid HB.out
      go_wp2_with fail
      rename_i wq0
      go_loopw [8] (fun iv wr => ∃ i : Nat, iv = .int .i64 i ∧ i ≤ M ∧ Hid (Below w2.heap.size w2 wr)) (fun iv _ => M - (intOf iv).toNat)
      case atStart => exact ⟨0, rfl, Nat.zero_le _, HBa⟩
      case round =>
        rename World => wy
        clear HB HBa
        obtain ⟨i, rfl, hin, HB⟩ := hrel
        by_cases hlt : i < M
        · obtain ⟨p, hp⟩ : ∃ p, G[i]? = some p := ⟨_, List.getElem?_eq_getElem (by rw [HM.out]; exact hlt)⟩
          obtain ⟨b, off, rfl, ci0, ci1, ci2⟩ := HGat.out wy HB.out i p hp
          have hpm := (HMs.out p).2 (List.mem_of_getElem? hp)
          have HH := Lib.hid (has_any (.slice xa N xc) X p wy (HX.out.below HB.out) hpm)
          have ii : (i : Int) < (M : Int) := by omega
          have ii0 : (0 : Int) ≤ (i : Int) := by omega
          clear hp hpm
          go_wp2_with fail
          refine HH.out.mono ?_
          rintro e w4 ⟨rfl, hb4⟩
          have HBn := Lib.hid (HB.out.trans (hb4.mono HB.out.size))
          clear hb4 ci0 ci1 ci2
          go_wp2_with fail
          go_roundw
          case rel => exact ⟨i + 1, by go_num, by omega, HBn⟩
          case measure => simp [intOf]; omega
        · have ii : ¬ ((i : Int) < (M : Int)) := by omega
          clear hlt
          have HBa := Lib.hid HB.out
          go_wp2_with fail
          go_loopw [9] (fun iv wr => ∃ i : Nat, iv = .int .i64 i ∧ i ≤ N ∧ Hid (Below w2.heap.size w2 wr)) (fun iv _ => N - (intOf iv).toNat)
          case atStart => exact ⟨0, rfl, Nat.zero_le _, HBa⟩
          case round =>
            rename World => wz
            clear HB HBa
            obtain ⟨i, rfl, hin, HB⟩ := hrel
            by_cases hlt : i < N
            · obtain ⟨p, hp⟩ : ∃ p, X[i]? = some p := ⟨_, List.getElem?_eq_getElem (by rw [HN.out]; exact hlt)⟩
              obtain ⟨b, off, rfl, ci0, ci1, ci2⟩ := HXat.out wz HB.out i p hp
              have hpm := (HMs.out p).1 (List.mem_of_getElem? hp)
              have HH := Lib.hid (has_any (.slice ga M gc) G p wz (HG2.out.below HB.out) hpm)
              have ii : (i : Int) < (N : Int) := by omega
              have ii0 : (0 : Int) ≤ (i : Int) := by omega
              clear hp hpm
              go_wp2_with fail
              refine HH.out.mono ?_
              rintro e w4 ⟨rfl, hb4⟩
              have HBn := Lib.hid (HB.out.trans (hb4.mono HB.out.size))
              clear hb4 ci0 ci1 ci2
              go_wp2_with fail
              go_roundw
              case rel => exact ⟨i + 1, by go_num, by omega, HBn⟩
              case measure => simp [intOf]; omega
            · have ii : ¬ ((i : Int) < (N : Int)) := by omega
              clear hlt
              go_wp2_with fail
              refine (sortS wz (.slice xa N xc) X (HX.out.below HB.out) HXw.out (by rw [HN.out]; omega)).mono ?_
              rintro e w5 ⟨v5, rfl, ho5, hb5⟩
              have HR5 := Lib.hid (show Reads encZ w5 v5 X from by have h9 := Reads.of_own (E := encZ) ho5; rw [HXs.out] at h9; exact h9)
              have HB5 := Lib.hid hb5
              clear ho5 hb5
              go_wp2_with fail
              refine (diagsP v5 (.slice xa N xc) X w5 HR5.out ((HX.out.below HB.out).below HB5.out)).mono ?_
              rintro e w6 ⟨rfl, hb6⟩
              have HF := Lib.hid (HQ.out w6 (HB2.out.trans ((below_from (below_from HB.out HB5.out) hb6).mono hs2)))
              clear hb6
              go_wp2_with fail
              try simp only [Exit.jump]
              exact HF.out
end Go.Proofs.Ytdngcihjfbmbpaa.Zm
