/- What lines.stepPlace and lines.Offset answer where there is no such place. -/
import Derived.Test.YtfjlapkdfomclaaDoorLnRun2
import Derived.Deep.QuietTactic
import Derived.BigQuiet
import Derived.IntWalk
namespace Go.Proofs.YtfjlapkdfomclaaDoor
open Go.RowKit
open Go.Proofs.YtfjlapkdfomclaaDoor.Sg

set_option maxHeartbeats 600000 in
set_option maxRecDepth 100000 in
theorem stepPlace_none (s : ByteArray) (a : Option Addr) (cap : Nat) (col : Int) (we : Bool) (w : World) (h : Bys w (.slice a s.size cap) s) (hm : s.size ≤ 1000000) (hc : col < 1 ∨ (s.size : Int) + 1 < col) :
    Calls Tryd.prog 22 #[.slice a s.size cap, .int .i64 col, .bool we] w fun e w' => e = .returned (.tuple #[.int .i64 0, .bool false]) ∧ Below w.heap.size w w' := by
  have hcv := conv_bys h
  clear h
  go_enter Tryd.func22, Tryd.ntmps22
  go_wp2
  clear hcv
  go_loopg [8] s.size (fun gf n wr => ∃ (pos acc : Nat), n = .int .i64 acc ∧ wr.heap[w.heap.size]? = some (.stringIter s pos) ∧ Below w.heap.size w wr ∧ s.size ≤ pos + gf ∧ acc ≤ pos ∧ pos ≤ s.size)
  case atStart => exact ⟨0, 0, rfl, World.iter_heap w s 0, (Below.refl _ w).alloc (Nat.le_refl _) _, by omega, Nat.le_refl _, Nat.zero_le _⟩
  case round =>
    obtain ⟨pos, acc, rfl, hit, hb, hf, ha, hps⟩ := hrel
    by_cases hlt : pos < s.size
    · have hnx : ∀ ty, (Instr.next (.pointer (some ⟨w.heap.size, 0, none⟩)) true ty).run Tryd.prog wr = _ := fun ty => Lib.run_next_any_at wr w.heap.size s pos ty hit hlt
      have hwd := nx_pos s pos hlt
      have hwn := nx_le s pos hlt
      rw [← nx_width s pos hlt] at hnx
      obtain ⟨K, hK⟩ : ∃ K, (nx s pos).2 = K := ⟨_, rfl⟩
      obtain ⟨R, hR⟩ : ∃ R, (Utf8.decode s pos).1 = R := ⟨_, rfl⟩
      rw [hK, hR] at hnx
      rw [hK] at hwd hwn
      have hit2 := Lib.iterAt_heap wr w.heap.size s pos (pos + K) hit
      have hb2 := Lib.below_iterAt hb (k := w.heap.size) (Nat.le_refl _) s (pos + K)
      obtain ⟨W, hWd⟩ : ∃ W, wr.iterAt w.heap.size s (pos + K) = W := ⟨_, rfl⟩
      rw [hWd] at hnx hit2 hb2
      have hne : ((acc : Int) + 1 == col) = false := by simp; omega
      clear hK hR hWd hit hb
      go_wp2
      go_roundg (gk - 1)
      case measure => omega
      case rel => exact ⟨pos + K, acc + 1, by go_num, hit2, hb2, by omega, by omega, hwn⟩
    · have hnx : ∀ ty, (Instr.next (.pointer (some ⟨w.heap.size, 0, none⟩)) true ty).run Tryd.prog wr = _ := fun ty => Lib.run_next_end_at wr w.heap.size s pos ty hit hlt
      have hne : ((acc : Int) + 1 == col) = false := by simp; omega
      cases we
      · go_wp2
        go_ret2
        exact ⟨rfl, hb⟩
      · go_wp2
        go_ret2
        exact ⟨rfl, hb⟩

theorem Bys.drewN {w : World} {v : Value} {s : ByteArray} (h : Bys w v s) (n : Nat) : Bys (w.drewN n) v s := h
theorem Bys.shape_of {w : World} {v : Value} {s : ByteArray} (h : Bys w v s) : ∃ a cap, v = .slice a s.size cap := h.shape
theorem st_order (s : ByteArray) (m : Nat) (h : m + 1 < (st s).length) : (st s).getD m 0 ≤ (st s).getD (m + 1) 0 := by
  have hle : (st s).getD (m + 1) 0 ≤ s.size := by
    have := stN_mem s s.size (st s)[m + 1] (List.getElem_mem h)
    rw [List.getD_eq_getElem?_getD, List.getElem?_eq_getElem h]
    exact this
  have h1 := (st_at s ((st s).getD (m + 1) 0) s.size (m + 1) hle h).1 (Nat.le_refl _)
  exact (st_at s ((st s).getD (m + 1) 0) s.size m hle (by unfold st at h; omega)).2 (by omega)
theorem st_small (s : ByteArray) (m : Nat) (h : m < (st s).length) : (st s).getD m 0 ≤ s.size := by
  have := stN_mem s s.size (st s)[m] (List.getElem_mem h)
  rw [List.getD_eq_getElem?_getD, List.getElem?_eq_getElem h]
  exact this

set_option maxHeartbeats 600000 in
set_option maxRecDepth 100000 in
theorem lnOffset_line (s : ByteArray) (a : Option Addr) (cap : Nat) (line col : Int) (w : World) (h : Bys w (.slice a s.size cap) s) (hT : Tabs w) (hm : s.size ≤ 1000000) (hl : line < 1 ∨ ((st s).length : Int) < line) :
    Calls Tryd.prog 16 #[.slice a s.size cap, .int .i64 line, .int .i64 col] w fun e w' => e = .returned (.tuple #[.int .i64 0, .int .i64 2]) ∧ Below w.heap.size w w' := by
  have HS := Lib.hid (lnStarts s a cap w h hT hm)
  have hpos : 1 ≤ (st s).length := stN_pos s s.size
  clear h hT
  by_cases c1 : line < 1
  · clear hl
    go_enter Tryd.func16, Tryd.ntmps16
    go_wp2_with fail
    refine HS.out.mono ?_
    rintro e w1 ⟨v1, rfl, hown, hb⟩
    obtain ⟨g, c, rfl, -, -, -⟩ := own_open hown hpos
    clear hown
    go_wp2
    go_ret2
    exact ⟨rfl, hb⟩
  · have c2 : ((st s).length : Int) < line := by omega
    clear hl
    go_enter Tryd.func16, Tryd.ntmps16
    go_wp2_with fail
    refine HS.out.mono ?_
    rintro e w1 ⟨v1, rfl, hown, hb⟩
    obtain ⟨g, c, rfl, -, -, -⟩ := own_open hown hpos
    clear hown
    go_wp2
    go_ret2
    exact ⟨rfl, hb⟩

set_option maxHeartbeats 600000 in
set_option maxRecDepth 100000 in
theorem lnOffset_col (s : ByteArray) (a : Option Addr) (cap m : Nat) (col : Int) (w : World) (h : Bys w (.slice a s.size cap) s) (hT : Tabs w) (hm : s.size ≤ 1000000) (hl : m < (st s).length) (hc : col < 1 ∨ (s.size : Int) + 1 < col) :
    Calls Tryd.prog 16 #[.slice a s.size cap, .int .i64 ((m : Int) + 1), .int .i64 col] w fun e w' => e = .returned (.tuple #[.int .i64 0, .int .i64 2]) ∧ Below w.heap.size w w' := by
  have HS := Lib.hid (lnStarts s a cap w h hT hm)
  have hlen : (st s).length ≤ s.size + 1 := stN_len s s.size
  have hx := st_small s m hl
  have hord := st_order s m
  have hsm := st_small s (m + 1)
  have H0 := Lib.hid h
  clear h hT
  generalize hL : st s = L at *
  clear hL
  have c1 : ¬ ((m : Int) + 1 < 1) := by omega
  have c2 : ¬ ((L.length : Int) < (m : Int) + 1) := by omega
  have HO := Lib.hid hord
  have HM := Lib.hid hsm
  clear hord hsm
  go_enter Tryd.func16, Tryd.ntmps16
  go_wp2_with fail
  refine HS.out.mono ?_
  rintro e w1 ⟨v1, rfl, hown, hb⟩
  obtain ⟨g, c, rfl, q1, q2, hcell⟩ := own_open hown (by omega)
  simp only [maxLen] at q2
  have k1 := H0.out.below hb
  have hc0 := hcell m hl
  have hc1 := hcell (m + 1)
  have hi1 : (m : Int) < (L.length : Int) := by omega
  have hX := hx
  clear hcell hown HS H0
  obtain ⟨x, hxe⟩ : ∃ x, L.getD m 0 = x := ⟨_, rfl⟩
  rw [hxe] at hc0 hx hX
  obtain ⟨vc, hcut, hvc⟩ := cut_l (lo := x) k1 hx
  by_cases hlast : m + 1 < L.length
  · have hc2 := hc1 hlast
    have hxy := HO.out hlast
    have hys := HM.out hlast
    obtain ⟨y, hye⟩ : ∃ y, L.getD (m + 1) 0 = y := ⟨_, rfl⟩
    rw [hye] at hc2 hxy hys
    rw [hxe] at hxy
    obtain ⟨vc2, hcut2, hvc2⟩ := cut_lh (lo := x) (hi := y) k1 hxy hys
    have hz := ext_size s x y hys
    obtain ⟨S, hS⟩ : ∃ S, s.extract x y = S := ⟨_, rfl⟩
    rw [hS] at hvc2 hz
    obtain ⟨a2, d2, rfl⟩ := hvc2.shape
    have HST := Lib.hid (fun W hh => stepPlace_none S a2 d2 col false W hh (by omega) (by omega))
    have HV := Lib.hid hvc2
    have hne : ((m : Int) + 1 == (L.length : Int)) = false := by simp; omega
    have hi2 : (m : Int) + 1 < (L.length : Int) := by omega
    have e1 : IntKind.i64.wrap ((m : Int) + 1 - 1) = (m : Int) := by rw [Int.add_sub_cancel]; exact IntWalk.i64_in _ (by omega)
    have HB := Lib.hid hb
    clear hc1 hvc hvc2 hxe hye hz hb hS
    go_wp2_with fail
    go_quiet (fail)
    go_wp2_with fail
    refine (HST.out _ (HV.out.drewN _)).mono ?_
    rintro e w2 ⟨rfl, hb2⟩
    have hq := below_drewN HB.out nq
    go_wp2
    go_ret2
    exact ⟨rfl, hq.trans (hb2.mono hq.size)⟩
  · have hz := ext_size s x s.size (Nat.le_refl _)
    obtain ⟨S, hS⟩ : ∃ S, s.extract x s.size = S := ⟨_, rfl⟩
    rw [hS] at hvc hz
    obtain ⟨a2, d2, rfl⟩ := hvc.shape
    have HST := Lib.hid (fun W hh => stepPlace_none S a2 d2 col true W hh (by omega) (by omega))
    have HV := Lib.hid hvc
    have hne : ((m : Int) + 1 == (L.length : Int)) = true := by simp; omega
    have HB := Lib.hid hb
    clear hc1 hvc hxe hz hb hS
    go_wp2_with fail
    refine (HST.out _ HV.out).mono ?_
    rintro e w2 ⟨rfl, hb2⟩
    go_wp2
    go_ret2
    exact ⟨rfl, HB.out.trans (hb2.mono HB.out.size)⟩
end Go.Proofs.YtfjlapkdfomclaaDoor
