/- The walk of correctorlaw2.LinesBreaks: each kind of break ends one line; the two of one together end one. -/
import Derived.Test.YtfjlapkdfomclaaDoorPl
namespace Go.Proofs.YtfjlapkdfomclaaDoor
open Go.RowKit
open Go.Proofs.YtfjlapkdfomclaaDoor.Sg

theorem add_1 : adds ⟨#[120, 10]⟩ 2 = 1 := by decide +kernel
theorem add_2 : adds ⟨#[120, 13]⟩ 2 = 1 := by decide +kernel
theorem add_3 : adds ⟨#[120, 13, 10]⟩ 3 = 1 := by decide +kernel
theorem add_4 : adds ⟨#[120]⟩ 1 = 0 := by decide +kernel

set_option maxHeartbeats 2000000 in
set_option maxRecDepth 100000 in
theorem walk_LinesBreaks (v1 : Value) (l : List Int) (w : World) (h1 : Nums .i64 w v1 l) (hT : Tabs w) :
    Calls Tryd.prog 6 #[v1] w fun e w' => e = .returned (.bool true) ∧ Below w.heap.size w w' := by
  have HK := Lib.hid (known2_true w hT)
  obtain ⟨a1, cap1, rfl⟩ := h1.shape
  have hl1 : l.length ≤ 9223372036854775807 := by
    rcases h1.1 with ⟨_, hz⟩ | ⟨_, _, _, _, g2, g3, _⟩
    · rw [hz]; exact Nat.zero_le _
    · simp only [maxLen] at g3; omega
  go_enter Tryd.func6, Tryd.ntmps6
  go_wp2_with fail
  refine HK.out.mono ?_
  rintro e w1 ⟨rfl, hb⟩
  have H1 := Lib.hid (h1.below hb)
  have HT1 := Lib.hid (hT.below hb)
  have HB1 := Lib.hid hb
  clear h1 hT HK hb
  go_wp2_with fail
  go_loopw [3, 4, 5] (fun sv n i wr => ∃ (k : Nat) (S : ByteArray), i = .int .i64 k ∧ k ≤ 30 ∧ sv = .string S ∧ n = .int .i64 ((st S).length : Nat) ∧ S.size ≤ 3 * k ∧ Below w1.heap.size w1 wr) (fun _ _ i _ => 30 - (intOf i).toNat)
  case atStart => exact ⟨0, ⟨#[]⟩, rfl, by omega, rfl, rfl, Nat.zero_le _, Below.refl _ _⟩
  case round =>
    obtain ⟨k, S, rfl, hk, rfl, rfl, hS, hbw⟩ := hrel
    have hlen : (st S).length ≤ S.size + 1 := stN_len S S.size
    have hpos : 1 ≤ (st S).length := stN_pos S S.size
    by_cases hlt : k < l.length ∧ k < 30
    · obtain ⟨hlt1, hlt2⟩ := hlt
      obtain ⟨b1, off1, rfl, q2, q3, hc1⟩ := (H1.out.below hbw).at_ hlt1
      simp only [maxLen] at q3
      have hi1 : (k : Int) < (l.length : Int) := by omega
      have hi2 : (k : Int) < 30 := by omega
      generalize l.getD k 0 = y at *
      have hwb := wit_bd y 4 (by omega)
      have HW := Lib.hid (within_any y 4 wr (by omega) (by omega))
      generalize wit y 4 = q at *
      have e1 := st_adds S ⟨#[120, 10]⟩ (by decide)
      have e2 := st_adds S ⟨#[120, 13]⟩ (by decide)
      have e3 := st_adds S ⟨#[120, 13, 10]⟩ (by decide)
      have e4 := st_adds S ⟨#[120]⟩ (by decide)
      rw [show (⟨#[120, 10]⟩ : ByteArray).size = 2 from rfl, add_1] at e1
      rw [show (⟨#[120, 13]⟩ : ByteArray).size = 2 from rfl, add_2] at e2
      rw [show (⟨#[120, 13, 10]⟩ : ByteArray).size = 3 from rfl, add_3] at e3
      rw [show (⟨#[120]⟩ : ByteArray).size = 1 from rfl, add_4] at e4
      obtain ⟨N, hN⟩ : ∃ N, (st S).length = N := ⟨_, rfl⟩
      rw [hN] at hlen hpos e1 e2 e3 e4 ⊢
      have E1 := Lib.hid e1
      have E2 := Lib.hid e2
      have E3 := Lib.hid e3
      have E4 := Lib.hid e4
      clear e1 e2 e3 e4 hN
      have hadd1 : S.size + 2 ≤ 9223372036854775807 := by omega
      have hadd2 : S.size + 3 ≤ 9223372036854775807 := by omega
      have hadd3 : S.size + 1 ≤ 9223372036854775807 := by omega
      rcases (by omega : q = 0 ∨ q = 1 ∨ q = 2 ∨ q = 3) with rfl | rfl | rfl | rfl
      · go_wp2_with fail
        refine HW.out.mono ?_
        rintro e w2 ⟨rfl, rfl⟩
        go_wp2
        go_roundw
        case rel => exact ⟨k + 1, S ++ ⟨#[120, 10]⟩, by go_num, by omega, rfl, by rw [E1.out]; go_num, by rw [app_size]; show S.size + 2 ≤ _; omega, hbw.alloc hbw.size _⟩
        case measure => simp [intOf]; omega
      · go_wp2_with fail
        refine HW.out.mono ?_
        rintro e w2 ⟨rfl, rfl⟩
        go_wp2
        go_roundw
        case rel => exact ⟨k + 1, S ++ ⟨#[120, 13]⟩, by go_num, by omega, rfl, by rw [E2.out]; go_num, by rw [app_size]; show S.size + 2 ≤ _; omega, hbw.alloc hbw.size _⟩
        case measure => simp [intOf]; omega
      · go_wp2_with fail
        refine HW.out.mono ?_
        rintro e w2 ⟨rfl, rfl⟩
        go_wp2
        go_roundw
        case rel => exact ⟨k + 1, S ++ ⟨#[120, 13, 10]⟩, by go_num, by omega, rfl, by rw [E3.out]; go_num, by rw [app_size]; show S.size + 3 ≤ _; omega, hbw.alloc hbw.size _⟩
        case measure => simp [intOf]; omega
      · go_wp2_with fail
        refine HW.out.mono ?_
        rintro e w2 ⟨rfl, rfl⟩
        go_wp2
        go_roundw
        case rel => exact ⟨k + 1, S ++ ⟨#[120]⟩, by go_num, by omega, rfl, by rw [E4.out]; go_num, by rw [app_size]; show S.size + 1 ≤ _; omega, hbw.alloc hbw.size _⟩
        case measure => simp [intOf]; omega
    · have hB := HB1.out.trans (hbw.mono HB1.out.size)
      have tw := HT1.out.below hbw
      have hq := cnt_le (S.extract (ls S S.size) S.size)
      rw [ext_size S _ S.size (Nat.le_refl _)] at hq
      obtain ⟨q, hQ⟩ : ∃ q, cnt (S.extract (ls S S.size) S.size) = q := ⟨_, rfl⟩
      rw [hQ] at hq
      have HQ := Lib.hid hQ
      have h00 := st_zero S S.size
      change (st S).getD 0 0 = 0 at h00
      have H00 := Lib.hid h00
      obtain ⟨c2, w2, hcv2, hr2, hb2⟩ := conv_str S wr (by simp only [maxLen]; omega)
      have HS := Lib.hid (lnStarts S _ c2 w2 hr2.bys (tw.below hb2) (by omega))
      have HT2 := Lib.hid (tw.below hb2)
      have B2 := Lib.hid (hB.trans (hb2.mono hB.size))
      clear hQ h00 H1 HT1 HB1 hB tw hr2 hb2 hbw
      by_cases hl1' : k < l.length
      · have hi1 : (k : Int) < (l.length : Int) := by omega
        have hi2 : ¬ ((k : Int) < 30) := by omega
        clear hlt
        go_wp2_with fail
        refine HS.out.mono ?_
        rintro e w3 ⟨v3, rfl, hown3, hb3⟩
        obtain ⟨g3, c3, rfl, -, -, hcell⟩ := own_open hown3 hpos
        have hc0 := hcell 0 (by omega)
        rw [H00.out] at hc0
        have T3 := HT2.out.below hb3
        have B3 := B2.out.trans (hb3.mono B2.out.size)
        obtain ⟨c4, w4, hcv4, hr4, hb4⟩ := conv_str S w3 (by simp only [maxLen]; omega)
        have hc4 := (hb4.cell (p := ⟨g3, 0, none⟩) (lt_of_cell hc0)).trans hc0
        have T4 := T3.below hb4
        have B4 := B3.trans (hb4.mono B3.size)
        have HP := Lib.hid (lnPlace_in S _ c4 S.size w4 hr4.bys T4 (by omega) (Nat.le_refl _))
        have C4 := Lib.hid hc4
        clear hown3 hcell hc0 T3 B3 hb3 hr4 hb4 T4 hc4 HS HT2 B2
        go_wp2_with fail
        refine HP.out.mono ?_
        rw [HQ.out]
        rintro e w5 ⟨rfl, hb5⟩
        have hc5 := (hb5.cell (p := ⟨g3, 0, none⟩) (lt_of_cell C4.out)).trans C4.out
        have B5 := B4.trans (hb5.mono B4.size)
        clear hb5 B4 HP C4
        change (st S).length ≤ S.size + 1 at hlen
        have hge : (1 : Int) ≤ 1 + (q : Int) := by omega
        rw [show (stN S S.size).length = (st S).length from rfl]
        generalize (st S).length = N at *
        go_wp2
        go_ret
        exact ⟨by simp, B5⟩
      · have hi1 : ¬ ((k : Int) < (l.length : Int)) := by omega
        clear hlt
        go_wp2_with fail
        refine HS.out.mono ?_
        rintro e w3 ⟨v3, rfl, hown3, hb3⟩
        obtain ⟨g3, c3, rfl, -, -, hcell⟩ := own_open hown3 hpos
        have hc0 := hcell 0 (by omega)
        rw [H00.out] at hc0
        have T3 := HT2.out.below hb3
        have B3 := B2.out.trans (hb3.mono B2.out.size)
        obtain ⟨c4, w4, hcv4, hr4, hb4⟩ := conv_str S w3 (by simp only [maxLen]; omega)
        have hc4 := (hb4.cell (p := ⟨g3, 0, none⟩) (lt_of_cell hc0)).trans hc0
        have T4 := T3.below hb4
        have B4 := B3.trans (hb4.mono B3.size)
        have HP := Lib.hid (lnPlace_in S _ c4 S.size w4 hr4.bys T4 (by omega) (Nat.le_refl _))
        have C4 := Lib.hid hc4
        clear hown3 hcell hc0 T3 B3 hb3 hr4 hb4 T4 hc4 HS HT2 B2
        go_wp2_with fail
        refine HP.out.mono ?_
        rw [HQ.out]
        rintro e w5 ⟨rfl, hb5⟩
        have hc5 := (hb5.cell (p := ⟨g3, 0, none⟩) (lt_of_cell C4.out)).trans C4.out
        have B5 := B4.trans (hb5.mono B4.size)
        clear hb5 B4 HP C4
        change (st S).length ≤ S.size + 1 at hlen
        have hge : (1 : Int) ≤ 1 + (q : Int) := by omega
        rw [show (stN S S.size).length = (st S).length from rfl]
        generalize (st S).length = N at *
        go_wp2
        go_ret
        exact ⟨by simp, B5⟩
end Go.Proofs.YtfjlapkdfomclaaDoor
