/- The walk of correctorlaw2.LinesNone: lines and columns that are none have no place; places that are none no line. -/
import Derived.Test.YtfjlapkdfomclaaDoorPl
import Derived.Test.YtfjlapkdfomclaaDoorLnOff
namespace Go.Proofs.YtfjlapkdfomclaaDoor
open Go.RowKit
open Go.Proofs.YtfjlapkdfomclaaDoor.Sg

set_option maxHeartbeats 2000000 in
set_option maxRecDepth 100000 in
theorem walk_LinesNone (v0 : Value) (s : ByteArray) (v1 : Value) (l : List Int) (x : Int) (w : World) (h0 : Bys w v0 s) (h1 : Nums .i64 w v1 l) (_ : (Lit.int .i64 x).wf = true) (hT : Tabs w) :
    Calls Tryd.prog 7 #[v0, v1, .int .i64 x] w fun e w' => e = .returned (.bool true) ∧ Below w.heap.size w w' := by
  have HK := Lib.hid (known2_true w hT)
  obtain ⟨a, cap, rfl⟩ := h0.shape
  obtain ⟨a1, cap1, rfl⟩ := h1.shape
  go_enter Tryd.func7, Tryd.ntmps7
  go_wp2_with fail
  refine HK.out.mono ?_
  rintro e w1 ⟨rfl, hb⟩
  have k0 := h0.below hb
  have k1 := h1.below hb
  have hT1 := hT.below hb
  clear h0 h1 hT HK
  go_wp2_with fail
  refine (text_any s a cap l a1 cap1 w1 k0 k1).mono ?_
  rintro e w2 ⟨v2, rfl, t, hown, hts, hb2⟩
  have T2 := hT1.below hb2
  have B2 := hb.trans (hb2.mono hb.size)
  have K2 := Bys.own hown
  obtain ⟨a2, c2, rfl⟩ := K2.shape
  clear k0 k1 hT1 hown hb hb2
  go_wp2_with fail
  refine (lnStarts t a2 c2 w2 K2 T2 (by omega)).mono ?_
  rintro e w3 ⟨v3, rfl, hown3, hb3⟩
  have hpos : 1 ≤ (st t).length := stN_pos t t.size
  have hlen : (st t).length ≤ t.size + 1 := stN_len t t.size
  obtain ⟨g3, c3, rfl, -, -, -⟩ := own_open hown3 hpos
  have T3 := T2.below hb3
  have K3 := K2.below hb3
  have B3 := B2.trans (hb3.mono B2.size)
  clear T2 K2 B2 hb3 hown3
  have hwb := wit_bd x 50 (by omega)
  go_wp2_with fail
  refine (within_any x 50 w3 (by omega) (by omega)).mono ?_
  generalize wit x 50 = n at *
  rintro e w4 ⟨rfl, rfl⟩
  obtain ⟨N, hN⟩ : ∃ N, (st t).length = N := ⟨_, rfl⟩
  rw [hN] at hpos hlen
  rw [hN]
  have HN := Lib.hid hN
  clear hN
  go_wp2_with fail
  refine (lnOffset_line t a2 c2 _ 1 w3 K3 T3 (by omega) (.inr (by rw [HN.out]; omega))).mono ?_
  rintro e w4 ⟨rfl, hb4⟩
  have T4 := T3.below hb4
  have K4 := K3.below hb4
  have B4 := B3.trans (hb4.mono B3.size)
  clear T3 K3 B3 hb4
  go_wp2_with fail
  refine (lnOffset_line t a2 c2 _ 1 w4 K4 T4 (by omega) (.inl (by omega))).mono ?_
  rintro e w5 ⟨rfl, hb5⟩
  have T5 := T4.below hb5
  have K5 := K4.below hb5
  have B5 := B4.trans (hb5.mono B4.size)
  clear T4 K4 B4 hb5
  go_wp2_with fail
  refine (lnOffset_col t a2 c2 0 _ w5 K5 T5 (by omega) (by rw [HN.out]; omega) (.inl (by omega))).mono ?_
  rintro e w6 ⟨rfl, hb6⟩
  have T6 := T5.below hb6
  have K6 := K5.below hb6
  have B6 := B5.trans (hb6.mono B5.size)
  clear T5 K5 B5 hb6
  obtain ⟨m, rfl⟩ : ∃ m, N = m + 1 := ⟨N - 1, by omega⟩
  go_wp2_with fail
  refine (lnOffset_col t a2 c2 m _ w6 K6 T6 (by omega) (by rw [HN.out]; omega) (.inr (by omega))).mono ?_
  rintro e w7 ⟨rfl, hb7⟩
  have B7 := B6.trans (hb7.mono B6.size)
  clear T6 K6 B6 hb7
  go_wp2_with fail
  refine (lnPlace_out a2 t.size c2 _ w7 (.inr (by omega))).mono ?_
  rintro e w8 ⟨rfl, hb8⟩
  have B8 := B7.trans (hb8.mono B7.size)
  clear B7 hb8
  go_wp2_with fail
  refine (lnPlace_out a2 t.size c2 _ w8 (.inl (by omega))).mono ?_
  rintro e w9 ⟨rfl, hb9⟩
  have B9 := B8.trans (hb9.mono B8.size)
  clear B8 hb9
  go_wp2
  go_ret
  exact ⟨rfl, B9⟩
end Go.Proofs.YtfjlapkdfomclaaDoor
