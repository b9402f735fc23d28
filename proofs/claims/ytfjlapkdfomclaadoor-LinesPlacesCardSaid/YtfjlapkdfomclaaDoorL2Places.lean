/- The walk of correctorlaw2.LinesPlaces: each place's line and column are the document's; others are none. -/
import Derived.Test.YtfjlapkdfomclaaDoorPl
namespace Go.Proofs.YtfjlapkdfomclaaDoor
open Go.RowKit
open Go.Proofs.YtfjlapkdfomclaaDoor.Sg

set_option maxHeartbeats 2000000 in
set_option maxRecDepth 100000 in
theorem walk_LinesPlaces (v0 : Value) (s : ByteArray) (v1 : Value) (l : List Int) (x : Int) (w : World) (h0 : Bys w v0 s) (h1 : Nums .i64 w v1 l) (_ : (Lit.int .i64 x).wf = true) (hT : Tabs w) :
    Calls Tryd.prog 4 #[v0, v1, .int .i64 x] w fun e w' => e = .returned (.bool true) ∧ Below w.heap.size w w' := by
  have HK := Lib.hid (known2_true w hT)
  obtain ⟨a, cap, rfl⟩ := h0.shape
  obtain ⟨a1, cap1, rfl⟩ := h1.shape
  go_enter Tryd.func4, Tryd.ntmps4
  go_wp2_with fail
  refine HK.out.mono ?_
  rintro e w1 ⟨rfl, hb⟩
  have k0 := h0.below hb
  have k1 := h1.below hb
  have hT1 := hT.below hb
  clear h0 h1 hT HK
  go_wp2_with fail
  refine (text_any s a cap l a1 cap1 w1 k0 k1).mono ?_
  rintro e w2 ⟨v2, rfl, t, hown, hts, hb2⟩
  have HT2 := Lib.hid (hT1.below hb2)
  have HB2 := Lib.hid (hb.trans (hb2.mono hb.size))
  have kt := Bys.own hown
  obtain ⟨a2, c2, rfl⟩ := kt.shape
  have KT := Lib.hid kt
  clear k0 k1 hT1 hown hb hb2 kt
  go_wp2_with fail
  go_loopw [8] (fun i wr => ∃ j : Int, i = .int .i64 j ∧ -1 ≤ j ∧ j ≤ (t.size : Int) + 2 ∧ Below w2.heap.size w2 wr) (fun i _ => ((t.size : Int) + 2 - intOf i).toNat)
  case atStart => exact ⟨-1, rfl, by omega, by omega, Below.refl _ _⟩
  case round =>
    obtain ⟨j, rfl, hj1, hj2, hbw⟩ := hrel
    by_cases hlt : j ≤ (t.size : Int) + 1
    · have kw := KT.out.below hbw
      have tw := HT2.out.below hbw
      go_wp2_with fail
      refine (lnPlace t a2 c2 j wr kw tw (by omega)).mono ?_
      generalize hP : pl t j = P
      obtain ⟨P1, P2⟩ := P
      have HP := Lib.hid hP
      clear hP
      dsimp only
      rintro e w3 ⟨rfl, hb3⟩
      have k3 := kw.below hb3
      have hbw3 := hbw.trans (hb3.mono hbw.size)
      clear kw tw hb3 hbw
      go_wp2_with fail
      refine (refPlace t a2 c2 j w3 k3 (by omega)).mono ?_
      rw [HP.out]
      dsimp only
      rintro e w4 ⟨rfl, hb4⟩
      have hbw4 := hbw3.trans (hb4.mono hbw3.size)
      have e1 : (P1 != P1) = false := by simp
      have e2 : (P2 != P2) = false := by simp
      clear k3 hb4 hbw3
      go_wp2
      go_roundw
      case rel => exact ⟨j + 1, rfl, by omega, by omega, hbw4⟩
      case measure => simp [intOf]; omega
    · have kw := KT.out.below hbw
      have tw := HT2.out.below hbw
      have hgt : ¬ (j ≤ (t.size : Int) + 1) := hlt
      go_wp2_with fail
      refine (lnPlace t a2 c2 x wr kw tw (by omega)).mono ?_
      generalize hP : pl t x = P
      obtain ⟨P1, P2⟩ := P
      have HP := Lib.hid hP
      clear hP
      dsimp only
      rintro e w3 ⟨rfl, hb3⟩
      have k3 := kw.below hb3
      have hbw3 := hbw.trans (hb3.mono hbw.size)
      clear kw tw hb3 hbw
      go_wp2_with fail
      refine (refPlace t a2 c2 x w3 k3 (by omega)).mono ?_
      rw [HP.out]
      dsimp only
      rintro e w4 ⟨rfl, hb4⟩
      have hbw4 := hbw3.trans (hb4.mono hbw3.size)
      clear k3 hb4 hbw3
      go_wp2
      go_ret
      exact ⟨by simp, HB2.out.trans (hbw4.mono HB2.out.size)⟩
end Go.Proofs.YtfjlapkdfomclaaDoor
