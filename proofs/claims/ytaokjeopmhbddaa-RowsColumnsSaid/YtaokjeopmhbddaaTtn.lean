/- For later seats: the walk of correctorlaw6.Text: some text of at most 400 bytes. -/
import Derived.Test.YtaokjeopmhbddaaTpn
import Derived.Test.YtaokjeopmhbddaaCut
import Derived.Deep.DeepCutAuto
import Derived.Deep.CutBlock
import Derived.Lib.AppendStr
import Derived.Lib.MinMax
namespace Go.Proofs.Ytaokjeopmhbddaa
open Go.RowKit
open Go.Proofs.Ytaokjeopmhbddaa.Sg
open Go.Proofs.Ytaokjeopmhbddaa.Sq
set_option linter.unusedVariables false

/-- What Text gives. -/
def Texted (w : World) (e : Ending) (w' : World) : Prop := ∃ v, ∃ t : ByteArray, e = .returned v ∧ Bys w' v t ∧ t.size ≤ 400 ∧ Below w.heap.size w w'
theorem cells_app (a b : ByteArray) : cellsOf (a ++ b) = cellsOf a ++ cellsOf b := by simp [cellsOf]
set_option maxHeartbeats 8000000 in
set_option maxRecDepth 100000 in
theorem text_any (v0 : Value) (l0 : List Int) (v1 : Value) (s : ByteArray) (w : World) (h0 : Nums .i64 w v0 l0) (h1 : Bys w v1 s) :
    Calls Try.prog 10 #[v0, v1] w (Texted w) := by
  have hs := h1.size_le
  simp only [maxLen] at hs
  obtain ⟨a0, cap0, rfl⟩ := h0.shape
  obtain ⟨a1, cap1, rfl⟩ := h1.shape
  have hl := h0.len
  obtain ⟨m, hm⟩ : ∃ m, m = min s.size 30 := ⟨_, rfl⟩
  have hmin : min (s.size : Int) 30 = (m : Int) := by omega
  obtain ⟨vc, hsl, hvc⟩ := cut_h (hi := m) h1 (by omega)
  have hmz : (s.extract 0 m).size = m := by rw [ext_size s 0 m (by omega)]; omega
  obtain ⟨c, hc⟩ : ∃ c, s.extract 0 m = c := ⟨_, rfl⟩
  rw [hc] at hvc hmz
  have hm30 : m ≤ 30 := by omega
  have H0 := Lib.hid h0
  have HV := Lib.hid hvc
  have HMz := Lib.hid hmz
  clear h0 h1 hm hvc hc hmz hs
  go_enter Try.func10, Try.ntmps10
  go_wp2_with fail
  go_loopw [5, 6] (fun bv i wr => ∃ (k : Nat) (t : ByteArray), i = .int .i64 k ∧ k ≤ 60 ∧ wr.ownsRow w.heap.size 5 1 bv t.size (cellsOf t) ∧ t.size ≤ 50 * k ∧ Below w.heap.size w wr) (fun _ i _ => 60 - (intOf i).toNat)
  case atStart => exact ⟨0, ⟨#[]⟩, rfl, by omega, World.ownsRow_nil _ _ _ _, Nat.zero_le _, Below.refl _ w⟩
  case round =>
    obtain ⟨k, t, rfl, hk, hown, ht, hb⟩ := hrel
    have HO := Lib.hid hown
    have HB := Lib.hid hb
    clear hown hb
    by_cases hlt : k < l0.length ∧ k < 60
    · obtain ⟨hlt1, hlt2⟩ := hlt
      have hi1 : (k : Int) < (l0.length : Int) := by omega
      have hi2 : (k : Int) < 60 := by omega
      go_upto_region 5 with fail
      go_cut [21] (fun q wx => (∃ b : Bool, q = .bool b) ∧ wr = wx)
      case first =>
        go_wp2_with fail
        go_meet
        exact ⟨⟨_, rfl⟩, rfl⟩
      case rest =>
      obtain ⟨⟨q, rfl⟩, rfl⟩ := hcut
      go_upto_if 21 with fail
      go_cut [5] (fun bv wx => ∃ t2 : ByteArray, wx.ownsRow w.heap.size 5 1 bv t2.size (cellsOf t2) ∧ t2.size ≤ 50 * k + 30 ∧ Below w.heap.size w wx)
      case first =>
        cases q with
        | true =>
          go_wp2_with (at_builtin; go_must (refine wpList_append_bys rfl (.tmp 22) (.tmp 27) rfl w.heap.size _ _ _ rfl HO.out vc c rfl (HV.out.below HB.out) (by have := HMz.out; omega) HB.out.size ?_; intro v3 w3 hown3 hg3))
          go_meet
          have hsz : (t ++ c).size = t.size + c.size := app_size t c
          exact ⟨t ++ c, by rw [hsz, cells_app]; exact hown3, by have := HMz.out; omega, HB.out.grown hg3 (by have := HB.out.size; omega) (fun j hj => (HO.out.lt j hj).1)⟩
        | false =>
          go_wp2_with fail
          go_meet
          exact ⟨t, HO.out, by omega, HB.out⟩
      case rest =>
      obtain ⟨t2, hown2, ht2, hb2⟩ := hcut
      have HO2 := Lib.hid hown2
      have HB2 := Lib.hid hb2
      obtain ⟨b1, off1, rfl, q2, q3, hc1⟩ := (H0.out.below hb2).at_ hlt1
      simp only [maxLen] at q3
      obtain ⟨y, hy⟩ : ∃ y, l0.getD k 0 = y := ⟨_, rfl⟩
      rw [hy] at hc1
      have HP := Lib.hid (piece_any y wc)
      clear hown2 hb2 hy HO
      go_wp2_with fail
      refine HP.out.mono ?_
      rintro e w4 ⟨X, rfl, hX, hb4⟩
      have HO4 := Lib.hid (own_below HO2.out hb4)
      have HB4 := Lib.hid (HB2.out.trans (hb4.mono HB2.out.size))
      obtain ⟨i0, hi, hz0, hz1, hz2⟩ := info_parts infoByte
      have HI := Lib.hid hi
      clear hb4 hi
      go_wp2_with (at_builtin; go_must (refine Lib.wpList_append_own_string (P := Try.prog) _ rfl (.tmp 29) (.tmp 34) 23 9 rfl w.heap.size 5 i0 Try.underlying23 Try.underlying9 HI.out hz0 hz1 hz2 _ _ _ rfl HO4.out X rfl (by simp only [maxLen]; omega) (by omega) HB4.out.size ?_; intro v5 w5 hown5 hg5 hnil))
      go_roundw
      case rel =>
        have hsz : (t2 ++ X).size = t2.size + X.size := app_size t2 X
        exact ⟨k + 1, t2 ++ X, by go_num, by omega, by rw [hsz, cells_app]; exact hown5, by omega, HB4.out.grown hg5 (by have := HB4.out.size; omega) (fun j hj => (HO4.out.lt j hj).1)⟩
      case measure => simp [intOf]; omega
    · have hown := HO.out
      have hBt := Bys.of_own hown
      obtain ⟨at', capt, rfl⟩ := hBt.shape
      obtain ⟨m4, hm4⟩ : ∃ m4, m4 = min t.size 400 := ⟨_, rfl⟩
      have hmin4 : min (t.size : Int) 400 = (m4 : Int) := by omega
      obtain ⟨vt, hslt, hvt⟩ := cut_h (hi := m4) hBt (by omega)
      have hz4 : (t.extract 0 m4).size = m4 := by rw [ext_size t 0 m4 (by omega)]; omega
      have HD := Lib.hid (show Texted w (.returned vt) wr from ⟨vt, _, rfl, hvt, by omega, HB.out⟩)
      clear hown hBt hm4 hvt hz4
      by_cases hlt1 : k < l0.length
      · have hi1 : (k : Int) < (l0.length : Int) := by omega
        have hi2 : ¬ ((k : Int) < 60) := by omega
        clear hlt
        go_wp2_with fail
        go_ret
        exact HD.out
      · have hi1 : ¬ ((k : Int) < (l0.length : Int)) := by omega
        clear hlt
        go_wp2_with fail
        go_ret
        exact HD.out
end Go.Proofs.Ytaokjeopmhbddaa
