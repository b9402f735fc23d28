/- package quote: Write. -/
import Derived.Test.YtmkchfpmlidaiaaQg
import Derived.Laws.OwnMore
namespace Go.Proofs.Ytmkchfpmlidaiaa
open Go.RowKit
open Go.Proofs.Ytmkchfpmlidaiaa.Sg
open Go.Proofs.Ytmkchfpmlidaiaa.Qo
set_option linter.unusedVariables false

theorem lit_own (w : World) : (w.alloc (.cells #[.int .u8 34] 5)).ownsRow w.heap.size 5 1 (.slice (some ⟨w.heap.size, 0, none⟩) 1 1) (⟨#[34]⟩ : ByteArray).size (cellsOf ⟨#[34]⟩) :=
  World.ownsRow_lit w #[.int .u8 34] 1 (Nat.le_refl _) (by decide) rfl
set_option maxHeartbeats 2000000 in
set_option maxRecDepth 100000 in
theorem pWrite (s : ByteArray) (w : World) (hs : s.size ≤ 100000) :
    Calls Try.prog 14 #[.string s] w fun e w' => e = .returned (.string (ba (writeT s.data.toList))) ∧ Below w.heap.size w w' := by
  have HE := Lib.hid (wr_end s)
  obtain ⟨T, hT⟩ : ∃ T, ba (writeT s.data.toList) = T := ⟨_, rfl⟩
  rw [hT] at HE ⊢
  clear hT
  obtain ⟨i1, hj, hy0, hy1, hy2⟩ := info_parts infoByte
  have HJ := Lib.hid (And.intro hj (And.intro hy0 (And.intro hy1 hy2)))
  clear hj hy0 hy1 hy2
  have HW := Lib.hid (wr_size s)
  go_enter Try.func14, Try.ntmps14
  go_wp2_with fail
  go_loopw [3, 8] (fun ov kv wx => ∃ (k : Nat) (V : Value), V = ov ∧ kv = .int .i64 k ∧ k ≤ s.size ∧ Hid (wx.ownsRow w.heap.size 5 1 V (wrt s k).size (cellsOf (wrt s k))) ∧ Below w.heap.size w wx) (fun _ kv _ => s.size - (intOf kv).toNat)
  case atStart => exact ⟨0, _, rfl, rfl, Nat.zero_le _, Lib.hid (lit_own w), (Below.refl _ w).alloc (Nat.le_refl _) _⟩
  case round =>
    obtain ⟨k, V, rfl, rfl, hk, HO, hb⟩ := hrel
    by_cases hlt : k < s.size
    · have hki : (k : Int) < (s.size : Int) := by omega
      have hg : (s[k]'hlt) = s.get! k := Sc.get_el s k hlt
      have hw := writ_any (s.get! k) V (wrt s k) w.heap.size _ HO.out hb.size (by have := HW.out k; omega)
      rw [wr_next s k hlt, ← hg] at hw
      have HC := Lib.hid hw
      clear hw hg HO
      go_wp2_with fail
      refine HC.out.mono ?_
      rintro e w1 ⟨v1, rfl, hown1, hb1⟩
      have HO1 := Lib.hid hown1
      have hb2 := hb.trans hb1
      clear hown1
      go_wp2
      go_roundw
      case rel => exact ⟨k + 1, v1, rfl, by go_num, by omega, HO1, hb2⟩
      case measure => simp [intOf]; omega
    · obtain rfl : k = s.size := by omega
      have hz := HW.out s.size
      have hne : ¬ ((s.size : Int) < (s.size : Int)) := by omega
      obtain ⟨O, hO⟩ : ∃ O, wrt s s.size = O := ⟨_, rfl⟩
      rw [hO] at HO HE hz
      have HO1 := Lib.hid (HO.out.alloc (.cells #[.int .u8 34] 5))
      have HB1 := Lib.hid (hb.alloc hb.size (.cells #[.int .u8 34] 5))
      have HN := Lib.hid (cell_one_new wr (.int .u8 34) 5)
      clear hO HO hb
      go_wp2_with (at_builtin; go_must (refine wpList_append_own _ rfl (.tmp 17) (.tmp 18) 34 rfl w.heap.size 5 i1 (.int .u8 0) 1 1 Try.underlying34 HJ.out.1 HJ.out.2.1 HJ.out.2.2.1 HJ.out.2.2.2 rfl (by decide) V O.size (cellsOf O) rfl HO1.out ⟨wr.heap.size, 0, none⟩ 1 1 [.int .u8 34] rfl rfl HN.out (by intro u hu; simp at hu; subst hu; rfl) (by unfold maxLen; omega) (by omega) HB1.out.size ?_; intro v3 w3 hown3 hg3 hnil3; have HO2 := Lib.hid (own_join (x := ⟨#[34]⟩) hown3); have HB2 := Lib.hid (own_grown HB1.out hg3 (fun g h => (HO1.out.lt g h).1) HB1.out.size); clear hown3 hg3 hnil3; have hcv := conv_bys (bys_own HO2.out)))
      go_ret
      exact ⟨by rw [← HE.out]; rfl, HB2.out⟩
end Go.Proofs.Ytmkchfpmlidaiaa
