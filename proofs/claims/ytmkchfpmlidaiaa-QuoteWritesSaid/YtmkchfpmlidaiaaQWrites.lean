/- The walk of correctorlaw7.QuoteWrites: any text is written as the document says, and read as it was. -/
import Derived.Test.YtmkchfpmlidaiaaQh
import Derived.Test.YtmkchfpmlidaiaaQi
namespace Go.Proofs.Ytmkchfpmlidaiaa
open Go.RowKit
open Go.Proofs.Ytmkchfpmlidaiaa.Sg
open Go.Proofs.Ytmkchfpmlidaiaa.Qo
set_option linter.unusedVariables false

theorem text_written (l : List UInt8) : textT 17 (writeT l) = (l, [], true) := by
  unfold writeT
  rw [textT_17 _ (by simp)]
  exact dbT_body l 1
theorem writ_size (l : List UInt8) : (ba (writeT l)).size ≤ 4 * l.length + 2 := by
  have h1 := body_len l
  have h2 : (ba (writeT l)).size = (body l).length + 2 := by simp [ba, writeT, ByteArray.size]
  omega
set_option maxHeartbeats 4000000 in
set_option maxRecDepth 100000 in
theorem walk_QuoteWrites (s : ByteArray) (w : World) (_ : s.size ≤ maxLen) :
    Calls Try.prog 4 #[.string s] w fun e w' => e = .returned (.bool true) ∧ Below w.heap.size w w' := by
  by_cases hbig : 100 < s.size
  · have hgt : (100 : Int) < (s.size : Int) := by omega
    clear hbig
    go_enter Try.func4, Try.ntmps4
    go_wp2_with fail
    refine (known_true w).mono ?_
    rintro e w1 ⟨rfl, hb⟩
    go_wp2
    go_ret
    exact ⟨rfl, hb⟩
  · have hgt : ¬ (100 : Int) < (s.size : Int) := by omega
    have hl : s.data.toList.length = s.size := (Lib.size_eq s).symm
    have hz := writ_size s.data.toList
    have HK := Lib.hid (known_true w)
    have HP := Lib.hid (fun W => pWrite s W (by omega))
    have HR := Lib.hid (fun W => rWrite s W (by omega))
    have h1 := fun W => pText 17 (ba (writeT s.data.toList)) W (by omega)
    rw [ba_list, text_written] at h1
    obtain ⟨T, hT⟩ : ∃ T, ba (writeT s.data.toList) = T := ⟨_, rfl⟩
    rw [hT] at HP HR h1
    have H1 := Lib.hid h1
    have HBa := Lib.hid (show ba s.data.toList = s from ba_of rfl)
    clear hbig hl hz h1 hT
    go_enter Try.func4, Try.ntmps4
    go_wp2_with fail
    refine HK.out.mono ?_
    rintro e w1 ⟨rfl, hb⟩
    go_wp2_with fail
    refine (HP.out _).mono ?_
    rintro e w2 ⟨rfl, hb2⟩
    have hb2 := hb.trans (hb2.mono hb.size)
    go_wp2_with fail
    refine (H1.out _).mono ?_
    intro e w3 hg
    obtain ⟨a3, c3, rfl, hb3⟩ := hg.none'
    have hb3 := hb2.trans (hb3.mono hb2.size)
    clear hg
    rw [HBa.out]
    go_wp2_with fail
    refine (HR.out _).mono ?_
    rintro e w4 ⟨rfl, hb4⟩
    have hb4 := hb3.trans (hb4.mono hb3.size)
    go_wp2
    go_ret
    exact ⟨rfl, hb4⟩
end Go.Proofs.Ytmkchfpmlidaiaa
