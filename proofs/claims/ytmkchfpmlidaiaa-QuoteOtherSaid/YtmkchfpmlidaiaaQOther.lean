/- The walk of correctorlaw7.QuoteOther: of other kinds, and of nothing, nothing is said. -/
import Derived.Test.YtmkchfpmlidaiaaAid7
namespace Go.Proofs.Ytmkchfpmlidaiaa
open Go.RowKit
open Go.Proofs.Ytmkchfpmlidaiaa.Sg
open Go.Proofs.Ytmkchfpmlidaiaa.Qo
set_option linter.unusedVariables false

set_option maxHeartbeats 4000000 in
set_option maxRecDepth 100000 in
theorem walk_QuoteOther (n : Int) (s : ByteArray) (w : World) (_ : (Lit.int .i64 n).wf = true) (_ : s.size ≤ maxLen) :
    Calls Try.prog 8 #[.int .i64 n, .string s] w fun e w' => e = .returned (.bool true) ∧ Below w.heap.size w w' := by
  by_cases hbig : 50 < s.size
  · have hgt : (50 : Int) < (s.size : Int) := by omega
    clear hbig
    go_enter Try.func8, Try.ntmps8
    go_wp2_with fail
    refine (known_true w).mono ?_
    rintro e w1 ⟨rfl, hb⟩
    go_wp2
    go_ret
    exact ⟨rfl, hb⟩
  · have hgt : ¬ (50 : Int) < (s.size : Int) := by omega
    have hle : s.size ≤ 50 := by omega
    obtain ⟨k, hk, hwi⟩ := within_nat n 15 (by decide) (by decide)
    have HW := Lib.hid hwi
    have HK := Lib.hid (known_true w)
    have h1 := fun W => pText (k : Int) s W (by omega)
    rw [textT_o (k : Int) s.data.toList (by omega) (by omega) (by omega)] at h1
    have H1 := Lib.hid h1
    have H2 := Lib.hid (fun W => pText 17 ⟨#[]⟩ W (by decide))
    have h3 := fun W => pText 15 s W (by omega)
    clear hbig hwi h1
    by_cases h0 : s.size = 0
    · obtain rfl := str_zero s h0
      have H3 := Lib.hid h3
      clear h3 h0 hle
      go_enter Try.func8, Try.ntmps8
      go_wp2_with fail
      refine HK.out.mono ?_
      rintro e w1 ⟨rfl, hb⟩
      go_wp2_with fail
      refine (HW.out _).mono ?_
      rintro e w2 ⟨rfl, rfl⟩
      go_wp2_with fail
      refine (H1.out _).mono ?_
      intro e w2 hg
      obtain ⟨a2, c2, rfl, hb2⟩ := hg.none'
      clear hg
      rw [show ba [] = ⟨#[]⟩ from rfl]
      go_wp2_with fail
      refine (H2.out _).mono ?_
      intro e w3 hg
      obtain ⟨a3, c3, rfl, hb3⟩ := hg.none'
      clear hg
      rw [show ba [] = ⟨#[]⟩ from rfl]
      go_wp2_with fail
      refine (H3.out _).mono ?_
      intro e w4 hg
      obtain ⟨a4, c4, rfl, hb4⟩ := hg.none'
      clear hg
      rw [show ba [] = ⟨#[]⟩ from rfl]
      go_wp2
      go_ret
      exact ⟨rfl, ((hb.trans (hb2.mono hb.size)).trans (hb3.mono (hb.trans (hb2.mono hb.size)).size)).trans (hb4.mono ((hb.trans (hb2.mono hb.size)).trans (hb3.mono (hb.trans (hb2.mono hb.size)).size)).size)⟩
    · obtain ⟨hE, hne⟩ := str_one s (by omega)
      rw [textT_15 _ hne] at h3
      have hba : ba s.data.toList = s := ba_of rfl
      have H3 := Lib.hid h3
      have HBa := Lib.hid hba
      clear h3 h0 hle hne hba
      go_enter Try.func8, Try.ntmps8
      go_wp2_with fail
      refine HK.out.mono ?_
      rintro e w1 ⟨rfl, hb⟩
      go_wp2_with fail
      refine (HW.out _).mono ?_
      rintro e w2 ⟨rfl, rfl⟩
      go_wp2_with fail
      refine (H1.out _).mono ?_
      intro e w2 hg
      obtain ⟨a2, c2, rfl, hb2⟩ := hg.none'
      clear hg
      rw [show ba [] = ⟨#[]⟩ from rfl]
      go_wp2_with fail
      refine (H2.out _).mono ?_
      intro e w3 hg
      obtain ⟨a3, c3, rfl, hb3⟩ := hg.none'
      clear hg
      rw [show ba [] = ⟨#[]⟩ from rfl]
      go_wp2_with fail
      refine (H3.out _).mono ?_
      intro e w4 hg
      obtain ⟨a4, c4, rfl, hb4⟩ := hg.none'
      clear hg
      rw [HBa.out]
      go_wp2
      go_ret
      exact ⟨rfl, ((hb.trans (hb2.mono hb.size)).trans (hb3.mono (hb.trans (hb2.mono hb.size)).size)).trans (hb4.mono ((hb.trans (hb2.mono hb.size)).trans (hb3.mono (hb.trans (hb2.mono hb.size)).size)).size)⟩
end Go.Proofs.Ytmkchfpmlidaiaa
