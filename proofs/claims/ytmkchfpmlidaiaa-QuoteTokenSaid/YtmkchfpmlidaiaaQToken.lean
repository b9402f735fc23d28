/- The walk of correctorlaw7.QuoteToken: what was written is one token, behind a dash, up to the row's end. -/
import Derived.Test.YtmkchfpmlidaiaaQh
import Derived.Test.YtmkchfpmlidaiaaQp
import Derived.Test.YtmkchfpmlidaiaaMd
import Derived.Test.YtmkchfpmlidaiaaConv
namespace Go.Proofs.Ytmkchfpmlidaiaa
open Go.RowKit
open Go.Proofs.Ytmkchfpmlidaiaa.Sg
open Go.Proofs.Ytmkchfpmlidaiaa.Sq
open Go.Proofs.Ytmkchfpmlidaiaa.Qo
set_option linter.unusedVariables false

theorem writ_len (l : List UInt8) : (ba (writeT l)).size = (writeT l).length := by simp [ba, ByteArray.size]
theorem text_nats (t : List UInt8) : Sc.nats ((⟨#[45, 32]⟩ ++ ba t) ++ ⟨#[10]⟩) = (([45, 32] : List UInt8) ++ t ++ [10]).map UInt8.toNat := by
  show ((((⟨#[45, 32]⟩ : ByteArray) ++ ba t) ++ ⟨#[10]⟩).data.toList).map UInt8.toNat = _
  rw [tol_app', tol_app', ba_list]
set_option maxHeartbeats 4000000 in
set_option maxRecDepth 100000 in
theorem walk_QuoteToken (s : ByteArray) (w : World) (_ : s.size ≤ maxLen) :
    Calls Try.prog 5 #[.string s] w fun e w' => e = .returned (.bool true) ∧ Below w.heap.size w w' := by
  by_cases hbig : 100 < s.size
  · have hgt : (100 : Int) < (s.size : Int) := by omega
    clear hbig
    go_enter Try.func5, Try.ntmps5
    go_wp2_with fail
    refine (known_true w).mono ?_
    rintro e w1 ⟨rfl, hb⟩
    go_wp2
    go_ret
    exact ⟨rfl, hb⟩
  · have hgt : ¬ (100 : Int) < (s.size : Int) := by omega
    have hl : s.data.toList.length = s.size := (Lib.size_eq s).symm
    have hbl := body_len s.data.toList
    have htk := toks_written s.data.toList (by omega)
    have hnt := text_nats (writeT s.data.toList)
    have hwl := writ_len s.data.toList
    have hwb : (writeT s.data.toList).length ≤ 402 := by simp [writeT]; omega
    have HK := Lib.hid (known_true w)
    have HP := Lib.hid (fun W => pWrite s W (by omega))
    rw [← hnt] at htk
    obtain ⟨n, hn⟩ : ∃ n, (writeT s.data.toList).length = n := ⟨_, rfl⟩
    obtain ⟨T, hT⟩ : ∃ T, ba (writeT s.data.toList) = T := ⟨_, rfl⟩
    rw [hT] at HP hwl htk
    rw [hn] at hwl hwb htk
    clear hT hn hbl hl hnt hbig
    obtain ⟨t2, ht2⟩ : ∃ t2, (⟨#[45, 32]⟩ ++ T : ByteArray) = t2 := ⟨_, rfl⟩
    obtain ⟨t3, ht3⟩ : ∃ t3, t2 ++ (⟨#[10]⟩ : ByteArray) = t3 := ⟨_, rfl⟩
    have z2 : t2.size = 2 + n := by rw [← ht2, Sg.app_size, hwl]; rfl
    have z3 : t3.size = 3 + n := by rw [← ht3, Sg.app_size, z2]; show 2 + n + 1 = _; omega
    rw [ht2, ht3] at htk
    have HTk := Lib.hid htk
    have e2 : (⟨#[45, 32]⟩ : ByteArray).size = 2 := rfl
    have e1 : (⟨#[10]⟩ : ByteArray).size = 1 := rfl
    have n1 : ¬ (9223372036854775807 < (⟨#[45, 32]⟩ : ByteArray).size + T.size) := by rw [e2]; omega
    have n2 : ¬ (9223372036854775807 < t2.size + (⟨#[10]⟩ : ByteArray).size) := by rw [e1]; omega
    clear htk
    go_enter Try.func5, Try.ntmps5
    go_wp2_with fail
    refine HK.out.mono ?_
    rintro e w1 ⟨rfl, hb⟩
    go_wp2_with fail
    refine (HP.out _).mono ?_
    rintro e w2 ⟨rfl, hb2⟩
    have hb2 := hb.trans (hb2.mono hb.size)
    obtain ⟨cap, w3, hcv, hrow, hb3⟩ := conv_str t3 w2 (by unfold maxLen; omega)
    have hb3 := hb2.trans (hb3.mono hb2.size)
    have hTk := rTokens _ _ _ hrow.bys
    rw [z3] at hTk
    have HT := Lib.hid hTk
    clear hTk
    go_wp2_with fail
    refine HT.out.mono ?_
    intro e w4 hg
    obtain ⟨a, cap4, rfl, hR, hb4⟩ := hg.read
    have hfin := hb3.trans (hb4.mono hb3.size)
    rw [HTk.out] at hR ⊢
    obtain ⟨tb, off, rfl, hat⟩ := reads_all hR (by simp)
    obtain ⟨c0, c1, c2⟩ := hat 2 (17, 2, 2 + n) rfl
    have c0 : w4.cell? ⟨tb, off + 6, none⟩ = some (.int .i64 17) := c0
    have c1 : w4.cell? ⟨tb, off + 6 + 1, none⟩ = some (.int .i64 2) := c1
    have c2 : w4.cell? ⟨tb, off + 6 + 2, none⟩ = some (.int .i64 ((2 + n : Nat) : Int)) := c2
    clear hg hat hR hb4 hrow hcv
    simp only [List.length_cons, List.length_nil] at *
    go_wp2_with fail
    go_ret
    exact ⟨rfl, hfin⟩
end Go.Proofs.Ytmkchfpmlidaiaa
