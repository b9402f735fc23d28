/- The walk of correctorlaw7.QuoteSingle: a text, each of its single quotes written twice, is read as it was. -/
import Derived.Test.YtmkchfpmlidaiaaQf
import Derived.Test.YtmkchfpmlidaiaaAid7
import Derived.Test.YtmkchfpmlidaiaaQg
namespace Go.Proofs.Ytmkchfpmlidaiaa
open Go.RowKit
open Go.Proofs.Ytmkchfpmlidaiaa.Sg
open Go.Proofs.Ytmkchfpmlidaiaa.Qo
set_option linter.unusedVariables false

theorem twice_snoc (l : List UInt8) (c : UInt8) : twice (l ++ [c]) = twice l ++ (if c = 39 then [39, 39] else [c]) := by simp [twice]
/-- What has been written of the first k. -/
def Tw (s : ByteArray) (k : Nat) (out : ByteArray) : Prop := out.data.toList = 39 :: twice (s.data.toList.take k)
theorem Tw.on {s out c : ByteArray} {k : Nat} (h : Tw s k out) (hk : k < s.size) (hc : c.data.toList = [s.get! k]) (h39 : ¬ (s.get! k).toNat = 39) : Tw s (k + 1) (out ++ c) := by
  unfold Tw at *
  rw [tol_app', h, hc, take_snoc s k hk, twice_snoc, if_neg (fun e => h39 (by rw [e]; rfl))]
  rfl
theorem Tw.two {s out c : ByteArray} {k : Nat} (h : Tw s k out) (hk : k < s.size) (hc : c.data.toList = [s.get! k]) (h39 : (s.get! k).toNat = 39) : Tw s (k + 1) ((out ++ c) ++ ⟨#[39]⟩) := by
  unfold Tw at *
  have e : s.get! k = 39 := Qo.u8_eq _ 39 h39
  rw [tol_app', tol_app', h, hc, take_snoc s k hk, twice_snoc, if_pos e, e, List.append_assoc]
  rfl
theorem Tw.ends {s out : ByteArray} (h : Tw s s.size out) : textT 16 (out ++ ⟨#[39]⟩).data.toList = (s.data.toList, [], true) ∧ textT 16 out.data.toList = (s.data.toList, [], false) := by
  unfold Tw at h
  rw [List.take_of_length_le (by rw [← Lib.size_eq]; exact Nat.le_refl _)] at h
  have h2 := sgT_twice s.data.toList
  constructor
  · rw [tol_app', h, textT_16 _ (by simp)]
    show ((sgT (twice s.data.toList ++ [39])).1, [], (sgT (twice s.data.toList ++ [39])).2) = _
    rw [h2.1]
  · rw [h, textT_16 _ (by simp)]
    show ((sgT (twice s.data.toList)).1, [], (sgT (twice s.data.toList)).2) = _
    rw [h2.2]
set_option maxHeartbeats 4000000 in
set_option maxRecDepth 100000 in
theorem walk_QuoteSingle (s : ByteArray) (w : World) (_ : s.size ≤ maxLen) :
    Calls Try.prog 6 #[.string s] w fun e w' => e = .returned (.bool true) ∧ Below w.heap.size w w' := by
  by_cases hbig : 60 < s.size
  · have hgt : (60 : Int) < (s.size : Int) := by omega
    clear hbig
    go_enter Try.func6, Try.ntmps6
    go_wp2_with fail
    refine (known_true w).mono ?_
    rintro e w1 ⟨rfl, hb⟩
    go_wp2
    go_ret
    exact ⟨rfl, hb⟩
  · have hgt : ¬ (60 : Int) < (s.size : Int) := by omega
    have hle : s.size ≤ 60 := by omega
    have e39 : (⟨#[39]⟩ : ByteArray).size = 1 := rfl
    have HBa := Lib.hid (show ba s.data.toList = s from ba_of rfl)
    clear hbig
    go_enter Try.func6, Try.ntmps6
    go_wp2_with fail
    refine (known_true w).mono ?_
    rintro e w1 ⟨rfl, hb⟩
    go_wp2_with fail
    go_loopw [3, 4] (fun ov kv wx => ∃ (k : Nat) (out : ByteArray), .string out = ov ∧ kv = .int .i64 k ∧ k ≤ s.size ∧ out.size ≤ 2 * k + 1 ∧ Hid (Tw s k out) ∧ wx = w1) (fun _ kv _ => s.size - (intOf kv).toNat)
    case atStart => exact ⟨0, ⟨#[39]⟩, rfl, rfl, Nat.zero_le _, by decide, Lib.hid rfl, rfl⟩
    case round =>
      obtain ⟨k, out, rfl, rfl, hk, hoz, HT, rfl⟩ := hrel
      by_cases hlt : k < s.size
      · have hki : (k : Int) < (s.size : Int) := by omega
        have hg : (s[k]'hlt) = s.get! k := Sc.get_el s k hlt
        obtain ⟨c, hcut, hcl, hcz⟩ := str_cut1 s k hlt
        have hcat : ¬ (9223372036854775807 < out.size + c.size) := by omega
        by_cases h39 : (s.get! k).toNat = 39
        · have g : (((s[k]'hlt).toNat : Int) == 39) = true := by rw [hg, h39]; rfl
          have HT2 := Lib.hid (HT.out.two hlt hcl h39)
          have hcat2 : ¬ (9223372036854775807 < out.size + c.size + (⟨#[39]⟩ : ByteArray).size) := by rw [e39]; omega
          have hcat3 : ¬ (9223372036854775807 < (out ++ c).size + (⟨#[39]⟩ : ByteArray).size) := by rw [e39, Sg.app_size]; omega
          clear hg hcl h39 HT
          go_wp2_with fail
          go_roundw
          case rel => exact ⟨k + 1, (out ++ c) ++ ⟨#[39]⟩, rfl, by go_num, by omega, by rw [Sg.app_size, Sg.app_size, e39]; omega, HT2, trivial⟩
          case measure => simp [intOf]; omega
        · have g : (((s[k]'hlt).toNat : Int) == 39) = false := beq_eq_false_iff_ne.2 (by rw [hg]; omega)
          have HT2 := Lib.hid (HT.out.on hlt hcl h39)
          clear hg hcl h39 HT
          go_wp2_with fail
          go_roundw
          case rel => exact ⟨k + 1, out ++ c, rfl, by go_num, by omega, by rw [Sg.app_size]; omega, HT2, trivial⟩
          case measure => simp [intOf]; omega
      · obtain rfl : k = s.size := by omega
        have hne : ¬ ((s.size : Int) < (s.size : Int)) := by omega
        obtain ⟨t1, t2⟩ := HT.out.ends
        have h1 := fun W => pText 16 (out ++ ⟨#[39]⟩) W (by rw [Sg.app_size, e39]; omega)
        have h2 := fun W => pText 16 out W (by omega)
        rw [t1] at h1
        rw [t2] at h2
        have H1 := Lib.hid h1
        have H2 := Lib.hid h2
        have hcat : ¬ (9223372036854775807 < out.size + (⟨#[39]⟩ : ByteArray).size) := by rw [e39]; omega
        clear h1 h2 t1 t2 HT
        go_wp2_with fail
        refine (H1.out _).mono ?_
        intro e w2 hg
        obtain ⟨a2, c2, rfl, hb2⟩ := hg.none'
        clear hg
        rw [HBa.out]
        go_wp2_with fail
        refine (H2.out _).mono ?_
        intro e w3 hg
        obtain ⟨a3, c3, rfl, hb3⟩ := hg.none'
        clear hg
        rw [HBa.out]
        go_wp2
        go_ret
        exact ⟨rfl, (hb.trans (hb2.mono hb.size)).trans (hb3.mono (hb.trans (hb2.mono hb.size)).size)⟩
end Go.Proofs.Ytmkchfpmlidaiaa
