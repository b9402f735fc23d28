/- package block: appendJoint, folded, joined, emptyText, Text. -/
import Derived.Test.YtogiaaiphbamnaaBo
namespace Go.Proofs.Ytogiaaiphbamnaa
open Go.RowKit
open Go.Proofs.Ytogiaaiphbamnaa.Sq
open Go.Proofs.Ytogiaaiphbamnaa.Bk
set_option linter.unusedVariables false

namespace Bk
/-- What stands ahead of a content that is not empty: what is ahead begins with a blank, or not, or there is nothing. -/
def jointB (last : Option Bool) (c : Bool) (n : Nat) : ByteArray := match last with
  | none => lf n
  | some b => if b || c then lf (n + 1) else if n = 0 then ⟨#[32]⟩ else lf n
/-- How what is ahead is kept. -/
def lastOf (ah : ByteArray) : Option Bool := if ah.size = 0 then none else some (inward (tol ah))
theorem str_some (s : ByteArray) (h : 0 < s.size) : s.toList.isEmpty = false := by
  rw [Lib.toList_data]
  cases hl : s.data.toList with
  | nil => rw [Lib.size_eq, hl] at h; exact absurd h (by decide)
  | cons _ _ => rfl
theorem tol_joint (last : Option Bool) (c : List UInt8) (n : Nat) : tol (jointB last (inward c) n) = jointL last (inward c) n := by
  unfold jointL
  unfold jointB
  cases last with
  | none => exact tol_lf n
  | some b =>
    simp only
    split
    · exact tol_lf _
    · split
      · rfl
      · exact tol_lf _
def rest (l : List ByteArray) (k : Nat) : Nat := ((l.drop k).map ByteArray.size).sum
theorem rest_at (l : List ByteArray) (k : Nat) (x : ByteArray) (h : l[k]? = some x) : rest l k = x.size + rest l (k + 1) := by
  have hk := (List.getElem?_eq_some_iff.1 h).1
  have e : l[k] = x := (List.getElem?_eq_some_iff.1 h).2
  unfold rest
  rw [List.drop_eq_getElem_cons hk, e, List.map_cons, List.sum_cons]
theorem empty_zero (x : ByteArray) (h : emptyL (tol x) = false) : 0 < x.size := by
  rcases Nat.eq_zero_or_pos x.size with h0 | h0
  · obtain rfl := ba_zero x h0
    exact absurd h (by decide)
  · exact h0
theorem joint_size (last : Option Bool) (c : Bool) (n : Nat) : (jointB last c n).size ≤ n + 1 := by
  unfold jointB
  cases last with
  | none => simp only [lf_size]; omega
  | some b =>
    simp only
    split
    · rw [lf_size]; exact Nat.le_refl _
    · split
      · simp [ByteArray.size]
      · rw [lf_size]; omega
end Bk
set_option maxHeartbeats 2000000 in
set_option maxRecDepth 100000 in
theorem bJoint (v : Value) (t ah c : ByteArray) (n : Nat) (w : World) (B : Nat) (h : Buf w B v t) (hB : B ≤ w.heap.size) (hz : t.size + n ≤ 10000000) (ha : ah.size ≤ maxLen) (hc : c.size ≤ maxLen) (hc0 : 0 < c.size) :
    Calls Try.prog 37 #[v, .string ah, .string c, .int .i64 (n : Nat)] w fun e w' => ∃ v', e = .returned v' ∧ Buf w' B v' (t ++ jointB (lastOf ah) (inward (tol c)) n) ∧ Below B w w' := by
  have HF := Lib.hid (bFeeds v t n w B h hB (by omega))
  have HF1 := Lib.hid (bFeeds v t (n + 1) w B h hB (by omega))
  have H := Lib.hid h
  have HZ := Lib.hid (show t.size + 1 ≤ 1000000000 by omega)
  have HB0 := Lib.hid hB
  have HIc := Lib.hid (show ∀ W, Calls Try.prog 43 #[.string c] W fun e w' => e = .returned (.bool (inward (tol c))) ∧ W = w' from fun W => bInward c W hc hc0)
  have hw : IntKind.i64.wrap ((n : Int) + 1) = ((n + 1 : Nat) : Int) := by rw [IntKind.wrap_i64]; omega
  by_cases h0 : ah.size = 0
  · rw [show lastOf ah = none from if_pos h0, show jointB none (inward (tol c)) n = lf n from rfl]
    obtain rfl := ba_zero ah h0
    clear h hB hc hz ha HF1 HIc H HZ HB0 h0
    go_enter Try.func37, Try.ntmps37
    go_wp2_with fail
    refine HF.out.mono ?_
    rintro e w1 ⟨v1, rfl, hO1, hb1⟩
    go_wp2_with fail
    go_ret
    exact ⟨_, rfl, hO1, hb1⟩
  · have hp : 0 < ah.size := by omega
    have HIa := Lib.hid (show ∀ W, Calls Try.prog 43 #[.string ah] W fun e w' => e = .returned (.bool (inward (tol ah))) ∧ W = w' from fun W => bInward ah W ha hp)
    rw [show lastOf ah = some (inward (tol ah)) from if_neg h0]
    have he := str_some ah hp
    clear h hB hc hz ha h0 hp hc0
    cases ea : inward (tol ah) with
    | true =>
      rw [ea] at HIa
      rw [show jointB (some true) (inward (tol c)) n = lf (n + 1) from by simp [jointB]]
      clear HF HIc H HZ HB0
      go_enter Try.func37, Try.ntmps37
      go_wp2_with fail
      refine (HIa.out _).mono ?_
      rintro e w1 ⟨rfl, rfl⟩
      go_wp2_with fail
      refine HF1.out.mono ?_
      rintro e w1 ⟨v1, rfl, hO1, hb1⟩
      go_wp2_with fail
      go_ret
      exact ⟨_, rfl, hO1, hb1⟩
    | false =>
      rw [ea] at HIa
      cases ec : inward (tol c) with
      | true =>
        rw [ec] at HIc
        rw [show jointB (some false) true n = lf (n + 1) from rfl]
        clear HF H HZ HB0
        go_enter Try.func37, Try.ntmps37
        go_wp2_with fail
        refine (HIa.out _).mono ?_
        rintro e w1 ⟨rfl, rfl⟩
        go_wp2_with fail
        refine (HIc.out _).mono ?_
        rintro e w1 ⟨rfl, rfl⟩
        go_wp2_with fail
        refine HF1.out.mono ?_
        rintro e w1 ⟨v1, rfl, hO1, hb1⟩
        go_wp2_with fail
        go_ret
        exact ⟨_, rfl, hO1, hb1⟩
      | false =>
        rw [ec] at HIc
        by_cases hn : n = 0
        · subst hn
          rw [show jointB (some false) false 0 = ⟨#[32]⟩ from rfl]
          clear HF HF1 hw
          go_enter Try.func37, Try.ntmps37
          go_wp2_with fail
          refine (HIa.out _).mono ?_
          rintro e w1 ⟨rfl, rfl⟩
          go_wp2_with fail
          refine (HIc.out _).mono ?_
          rintro e w1 ⟨rfl, rfl⟩
          go_wp2_with (at_builtin; go_must (refine wpList_buf_new rfl (.tmp 30) (.tmp 31) rfl (⟨#[32]⟩ : ByteArray) rfl H.out rfl rfl rfl HZ.out HB0.out ?_; intro v2 w2 hO2 hb2))
          go_ret
          exact ⟨_, rfl, hO2, hb2⟩
        · rw [show jointB (some false) false n = lf n from by simp [jointB, hn]]
          have hg : (0 : Int) < (n : Int) := by omega
          clear HF1 hw H HZ HB0 hn
          go_enter Try.func37, Try.ntmps37
          go_wp2_with fail
          refine (HIa.out _).mono ?_
          rintro e w1 ⟨rfl, rfl⟩
          go_wp2_with fail
          refine (HIc.out _).mono ?_
          rintro e w1 ⟨rfl, rfl⟩
          go_wp2_with fail
          refine HF.out.mono ?_
          rintro e w1 ⟨v1, rfl, hO1, hb1⟩
          go_wp2_with fail
          go_ret
          exact ⟨_, rfl, hO1, hb1⟩
set_option maxHeartbeats 2000000 in
set_option maxRecDepth 100000 in
theorem bFolded (v : Value) (l : List ByteArray) (w : World) (h : Reads encS w v l) (hz : ∀ s ∈ l, s.size ≤ maxLen) (hM : 2 * l.length + rest l 0 ≤ 5000000) :
    Calls Try.prog 24 #[v] w fun e w' => ∃ v', e = .returned v' ∧ ∃ t', Buf w' w.heap.size v' t' ∧ tol t' = foldC none 0 (l.map tol) ∧ t'.size ≤ 5000000 ∧ Below w.heap.size w w' := by
  obtain ⟨a, cap, rfl⟩ := h.shape
  have H := Lib.hid h
  have HZ := Lib.hid hz
  obtain ⟨R0, hR0⟩ : ∃ R0, foldC none 0 (l.map tol) = R0 := ⟨_, rfl⟩
  have HR := Lib.hid hR0
  have HM := Lib.hid hM
  have hlm : l.length ≤ 5000000 := by omega
  rw [hR0]
  clear h hz hR0 hM
  go_enter Try.func24, Try.ntmps24
  go_wp2_with fail
  go_loopw [3, 4, 5, 10] (fun ov av ev kv wr => ∃ (k gap : Nat) (out ah : ByteArray), kv = .int .i64 k ∧ ev = .int .i64 gap ∧ av = .string ah ∧ k ≤ l.length ∧ gap ≤ k ∧ ah.size ≤ maxLen ∧ Hid (Buf wr w.heap.size ov out) ∧ Hid (tol out ++ foldC (lastOf ah) gap ((l.map tol).drop k) = R0) ∧ Hid (out.size + gap + 2 * (l.length - k) + rest l k ≤ 5000000) ∧ Below w.heap.size w wr) (fun _ _ _ kv _ => l.length - (intOf kv).toNat)
  case atStart => exact ⟨0, 0, ⟨#[]⟩, ⟨#[]⟩, rfl, rfl, rfl, Nat.zero_le _, Nat.le_refl _, Nat.zero_le _, Lib.hid (Buf.nil w _), Lib.hid HR.out, Lib.hid (by have := HM.out; show 0 + 0 + _ + _ ≤ _; omega), Below.refl _ w⟩
  case round =>
    obtain ⟨k, gap, out, ah, rfl, rfl, rfl, hk, hgk, hah, HO, HT, HS, hb⟩ := hrel
    by_cases hlt : k < l.length
    · have hi : (k : Int) < (l.length : Int) := by omega
      have hx := List.getElem?_eq_getElem hlt
      obtain ⟨x, hxx⟩ : ∃ x, l[k] = x := ⟨_, rfl⟩
      rw [hxx] at hx
      obtain ⟨b, off, rfl, hc⟩ := strs_at (H.out.below hb) k x hx
      have hzx := HZ.out x (List.mem_of_getElem? hx)
      have HC := Lib.hid (show Calls Try.prog 20 #[.string x] wr fun e w' => e = .returned (.bool (emptyL (tol x))) ∧ Below wr.heap.size wr w' from bEmpty x wr hzx)
      have hd := foldC_drop (lastOf ah) gap (l.map tol) k (tol x) (tol_at hx)
      have hr := rest_at l k x hx
      have hs := HS.out
      have ht := HT.out
      rw [hd] at ht
      clear hx hxx HT HS hd
      cases he : emptyL (tol x) with
      | true =>
        rw [he, if_pos rfl] at ht
        rw [he] at HC
        have HT2 := Lib.hid ht
        have HS2 := Lib.hid (show out.size + (gap + 1) + 2 * (l.length - (k + 1)) + rest l (k + 1) ≤ 5000000 by omega)
        have HA0 := Lib.hid hah
        clear ht he hzx hr hs hah
        go_wp2_with fail
        refine HC.out.mono ?_
        rintro e w1 ⟨rfl, hb1⟩
        have hb2 := hb.trans (hb1.mono hb.size)
        have HO2 := Lib.hid (HO.out.below hb1)
        clear hc HO
        go_wp2_with fail
        go_roundw
        case rel => exact ⟨k + 1, gap + 1, out, ah, by go_num, by go_num, rfl, by omega, by omega, HA0.out, HO2, HT2, HS2, hb2⟩
        case measure => simp [intOf]; omega
      | false =>
        rw [he, if_neg (by decide), ← tol_joint, ← List.append_assoc, ← List.append_assoc, ← tol_app, ← tol_app] at ht
        rw [he] at HC
        have hx0 := empty_zero x he
        have hla : lastOf x = some (inward (tol x)) := if_neg (by omega)
        rw [← hla] at ht
        have hjs := joint_size (lastOf ah) (inward (tol x)) gap
        have HJ := Lib.hid (fun (V : Value) (W : World) (hV : Buf W w.heap.size V out) (hW : w.heap.size ≤ W.heap.size) => bJoint V out ah x gap W w.heap.size hV hW (by omega) hah hzx hx0)
        generalize jointB (lastOf ah) (inward (tol x)) gap = J at *
        have HT2 := Lib.hid ht
        have HS2 := Lib.hid (show ((out ++ J) ++ x).size + 0 + 2 * (l.length - (k + 1)) + rest l (k + 1) ≤ 5000000 by rw [size_ap, size_ap]; omega)
        have HL := Lib.hid (show (out ++ J).size + x.size ≤ 140737488355328 by rw [size_ap]; omega)
        have HX := Lib.hid hzx
        clear ht he hzx hr hs hah hx0 hla hjs
        go_wp2_with fail
        refine HC.out.mono ?_
        rintro e w1 ⟨rfl, hb1⟩
        have hb2 := hb.trans (hb1.mono hb.size)
        have HO2 := Lib.hid (HO.out.below hb1)
        have HB2 := Lib.hid hb2
        clear hc HO hb hb1 hb2
        go_wp2_with fail
        refine (HJ.out u3 _ HO2.out HB2.out.size).mono ?_
        rintro e w2 ⟨v2, rfl, hO3, hb3⟩
        have HO3 := Lib.hid hO3
        have HB3 := Lib.hid (HB2.out.trans hb3)
        clear hO3 hb3 HO2 HB2
        go_wp2_with (at_builtin; go_must (refine wpList_buf_str rfl (.tmp 23) (.tmp 24) rfl rfl HO3.out rfl HL.out HB3.out.size ?_; intro v4 w4 hO4 hb4))
        go_roundw
        case rel => exact ⟨k + 1, 0, (out ++ J) ++ x, x, by go_num, rfl, rfl, by omega, by omega, HX.out, Lib.hid hO4, HT2, HS2, HB3.out.trans hb4⟩
        case measure => simp [intOf]; omega
    · obtain rfl : k = l.length := by omega
      have hne : ¬ ((l.length : Int) < (l.length : Int)) := by omega
      have ht := HT.out
      rw [List.drop_of_length_le (by rw [List.length_map]; exact Nat.le_refl _), foldC_nil, List.append_nil] at ht
      have HT2 := Lib.hid ht
      have HS2 := Lib.hid (show out.size ≤ 5000000 by have := HS.out; omega)
      clear ht HT HS hah
      go_wp2_with fail
      go_ret
      exact ⟨_, rfl, out, HO.out, HT2.out, HS2.out, hb⟩
end Go.Proofs.Ytogiaaiphbamnaa
