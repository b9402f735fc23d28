/- package block: appendFeeds, appendEnd, appendJoint. -/
import Derived.Test.YtogiaaiphbamnaaBuf
import Derived.Test.YtogiaaiphbamnaaBn
import Derived.Test.YtogiaaiphbamnaaShb
import Derived.Test.YtogiaaiphbamnaaQt
namespace Go.Proofs.Ytogiaaiphbamnaa
open Go.RowKit
open Go.Proofs.Ytogiaaiphbamnaa.Bk
set_option linter.unusedVariables false

namespace Bk
def lf (n : Nat) : ByteArray := ⟨(feeds n).toArray⟩
theorem lf_size (n : Nat) : (lf n).size = n := by simp [lf, feeds, ByteArray.size]
theorem ba_ext {a b : ByteArray} (h : tol a = tol b) : a = b := ByteArray.ext (Array.toList_inj.1 h)
theorem tol_app (a b : ByteArray) : tol (a ++ b) = tol a ++ tol b := Sg.app_list a b
theorem tol_mk (l : List UInt8) : tol ⟨l.toArray⟩ = l := by simp [tol]
theorem tol_lf (n : Nat) : tol (lf n) = feeds n := tol_mk _
theorem lf_zero (t : ByteArray) : t ++ lf 0 = t := ba_ext (by rw [tol_app, tol_lf]; simp [feeds])
theorem lf_next (t : ByteArray) (k : Nat) : t ++ lf k ++ ⟨#[10]⟩ = t ++ lf (k + 1) := ba_ext (by
  rw [tol_app, tol_app, tol_app, tol_lf, tol_lf, List.append_assoc]
  congr 1
  unfold feeds
  rw [List.replicate_succ']
  rfl)
theorem lf_one : (⟨#[10]⟩ : ByteArray) = lf 1 := rfl
theorem size_ap (a b : ByteArray) : (a ++ b).size = a.size + b.size := Sg.app_size a b
theorem has_byte (s : ByteArray) (c : UInt8) : decide (0 ≤ Lib.indexByte s.data.toList c) = (tol s).contains c := by
  unfold tol
  generalize s.data.toList = l
  rw [Bool.eq_iff_iff, decide_eq_true_eq, List.contains_iff_mem]
  constructor
  · intro h
    obtain ⟨o, ho⟩ := Int.eq_ofNat_of_zero_le h
    exact List.mem_of_getElem? (Lib.indexByte_some ho).1
  · intro h
    obtain ⟨j, hj⟩ := List.getElem?_of_mem h
    have h1 := Lib.indexByte_ge l c
    by_cases h2 : Lib.indexByte l c = -1
    · exact absurd hj (Lib.indexByte_none h2 j)
    · omega
end Bk
set_option maxHeartbeats 2000000 in
set_option maxRecDepth 100000 in
theorem bFeeds (v : Value) (t : ByteArray) (n : Nat) (w : World) (B : Nat) (h : Buf w B v t) (hB : B ≤ w.heap.size) (hz : t.size + n ≤ 100000000) :
    Calls Try.prog 28 #[v, .int .i64 (n : Nat)] w fun e w' => ∃ v', e = .returned v' ∧ Buf w' B v' (t ++ lf n) ∧ Below B w w' := by
  have H := Lib.hid h
  clear h
  go_enter Try.func28, Try.ntmps28
  go_wp2_with fail
  go_loopw [0, 6] (fun ov kv wr => ∃ k : Nat, kv = .int .i64 k ∧ k ≤ n ∧ Hid (Buf wr B ov (t ++ lf k)) ∧ Below B w wr) (fun _ kv _ => n - (intOf kv).toNat)
  case atStart => exact ⟨0, rfl, Nat.zero_le _, Lib.hid (by rw [lf_zero]; exact H.out), Below.refl B w⟩
  case round =>
    rename_i ov kv
    obtain ⟨k, rfl, hk, HK, hb⟩ := hrel
    by_cases hlt : k < n
    · have hi : (k : Int) < (n : Int) := by omega
      have hzz : (t ++ lf k).size + 1 ≤ 1000000000 := by rw [size_ap, lf_size]; omega
      have HZ := Lib.hid hzz
      have hBr := Nat.le_trans hB hb.size
      have HBr := Lib.hid hBr
      have HB := Lib.hid hb
      clear hzz hBr hb
      go_wp2_with (at_builtin; go_must (refine wpList_buf_new rfl (.tmp 8) (.tmp 9) rfl (⟨#[10]⟩ : ByteArray) rfl HK.out rfl rfl rfl HZ.out HBr.out ?_; intro v2 w2 hO2 hb2))
      rw [lf_next] at hO2
      go_roundw
      case rel => exact ⟨k + 1, by go_num, by omega, Lib.hid hO2, HB.out.trans hb2⟩
      case measure => simp [intOf]; omega
    · obtain rfl : k = n := by omega
      have hne : ¬ ((k : Int) < (k : Int)) := by omega
      go_wp2_with fail
      go_ret
      exact ⟨_, rfl, HK.out, hb⟩
theorem bHas (s : ByteArray) (c : UInt8) (w : World) : Calls Try.prog 21 #[.string s, .string ⟨#[c]⟩] w fun e w' => e = .returned (.bool ((tol s).contains c)) ∧ w' = w := by
  have h := contains_any s c w
  rw [has_byte] at h
  exact h
namespace Bk
/-- What ends a text. -/
def endB (m p : Bool) (k : Nat) : ByteArray := if m = true then ⟨#[]⟩ else if p = true then lf (k + 1) else lf 1
theorem endB_m (p : Bool) (k : Nat) (t : ByteArray) : t ++ endB true p k = t := by unfold endB; rw [if_pos rfl]; exact Sg.ba_nil_r t
theorem endB_p (k : Nat) (t : ByteArray) : t ++ endB false true k = t ++ lf k ++ ⟨#[10]⟩ := by unfold endB; rw [if_neg (by decide), if_pos rfl, lf_next]
theorem endB_n (k : Nat) (t : ByteArray) : t ++ endB false false k = t ++ ⟨#[10]⟩ := by unfold endB; rw [if_neg (by decide), if_neg (by decide), lf_one]
end Bk
set_option maxHeartbeats 2000000 in
set_option maxRecDepth 100000 in
theorem bEnd (v : Value) (t hd : ByteArray) (n : Nat) (w : World) (B : Nat) (h : Buf w B v t) (hB : B ≤ w.heap.size) (hz : t.size + n ≤ 10000000) :
    Calls Try.prog 18 #[v, .string hd, .int .i64 (n : Nat)] w fun e w' => ∃ v', e = .returned v' ∧ Buf w' B v' (t ++ endB ((tol hd).contains 45) ((tol hd).contains 43) n) ∧ Below B w w' := by
  have HM := Lib.hid (fun W => bHas hd 45 W)
  have HP := Lib.hid (fun W => bHas hd 43 W)
  have HF := Lib.hid (bFeeds v t n w B h hB (by omega))
  have H := Lib.hid h
  have HZ0 := Lib.hid (show t.size + 1 ≤ 1000000000 by omega)
  have HZ1 := Lib.hid (show (t ++ lf n).size + 1 ≤ 1000000000 by rw [size_ap, lf_size]; omega)
  have HB0 := Lib.hid hB
  clear h hB
  cases em : (tol hd).contains 45 with
  | true =>
    rw [em] at HM
    rw [endB_m]
    clear HP HF HZ0 HZ1
    go_enter Try.func18, Try.ntmps18
    go_wp2_with fail
    refine (HM.out _).mono ?_
    rintro e w1 ⟨rfl, rfl⟩
    go_wp2_with fail
    go_ret
    exact ⟨_, rfl, H.out, Below.refl _ _⟩
  | false =>
    rw [em] at HM
    cases ep : (tol hd).contains 43 with
    | true =>
      rw [ep] at HP
      rw [endB_p]
      clear HZ0
      go_enter Try.func18, Try.ntmps18
      go_wp2_with fail
      refine (HM.out _).mono ?_
      rintro e w1 ⟨rfl, rfl⟩
      go_wp2_with fail
      refine (HP.out _).mono ?_
      rintro e w1 ⟨rfl, rfl⟩
      go_wp2_with fail
      refine HF.out.mono ?_
      rintro e w1 ⟨v1, rfl, hO1, hb1⟩
      have HO := Lib.hid hO1
      have HBr := Lib.hid (Nat.le_trans HB0.out hb1.size)
      have HB := Lib.hid hb1
      clear hO1 hb1
      go_wp2_with (at_builtin; go_must (refine wpList_buf_new rfl (.tmp 17) (.tmp 18) rfl (⟨#[10]⟩ : ByteArray) rfl HO.out rfl rfl rfl HZ1.out HBr.out ?_; intro v2 w2 hO2 hb2))
      go_ret
      exact ⟨_, rfl, hO2, HB.out.trans hb2⟩
    | false =>
      rw [ep] at HP
      rw [endB_n]
      clear HZ1 HF
      go_enter Try.func18, Try.ntmps18
      go_wp2_with fail
      refine (HM.out _).mono ?_
      rintro e w1 ⟨rfl, rfl⟩
      go_wp2_with fail
      refine (HP.out _).mono ?_
      rintro e w1 ⟨rfl, rfl⟩
      go_wp2_with (at_builtin; go_must (refine wpList_buf_new rfl (.tmp 17) (.tmp 18) rfl (⟨#[10]⟩ : ByteArray) rfl H.out rfl rfl rfl HZ0.out HB0.out ?_; intro v2 w2 hO2 hb2))
      go_ret
      exact ⟨_, rfl, hO2, hb2⟩
end Go.Proofs.Ytogiaaiphbamnaa
