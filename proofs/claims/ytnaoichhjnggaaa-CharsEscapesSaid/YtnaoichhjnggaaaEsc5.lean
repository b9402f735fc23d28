/- The walk of correctorlaw5.CharsEscapes: any text's escape is read, or is none, as the document says. -/
import Derived.Test.YtnaoichhjnggaaaAid5
import Derived.Test.YtnaoichhjnggaaaRowArg
import Derived.Test.YtnaoichhjnggaaaCel
import Derived.Deep.DeepCutAuto
import Derived.Deep.QuietTactic
import Derived.BigQuiet
namespace Go.Proofs.Ytnaoichhjnggaaa
open Go.RowKit
open Go.Proofs.Ytnaoichhjnggaaa.Es
open Go.Proofs.Ytnaoichhjnggaaa.Sg

def hex22 : ByteArray := ⟨#[48, 49, 50, 51, 52, 53, 54, 55, 56, 57, 97, 98, 99, 100, 101, 102, 65, 66, 67, 68, 69, 70]⟩

/-- Nine texts in a row, none too long. -/
def Nine (w : World) (g : Nat) : Prop := ∀ k, k < 9 → ∃ x : ByteArray, w.cell? ⟨g, k, none⟩ = some (.string x) ∧ x.size ≤ 40
theorem nine_of (w : World) (t : TypeId) (x0 x1 x2 x3 x4 x5 x6 x7 x8 : ByteArray) (h0 : x0.size ≤ 40) (h1 : x1.size ≤ 40) (h2 : x2.size ≤ 40) (h3 : x3.size ≤ 40) (h4 : x4.size ≤ 40) (h5 : x5.size ≤ 40) (h6 : x6.size ≤ 40) (h7 : x7.size ≤ 40) (h8 : x8.size ≤ 40) :
    Nine (w.alloc (.cells #[.string x0, .string x1, .string x2, .string x3, .string x4, .string x5, .string x6, .string x7, .string x8] t)) w.heap.size := by
  intro k hk
  match k, hk with
  | 0, _ => exact ⟨x0, by rw [World.cell?_alloc_mark]; rfl, h0⟩
  | 1, _ => exact ⟨x1, by rw [World.cell?_alloc_mark]; rfl, h1⟩
  | 2, _ => exact ⟨x2, by rw [World.cell?_alloc_mark]; rfl, h2⟩
  | 3, _ => exact ⟨x3, by rw [World.cell?_alloc_mark]; rfl, h3⟩
  | 4, _ => exact ⟨x4, by rw [World.cell?_alloc_mark]; rfl, h4⟩
  | 5, _ => exact ⟨x5, by rw [World.cell?_alloc_mark]; rfl, h5⟩
  | 6, _ => exact ⟨x6, by rw [World.cell?_alloc_mark]; rfl, h6⟩
  | 7, _ => exact ⟨x7, by rw [World.cell?_alloc_mark]; rfl, h7⟩
  | 8, _ => exact ⟨x8, by rw [World.cell?_alloc_mark]; rfl, h8⟩

set_option maxHeartbeats 4000000 in
set_option maxRecDepth 100000 in
theorem walk_CharsEscapes (c : Int) (d b r : ByteArray) (w : World) (hc : (Lit.int .u8 c).wf = true) (_ : d.size ≤ maxLen) (_ : b.size ≤ maxLen) (_ : r.size ≤ maxLen) :
    Calls Try.prog 4 #[.int .u8 c, .string d, .string b, .string r] w fun e w' => e = .returned (.bool true) ∧ Below w.heap.size w w' := by
  obtain ⟨c0, c1⟩ := bounds_u8 hc
  clear hc
  by_cases hd : 12 < d.size
  · have hgt : (12 : Int) < (d.size : Int) := by omega
    go_enter Try.func4, Try.ntmps4
    go_wp2_with fail
    refine (known_true w).mono ?_
    rintro e w1 ⟨rfl, hb⟩
    go_wp2
    go_ret
    exact ⟨rfl, hb⟩
  have hd' : ¬ (12 : Int) < (d.size : Int) := by omega
  by_cases hbb : 12 < b.size
  · have hgt : (12 : Int) < (b.size : Int) := by omega
    go_enter Try.func4, Try.ntmps4
    go_wp2_with fail
    refine (known_true w).mono ?_
    rintro e w1 ⟨rfl, hb⟩
    go_wp2
    go_ret
    exact ⟨rfl, hb⟩
  have hb' : ¬ (12 : Int) < (b.size : Int) := by omega
  by_cases hrr : 12 < r.size
  · have hgt : (12 : Int) < (r.size : Int) := by omega
    go_enter Try.func4, Try.ntmps4
    go_wp2_with fail
    refine (known_true w).mono ?_
    rintro e w1 ⟨rfl, hb⟩
    go_wp2
    go_ret
    exact ⟨rfl, hb⟩
  have hr' : ¬ (12 : Int) < (r.size : Int) := by omega
  go_enter Try.func4, Try.ntmps4
  go_wp2_with fail
  refine (known_true w).mono ?_
  rintro e w1 ⟨rfl, hbw⟩
  go_wp2_with fail
  go_loopw [9, 10] (fun h k wr => ∃ (H : ByteArray) (K : Nat), h = .string H ∧ k = .int .i64 K ∧ K ≤ d.size ∧ H.size ≤ K ∧ Below w1.heap.size w1 wr) (fun _ k _ => d.size - (intOf k).toNat)
  case atStart => exact ⟨⟨#[]⟩, 0, rfl, rfl, Nat.zero_le _, Nat.le_refl _, Below.refl _ _⟩
  case round =>
    obtain ⟨H, K, rfl, rfl, hK, hH, hbr⟩ := hrel
    by_cases hlt : K < d.size
    · have hin : (K : Int) < (d.size : Int) := by omega
      have hm : (d[K]).toNat % 22 < 22 := Nat.mod_lt _ (by decide)
      generalize hx : d[K] = x at *
      have hx2 : x.toNat < 256 := UInt8.toNat_lt _
      go_wp2_with fail
      go_big_quiet (fail)
      go_wp2
      go_roundw
      case rel =>
        refine ⟨_, K + 1, rfl, by go_num, by omega, ?_, ?_⟩
        · rw [app_size, ByteArray.size_extract, show (⟨#[48, 49, 50, 51, 52, 53, 54, 55, 56, 57, 97, 98, 99, 100, 101, 102, 65, 66, 67, 68, 69, 70]⟩ : ByteArray).size = 22 from rfl]
          omega
        · exact hbr.trans ⟨rfl, rfl, rfl, Nat.le_refl _, fun _ _ => rfl⟩
      case measure => simp [intOf]; omega
    · have hge : ¬ (K : Int) < (d.size : Int) := by omega
      have hH12 : H.size ≤ 12 := by omega
      have hH' : (H.size : Int) ≤ 12 := by omega
      have hcv := conv_one c wr c0 (by omega)
      have hCz : (⟨#[UInt8.ofNat c.toNat]⟩ : ByteArray).size = 1 := rfl
      generalize (⟨#[UInt8.ofNat c.toNat]⟩ : ByteArray) = C at *
      have hC' : (C.size : Int) ≤ 1 := by omega
      have HCZ := Lib.hid hCz
      have hbr2 := hbw.trans (hbr.mono hbw.size)
      have hbn : b.size ≤ 12 := by omega
      have hrn : r.size ≤ 12 := by omega
      clear hCz hbr hbw hK hH hlt
      go_upto_region 11 with fail
      go_cut [12] (fun s wx => ∃ g, s = .slice (some ⟨g, 0, none⟩) 9 9 ∧ Hid (Nine wx g) ∧ Below wr.heap.size wr wx)
      case first =>
        go_wp2
        go_meet
        refine ⟨_, rfl, Lib.hid ?_, ((Below.refl _ _).alloc (Nat.le_refl _) _).alloc (by simp) _⟩
        have hCz := HCZ.out
        have q1 : (⟨#[92]⟩ : ByteArray).size = 1 := rfl
        have q2 : (⟨#[120]⟩ : ByteArray).size = 1 := rfl
        have q3 : (⟨#[117]⟩ : ByteArray).size = 1 := rfl
        have q4 : (⟨#[85]⟩ : ByteArray).size = 1 := rfl
        have q5 : (⟨#[85, 48, 48, 48, 48]⟩ : ByteArray).size = 5 := rfl
        have q6 : (⟨#[85, 48, 48, 49, 48]⟩ : ByteArray).size = 5 := rfl
        have h := nine_of (wr.alloc (.cells #[.int .u8 c] 5)) 9 ((⟨#[92]⟩ : ByteArray) ++ C ++ b) ((⟨#[92]⟩ : ByteArray) ++ ⟨#[120]⟩ ++ H ++ b) ((⟨#[92]⟩ : ByteArray) ++ ⟨#[117]⟩ ++ H ++ b)
          ((⟨#[92]⟩ : ByteArray) ++ ⟨#[85]⟩ ++ H) ((⟨#[92]⟩ : ByteArray) ++ ⟨#[85, 48, 48, 48, 48]⟩ ++ H) ((⟨#[92]⟩ : ByteArray) ++ ⟨#[85, 48, 48, 49, 48]⟩ ++ H) r ((⟨#[92]⟩ : ByteArray) ++ r) ⟨#[92]⟩
          (by rw [app_size, app_size]; omega) (by rw [app_size, app_size, app_size]; omega) (by rw [app_size, app_size, app_size]; omega)
          (by rw [app_size, app_size]; omega) (by rw [app_size, app_size]; omega) (by rw [app_size, app_size]; omega) (by omega) (by rw [app_size]; omega) (by omega)
        rw [size_alloc] at h
        exact h
      case rest =>
        obtain ⟨g, rfl, hN, hbx⟩ := hcut
        have hb2 := hbr2.trans (hbx.mono hbr2.size)
        clear hbx hbr2
        go_wp2_with fail
        go_loopw [13, 14, 15, 16, 17] (fun i _ _ _ _ wx => ∃ k : Nat, i = .int .i64 k ∧ k ≤ 9 ∧ Below wc.heap.size wc wx) (fun i _ _ _ _ _ => 9 - (intOf i).toNat)
        case atStart => exact ⟨0, rfl, by decide, Below.refl _ _⟩
        case round =>
          obtain ⟨k, rfl, hk, hbk⟩ := hrel
          by_cases hlt : k < 9
          · have hin : (k : Int) < 9 := by omega
            obtain ⟨x, hx, hxs⟩ := hN.out k hlt
            have hx1 := at_below hbk hx
            have hEp := fun W => escape_any x W (Nat.le_trans hxs (by decide))
            have hEr := fun W => refEscape x W (Nat.le_trans hxs (by decide))
            generalize esc x.data.toList = E at hEp hEr
            unfold escR at hEp hEr
            generalize txtOf E = T at hEp hEr
            generalize lenOf E = L at hEp hEr
            have HP := Lib.hid hEp
            have HR := Lib.hid hEr
            clear hEp hEr hx hxs
            go_wp2_with fail
            refine (HP.out _).mono ?_
            rintro e w2 ⟨rfl, hb3⟩
            have hx2 := at_below hb3 hx1
            have hbk2 := hbk.trans (hb3.mono hbk.size)
            clear hx1 hb3 hbk
            go_wp2_with fail
            refine (HR.out _).mono ?_
            rintro e w3 ⟨rfl, hb4⟩
            have hbk3 := hbk2.trans (hb4.mono hbk2.size)
            clear hx2 hb4 hbk2
            go_wp2
            go_roundw
            case rel => exact ⟨k + 1, by go_num, by omega, hbk3⟩
            case measure => simp [intOf]; omega
          · obtain rfl : k = 9 := by omega
            go_wp2
            go_ret
            exact ⟨rfl, hb2.trans (hbk.mono hb2.size)⟩
end Go.Proofs.Ytnaoichhjnggaaa
