/- The walk of correctorlaw5.CharsFront: what stands behind an escape does not count. -/
import Derived.Test.YtnaoichhjnggaaaAid5
import Derived.Test.YtnaoichhjnggaaaCel
namespace Go.Proofs.Ytnaoichhjnggaaa
open Go.RowKit
open Go.Proofs.Ytnaoichhjnggaaa.Es
open Go.Proofs.Ytnaoichhjnggaaa.Sg

theorem front0 (b : ByteArray) (w : World) (hb : b.size ≤ 20) :
    Calls Try.prog 15 #[.string ((⟨#[92, 110]⟩ : ByteArray) ++ b)] w fun e w' => e = .returned (.tuple #[.string ⟨#[10]⟩, .int .i64 2]) ∧ Below w.heap.size w w' := by
  have h := escape_any ((⟨#[92, 110]⟩ : ByteArray) ++ b) w (by rw [app_size]; show 2 + b.size ≤ maxLen; unfold maxLen; omega)
  rw [app_list] at h
  generalize b.data.toList = r at h
  rw [show escR (esc ((⟨#[92, 110]⟩ : ByteArray).data.toList ++ r)) = .tuple #[.string ⟨#[10]⟩, .int .i64 2] from by kernel_rfl] at h
  exact h
theorem front1 (b : ByteArray) (w : World) (hb : b.size ≤ 20) :
    Calls Try.prog 15 #[.string ((⟨#[92, 116]⟩ : ByteArray) ++ b)] w fun e w' => e = .returned (.tuple #[.string ⟨#[9]⟩, .int .i64 2]) ∧ Below w.heap.size w w' := by
  have h := escape_any ((⟨#[92, 116]⟩ : ByteArray) ++ b) w (by rw [app_size]; show 2 + b.size ≤ maxLen; unfold maxLen; omega)
  rw [app_list] at h
  generalize b.data.toList = r at h
  rw [show escR (esc ((⟨#[92, 116]⟩ : ByteArray).data.toList ++ r)) = .tuple #[.string ⟨#[9]⟩, .int .i64 2] from by kernel_rfl] at h
  exact h
theorem front2 (b : ByteArray) (w : World) (hb : b.size ≤ 20) :
    Calls Try.prog 15 #[.string ((⟨#[92, 92]⟩ : ByteArray) ++ b)] w fun e w' => e = .returned (.tuple #[.string ⟨#[92]⟩, .int .i64 2]) ∧ Below w.heap.size w w' := by
  have h := escape_any ((⟨#[92, 92]⟩ : ByteArray) ++ b) w (by rw [app_size]; show 2 + b.size ≤ maxLen; unfold maxLen; omega)
  rw [app_list] at h
  generalize b.data.toList = r at h
  rw [show escR (esc ((⟨#[92, 92]⟩ : ByteArray).data.toList ++ r)) = .tuple #[.string ⟨#[92]⟩, .int .i64 2] from by kernel_rfl] at h
  exact h
theorem front3 (b : ByteArray) (w : World) (hb : b.size ≤ 20) :
    Calls Try.prog 15 #[.string ((⟨#[92, 34]⟩ : ByteArray) ++ b)] w fun e w' => e = .returned (.tuple #[.string ⟨#[34]⟩, .int .i64 2]) ∧ Below w.heap.size w w' := by
  have h := escape_any ((⟨#[92, 34]⟩ : ByteArray) ++ b) w (by rw [app_size]; show 2 + b.size ≤ maxLen; unfold maxLen; omega)
  rw [app_list] at h
  generalize b.data.toList = r at h
  rw [show escR (esc ((⟨#[92, 34]⟩ : ByteArray).data.toList ++ r)) = .tuple #[.string ⟨#[34]⟩, .int .i64 2] from by kernel_rfl] at h
  exact h
theorem front4 (b : ByteArray) (w : World) (hb : b.size ≤ 20) :
    Calls Try.prog 15 #[.string ((⟨#[92, 120, 52, 49]⟩ : ByteArray) ++ b)] w fun e w' => e = .returned (.tuple #[.string ⟨#[65]⟩, .int .i64 4]) ∧ Below w.heap.size w w' := by
  have h := escape_any ((⟨#[92, 120, 52, 49]⟩ : ByteArray) ++ b) w (by rw [app_size]; show 4 + b.size ≤ maxLen; unfold maxLen; omega)
  rw [app_list] at h
  generalize b.data.toList = r at h
  rw [show escR (esc ((⟨#[92, 120, 52, 49]⟩ : ByteArray).data.toList ++ r)) = .tuple #[.string ⟨#[65]⟩, .int .i64 4] from by kernel_rfl] at h
  exact h
theorem front5 (b : ByteArray) (w : World) (hb : b.size ≤ 20) :
    Calls Try.prog 15 #[.string ((⟨#[92, 117, 48, 48, 101, 57]⟩ : ByteArray) ++ b)] w fun e w' => e = .returned (.tuple #[.string ⟨#[195, 169]⟩, .int .i64 6]) ∧ Below w.heap.size w w' := by
  have h := escape_any ((⟨#[92, 117, 48, 48, 101, 57]⟩ : ByteArray) ++ b) w (by rw [app_size]; show 6 + b.size ≤ maxLen; unfold maxLen; omega)
  rw [app_list] at h
  generalize b.data.toList = r at h
  rw [show escR (esc ((⟨#[92, 117, 48, 48, 101, 57]⟩ : ByteArray).data.toList ++ r)) = .tuple #[.string ⟨#[195, 169]⟩, .int .i64 6] from by kernel_rfl] at h
  exact h
theorem front6 (b : ByteArray) (w : World) (hb : b.size ≤ 20) :
    Calls Try.prog 15 #[.string ((⟨#[92, 85, 48, 48, 48, 49, 70, 54, 48, 48]⟩ : ByteArray) ++ b)] w fun e w' => e = .returned (.tuple #[.string ⟨#[240, 159, 152, 128]⟩, .int .i64 10]) ∧ Below w.heap.size w w' := by
  have h := escape_any ((⟨#[92, 85, 48, 48, 48, 49, 70, 54, 48, 48]⟩ : ByteArray) ++ b) w (by rw [app_size]; show 10 + b.size ≤ maxLen; unfold maxLen; omega)
  rw [app_list] at h
  generalize b.data.toList = r at h
  rw [show escR (esc ((⟨#[92, 85, 48, 48, 48, 49, 70, 54, 48, 48]⟩ : ByteArray).data.toList ++ r)) = .tuple #[.string ⟨#[240, 159, 152, 128]⟩, .int .i64 10] from by kernel_rfl] at h
  exact h
theorem front7 (b : ByteArray) (w : World) (hb : b.size ≤ 20) :
    Calls Try.prog 15 #[.string ((⟨#[92, 32]⟩ : ByteArray) ++ b)] w fun e w' => e = .returned (.tuple #[.string ⟨#[32]⟩, .int .i64 2]) ∧ Below w.heap.size w w' := by
  have h := escape_any ((⟨#[92, 32]⟩ : ByteArray) ++ b) w (by rw [app_size]; show 2 + b.size ≤ maxLen; unfold maxLen; omega)
  rw [app_list] at h
  generalize b.data.toList = r at h
  rw [show escR (esc ((⟨#[92, 32]⟩ : ByteArray).data.toList ++ r)) = .tuple #[.string ⟨#[32]⟩, .int .i64 2] from by kernel_rfl] at h
  exact h
theorem front8 (b : ByteArray) (w : World) (hb : b.size ≤ 20) :
    Calls Try.prog 15 #[.string ((⟨#[92, 48]⟩ : ByteArray) ++ b)] w fun e w' => e = .returned (.tuple #[.string ⟨#[0]⟩, .int .i64 2]) ∧ Below w.heap.size w w' := by
  have h := escape_any ((⟨#[92, 48]⟩ : ByteArray) ++ b) w (by rw [app_size]; show 2 + b.size ≤ maxLen; unfold maxLen; omega)
  rw [app_list] at h
  generalize b.data.toList = r at h
  rw [show escR (esc ((⟨#[92, 48]⟩ : ByteArray).data.toList ++ r)) = .tuple #[.string ⟨#[0]⟩, .int .i64 2] from by kernel_rfl] at h
  exact h
set_option maxHeartbeats 4000000 in
set_option maxRecDepth 100000 in
theorem walk_CharsFront (n : Int) (b : ByteArray) (w : World) (_ : (Lit.int .i64 n).wf = true) (_ : b.size ≤ maxLen) :
    Calls Try.prog 7 #[.int .i64 n, .string b] w fun e w' => e = .returned (.bool true) ∧ Below w.heap.size w w' := by
  by_cases hbig : 20 < b.size
  · have hgt : (20 : Int) < (b.size : Int) := by omega
    clear hbig
    go_enter Try.func7, Try.ntmps7
    go_wp2_with fail
    refine (known_true w).mono ?_
    rintro e w1 ⟨rfl, hb⟩
    go_wp2
    go_ret
    exact ⟨rfl, hb⟩
  · have hgt : ¬ (20 : Int) < (b.size : Int) := by omega
    have hle : b.size ≤ 20 := by omega
    clear hbig
    go_enter Try.func7, Try.ntmps7
    go_wp2_with fail
    refine (known_true w).mono ?_
    rintro e w1 ⟨rfl, hb⟩
    go_wp2_with fail
    have hwi := within_any n 9 ((w1.alloc (.cells #[.string ⟨#[92, 110]⟩, .string ⟨#[92, 116]⟩, .string ⟨#[92, 92]⟩, .string ⟨#[92, 34]⟩, .string ⟨#[92, 120, 52, 49]⟩, .string ⟨#[92, 117, 48, 48, 101, 57]⟩, .string ⟨#[92, 85, 48, 48, 48, 49, 70, 54, 48, 48]⟩, .string ⟨#[92, 32]⟩, .string ⟨#[92, 48]⟩] 9)).alloc (.cells #[.string ⟨#[10]⟩, .string ⟨#[9]⟩, .string ⟨#[92]⟩, .string ⟨#[34]⟩, .string ⟨#[65]⟩, .string ⟨#[195, 169]⟩, .string ⟨#[240, 159, 152, 128]⟩, .string ⟨#[32]⟩, .string ⟨#[0]⟩] 9)) (by decide) (by decide)
    have hwb := wit_bd n 9 (by decide)
    generalize wit n 9 = z at hwi hwb
    refine hwi.mono ?_
    rintro e w2 ⟨rfl, rfl⟩
    clear hwi
    obtain ⟨k, rfl⟩ := Int.eq_ofNat_of_zero_le hwb.1
    have hk9 : k < 9 := by omega
    clear hwb
    match k, hk9 with
    | 0, _ =>
      go_wp2_with fail
      refine (front0 b _ hle).mono ?_
      rintro e w3 ⟨rfl, hb3⟩
      obtain ⟨hc, hf⟩ := bcell hb3
      go_wp2
      go_ret
      exact ⟨by simp, hb.trans ((((Below.refl _ w1).alloc (Nat.le_refl _) _).alloc (by simp) _).trans (hb3.mono (by simp; omega)) |>.mono hb.size)⟩
    | 1, _ =>
      go_wp2_with fail
      refine (front1 b _ hle).mono ?_
      rintro e w3 ⟨rfl, hb3⟩
      obtain ⟨hc, hf⟩ := bcell hb3
      go_wp2
      go_ret
      exact ⟨by simp, hb.trans ((((Below.refl _ w1).alloc (Nat.le_refl _) _).alloc (by simp) _).trans (hb3.mono (by simp; omega)) |>.mono hb.size)⟩
    | 2, _ =>
      go_wp2_with fail
      refine (front2 b _ hle).mono ?_
      rintro e w3 ⟨rfl, hb3⟩
      obtain ⟨hc, hf⟩ := bcell hb3
      go_wp2
      go_ret
      exact ⟨by simp, hb.trans ((((Below.refl _ w1).alloc (Nat.le_refl _) _).alloc (by simp) _).trans (hb3.mono (by simp; omega)) |>.mono hb.size)⟩
    | 3, _ =>
      go_wp2_with fail
      refine (front3 b _ hle).mono ?_
      rintro e w3 ⟨rfl, hb3⟩
      obtain ⟨hc, hf⟩ := bcell hb3
      go_wp2
      go_ret
      exact ⟨by simp, hb.trans ((((Below.refl _ w1).alloc (Nat.le_refl _) _).alloc (by simp) _).trans (hb3.mono (by simp; omega)) |>.mono hb.size)⟩
    | 4, _ =>
      go_wp2_with fail
      refine (front4 b _ hle).mono ?_
      rintro e w3 ⟨rfl, hb3⟩
      obtain ⟨hc, hf⟩ := bcell hb3
      go_wp2
      go_ret
      exact ⟨by simp, hb.trans ((((Below.refl _ w1).alloc (Nat.le_refl _) _).alloc (by simp) _).trans (hb3.mono (by simp; omega)) |>.mono hb.size)⟩
    | 5, _ =>
      go_wp2_with fail
      refine (front5 b _ hle).mono ?_
      rintro e w3 ⟨rfl, hb3⟩
      obtain ⟨hc, hf⟩ := bcell hb3
      go_wp2
      go_ret
      exact ⟨by simp, hb.trans ((((Below.refl _ w1).alloc (Nat.le_refl _) _).alloc (by simp) _).trans (hb3.mono (by simp; omega)) |>.mono hb.size)⟩
    | 6, _ =>
      go_wp2_with fail
      refine (front6 b _ hle).mono ?_
      rintro e w3 ⟨rfl, hb3⟩
      obtain ⟨hc, hf⟩ := bcell hb3
      go_wp2
      go_ret
      exact ⟨by simp, hb.trans ((((Below.refl _ w1).alloc (Nat.le_refl _) _).alloc (by simp) _).trans (hb3.mono (by simp; omega)) |>.mono hb.size)⟩
    | 7, _ =>
      go_wp2_with fail
      refine (front7 b _ hle).mono ?_
      rintro e w3 ⟨rfl, hb3⟩
      obtain ⟨hc, hf⟩ := bcell hb3
      go_wp2
      go_ret
      exact ⟨by simp, hb.trans ((((Below.refl _ w1).alloc (Nat.le_refl _) _).alloc (by simp) _).trans (hb3.mono (by simp; omega)) |>.mono hb.size)⟩
    | 8, _ =>
      go_wp2_with fail
      refine (front8 b _ hle).mono ?_
      rintro e w3 ⟨rfl, hb3⟩
      obtain ⟨hc, hf⟩ := bcell hb3
      go_wp2
      go_ret
      exact ⟨by simp, hb.trans ((((Below.refl _ w1).alloc (Nat.le_refl _) _).alloc (by simp) _).trans (hb3.mono (by simp; omega)) |>.mono hb.size)⟩
end Go.Proofs.Ytnaoichhjnggaaa
