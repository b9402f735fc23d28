/- The walk of correctorlaw5.CharsRunes: each sign has escapes of four and of eight digits, that are read as it. -/
import Derived.Test.YtnaoichhjnggaaaAid5
import Derived.Test.YtnaoichhjnggaaaRowArg
namespace Go.Proofs.Ytnaoichhjnggaaa
open Go.RowKit
open Go.Proofs.Ytnaoichhjnggaaa.Es
open Go.Proofs.Ytnaoichhjnggaaa.Sg

/-- A small digit of sixteen, as a byte. -/
def hx (d : Nat) : UInt8 := if d < 10 then UInt8.ofNat (48 + d) else UInt8.ofNat (87 + d)
theorem hx_of (d : Nat) (h : d < 16) : hexI (hx d).toNat = some (d : Int) :=
  (by decide : ∀ d, d < 16 → hexI (hx d).toNat = some (d : Int)) d h
/-- The digits of a number from the highest on, down to place k. -/
def hxs (r : Nat) : Nat → List UInt8
  | 0 => []
  | n + 1 => hxs (r / 16) n ++ [hx (r % 16)]
theorem hxs_len (r n : Nat) : (hxs r n).length = n := by
  induction n generalizing r with
  | zero => rfl
  | succ n ih => simp [hxs, ih]
theorem hxs_num (r n : Nat) (v : Int) : num (hxs r n) v = some (v * 16 ^ n + (r % 16 ^ n : Nat)) := by
  induction n generalizing r with
  | zero => simp [hxs, num, Nat.mod_one]
  | succ n ih =>
    rw [hxs, num_app, ih, Option.bind_some, num, hx_of _ (Nat.mod_lt _ (by decide))]
    simp only [num]
    congr 1
    have e : r % 16 ^ (n + 1) = 16 * (r / 16 % 16 ^ n) + r % 16 := by
      rw [Nat.pow_succ, Nat.mul_comm, Nat.mod_mul]; omega
    rw [e, Int.pow_succ]
    push_cast
    generalize (r : Int) / 16 % 16 ^ n = z
    generalize (16 : Int) ^ n = y
    grind
def hexAll : ByteArray := ⟨#[48, 49, 50, 51, 52, 53, 54, 55, 56, 57, 97, 98, 99, 100, 101, 102]⟩
theorem hex_cut (d : Nat) (h : d < 16) : hexAll.extract d (d + 1) = ⟨#[hx d]⟩ :=
  (by decide : ∀ d, d < 16 → hexAll.extract d (d + 1) = ⟨#[hx d]⟩) d h
theorem shr_at (R k : Nat) : (R : Int) / 2 ^ (4 * k) = ((R / 16 ^ k : Nat) : Int) := by
  rw [Int.pow_mul, Int.natCast_ediv]
  congr 1
theorem and15 (q : Nat) (h : q < 2147483648) : bits .and .i64 (q : Int) 15 = ((q % 16 : Nat) : Int) := by
  rw [show (15 : Int) = 2 ^ 4 - 1 from by decide, bits_mask .i64 31 (by decide) (fun n h0 h1 => by rw [IntKind.wrap_i64]; omega) 4 (by decide) q (by omega) (by omega)]
  omega
theorem snoc_ba (l : List UInt8) (b : UInt8) : (⟨l.toArray⟩ : ByteArray) ++ ⟨#[b]⟩ = ⟨(l ++ [b]).toArray⟩ := by
  simp [ByteArray.ext_iff]
theorem hxs_step (R k : Nat) (h : k < 8) : hxs (R / 16 ^ (k + 1)) (8 - (k + 1)) ++ [hx (R / 16 ^ k % 16)] = hxs (R / 16 ^ k) (8 - k) := by
  rw [show 8 - k = (8 - (k + 1)) + 1 from by omega, hxs, Nat.div_div_eq_div_mul, ← Nat.pow_succ]
theorem hxs_add (r m n : Nat) : hxs r (m + n) = hxs (r / 16 ^ n) m ++ hxs r n := by
  induction n generalizing r with
  | zero => simp [hxs]
  | succ n ih =>
    rw [show m + (n + 1) = (m + n) + 1 from rfl, hxs, ih, hxs, Nat.div_div_eq_div_mul, List.append_assoc, Nat.pow_succ, Nat.mul_comm]
theorem sign_hxs (r n : Nat) (h : r < 16 ^ n) : sign (hxs r n) = if Utf8.valid r then some (r : Int) else none := by
  have e := hxs_num r n 0
  rw [Nat.mod_eq_of_lt h] at e
  have e2 : num (hxs r n) 0 = some (r : Int) := by rw [e]; congr 1; omega
  exact sign_of_num e2
theorem esc_hxs (c : UInt8) (r n : Nat) (hs : shortI c.toNat = none) (hd : digsI c.toNat = n) (hn : n ≠ 0) (h : r < 16 ^ n) :
    esc (92 :: c :: hxs r n) = if Utf8.valid r then some ((r : Int), 2 + n) else none := by
  have ht : (hxs r n).take (digsI c.toNat) = hxs r n := List.take_of_length_le (by rw [hxs_len, hd]; exact Nat.le_refl _)
  have hl : digsI c.toNat ≤ (hxs r n).length := by rw [hxs_len, hd]; exact Nat.le_refl _
  have hsg := sign_hxs r n h
  cases hv : Utf8.valid r with
  | true =>
    rw [hv] at hsg
    rw [esc_good (v := r) (by decide) hs (by rw [hd]; exact hn) hl (by rw [ht, hsg]; rfl), hd]
    rfl
  | false =>
    rw [hv] at hsg
    rw [esc_bad (by decide) hs (by rw [hd]; exact hn) hl (by rw [ht, hsg]; rfl)]
    rfl
theorem drop4 (r : Nat) : (hxs r 8).drop 4 = hxs r 4 := by
  rw [show 8 = 4 + 4 from rfl, hxs_add, List.drop_left' (hxs_len _ _)]
/-- What \\U and eight digits read. -/
theorem upper_run (R : Nat) (S : ByteArray) (hS : S = ⟨(hxs R 8).toArray⟩) (w : World) (h : R ≤ 1114111) :
    Calls Try.prog 15 #[.string ((⟨#[92, 85]⟩ : ByteArray) ++ S)] w fun e w' => e = .returned (escR (if Utf8.valid R then some ((R : Int), 10) else none)) ∧ Below w.heap.size w w' := by
  have hz : S.size = 8 := by rw [hS, size_at, hxs_len]
  have g := escape_any ((⟨#[92, 85]⟩ : ByteArray) ++ S) w (by rw [app_size, hz]; decide)
  rw [app_list, show S.data.toList = hxs R 8 from by rw [hS]] at g
  rw [show (⟨#[92, 85]⟩ : ByteArray).data.toList ++ hxs R 8 = 92 :: 85 :: hxs R 8 from rfl, esc_hxs 85 R 8 (by decide) (by decide) (by decide) (by omega)] at g
  exact g
theorem lower_run (R : Nat) (S : ByteArray) (hS : S = ⟨(hxs R 8).toArray⟩) (w : World) :
    Calls Try.prog 15 #[.string ((⟨#[92, 117]⟩ : ByteArray) ++ S.extract 4 8)] w fun e w' => e = .returned (escR (esc (92 :: 117 :: hxs R 4))) ∧ Below w.heap.size w w' := by
  have hl : (S.extract 4 8).data.toList = hxs R 4 := by
    rw [ext_list, hS]
    show ((hxs R 8).drop 4).take 4 = _
    rw [drop4, List.take_of_length_le (by rw [hxs_len]; exact Nat.le_refl _)]
  have hz : (S.extract 4 8).size = 4 := by rw [Lib.size_eq, hl, hxs_len]
  have g := escape_any ((⟨#[92, 117]⟩ : ByteArray) ++ S.extract 4 8) w (by rw [app_size, hz]; decide)
  rw [app_list, hl] at g
  exact g
theorem lower_val (R : Nat) (h : R ≤ 65535) (hv : Utf8.valid R = true) : escR (esc (92 :: 117 :: hxs R 4)) = .tuple #[.string (Utf8.encode R), .int .i64 6] := by
  rw [esc_hxs 117 R 4 (by decide) (by decide) (by decide) (by omega), hv]; rfl

set_option maxHeartbeats 4000000 in
set_option maxRecDepth 100000 in
theorem walk_CharsRunes (r : Int) (w : World) (hr : (Lit.int .i32 r).wf = true) :
    Calls Try.prog 5 #[.int .i32 r] w fun e w' => e = .returned (.bool true) ∧ Below w.heap.size w w' := by
  by_cases hin : 0 ≤ r ∧ r ≤ 1114111
  · obtain ⟨h0, h1⟩ := hin
    obtain ⟨R, rfl⟩ := Int.eq_ofNat_of_zero_le h0
    clear hr h0
    go_enter Try.func5, Try.ntmps5
    go_wp2_with fail
    refine (known_true w).mono ?_
    rintro e w1 ⟨rfl, hb⟩
    go_wp2_with fail
    go_loop [4, 5, 6] (fun s k _ => ∃ K : Nat, K ≤ 8 ∧ k = .int .i64 ((K : Int) - 1) ∧ s = .string ⟨(hxs (R / 16 ^ K) (8 - K)).toArray⟩) (fun _ k _ => (intOf k + 1).toNat)
    case atStart => exact ⟨8, by decide, rfl, rfl⟩
    case round =>
      obtain ⟨K, hK, rfl, rfl⟩ := hrel
      have hsz : (⟨(hxs (R / 16 ^ K) (8 - K)).toArray⟩ : ByteArray).size = 8 - K := by rw [size_at, hxs_len]
      cases K with
      | zero =>
        have hS : (⟨(hxs (R / 16 ^ 0) (8 - 0)).toArray⟩ : ByteArray) = ⟨(hxs R 8).toArray⟩ := by rw [Nat.pow_zero, Nat.div_one]
        generalize (⟨(hxs (R / 16 ^ 0) (8 - 0)).toArray⟩ : ByteArray) = S at *
        rw [show ((0 : Nat) : Int) - 1 = -1 from rfl]
        have hU := upper_run R S hS w1 (by omega)
        have hLo := fun w => lower_run R S hS w
        have hz : S.size = 8 := hsz
        clear hsz
        have hz0 : (4 : Int) ≤ (S.size : Int) := by omega
        cases hv : Utf8.valid R with
        | false =>
          rw [hv] at hU
          have hnv := not_valid (v := R) (by omega) hv
          have n1 : (55296 : Int) ≤ R := by omega
          have n2 : (R : Int) ≤ 57343 := by omega
          have HU := Lib.hid hU
          clear hU hLo hS hv hnv
          generalize (R : Int) = r at *
          go_wp2_with fail
          refine HU.out.mono ?_
          rintro e w2 ⟨rfl, hb2⟩
          rw [show escR (if false = true then some (r, 10) else none) = .tuple #[.string ⟨#[]⟩, .int .i64 0] from rfl]
          go_wp2
          go_ret
          exact ⟨by simp, hb.trans (hb2.mono hb.size)⟩
        | true =>
          rw [hv] at hU
          obtain ⟨y0, y1, hyv⟩ := yes_valid hv
          have HU := Lib.hid hU
          have HL := Lib.hid hLo
          have HV := Lib.hid hv
          have hcv := fun w => conv_rune R w
          clear hU hLo hS hv
          by_cases h4 : R ≤ 65535
          · have n3 : (R : Int) ≤ 65535 := by omega
            have HW := Lib.hid (lower_val R h4 HV.out)
            have HX : Hid (escR (if true = true then some ((R : Int), 10) else none) = .tuple #[.string (Utf8.encode R), .int .i64 10]) := Lib.hid rfl
            clear h4
            generalize Utf8.encode R = V at *
            generalize (R : Int) = r at *
            rcases hyv with hyv | hyv
            all_goals
              go_wp2_with fail
              refine HU.out.mono ?_
              rintro e w2 ⟨rfl, hb2⟩
              rw [HX.out]
              go_wp2_with fail
              refine (HL.out w2).mono ?_
              rintro e w3 ⟨rfl, hb3⟩
              rw [HW.out]
              go_wp2
              go_ret
              exact ⟨by simp, hb.trans ((hb2.trans (hb3.mono hb2.size)).mono hb.size)⟩
          · have n3 : (65535 : Int) < R := by omega
            have HX : Hid (escR (if true = true then some ((R : Int), 10) else none) = .tuple #[.string (Utf8.encode R), .int .i64 10]) := Lib.hid rfl
            clear h4
            generalize Utf8.encode R = V at *
            generalize (R : Int) = r at *
            replace hyv : 57343 < r := by omega
            all_goals
              go_wp2_with fail
              all_goals
                refine HU.out.mono ?_
                rintro e w2 ⟨rfl, hb2⟩
                rw [HX.out]
                go_wp2_with fail
                refine (HL.out w2).mono ?_
                rintro e w3 ⟨rfl, hb3⟩
                unfold escR
                go_wp2
                go_ret
                exact ⟨by simp, hb.trans ((hb2.trans (hb3.mono hb2.size)).mono hb.size)⟩
      | succ m =>
        have hm8 : m < 8 := by omega
        have hst := hxs_step R m hm8
        have hsn := snoc_ba (hxs (R / 16 ^ (m + 1)) (8 - (m + 1))) (hx (R / 16 ^ m % 16))
        rw [hst] at hsn
        have hsh := shr_at R m
        have hq : R / 16 ^ m < 2147483648 := Nat.lt_of_le_of_lt (Nat.div_le_self _ _) (by omega)
        have hd : R / 16 ^ m % 16 < 16 := Nat.mod_lt _ (by decide)
        have han := and15 (R / 16 ^ m) hq
        have hcut := hex_cut (R / 16 ^ m % 16) hd
        unfold hexAll at hcut
        obtain ⟨T, hT⟩ : ∃ T, (⟨(hxs (R / 16 ^ m) (8 - m)).toArray⟩ : ByteArray) = T := ⟨_, rfl⟩
        rw [hT] at hsn
        have HT := Lib.hid hT
        have HSN := Lib.hid hsn
        clear hst hsn hT
        obtain ⟨q, hqe⟩ : ∃ q, R / 16 ^ m = q := ⟨_, rfl⟩
        rw [hqe] at hsh hq hd han hcut
        generalize hbe : hx (q % 16) = b at hcut
        obtain ⟨d, hde⟩ : ∃ d, q % 16 = d := ⟨_, rfl⟩
        rw [hde] at hd han hcut
        rw [hqe, hbe] at HSN
        clear hqe hbe hde
        generalize (⟨(hxs (R / 16 ^ (m + 1)) (8 - (m + 1))).toArray⟩ : ByteArray) = S at *
        rw [show ((m + 1 : Nat) : Int) - 1 = (m : Int) from by omega]
        have ht : (4 * (m : Int)).toNat = 4 * m := by omega
        have hm0 : (m : Int) < 8 := by omega
        have hd0 : (d : Int) < 16 := by omega
        have hq0 : (q : Int) < 2147483648 := by omega
        have hss : S.size + (⟨#[b]⟩ : ByteArray).size ≤ 9223372036854775807 := by rw [hsz]; show 8 - (m + 1) + 1 ≤ _; omega
        clear hsz
        go_wp2
        go_round
        case rel => exact ⟨m, by omega, rfl, by rw [HT.out, HSN.out]⟩
        case measure => simp [intOf]
  · rcases (show r < 0 ∨ 1114111 < r by omega) with hlt | hlt
    all_goals
      clear hr hin
      go_enter Try.func5, Try.ntmps5
      go_wp2_with fail
      refine (known_true w).mono ?_
      rintro e w1 ⟨rfl, hb⟩
      go_wp2
      go_ret
      exact ⟨rfl, hb⟩
end Go.Proofs.Ytnaoichhjnggaaa
