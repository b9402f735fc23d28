/- strings.IndexRune and strings.ContainsRune of the two texts of signs that end package quote's pieces, at any sign. (Written by tools/gen_ixq.py.) -/
import Derived.Test.YtmkchfpmlidaiaaShq
import Derived.Test.YtmkchfpmlidaiaaChE
import Derived.Test.YtmkchfpmlidaiaaCel
import Derived.Test.YtmkchfpmlidaiaaQt
import Derived.BigQuiet
import Derived.Deep.QuietTactic
namespace Go.Proofs.Ytmkchfpmlidaiaa
open Go.RowKit
open Go.Proofs.Ytmkchfpmlidaiaa.Sg
set_option linter.unusedVariables false

theorem vr_yes (c : Int) (w : World) (h1 : c ≤ 2147483647) (h : Utf8.valid c = true) :
    Calls Try.prog 60 #[.int .i32 c] w fun e w' => e = .returned (.bool true) ∧ w = w' := by
  have := valid_any c w h1
  rw [h] at this; exact this
theorem dec_bd (s : ByteArray) (p : Nat) : (Utf8.decode s p).1 < 55296 ∨ (57343 < (Utf8.decode s p).1 ∧ (Utf8.decode s p).1 ≤ 1114111) := by
  rw [Lib.decode_at]
  have h0 : (s.get! p).toNat < 256 := UInt8.toNat_lt _
  generalize (s.get! p).toNat = b0, (s.get! (p + 1)).toNat = b1, (s.get! (p + 2)).toNat = b2, (s.get! (p + 3)).toNat = b3 at *
  unfold Lib.decodeN
  (repeat' split) <;> (dsimp only at *; omega)
theorem dec_valid (s : ByteArray) (p : Nat) : Utf8.valid ((Utf8.decode s p).1 : Int) = true := by
  have := dec_bd s p
  simp [Utf8.valid]
  omega
theorem ixByte_nil (c : Int) (w : World) : Calls Try.prog 61 #[.string ByteArray.empty, .int .u8 c] w fun e w' => e = .returned (.int .i64 (-1)) ∧ w' = w := by
  have h := Any.strings_IndexByte (L := ib_lays) ByteArray.empty c w
  refine Calls.mono h ?_
  rintro e w' ⟨rfl, rfl⟩
  exact ⟨rfl, rfl⟩
set_option maxHeartbeats 2000000 in
set_option maxRecDepth 100000 in
theorem ixb1 (w : World) :
    Calls Try.prog 58 #[.string ⟨#[39]⟩, .int .i32 65533] w fun e w' => e = .returned (.int .i64 (-1)) ∧ Below w.heap.size w w' := by
  go_enter Try.func58, Try.ntmps58
  go_wp2_with fail
  go_loopg [] 1 (fun gf wr => ∃ (pos : Nat), wr.heap[w.heap.size]? = some (.stringIter ⟨#[39]⟩ pos) ∧ Below w.heap.size w wr ∧ pos + gf = 1)
  case atStart => exact ⟨0, World.iter_heap w _ 0, (Below.refl _ w).alloc (Nat.le_refl _) _, rfl⟩
  case round =>
    obtain ⟨pos, hit, hb, hf⟩ := hrel
    rcases (by omega : pos = 0 ∨ pos = 1) with rfl | rfl
    · obtain rfl : gk = 1 := by omega
      have hnx : ∀ ty, (Instr.next (.pointer (some ⟨w.heap.size, 0, none⟩)) true ty).run Try.prog wr = _ := fun ty => Lib.run_next_ascii_at wr w.heap.size ⟨#[39]⟩ 0 ty hit (by decide) (by decide)
      have hit2 := Lib.iterAt_heap wr w.heap.size ⟨#[39]⟩ 0 1 hit
      have hb2 := Lib.below_iterAt hb (k := w.heap.size) (Nat.le_refl _) ⟨#[39]⟩ 1
      generalize wr.iterAt w.heap.size ⟨#[39]⟩ (0 + 1) = W at *
      clear hit hb
      go_wp2_with fail
      go_roundg 0
      case measure => omega
      case rel => exact ⟨1, hit2, hb2, rfl⟩
    · have hnx : ∀ ty, (Instr.next (.pointer (some ⟨w.heap.size, 0, none⟩)) true ty).run Try.prog wr = _ := fun ty => Lib.run_next_end_at wr w.heap.size ⟨#[39]⟩ 1 ty hit (by decide)
      clear hit
      go_wp2_with fail
      go_ret
      exact ⟨rfl, hb⟩
set_option maxHeartbeats 4000000 in
set_option maxRecDepth 100000 in
theorem ixl1 (r : Int) (V : ByteArray) (w : World) (hr : 128 ≤ r) (hr2 : r ≤ 1114111) (hn : r ≠ 65533) (hv : Utf8.valid r = true) (hb : 2 ≤ V.size) (hb2 : V.size ≤ 4) (he : Utf8.encode r = V) :
    Calls Try.prog 58 #[.string ⟨#[39]⟩, .int .i32 r] w fun e w' => e = .returned (.int .i64 (-1)) ∧ Below w.heap.size w w' := by
  have h3 : (r == 65533) = false := beq_eq_false_iff_ne.2 hn
  have hcv : ∀ w, (convert 21 9 (.int .i32 r)).run Try.prog w = .ok (.string V) w := fun w => by rw [conv_rune r w, he]
  have hge : ¬ ((V.size : Int) - 1 < 1) := by omega
  have HV := Lib.hid (vr_yes r w (by omega) hv)
  clear he hv
  go_enter Try.func58, Try.ntmps58
  go_wp2_with fail
  refine HV.out.mono ?_
  rintro e w1 ⟨rfl, rfl⟩
  go_wp2_with fail
  go_step3
  go_wp2_with fail
  go_loopg [9, 10] 1 (fun gf i f wr => i = .int .i64 ((V.size : Int) - 1) ∧ f = .int .i64 0 ∧ wr = w)
  case atStart => exact ⟨rfl, rfl, rfl⟩
  case round =>
    obtain ⟨rfl, rfl, rfl⟩ := hrel
    go_wp2_with fail
    rw [Exit.noGoto_ret]
    go_ret
    exact ⟨rfl, Below.refl _ _⟩
/-- Whether a sign is one of 1. -/
def isq1 (r : Int) : Bool := decide (r = 39)
theorem isq1_byte (r : Int) (h0 : 0 ≤ r) (h1 : r < 128) : decide (0 ≤ Lib.indexByte [39] r.toNat.toUInt8) = isq1 r := by
  have key : ∀ n : Fin 128, decide (0 ≤ Lib.indexByte [39] n.val.toUInt8) = isq1 (n.val : Int) := by decide
  have := key ⟨r.toNat, by omega⟩
  simp only at this
  rw [this]
  congr 1
  omega
theorem isq1_high (r : Int) (h : 128 ≤ r) : isq1 r = false := by
  unfold isq1; simp; omega
theorem ixn1 (r : Int) (w : World) (h0 : 128 ≤ r) (hr2 : r ≤ 1114111) (hv : Utf8.valid r = true) :
    Calls Try.prog 58 #[.string ⟨#[39]⟩, .int .i32 r] w fun e w' => e = .returned (.int .i64 (-1)) ∧ Below w.heap.size w w' := by
  by_cases h2 : r = 65533
  · subst h2; exact ixb1 w
  have hs := sgn_valid hv
  have he := encode_eq r
  have hsz := encode_size r
  generalize sgn r = c at hs he hsz
  subst hs
  have h3 : 2 ≤ (encL c).length ∧ (encL c).length ≤ 4 := by
    unfold encL
    rw [if_neg (by omega)]
    split
    · simp [enc2]
    · split <;> simp [enc3, enc4]
  exact ixl1 _ _ w (by omega) hr2 h2 hv (by rw [hsz]; exact h3.1) (by rw [hsz]; exact h3.2) rfl

set_option maxHeartbeats 1000000 in
set_option maxRecDepth 100000 in
theorem crq1 (r : Int) (w : World) (h0 : 0 ≤ r) (hr2 : r ≤ 1114111) (hv : Utf8.valid r = true) :
    Calls Try.prog 48 #[.string ⟨#[39]⟩, .int .i32 r] w fun e w' => e = .returned (.bool (isq1 r)) ∧ Below w.heap.size w w' := by
  by_cases h1 : r < 128
  · have h := Any.strings_ContainsRune_ascii (L := cr_lays) ⟨#[39]⟩ r w h0 h1
    refine Calls.mono h ?_
    rintro e w' ⟨rfl, rfl⟩
    refine ⟨?_, Below.refl _ _⟩
    show Ending.returned (.bool (decide (0 ≤ Lib.indexByte [39] r.toNat.toUInt8))) = _
    rw [isq1_byte r h0 h1]
  · have HI := Lib.hid (ixn1 r w (by omega) hr2 hv)
    rw [isq1_high r (by omega)]
    go_enter Try.func48, Try.ntmps48
    go_wp2_with fail
    refine HI.out.mono ?_
    rintro e w1 ⟨rfl, hb⟩
    go_wp2
    go_ret
    exact ⟨rfl, hb⟩
set_option maxHeartbeats 2000000 in
set_option maxRecDepth 100000 in
theorem ixb2 (w : World) :
    Calls Try.prog 58 #[.string ⟨#[34, 92]⟩, .int .i32 65533] w fun e w' => e = .returned (.int .i64 (-1)) ∧ Below w.heap.size w w' := by
  go_enter Try.func58, Try.ntmps58
  go_wp2_with fail
  go_loopg [] 2 (fun gf wr => ∃ (pos : Nat), wr.heap[w.heap.size]? = some (.stringIter ⟨#[34, 92]⟩ pos) ∧ Below w.heap.size w wr ∧ pos + gf = 2)
  case atStart => exact ⟨0, World.iter_heap w _ 0, (Below.refl _ w).alloc (Nat.le_refl _) _, rfl⟩
  case round =>
    obtain ⟨pos, hit, hb, hf⟩ := hrel
    rcases (by omega : pos = 0 ∨ pos = 1 ∨ pos = 2) with rfl | rfl | rfl
    · obtain rfl : gk = 2 := by omega
      have hnx : ∀ ty, (Instr.next (.pointer (some ⟨w.heap.size, 0, none⟩)) true ty).run Try.prog wr = _ := fun ty => Lib.run_next_ascii_at wr w.heap.size ⟨#[34, 92]⟩ 0 ty hit (by decide) (by decide)
      have hit2 := Lib.iterAt_heap wr w.heap.size ⟨#[34, 92]⟩ 0 1 hit
      have hb2 := Lib.below_iterAt hb (k := w.heap.size) (Nat.le_refl _) ⟨#[34, 92]⟩ 1
      generalize wr.iterAt w.heap.size ⟨#[34, 92]⟩ (0 + 1) = W at *
      clear hit hb
      go_wp2_with fail
      go_roundg 1
      case measure => omega
      case rel => exact ⟨1, hit2, hb2, rfl⟩
    · obtain rfl : gk = 1 := by omega
      have hnx : ∀ ty, (Instr.next (.pointer (some ⟨w.heap.size, 0, none⟩)) true ty).run Try.prog wr = _ := fun ty => Lib.run_next_ascii_at wr w.heap.size ⟨#[34, 92]⟩ 1 ty hit (by decide) (by decide)
      have hit2 := Lib.iterAt_heap wr w.heap.size ⟨#[34, 92]⟩ 1 2 hit
      have hb2 := Lib.below_iterAt hb (k := w.heap.size) (Nat.le_refl _) ⟨#[34, 92]⟩ 2
      generalize wr.iterAt w.heap.size ⟨#[34, 92]⟩ (1 + 1) = W at *
      clear hit hb
      go_wp2_with fail
      go_roundg 0
      case measure => omega
      case rel => exact ⟨2, hit2, hb2, rfl⟩
    · have hnx : ∀ ty, (Instr.next (.pointer (some ⟨w.heap.size, 0, none⟩)) true ty).run Try.prog wr = _ := fun ty => Lib.run_next_end_at wr w.heap.size ⟨#[34, 92]⟩ 2 ty hit (by decide)
      clear hit
      go_wp2_with fail
      go_ret
      exact ⟨rfl, hb⟩
set_option maxHeartbeats 4000000 in
set_option maxRecDepth 100000 in
theorem ixt2 (r : Int) (a b : UInt8) (w : World) (hr : 128 ≤ r) (hr2 : r ≤ 1114111) (hn : r ≠ 65533) (hv : Utf8.valid r = true) (hb : 128 ≤ b.toNat) (he : Utf8.encode r = ⟨#[a, b]⟩) :
    Calls Try.prog 58 #[.string ⟨#[34, 92]⟩, .int .i32 r] w fun e w' => e = .returned (.int .i64 (-1)) ∧ Below w.heap.size w w' := by
  have h3 : (r == 65533) = false := beq_eq_false_iff_ne.2 hn
  have hcv : ∀ w, (convert 21 9 (.int .i32 r)).run Try.prog w = .ok (.string ⟨#[a, b]⟩) w := fun w => by rw [conv_rune r w, he]
  have hne : ((((⟨#[34, 92]⟩ : ByteArray)[1]'(by decide)).toNat : Int) != (((⟨#[a, b]⟩ : ByteArray)[1]'(by decide : (1 : Nat) < 2)).toNat : Int)) = true := by
    show ((92 : Int) != (b.toNat : Int)) = true
    simp; omega
  have HV := Lib.hid (vr_yes r w (by omega) hv)
  clear he hv
  go_enter Try.func58, Try.ntmps58
  go_wp2_with fail
  refine HV.out.mono ?_
  rintro e w1 ⟨rfl, rfl⟩
  go_wp2_with fail
  go_step3
  go_wp2_with fail
  go_loopg [9, 10] 1 (fun gf i f wr => i = .int .i64 1 ∧ f = .int .i64 0 ∧ wr = w)
  case atStart => exact ⟨rfl, rfl, rfl⟩
  case round =>
    obtain ⟨rfl, rfl, rfl⟩ := hrel
    go_wp2_with fail
    go_step3
    go_wp2_with fail
    go_big_quiet (fail)
    go_wp2_with fail
    go_big_quiet (exact (ixByte_nil _ _).mono fun _ _ h => ⟨h.1, _, h.2⟩)
    go_wp2_with fail
    rw [Exit.noGoto_ret]
    go_wp2_with fail
    rw [Exit.noGoto_ret]
    go_ret
    exact ⟨rfl, by first | exact below_drewN (Below.refl _ _) _ | exact below_drewN (below_drewN (Below.refl _ _) _) _⟩
set_option maxHeartbeats 4000000 in
set_option maxRecDepth 100000 in
theorem ixl2 (r : Int) (V : ByteArray) (w : World) (hr : 128 ≤ r) (hr2 : r ≤ 1114111) (hn : r ≠ 65533) (hv : Utf8.valid r = true) (hb : 3 ≤ V.size) (hb2 : V.size ≤ 4) (he : Utf8.encode r = V) :
    Calls Try.prog 58 #[.string ⟨#[34, 92]⟩, .int .i32 r] w fun e w' => e = .returned (.int .i64 (-1)) ∧ Below w.heap.size w w' := by
  have h3 : (r == 65533) = false := beq_eq_false_iff_ne.2 hn
  have hcv : ∀ w, (convert 21 9 (.int .i32 r)).run Try.prog w = .ok (.string V) w := fun w => by rw [conv_rune r w, he]
  have hge : ¬ ((V.size : Int) - 1 < 2) := by omega
  have HV := Lib.hid (vr_yes r w (by omega) hv)
  clear he hv
  go_enter Try.func58, Try.ntmps58
  go_wp2_with fail
  refine HV.out.mono ?_
  rintro e w1 ⟨rfl, rfl⟩
  go_wp2_with fail
  go_step3
  go_wp2_with fail
  go_loopg [9, 10] 1 (fun gf i f wr => i = .int .i64 ((V.size : Int) - 1) ∧ f = .int .i64 0 ∧ wr = w)
  case atStart => exact ⟨rfl, rfl, rfl⟩
  case round =>
    obtain ⟨rfl, rfl, rfl⟩ := hrel
    go_wp2_with fail
    rw [Exit.noGoto_ret]
    go_ret
    exact ⟨rfl, Below.refl _ _⟩
/-- Whether a sign is one of 2. -/
def isq2 (r : Int) : Bool := decide (r = 34 ∨ r = 92)
theorem isq2_byte (r : Int) (h0 : 0 ≤ r) (h1 : r < 128) : decide (0 ≤ Lib.indexByte [34, 92] r.toNat.toUInt8) = isq2 r := by
  have key : ∀ n : Fin 128, decide (0 ≤ Lib.indexByte [34, 92] n.val.toUInt8) = isq2 (n.val : Int) := by decide
  have := key ⟨r.toNat, by omega⟩
  simp only at this
  rw [this]
  congr 1
  omega
theorem isq2_high (r : Int) (h : 128 ≤ r) : isq2 r = false := by
  unfold isq2; simp; omega
theorem ixn2 (r : Int) (w : World) (h0 : 128 ≤ r) (hr2 : r ≤ 1114111) (hv : Utf8.valid r = true) :
    Calls Try.prog 58 #[.string ⟨#[34, 92]⟩, .int .i32 r] w fun e w' => e = .returned (.int .i64 (-1)) ∧ Below w.heap.size w w' := by
  by_cases h2 : r = 65533
  · subst h2; exact ixb2 w
  have hs := sgn_valid hv
  have he := encode_eq r
  have hsz := encode_size r
  generalize sgn r = c at hs he hsz
  subst hs
  by_cases c2 : c < 2048
  · have e : encL c = enc2 c := by unfold encL; rw [if_neg (by omega), if_pos c2]
    rw [e] at he
    exact ixt2 _ _ (UInt8.ofNat (128 + c % 64)) w (by omega) hr2 h2 hv (by rw [byte_of _ (by omega)]; omega) he
  · have h3 : 3 ≤ (encL c).length ∧ (encL c).length ≤ 4 := by
      unfold encL
      rw [if_neg (by omega), if_neg c2]
      split <;> simp [enc3, enc4]
    exact ixl2 _ _ w (by omega) hr2 h2 hv (by rw [hsz]; exact h3.1) (by rw [hsz]; exact h3.2) rfl

set_option maxHeartbeats 1000000 in
set_option maxRecDepth 100000 in
theorem crq2 (r : Int) (w : World) (h0 : 0 ≤ r) (hr2 : r ≤ 1114111) (hv : Utf8.valid r = true) :
    Calls Try.prog 48 #[.string ⟨#[34, 92]⟩, .int .i32 r] w fun e w' => e = .returned (.bool (isq2 r)) ∧ Below w.heap.size w w' := by
  by_cases h1 : r < 128
  · have h := Any.strings_ContainsRune_ascii (L := cr_lays) ⟨#[34, 92]⟩ r w h0 h1
    refine Calls.mono h ?_
    rintro e w' ⟨rfl, rfl⟩
    refine ⟨?_, Below.refl _ _⟩
    show Ending.returned (.bool (decide (0 ≤ Lib.indexByte [34, 92] r.toNat.toUInt8))) = _
    rw [isq2_byte r h0 h1]
  · have HI := Lib.hid (ixn2 r w (by omega) hr2 hv)
    rw [isq2_high r (by omega)]
    go_enter Try.func48, Try.ntmps48
    go_wp2_with fail
    refine HI.out.mono ?_
    rintro e w1 ⟨rfl, hb⟩
    go_wp2
    go_ret
    exact ⟨rfl, hb⟩
end Go.Proofs.Ytmkchfpmlidaiaa
