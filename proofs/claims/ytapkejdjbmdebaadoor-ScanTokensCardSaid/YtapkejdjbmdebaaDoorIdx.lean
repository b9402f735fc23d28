/- strings.IndexRune of a text of the two breaks, strings.IndexAny of any text and the two breaks, and what the program makes of it: how many bytes a row has. -/
import Derived.Test.YtapkejdjbmdebaaDoorShl
import Derived.Test.YtapkejdjbmdebaaDoorPq1
import Derived.Test.YtapkejdjbmdebaaDoorCel
import Derived.BigQuiet
import Derived.Deep.QuietTactic
import Derived.Test.YtapkejdjbmdebaaDoorQt
import Derived.Test.YtapkejdjbmdebaaDoorVld
namespace Go.Proofs.YtapkejdjbmdebaaDoor
open Go.RowKit
open Go.Proofs.YtapkejdjbmdebaaDoor.Sg
set_option linter.unusedVariables false

/-- Where a sign stands in the text of the two breaks. -/
def crlf (r : Int) : Int := if r = 13 then 0 else if r = 10 then 1 else -1
theorem crlf_byte (r : Int) (h0 : 0 ≤ r) (h1 : r < 128) : Lib.indexByte [13, 10] r.toNat.toUInt8 = crlf r := by
  have key : ∀ n : Fin 128, Lib.indexByte [13, 10] n.val.toUInt8 = crlf (n.val : Int) := by decide
  have := key ⟨r.toNat, by omega⟩
  simp only at this
  rw [this]
  congr 1
  omega
set_option maxHeartbeats 2000000 in
set_option maxRecDepth 100000 in
theorem ixRune_ascii (r : Int) (w : World) (h0 : 0 ≤ r) (h1 : r < 128) :
    Calls Tryd.prog 62 #[.string ⟨#[13, 10]⟩, .int .i32 r] w fun e w' => e = .returned (.int .i64 (crlf r)) ∧ Below w.heap.size w w' := by
  have h := Any.strings_IndexRune_ascii (L := { ia_lays with }) ⟨#[13, 10]⟩ r w h0 h1
  refine Calls.mono h ?_
  rintro e w' ⟨rfl, rfl⟩
  refine ⟨?_, Below.refl _ _⟩
  show Ending.returned (.int .i64 (Lib.indexByte [13, 10] r.toNat.toUInt8)) = _
  rw [crlf_byte r h0 h1]
set_option maxHeartbeats 2000000 in
set_option maxRecDepth 100000 in
theorem ixRune_bad (w : World) :
    Calls Tryd.prog 62 #[.string ⟨#[13, 10]⟩, .int .i32 65533] w fun e w' => e = .returned (.int .i64 (-1)) ∧ Below w.heap.size w w' := by
  go_enter Tryd.func62, Tryd.ntmps62
  go_wp2_with fail
  go_loopg [] 2 (fun gf wr => ∃ (pos : Nat), wr.heap[w.heap.size]? = some (.stringIter ⟨#[13, 10]⟩ pos) ∧ Below w.heap.size w wr ∧ pos + gf = 2)
  case atStart => exact ⟨0, World.iter_heap w _ 0, (Below.refl _ w).alloc (Nat.le_refl _) _, rfl⟩
  case round =>
    obtain ⟨pos, hit, hb, hf⟩ := hrel
    rcases (by omega : pos = 0 ∨ pos = 1 ∨ pos = 2) with rfl | rfl | rfl
    · obtain rfl : gk = 2 := by omega
      have hnx : ∀ ty, (Instr.next (.pointer (some ⟨w.heap.size, 0, none⟩)) true ty).run Tryd.prog wr = _ := fun ty => Lib.run_next_ascii_at wr w.heap.size ⟨#[13, 10]⟩ 0 ty hit (by decide) (by decide)
      have hit2 := Lib.iterAt_heap wr w.heap.size ⟨#[13, 10]⟩ 0 1 hit
      have hb2 := Lib.below_iterAt hb (k := w.heap.size) (Nat.le_refl _) ⟨#[13, 10]⟩ 1
      generalize wr.iterAt w.heap.size ⟨#[13, 10]⟩ (0 + 1) = W at *
      clear hit hb
      go_wp2_with fail
      go_roundg 1
      case measure => omega
      case rel => exact ⟨1, hit2, hb2, rfl⟩
    · obtain rfl : gk = 1 := by omega
      have hnx : ∀ ty, (Instr.next (.pointer (some ⟨w.heap.size, 0, none⟩)) true ty).run Tryd.prog wr = _ := fun ty => Lib.run_next_ascii_at wr w.heap.size ⟨#[13, 10]⟩ 1 ty hit (by decide) (by decide)
      have hit2 := Lib.iterAt_heap wr w.heap.size ⟨#[13, 10]⟩ 1 2 hit
      have hb2 := Lib.below_iterAt hb (k := w.heap.size) (Nat.le_refl _) ⟨#[13, 10]⟩ 2
      generalize wr.iterAt w.heap.size ⟨#[13, 10]⟩ (1 + 1) = W at *
      clear hit hb
      go_wp2_with fail
      go_roundg 0
      case measure => omega
      case rel => exact ⟨2, hit2, hb2, rfl⟩
    · have hnx : ∀ ty, (Instr.next (.pointer (some ⟨w.heap.size, 0, none⟩)) true ty).run Tryd.prog wr = _ := fun ty => Lib.run_next_end_at wr w.heap.size ⟨#[13, 10]⟩ 2 ty hit (by decide)
      clear hit
      go_wp2_with fail
      go_ret
      exact ⟨rfl, hb⟩
theorem ixByte_nil (c : Int) (w : World) : Calls Tryd.prog 76 #[.string ByteArray.empty, .int .u8 c] w fun e w' => e = .returned (.int .i64 (-1)) ∧ w' = w := by
  have h := Any.strings_IndexByte (L := ib_lays) ByteArray.empty c w
  refine Calls.mono h ?_
  rintro e w' ⟨rfl, rfl⟩
  exact ⟨rfl, rfl⟩
set_option maxHeartbeats 4000000 in
set_option maxRecDepth 100000 in
theorem ixRune_two (r : Int) (a b : UInt8) (w : World) (hr : 128 ≤ r) (hr2 : r ≤ 1114111) (hn : r ≠ 65533) (hv : Utf8.valid r = true) (hb : 128 ≤ b.toNat) (he : Utf8.encode r = ⟨#[a, b]⟩) :
    Calls Tryd.prog 62 #[.string ⟨#[13, 10]⟩, .int .i32 r] w fun e w' => e = .returned (.int .i64 (-1)) ∧ Below w.heap.size w w' := by
  have h3 : (r == 65533) = false := beq_eq_false_iff_ne.2 hn
  have hcv : ∀ w, (convert 21 9 (.int .i32 r)).run Tryd.prog w = .ok (.string ⟨#[a, b]⟩) w := fun w => by rw [conv_rune r w, he]
  have hne : ((((⟨#[13, 10]⟩ : ByteArray)[1]'(by decide)).toNat : Int) != (((⟨#[a, b]⟩ : ByteArray)[1]'(by decide : (1 : Nat) < 2)).toNat : Int)) = true := by
    show ((10 : Int) != (b.toNat : Int)) = true
    simp; omega
  have HV := Lib.hid (valid_yes r w (by omega) hv)
  clear he hv
  go_enter Tryd.func62, Tryd.ntmps62
  go_wp2_with fail
  refine HV.out.mono ?_
  rintro e w1 ⟨rfl, rfl⟩
  go_wp2_with fail
  go_step3
  go_wp2_with fail
  go_loopg [9, 10] 1 (fun gf i f wr => i = .int .i64 1 ∧ f = .int .i64 0 ∧ wr = w)
  case atStart => exact ⟨rfl, rfl, rfl⟩
  case round =>
    obtain ⟨rfl, rfl, rfl⟩ := hrel
    go_wp2_with fail
    go_step3
    go_wp2_with fail
    go_big_quiet (fail)
    go_wp2_with fail
    go_big_quiet (exact (ixByte_nil _ _).mono fun _ _ h => ⟨h.1, _, h.2⟩)
    go_wp2_with fail
    rw [Exit.noGoto_ret]
    go_wp2_with fail
    rw [Exit.noGoto_ret]
    go_ret
    exact ⟨rfl, by first | exact below_drewN (Below.refl _ _) _ | exact below_drewN (below_drewN (Below.refl _ _) _) _⟩
set_option maxHeartbeats 4000000 in
set_option maxRecDepth 100000 in
theorem ixRune_long (r : Int) (V : ByteArray) (w : World) (hr : 128 ≤ r) (hr2 : r ≤ 1114111) (hn : r ≠ 65533) (hv : Utf8.valid r = true) (hb : 3 ≤ V.size) (hb2 : V.size ≤ 4) (he : Utf8.encode r = V) :
    Calls Tryd.prog 62 #[.string ⟨#[13, 10]⟩, .int .i32 r] w fun e w' => e = .returned (.int .i64 (-1)) ∧ Below w.heap.size w w' := by
  have h3 : (r == 65533) = false := beq_eq_false_iff_ne.2 hn
  have hcv : ∀ w, (convert 21 9 (.int .i32 r)).run Tryd.prog w = .ok (.string V) w := fun w => by rw [conv_rune r w, he]
  have hge : ¬ ((V.size : Int) - 1 < 2) := by omega
  have HV := Lib.hid (valid_yes r w (by omega) hv)
  clear he hv
  go_enter Tryd.func62, Tryd.ntmps62
  go_wp2_with fail
  refine HV.out.mono ?_
  rintro e w1 ⟨rfl, rfl⟩
  go_wp2_with fail
  go_step3
  go_wp2_with fail
  go_loopg [9, 10] 1 (fun gf i f wr => i = .int .i64 ((V.size : Int) - 1) ∧ f = .int .i64 0 ∧ wr = w)
  case atStart => exact ⟨rfl, rfl, rfl⟩
  case round =>
    obtain ⟨rfl, rfl, rfl⟩ := hrel
    go_wp2_with fail
    rw [Exit.noGoto_ret]
    go_ret
    exact ⟨rfl, Below.refl _ _⟩
/-- Any sign that may come of decoding. -/
theorem ixRune_any (r : Int) (w : World) (h0 : 0 ≤ r) (hr2 : r ≤ 1114111) (hv : Utf8.valid r = true) :
    Calls Tryd.prog 62 #[.string ⟨#[13, 10]⟩, .int .i32 r] w fun e w' => e = .returned (.int .i64 (crlf r)) ∧ Below w.heap.size w w' := by
  by_cases h1 : r < 128
  · exact ixRune_ascii r w h0 h1
  have hc : crlf r = -1 := by unfold crlf; rw [if_neg (by omega), if_neg (by omega)]
  rw [hc]
  by_cases h2 : r = 65533
  · subst h2; exact ixRune_bad w
  have hs := sgn_valid hv
  have he := encode_eq r
  have hsz := encode_size r
  generalize sgn r = c at hs he hsz
  subst hs
  by_cases c2 : c < 2048
  · have e : encL c = enc2 c := by unfold encL; rw [if_neg (by omega), if_pos c2]
    rw [e] at he
    exact ixRune_two _ _ (UInt8.ofNat (128 + c % 64)) w (by omega) hr2 h2 hv (by rw [byte_of _ (by omega)]; omega) he
  · have h3 : 3 ≤ (encL c).length ∧ (encL c).length ≤ 4 := by
      unfold encL
      rw [if_neg (by omega), if_neg c2]
      split <;> simp [enc3, enc4]
    exact ixRune_long _ _ w (by omega) hr2 h2 hv (by rw [hsz]; exact h3.1) (by rw [hsz]; exact h3.2) rfl

/-- Where the first break is; -1: there is none. -/
def rowI (l : List Nat) : Int := if Sc.rowN l = l.length then -1 else (Sc.rowN l : Int)
theorem indexAny_row (l : List UInt8) : Lib.indexAny l [13, 10] = rowI (l.map UInt8.toNat) := by
  induction l with
  | nil => rfl
  | cons b r ih =>
    have hb : ([13, 10] : List UInt8).contains b = Sc.brk b.toNat := by
      have key : ∀ n : Fin 256, ([13, 10] : List UInt8).contains n.val.toUInt8 = Sc.brk n.val := by decide +kernel
      have := key ⟨b.toNat, UInt8.toNat_lt b⟩
      simpa using this
    rw [Lib.indexAny, hb, ih]
    unfold rowI Sc.rowN
    rw [List.map_cons, Sc.run]
    cases hk : Sc.brk b.toNat with
    | true => simp
    | false =>
      have := Sc.run_le (fun c => !Sc.brk c) (r.map UInt8.toNat)
      rw [if_pos (show (!false) = true from rfl), List.length_cons]
      generalize Sc.run (fun c => !Sc.brk c) (r.map UInt8.toNat) = k at *
      generalize (r.map UInt8.toNat).length = n at *
      by_cases h : k = n
      · subst h; simp
      · have h2 : ((k : Int) == -1) = false := beq_eq_false_iff_ne.2 (by omega)
        simp [h, h2]
end Go.Proofs.YtapkejdjbmdebaaDoor
