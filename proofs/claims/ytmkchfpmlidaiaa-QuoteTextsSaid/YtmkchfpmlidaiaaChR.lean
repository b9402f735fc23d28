/- The chapter's own text of escapes (correctorref5: Hex, simple): one contract for each answer. -/
import Derived.Test.YtmkchfpmlidaiaaChE
import Derived.Test.YtmkchfpmlidaiaaWr
import Derived.Test.YtmkchfpmlidaiaaCut
namespace Go.Proofs.Ytmkchfpmlidaiaa
open Go.RowKit
open Go.Proofs.Ytmkchfpmlidaiaa.Es
open Go.Proofs.Ytmkchfpmlidaiaa.Sg

theorem enc_one (v : Int) (h0 : 0 ≤ v) (h1 : v < 128) : Utf8.encode v = ⟨#[UInt8.ofNat v.toNat]⟩ := by
  have hv : sgn v = v.toNat := by
    unfold sgn
    rw [if_pos (by simp [Utf8.valid]; omega)]
  rw [encode_eq, hv]
  unfold encL
  rw [if_pos (by omega)]
  rfl
theorem cell_new1 (w : World) (x : Value) (t : TypeId) : (w.alloc (.cells #[x] t)).cell? ⟨w.heap.size, 0, none⟩ = some x := by rw [World.cell?_alloc_mark]; rfl
/-- string([]byte{c}). -/
theorem conv_one (c : Int) (w : World) (h0 : 0 ≤ c) (h1 : c < 256) :
    (convert 34 9 (.slice (some ⟨w.heap.size, 0, none⟩) 1 1)).run Try.prog (w.alloc (.cells #[.int .u8 c] 5)) = .ok (.string ⟨#[UInt8.ofNat c.toNat]⟩) (w.alloc (.cells #[.int .u8 c] 5)) := by
  have h := conv_bytes w.heap.size 0 1 ⟨#[UInt8.ofNat c.toNat]⟩ (w.alloc (.cells #[.int .u8 c] 5)) (fun j hj => by
    have hj0 : j = 0 := by
      have : (⟨#[UInt8.ofNat c.toNat]⟩ : ByteArray).size = 1 := rfl
      omega
    subst hj0
    rw [Nat.add_zero, cell_new1]
    have e : ((⟨#[UInt8.ofNat c.toNat]⟩ : ByteArray).get! 0).toNat = c.toNat := by
      show (UInt8.ofNat c.toNat).toNat = _
      simp; omega
    rw [e]
    congr 2
    omega)
  exact h

/-- What a call that answers a text, or none, returns. -/
def simR : Option Int → Value
  | some v => .tuple #[.string (Utf8.encode v), .bool true]
  | none => .tuple #[.string ⟨#[]⟩, .bool false]
/-- What a digit counts; -1: none. -/
def hexR : Option Int → Value
  | some v => .int .i64 v
  | none => .int .i64 (-1)

set_option maxHeartbeats 1000000 in
set_option maxRecDepth 100000 in
theorem refHex (c : Int) (w : World) (h0 : 0 ≤ c) (h1 : c < 256) :
    Calls Try.prog 53 #[.int .u8 c] w fun e w' => e = .returned (hexR (hexI c)) ∧ w = w' := by
  go_enter Try.func53, Try.ntmps53
  go_wp2
  all_goals
    go_ret
    refine ⟨?_, rfl⟩
    simp only [hexI]
    (repeat' split) <;> first | rfl | (simp [hexR]; omega) | omega

theorem e0 : Utf8.encode 0 = ⟨#[0]⟩ := enc_one 0 (by decide) (by decide)
theorem e9 : Utf8.encode 9 = ⟨#[9]⟩ := enc_one 9 (by decide) (by decide)
theorem e10 : Utf8.encode 10 = ⟨#[10]⟩ := enc_one 10 (by decide) (by decide)
theorem e13 : Utf8.encode 13 = ⟨#[13]⟩ := enc_one 13 (by decide) (by decide)
theorem e27 : Utf8.encode 27 = ⟨#[27]⟩ := enc_one 27 (by decide) (by decide)
theorem e34 : Utf8.encode 34 = ⟨#[34]⟩ := enc_one 34 (by decide) (by decide)
theorem e47 : Utf8.encode 47 = ⟨#[47]⟩ := enc_one 47 (by decide) (by decide)
theorem e92 : Utf8.encode 92 = ⟨#[92]⟩ := enc_one 92 (by decide) (by decide)
theorem e32 : Utf8.encode 32 = ⟨#[32]⟩ := enc_one 32 (by decide) (by decide)
set_option maxHeartbeats 1000000 in
set_option maxRecDepth 100000 in
theorem refSimple (c : Int) (w : World) (h0 : 0 ≤ c) (h1 : c < 256) :
    Calls Try.prog 52 #[.int .u8 c] w fun e w' => e = .returned (simR (shortI c)) ∧ Below w.heap.size w w' := by
  have hcv := conv_one c w h0 h1
  have hB : Below w.heap.size w (w.alloc (.cells #[.int .u8 c] 5)) := (Below.refl _ w).alloc (Nat.le_refl _) _
  go_enter Try.func52, Try.ntmps52
  go_wp2
  all_goals
    go_ret2
    refine ⟨?_, ?_⟩
    rotate_left
    first | exact Below.refl _ _ | exact hB
    clear hcv hB
    simp only [beq_iff_eq, beq_eq_false_iff_ne, ne_eq] at *
    simp [shortI, simR, e0, e9, e10, e13, e27, e34, e47, e92, e32, *]
end Go.Proofs.Ytmkchfpmlidaiaa
