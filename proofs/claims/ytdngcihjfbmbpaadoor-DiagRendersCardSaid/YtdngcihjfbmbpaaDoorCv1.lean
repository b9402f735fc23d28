/- string([]byte{c}): a text of one byte. -/
import Derived.Test.YtdngcihjfbmbpaaDoorOwn
namespace Go.Proofs.YtdngcihjfbmbpaaDoor
open Go.RowKit

theorem cell_new1 (w : World) (x : Value) (t : TypeId) : (w.alloc (.cells #[x] t)).cell? ⟨w.heap.size, 0, none⟩ = some x := by rw [World.cell?_alloc_mark]; rfl
/-- string([]byte{c}). -/
theorem conv_one (c : Int) (w : World) (h0 : 0 ≤ c) (h1 : c < 256) :
    (convert 22 9 (.slice (some ⟨w.heap.size, 0, none⟩) 1 1)).run Tryd.prog (w.alloc (.cells #[.int .u8 c] 5)) = .ok (.string ⟨#[UInt8.ofNat c.toNat]⟩) (w.alloc (.cells #[.int .u8 c] 5)) := by
  have h := conv_bytes w.heap.size 0 1 ⟨#[UInt8.ofNat c.toNat]⟩ (w.alloc (.cells #[.int .u8 c] 5)) (fun j hj => by
    have hj0 : j = 0 := by
      have : (⟨#[UInt8.ofNat c.toNat]⟩ : ByteArray).size = 1 := rfl
      omega
    subst hj0
    rw [Nat.add_zero, cell_new1]
    have e : ((⟨#[UInt8.ofNat c.toNat]⟩ : ByteArray).get! 0).toNat = c.toNat := by
      show (UInt8.ofNat c.toNat).toNat = _
      simp; omega
    rw [e]
    congr 2
    omega)
  exact h
end Go.Proofs.YtdngcihjfbmbpaaDoor
