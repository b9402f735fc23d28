/- A piece of a slice of bytes reads as the piece of its bytes; what the library's conversion says of any such slice. -/
import Derived.Test.YtdngcihjfbmbpaaDoorInts
import Derived.Test.YtdngcihjfbmbpaaDoorBrk
namespace Go.Proofs.YtdngcihjfbmbpaaDoor
open Go.RowKit
open Go.Proofs.YtdngcihjfbmbpaaDoor.Sg

theorem bys_cut {w : World} {a : Option Addr} {s : ByteArray} {cap lo hi : Nat} (h : Bys w (.slice a s.size cap) s) (h1 : lo ≤ hi) (h2 : hi ≤ s.size) :
    Bys w (.slice (if cap = lo then a else a.map fun x => x.add lo) (hi - lo) (cap - lo)) (s.extract lo hi) := by
  have hz := ext_size s lo hi h2
  rcases h with ⟨hv, h0⟩ | ⟨b, off, cap', hv, g2, g3, g4⟩
  · obtain ⟨rfl, -, rfl⟩ := Value.slice.inj hv
    obtain rfl : lo = 0 := by omega
    obtain rfl : hi = 0 := by omega
    exact .inl ⟨rfl, hz⟩
  · obtain ⟨rfl, -, rfl⟩ := Value.slice.inj hv
    by_cases hc : cap = lo
    · rw [if_pos hc]
      refine .inr ⟨b, off, cap - lo, by rw [hz], by omega, by omega, fun j hj => ?_⟩
      rw [hz] at hj; omega
    · rw [if_neg hc]
      refine .inr ⟨b, off + lo, cap - lo, ?_, by omega, by omega, fun j hj => ?_⟩
      · rw [hz, Option.map_some, addr_add]
      · rw [hz] at hj
        rw [ext_get s lo hi j (by omega), Nat.add_assoc]
        exact g4 (lo + j) (by omega)
theorem conv_bys {w : World} {v : Value} {s : ByteArray} (h : Bys w v s) : (convert 22 9 v).run Tryd.prog w = .ok (.string s) w := by
  rcases h with ⟨rfl, h⟩ | ⟨b, off, cap, rfl, h2, h3, h4⟩
  · rw [conv_nil]
    have : s = ⟨#[]⟩ := by
      cases s with
      | mk d => simp [ByteArray.size] at h; rw [h]
    rw [this]
  · exact conv_bytes b off cap s w h4
theorem Bys.cap_le {w : World} {a : Option Addr} {s : ByteArray} {cap : Nat} (h : Bys w (.slice a s.size cap) s) : s.size ≤ cap ∧ cap ≤ maxLen := by
  rcases h with ⟨hv, h0⟩ | ⟨b, off, cap', hv, g2, g3, g4⟩
  · obtain ⟨rfl, -, rfl⟩ := Value.slice.inj hv
    exact ⟨by omega, Nat.zero_le _⟩
  · obtain ⟨rfl, -, rfl⟩ := Value.slice.inj hv
    exact ⟨g2, g3⟩
theorem elem_bytes : Tryd.prog.underlying 22 = some (.slice (Tryd.prog.elem 22)) := by kernel_rfl
theorem size_bytes (w : World) : (sizeOf (Tryd.prog.elem 22)).run Tryd.prog w = .ok 1 w := by kernel_rfl
/-- A piece from lo up to hi, whatever slice it is cut from: its value is left unsaid. -/
theorem cut_lh {w : World} {a : Option Addr} {s : ByteArray} {cap lo hi : Nat} (h : Bys w (.slice a s.size cap) s) (h1 : lo ≤ hi) (h2 : hi ≤ s.size) :
    ∃ v, (∀ W : World, (Instr.slice 22 (.slice a s.size cap) (some (.int .i64 (lo : Int))) (some (.int .i64 (hi : Int))) none).run Tryd.prog W = .ok v W) ∧ Bys w v (s.extract lo hi) := by
  have hb := bys_cut h h1 h2
  have hc := h.cap_le
  refine ⟨_, fun W => ?_, hb⟩
  rw [run_slice_lh W _ a s.size cap elem_bytes .i64 .i64 lo hi (by omega) (by omega) (by omega), size_bytes]
  simp [Result.andThen, sliced]
theorem cut_h {w : World} {a : Option Addr} {s : ByteArray} {cap hi : Nat} (h : Bys w (.slice a s.size cap) s) (h2 : hi ≤ s.size) :
    ∃ v, (∀ W : World, (Instr.slice 22 (.slice a s.size cap) none (some (.int .i64 (hi : Int))) none).run Tryd.prog W = .ok v W) ∧ Bys w v (s.extract 0 hi) := by
  have hb := bys_cut h (Nat.zero_le hi) h2
  have hc := h.cap_le
  refine ⟨_, fun W => ?_, hb⟩
  rw [run_slice_h W _ a s.size cap elem_bytes .i64 hi (by omega) (by omega), size_bytes]
  simp [Result.andThen, sliced]
theorem cut_l {w : World} {a : Option Addr} {s : ByteArray} {cap lo : Nat} (h : Bys w (.slice a s.size cap) s) (h2 : lo ≤ s.size) :
    ∃ v, (∀ W : World, (Instr.slice 22 (.slice a s.size cap) (some (.int .i64 (lo : Int))) none none).run Tryd.prog W = .ok v W) ∧ Bys w v (s.extract lo s.size) := by
  have hb := bys_cut h h2 (Nat.le_refl _)
  have hc := h.cap_le
  refine ⟨_, fun W => ?_, hb⟩
  rw [run_slice_l W _ a s.size cap elem_bytes .i64 lo (by omega) (by omega), size_bytes]
  simp [Result.andThen, sliced]
end Go.Proofs.YtdngcihjfbmbpaaDoor
