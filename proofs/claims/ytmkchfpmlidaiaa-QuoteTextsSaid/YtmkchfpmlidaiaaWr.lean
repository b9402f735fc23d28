/- What the chapter's own text of signs writes (correctorref1.Write): a sign's bytes, in a new row. (The elder XRef4 without the tables.) -/
import Derived.Test.YtmkchfpmlidaiaaInts
import Derived.Test.YtmkchfpmlidaiaaText
namespace Go.Proofs.Ytmkchfpmlidaiaa
open Go.RowKit
open Go.Proofs.Ytmkchfpmlidaiaa.Sg

theorem and63 (x : Int) (h0 : 0 ≤ x) (h1 : x < 2147483648) : bits .and .i32 x 63 = x % 64 := bits_mask .i32 31 (by decide) wraps_i32 6 (by decide) x h0 h1
theorem or224 (y : Int) (h0 : 0 ≤ y) (h1 : y < 32) : bits .or .i32 224 y = 224 + y := bits_join .i32 31 (by decide) wraps_i32 5 224 y (by decide) (by decide) (by decide) h0 h1 (by omega)
theorem or240 (y : Int) (h0 : 0 ≤ y) (h1 : y < 16) : bits .or .i32 240 y = 240 + y := bits_join .i32 31 (by decide) wraps_i32 4 240 y (by decide) (by decide) (by decide) h0 h1 (by omega)

set_option maxHeartbeats 1000000 in
set_option maxRecDepth 100000 in
theorem write1 (r : Int) (w : World) (h0 : 0 ≤ r) (h1 : r < 128) :
    Calls Try.prog 54 #[.int .i32 r] w fun e w' => e = .returned (.slice (some ⟨w.heap.size, 0, none⟩) 1 1) ∧ w' = w.alloc (.cells #[.int .u8 r] 5) := by
  go_enter Try.func54, Try.ntmps54
  go_wp2
  go_ret
  refine ⟨rfl, ?_⟩
  rfl

set_option maxHeartbeats 1000000 in
set_option maxRecDepth 100000 in
theorem write2 (r : Int) (w : World) (h0 : 128 ≤ r) (h1 : r < 2048) :
    Calls Try.prog 54 #[.int .i32 r] w fun e w' => e = .returned (.slice (some ⟨w.heap.size, 0, none⟩) 2 2) ∧ w' = w.alloc (.cells #[.int .u8 (192 + r / 64), .int .u8 (128 + r % 64)] 5) := by
  have m0 := and63 (r) (by omega) (by omega)
  go_enter Try.func54, Try.ntmps54
  go_wp2
  go_ret
  refine ⟨rfl, ?_⟩
  rfl

set_option maxHeartbeats 1000000 in
set_option maxRecDepth 100000 in
theorem write3 (r : Int) (w : World) (h0 : 2048 ≤ r) (h1 : r < 65536) :
    Calls Try.prog 54 #[.int .i32 r] w fun e w' => e = .returned (.slice (some ⟨w.heap.size, 0, none⟩) 3 3) ∧ w' = w.alloc (.cells #[.int .u8 (224 + r / 4096), .int .u8 (128 + r / 64 % 64), .int .u8 (128 + r % 64)] 5) := by
  have m0 := and63 (r) (by omega) (by omega)
  have m1 := and63 (r / 64) (by omega) (by omega)
  have mo := or224 (r / 4096) (by omega) (by omega)
  go_enter Try.func54, Try.ntmps54
  go_wp2
  go_ret
  refine ⟨rfl, ?_⟩
  rfl

set_option maxHeartbeats 1000000 in
set_option maxRecDepth 100000 in
theorem write4 (r : Int) (w : World) (h0 : 65536 ≤ r) (h1 : r < 1114112) :
    Calls Try.prog 54 #[.int .i32 r] w fun e w' => e = .returned (.slice (some ⟨w.heap.size, 0, none⟩) 4 4) ∧ w' = w.alloc (.cells #[.int .u8 (240 + r / 262144), .int .u8 (128 + r / 4096 % 64), .int .u8 (128 + r / 64 % 64), .int .u8 (128 + r % 64)] 5) := by
  have m0 := and63 (r) (by omega) (by omega)
  have m1 := and63 (r / 64) (by omega) (by omega)
  have m2 := and63 (r / 4096) (by omega) (by omega)
  have mo := or240 (r / 262144) (by omega) (by omega)
  go_enter Try.func54, Try.ntmps54
  go_wp2
  go_ret
  refine ⟨rfl, ?_⟩
  rfl

theorem write_bys (n : Nat) (l : List UInt8) (C : Array Value) (w : World) (hl : l.length = n) (hn : n ≤ 4) (hC : C = (l.map fun (x : UInt8) => Value.int .u8 (x.toNat : Int)).toArray) :
    Bys (w.alloc (.cells C 5)) (.slice (some ⟨w.heap.size, 0, none⟩) n n) ⟨l.toArray⟩ := by
  subst hC
  refine .inr ⟨w.heap.size, 0, n, by rw [size_at, hl], by rw [size_at, hl]; exact Nat.le_refl _, by simp only [maxLen]; omega, fun j hj => ?_⟩
  rw [size_at] at hj
  rw [World.cell?_alloc_mark, Sg.get_at, List.getElem?_toArray, List.getElem?_map, Nat.zero_add, List.getElem?_eq_getElem hj, List.getD_eq_getElem?_getD, List.getElem?_eq_getElem hj]
  rfl

/-- correctorref1.Write of a sign: its bytes. -/
theorem refWrite (r : Int) (w : World) (h : Utf8.valid r = true) :
    Calls Try.prog 54 #[.int .i32 r] w fun e w' => e = .returned (.slice (some ⟨w.heap.size, 0, none⟩) (Utf8.encode r).size (Utf8.encode r).size) ∧ Bys w' (.slice (some ⟨w.heap.size, 0, none⟩) (Utf8.encode r).size (Utf8.encode r).size) (Utf8.encode r) ∧ Below w.heap.size w w' := by
  have hv := sgn_valid h
  have hb := sgn_bd r
  rw [encode_eq, size_at]
  generalize sgn r = c at hv hb
  subst hv
  have hB : ∀ C, Below w.heap.size w (w.alloc (.cells C 5)) := fun C => (Below.refl _ w).alloc (Nat.le_refl _) _
  by_cases c1 : c < 128
  · rw [show encL c = enc1 c from by unfold encL; rw [if_pos c1]]
    refine (write1 c w (by omega) (by omega)).mono fun e w' ⟨he, hw⟩ => ⟨he, ?_, by rw [hw]; exact hB _⟩
    rw [hw]
    exact write_bys 1 (enc1 c) _ w rfl (by omega) (by simp only [enc1, List.map_cons, List.map_nil, byte_of c (by omega)])
  by_cases c2 : c < 2048
  · rw [show encL c = enc2 c from by unfold encL; rw [if_neg c1, if_pos c2]]
    refine (write2 c w (by omega) (by omega)).mono fun e w' ⟨he, hw⟩ => ⟨he, ?_, by rw [hw]; exact hB _⟩
    rw [hw]
    exact write_bys 2 (enc2 c) _ w rfl (by omega) (by simp only [enc2, List.map_cons, List.map_nil, byte_of (192 + c / 64) (by omega), byte_of (128 + c % 64) (by omega)]; simp)
  by_cases c3 : c < 65536
  · rw [show encL c = enc3 c from by unfold encL; rw [if_neg c1, if_neg c2, if_pos c3]]
    refine (write3 c w (by omega) (by omega)).mono fun e w' ⟨he, hw⟩ => ⟨he, ?_, by rw [hw]; exact hB _⟩
    rw [hw]
    exact write_bys 3 (enc3 c) _ w rfl (by omega) (by simp only [enc3, List.map_cons, List.map_nil, byte_of (224 + c / 4096) (by omega), byte_of (128 + c / 64 % 64) (by omega), byte_of (128 + c % 64) (by omega)]; simp)
  · rw [show encL c = enc4 c from by unfold encL; rw [if_neg c1, if_neg c2, if_neg c3]]
    refine (write4 c w (by omega) (by omega)).mono fun e w' ⟨he, hw⟩ => ⟨he, ?_, by rw [hw]; exact hB _⟩
    rw [hw]
    exact write_bys 4 (enc4 c) _ w rfl (by omega) (by simp only [enc4, List.map_cons, List.map_nil, byte_of (240 + c / 262144) (by omega), byte_of (128 + c / 4096 % 64) (by omega), byte_of (128 + c / 64 % 64) (by omega), byte_of (128 + c % 64) (by omega)]; simp)
end Go.Proofs.Ytmkchfpmlidaiaa
