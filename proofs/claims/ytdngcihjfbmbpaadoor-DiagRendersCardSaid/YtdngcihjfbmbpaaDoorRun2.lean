/- What runes.Count answers of any bytes: in how many steps they are gone through. -/
import Derived.Test.YtdngcihjfbmbpaaDoorRun1
import Derived.Test.YtdngcihjfbmbpaaDoorOwn
import Derived.Test.YtdngcihjfbmbpaaDoorSteps
import Derived.Laws.IdiomStrings
import Derived.Lib.OthersKept
import Derived.Deep.LoopGhost
namespace Go.Proofs.YtdngcihjfbmbpaaDoor
open Go.RowKit
open Go.Proofs.YtdngcihjfbmbpaaDoor.Sg

set_option maxHeartbeats 1000000 in
set_option maxRecDepth 100000 in
theorem runesCount_on (v : Value) (s : ByteArray) (w : World) (hm : s.size ≤ 9223372036854775807) (hcv : (convert 22 9 v).run Tryd.prog w = .ok (.string s) w) :
    Calls Tryd.prog 24 #[v] w fun e w' => e = .returned (.int .i64 (cnt s)) ∧ Below w.heap.size w w' := by
  go_enter Tryd.func24, Tryd.ntmps24
  go_wp2
  go_loopg [3] s.size (fun gf n wr => ∃ (pos acc : Nat), n = .int .i64 acc ∧ wr.heap[w.heap.size]? = some (.stringIter s pos) ∧ Below w.heap.size w wr ∧ acc + cntF s gf pos = cnt s ∧ s.size ≤ pos + gf ∧ acc ≤ pos ∧ pos ≤ s.size)
  case atStart => exact ⟨0, 0, rfl, World.iter_heap w s 0, (Below.refl _ w).alloc (Nat.le_refl _) _, by simp [cnt], by omega, Nat.le_refl _, Nat.zero_le _⟩
  case round =>
    obtain ⟨pos, acc, rfl, hit, hb, hc, hf, ha, hps⟩ := hrel
    by_cases hlt : pos < s.size
    · obtain ⟨g', rfl⟩ : ∃ g', gk = g' + 1 := ⟨gk - 1, by omega⟩
      have hnx : ∀ ty, (Instr.next (.pointer (some ⟨w.heap.size, 0, none⟩)) true ty).run Tryd.prog wr = _ := fun ty => Lib.run_next_any_at wr w.heap.size s pos ty hit hlt
      have hwd := nx_pos s pos hlt
      have hwn := nx_le s pos hlt
      have hst := cntF_step s g' pos hlt
      rw [hst] at hc
      clear hst
      rw [← nx_width s pos hlt] at hnx
      obtain ⟨K, hK⟩ : ∃ K, (nx s pos).2 = K := ⟨_, rfl⟩
      obtain ⟨R, hR⟩ : ∃ R, (Utf8.decode s pos).1 = R := ⟨_, rfl⟩
      rw [hK, hR] at hnx
      rw [hK] at hwd hwn hc
      have hit2 := Lib.iterAt_heap wr w.heap.size s pos (pos + K) hit
      have hb2 := Lib.below_iterAt hb (k := w.heap.size) (Nat.le_refl _) s (pos + K)
      obtain ⟨W, hWd⟩ : ∃ W, wr.iterAt w.heap.size s (pos + K) = W := ⟨_, rfl⟩
      rw [hWd] at hnx hit2 hb2
      have HC := Lib.hid hc
      clear hK hR hWd hit hb hcv hc
      go_wp2
      go_roundg g'
      case measure => omega
      case rel => exact ⟨pos + K, acc + 1, by go_num, hit2, hb2, by have := HC.out; omega, by omega, by omega, hwn⟩
    · have hnx : ∀ ty, (Instr.next (.pointer (some ⟨w.heap.size, 0, none⟩)) true ty).run Tryd.prog wr = _ := fun ty => Lib.run_next_end_at wr w.heap.size s pos ty hit hlt
      rw [cntF_end s gk pos hlt] at hc
      clear hcv
      go_wp2
      go_ret
      exact ⟨by rw [← hc]; rfl, hb⟩

theorem runesCount (s : ByteArray) (v : Value) (w : World) (h : Bys w v s) :
    Calls Tryd.prog 24 #[v] w fun e w' => e = .returned (.int .i64 (cnt s)) ∧ Below w.heap.size w w' := by
  have hm := h.size_le
  refine runesCount_on v s w (by simp only [maxLen] at hm; omega) ?_
  rcases h with ⟨rfl, h⟩ | ⟨b, off, cap, rfl, h2, h3, h4⟩
  · rw [conv_nil]
    have : s = ⟨#[]⟩ := by
      cases s with
      | mk d => simp [ByteArray.size] at h; rw [h]
    rw [this]
  · exact conv_bytes b off cap s w h4
end Go.Proofs.YtdngcihjfbmbpaaDoor
