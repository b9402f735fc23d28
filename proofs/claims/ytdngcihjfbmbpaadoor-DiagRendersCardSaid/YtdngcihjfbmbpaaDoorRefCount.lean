/- What the chapter's own text of signs computes (correctorref1.Count). -/
import Derived.Test.YtdngcihjfbmbpaaDoorRef2
import Derived.Test.YtdngcihjfbmbpaaDoorOwn
import Derived.Test.YtdngcihjfbmbpaaDoorSteps
namespace Go.Proofs.YtdngcihjfbmbpaaDoor
open Go.RowKit
open Go.Proofs.YtdngcihjfbmbpaaDoor.Sg

set_option maxHeartbeats 2000000 in
set_option maxRecDepth 100000 in
theorem refCount_on (s : ByteArray) (b off cap : Nat) (w : World) (hcap : s.size ≤ cap) (hcm : cap ≤ maxLen) (hp : ∀ j, j < s.size → w.cell? ⟨b, off + j, none⟩ = some (.int .u8 (s.get! j).toNat)) :
    Calls Tryd.prog 22 #[.slice (some ⟨b, off, none⟩) s.size cap] w fun e w' => e = .returned (.int .i64 (cnt s)) ∧ w = w' := by
  simp only [maxLen] at hcm
  have hm2 : s.size ≤ 9223372036854775807 := by omega
  go_enter Tryd.func22, Tryd.ntmps22
  go_wp2
  go_loop [3, 4] (fun k at' => ∃ (gf pos acc : Nat), k = .int .i64 acc ∧ at' = .int .i64 pos ∧ acc + cntF s gf pos = cnt s ∧ s.size ≤ pos + gf ∧ acc ≤ pos ∧ pos ≤ s.size) (fun _ at' => s.size - (intOf at').toNat)
  case atStart => exact ⟨s.size, 0, 0, rfl, rfl, by simp [cnt], by omega, Nat.le_refl _, Nat.zero_le _⟩
  case round =>
    obtain ⟨gf, pos, acc, rfl, rfl, hc, hf, ha, hps⟩ := hrel
    by_cases hlt : pos < s.size
    · obtain ⟨g', rfl⟩ : ∃ g', gf = g' + 1 := ⟨gf - 1, by omega⟩
      have hwd := nx_pos s pos hlt
      have hwn := nx_le s pos hlt
      rw [cntF_step s g' pos hlt] at hc
      have hNX : nx (s.extract pos s.size) 0 = nx s pos := by rw [nx_tail, Nat.add_zero]
      obtain ⟨K, hK⟩ : ∃ K, (nx s pos).2 = K := ⟨_, rfl⟩
      obtain ⟨X, hX⟩ : ∃ X, (nx s pos).1 = X := ⟨_, rfl⟩
      rw [hK] at hwd hwn hc
      have hN := refNext (s.extract pos s.size) (s.size - pos) b (off + pos) (cap - pos) w (Lib.tail_size s pos) (by omega) (fun j hj => by
        rw [Lib.tail_get!, ← hp (pos + j) (by omega), Nat.add_assoc])
      rw [hNX, hK, hX] at hN
      have HN := Lib.hid hN
      have HC := Lib.hid hc
      have hpi : (pos : Int) ≤ (cap : Int) := by omega
      have hpi2 : (pos : Int) < (s.size : Int) := by omega
      clear hK hX hc hN hNX hp
      go_wp2_with fail
      refine HN.out.mono ?_
      rintro e W1 ⟨rfl, rfl⟩
      go_wp2
      go_round
      case rel => exact ⟨g', pos + K, acc + 1, by go_num, by go_num, by have := HC.out; omega, by omega, by omega, hwn⟩
      case measure => simp [intOf]; omega
    · have hge : ¬ ((pos : Int) < (s.size : Int)) := by omega
      rw [cntF_end s gf pos hlt] at hc
      have HC := Lib.hid hc
      clear hc
      go_wp2
      go_ret
      exact ⟨by rw [← HC.out]; rfl, rfl⟩

set_option maxHeartbeats 1000000 in
set_option maxRecDepth 100000 in
theorem refCount_nil (w : World) :
    Calls Tryd.prog 22 #[.slice none 0 0] w fun e w' => e = .returned (.int .i64 0) ∧ w = w' := by
  go_enter Tryd.func22, Tryd.ntmps22
  go_wp2
  refine wp_loop_rounds 1 ?_
  rw [rounds_succ]
  go_wp2
  go_ret
  exact ⟨rfl, rfl⟩

theorem refCount (s : ByteArray) (v : Value) (w : World) (h : Bys w v s) :
    Calls Tryd.prog 22 #[v] w fun e w' => e = .returned (.int .i64 (cnt s)) ∧ w = w' := by
  rcases h with ⟨rfl, h⟩ | ⟨b, off, cap, rfl, h2, h3, h4⟩
  · have e : cnt s = 0 := cntF_end s _ _ (by omega)
    rw [e]
    exact refCount_nil w
  · exact refCount_on s b off cap w h2 h3 h4
end Go.Proofs.YtdngcihjfbmbpaaDoor
