/- What the chapter's own text of signs computes (correctorref1.Bad, Count). -/
import Derived.Test.YtnjbdafjhhjfoaaDoorRef2
import Derived.Test.YtnjbdafjhhjfoaaDoorRun3
namespace Go.Proofs.YtnjbdafjhhjfoaaDoor
open Go.RowKit
open Go.Proofs.YtnjbdafjhhjfoaaDoor.Sg

set_option maxHeartbeats 2000000 in
set_option maxRecDepth 100000 in
theorem refBad_on (s : ByteArray) (b off cap : Nat) (w : World) (hm : s.size ≤ 1000000) (hcap : s.size ≤ cap) (hcm : cap ≤ maxLen) (hp : ∀ j, j < s.size → w.cell? ⟨b, off + j, none⟩ = some (.int .u8 (s.get! j).toNat)) :
    Calls Tryd.prog 15 #[.slice (some ⟨b, off, none⟩) s.size cap] w fun e w' => ∃ v, e = .returned v ∧ w'.ownsRow w.heap.size 3 1 v (bad s).length (places (bad s)) ∧ Below w.heap.size w w' := by
  obtain ⟨i0, hi, hz0, hz1, hz2⟩ := info_parts infoInt
  have hm2 : s.size ≤ 9223372036854775807 := by omega
  simp only [maxLen] at hcm
  go_enter Tryd.func15, Tryd.ntmps15
  go_wp2
  go_loopg [3, 4] s.size (fun gf v at' wr => ∃ (pos : Nat) (acc : List Nat), at' = .int .i64 pos ∧ wr.ownsRow w.heap.size 3 1 v acc.length (places acc) ∧ Below w.heap.size w wr ∧ acc ++ badF s gf pos = bad s ∧ s.size ≤ pos + gf ∧ acc.length ≤ pos ∧ pos ≤ s.size)
  case atStart => exact ⟨0, [], rfl, World.ownsRow_nil _ _ _ _, Below.refl _ w, by simp [bad], by omega, Nat.le_refl _, Nat.zero_le _⟩
  case round =>
    obtain ⟨pos, acc, rfl, hown, hb, hc, hf, ha, hps⟩ := hrel
    by_cases hlt : pos < s.size
    · obtain ⟨g', rfl⟩ : ∃ g', gk = g' + 1 := ⟨gk - 1, by omega⟩
      have hwd := nx_pos s pos hlt
      have hwn := nx_le s pos hlt
      have hlo := nx_lo s pos
      rw [badF_step s g' pos hlt] at hc
      have hNX : nx (s.extract pos s.size) 0 = nx s pos := by rw [nx_tail, Nat.add_zero]
      obtain ⟨K, hK⟩ : ∃ K, (nx s pos).2 = K := ⟨_, rfl⟩
      obtain ⟨X, hX⟩ : ∃ X, (nx s pos).1 = X := ⟨_, rfl⟩
      rw [hX] at hlo hc
      rw [hK] at hwd hwn hc
      have hN := refNext (s.extract pos s.size) (s.size - pos) b (off + pos) (cap - pos) wr (Lib.tail_size s pos) (by omega) (fun j hj => by
        have hc0 := hp (pos + j) (by omega)
        have hblt : b < w.heap.size := lt_of_cell hc0
        rw [Lib.tail_get!, hb.cell (p := ⟨b, off + pos + j, none⟩) hblt, ← hc0, Nat.add_assoc])
      rw [hNX, hK, hX] at hN
      have HN := Lib.hid hN
      have HC := Lib.hid hc
      have hpi : (pos : Int) ≤ (cap : Int) := by omega
      have hpi2 : (pos : Int) < (s.size : Int) := by omega
      clear hK hX hc hN hNX hp
      by_cases hx : X < 0
      · go_wp2_with fail
        refine HN.out.mono ?_
        rintro e W1 ⟨rfl, rfl⟩
        go_wp2_with (at_builtin; go_must (refine wpList_append_own _ rfl (.tmp 20) (.tmp 22) 29 rfl w.heap.size 3 i0 (.int .i64 0) 1 8 Tryd.underlying29 hi hz0 hz1 hz2 rfl (by decide) _ _ _ rfl (hown.alloc _) ⟨wr.heap.size, 0, none⟩ 1 1 [.int .i64 (pos : Int)] rfl rfl (cell_one_new _ _ _) (by intro u hu; simp at hu; subst hu; rfl) (by unfold maxLen; omega) (by omega) (by have := hb.size; simp; omega) ?_; intro v3 w3 hown4 hgrow hnil))
        go_roundg g'
        case measure => omega
        case rel =>
          have hX := hown.alloc (.cells #[.int .i64 (pos : Int)] 3)
          have hc := HC.out
          rw [if_pos hx, ← List.append_assoc] at hc
          refine ⟨pos + K, acc ++ [pos], by go_num, ?_, ?_, hc, by omega, by simp; omega, hwn⟩
          · rw [List.length_append, places_snoc]; exact hown4
          · exact (hb.alloc hb.size _).grown hgrow (by have := hb.size; simp; omega) (fun j hj => (hX.lt j hj).1)
      · go_wp2_with fail
        refine HN.out.mono ?_
        rintro e W1 ⟨rfl, rfl⟩
        go_wp2
        go_roundg g'
        case measure => omega
        case rel =>
          have hc := HC.out
          rw [if_neg (by omega)] at hc
          exact ⟨pos + K, acc, by go_num, hown, hb, hc, by omega, by omega, hwn⟩
    · have hge : ¬ ((pos : Int) < (s.size : Int)) := by omega
      rw [badF_end s gk pos hlt, List.append_nil] at hc
      subst hc
      go_wp2
      go_ret
      exact ⟨_, rfl, hown, hb⟩

set_option maxHeartbeats 1000000 in
set_option maxRecDepth 100000 in
theorem refBad_nil (w : World) :
    Calls Tryd.prog 15 #[.slice none 0 0] w fun e w' => ∃ v, e = .returned v ∧ w'.ownsRow w.heap.size 3 1 v 0 [] ∧ Below w.heap.size w w' := by
  go_enter Tryd.func15, Tryd.ntmps15
  go_wp2
  refine wp_loop_rounds 1 ?_
  rw [rounds_succ]
  go_wp2
  go_ret
  exact ⟨_, rfl, World.ownsRow_nil _ _ _ _, Below.refl _ w⟩

theorem refBad (s : ByteArray) (v : Value) (w : World) (h : Bys w v s) (hm : s.size ≤ 1000000) :
    Calls Tryd.prog 15 #[v] w fun e w' => ∃ v, e = .returned v ∧ w'.ownsRow w.heap.size 3 1 v (bad s).length (places (bad s)) ∧ Below w.heap.size w w' := by
  rcases h with ⟨rfl, h⟩ | ⟨b, off, cap, rfl, h2, h3, h4⟩
  · have e : bad s = [] := badF_end s _ _ (by omega)
    rw [e]
    exact refBad_nil w
  · exact refBad_on s b off cap w hm h2 h3 h4

set_option maxHeartbeats 2000000 in
set_option maxRecDepth 100000 in
theorem refCount_on (s : ByteArray) (b off cap : Nat) (w : World) (hcap : s.size ≤ cap) (hcm : cap ≤ maxLen) (hp : ∀ j, j < s.size → w.cell? ⟨b, off + j, none⟩ = some (.int .u8 (s.get! j).toNat)) :
    Calls Tryd.prog 17 #[.slice (some ⟨b, off, none⟩) s.size cap] w fun e w' => e = .returned (.int .i64 (cnt s)) ∧ w = w' := by
  simp only [maxLen] at hcm
  have hm2 : s.size ≤ 9223372036854775807 := by omega
  go_enter Tryd.func17, Tryd.ntmps17
  go_wp2
  go_loop [3, 4] (fun k at' => ∃ (gf pos acc : Nat), k = .int .i64 acc ∧ at' = .int .i64 pos ∧ acc + cntF s gf pos = cnt s ∧ s.size ≤ pos + gf ∧ acc ≤ pos ∧ pos ≤ s.size) (fun _ at' => s.size - (intOf at').toNat)
  case atStart => exact ⟨s.size, 0, 0, rfl, rfl, by simp [cnt], by omega, Nat.le_refl _, Nat.zero_le _⟩
  case round =>
    obtain ⟨gf, pos, acc, rfl, rfl, hc, hf, ha, hps⟩ := hrel
    by_cases hlt : pos < s.size
    · obtain ⟨g', rfl⟩ : ∃ g', gf = g' + 1 := ⟨gf - 1, by omega⟩
      have hwd := nx_pos s pos hlt
      have hwn := nx_le s pos hlt
      rw [cntF_step s g' pos hlt] at hc
      have hNX : nx (s.extract pos s.size) 0 = nx s pos := by rw [nx_tail, Nat.add_zero]
      obtain ⟨K, hK⟩ : ∃ K, (nx s pos).2 = K := ⟨_, rfl⟩
      obtain ⟨X, hX⟩ : ∃ X, (nx s pos).1 = X := ⟨_, rfl⟩
      rw [hK] at hwd hwn hc
      have hN := refNext (s.extract pos s.size) (s.size - pos) b (off + pos) (cap - pos) w (Lib.tail_size s pos) (by omega) (fun j hj => by
        rw [Lib.tail_get!, ← hp (pos + j) (by omega), Nat.add_assoc])
      rw [hNX, hK, hX] at hN
      have HN := Lib.hid hN
      have HC := Lib.hid hc
      have hpi : (pos : Int) ≤ (cap : Int) := by omega
      have hpi2 : (pos : Int) < (s.size : Int) := by omega
      clear hK hX hc hN hNX hp
      go_wp2_with fail
      refine HN.out.mono ?_
      rintro e W1 ⟨rfl, rfl⟩
      go_wp2
      go_round
      case rel => exact ⟨g', pos + K, acc + 1, by go_num, by go_num, by have := HC.out; omega, by omega, by omega, hwn⟩
      case measure => simp [intOf]; omega
    · have hge : ¬ ((pos : Int) < (s.size : Int)) := by omega
      rw [cntF_end s gf pos hlt] at hc
      have HC := Lib.hid hc
      clear hc
      go_wp2
      go_ret
      exact ⟨by rw [← HC.out]; rfl, rfl⟩

set_option maxHeartbeats 1000000 in
set_option maxRecDepth 100000 in
theorem refCount_nil (w : World) :
    Calls Tryd.prog 17 #[.slice none 0 0] w fun e w' => e = .returned (.int .i64 0) ∧ w = w' := by
  go_enter Tryd.func17, Tryd.ntmps17
  go_wp2
  refine wp_loop_rounds 1 ?_
  rw [rounds_succ]
  go_wp2
  go_ret
  exact ⟨rfl, rfl⟩

theorem refCount (s : ByteArray) (v : Value) (w : World) (h : Bys w v s) :
    Calls Tryd.prog 17 #[v] w fun e w' => e = .returned (.int .i64 (cnt s)) ∧ w = w' := by
  rcases h with ⟨rfl, h⟩ | ⟨b, off, cap, rfl, h2, h3, h4⟩
  · have e : cnt s = 0 := cntF_end s _ _ (by omega)
    rw [e]
    exact refCount_nil w
  · exact refCount_on s b off cap w h2 h3 h4
end Go.Proofs.YtnjbdafjhhjfoaaDoor
