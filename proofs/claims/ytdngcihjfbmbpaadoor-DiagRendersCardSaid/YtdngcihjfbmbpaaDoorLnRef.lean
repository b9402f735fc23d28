/- What the chapter's own text of lines computes (correctorref2: Break, Starts, Place): one contract a function. -/
import Derived.Test.YtdngcihjfbmbpaaDoorRefCount
import Derived.Test.YtdngcihjfbmbpaaDoorInts
import Derived.Test.YtdngcihjfbmbpaaDoorBrk
namespace Go.Proofs.YtdngcihjfbmbpaaDoor
open Go.RowKit
open Go.Proofs.YtdngcihjfbmbpaaDoor.Sg

/-- How many bytes a break at a place has. -/
def brkN (n p x y : Nat) : Nat := if x = 13 then (if p + 1 < n ∧ y = 10 then 2 else 1) else if x = 10 then 1 else 0
theorem brk_step (s : ByteArray) (p : Nat) (h : p < s.size) :
    stN s (p + max (brkN s.size p (s.get! p).toNat (s.get! (p + 1)).toNat) 1) = stN s p ++ (if 0 < brkN s.size p (s.get! p).toNat (s.get! (p + 1)).toNat then [p + max (brkN s.size p (s.get! p).toNat (s.get! (p + 1)).toNat) 1] else []) ∧
    p + max (brkN s.size p (s.get! p).toNat (s.get! (p + 1)).toNat) 1 ≤ s.size ∧ brkN s.size p (s.get! p).toNat (s.get! (p + 1)).toNat ≤ 2 := by
  by_cases c1 : (s.get! p).toNat = 13
  · by_cases c2 : p + 1 < s.size ∧ (s.get! (p + 1)).toNat = 10
    · have e : brkN s.size p (s.get! p).toNat (s.get! (p + 1)).toNat = 2 := by unfold brkN; rw [if_pos c1, if_pos c2]
      rw [e]
      have n1 : ¬ ends s p := by unfold ends; omega
      have n2 : ends s (p + 1) := by unfold ends; omega
      refine ⟨?_, by omega, by omega⟩
      show stN s (p + 1 + 1) = _
      rw [stN, stN, if_neg n1, if_pos n2, List.append_nil]
      rfl
    · have e : brkN s.size p (s.get! p).toNat (s.get! (p + 1)).toNat = 1 := by unfold brkN; rw [if_pos c1, if_neg c2]
      rw [e]
      have n1 : ends s p := by unfold ends; omega
      refine ⟨?_, by omega, by omega⟩
      show stN s (p + 1) = _
      rw [stN, if_pos n1]
      rfl
  · by_cases c2 : (s.get! p).toNat = 10
    · have e : brkN s.size p (s.get! p).toNat (s.get! (p + 1)).toNat = 1 := by unfold brkN; rw [if_neg c1, if_pos c2]
      rw [e]
      have n1 : ends s p := by unfold ends; omega
      refine ⟨?_, by omega, by omega⟩
      show stN s (p + 1) = _
      rw [stN, if_pos n1]
      rfl
    · have e : brkN s.size p (s.get! p).toNat (s.get! (p + 1)).toNat = 0 := by unfold brkN; rw [if_neg c1, if_neg c2]
      rw [e]
      have n1 : ¬ ends s p := by unfold ends; omega
      refine ⟨?_, by omega, by omega⟩
      show stN s (p + 1) = _
      rw [stN, if_neg n1]
      rfl

set_option maxHeartbeats 1000000 in
set_option maxRecDepth 100000 in
theorem refBreak (b off cap n p x y : Nat) (w : World) (hn : p < n) (hm : n ≤ 9223372036854775807) (h0 : w.cell? ⟨b, off + p, none⟩ = some (.int .u8 x)) (h1 : p + 1 < n → w.cell? ⟨b, off + (p + 1), none⟩ = some (.int .u8 y)) :
    Calls Tryd.prog 27 #[.slice (some ⟨b, off, none⟩) n cap, .int .i64 p] w fun e w' => e = .returned (.int .i64 (brkN n p x y)) ∧ w = w' := by
  have hlt : (p : Int) < (n : Int) := by omega
  have hge : ¬ ((n : Int) ≤ (p : Int)) := by omega
  unfold brkN
  by_cases c1 : x = 13
  · subst c1
    by_cases c2 : p + 1 < n
    · have g1 := h1 c2
      have hl2 : (p : Int) + 1 < (n : Int) := by omega
      clear h1
      by_cases c3 : y = 10
      · subst c3
        rw [if_pos rfl, if_pos ⟨c2, rfl⟩]
        go_enter Tryd.func27, Tryd.ntmps27
        go_wp2
        go_ret
        exact ⟨rfl, rfl⟩
      · have hb : ((y : Int) == 10) = false := by simp; omega
        rw [if_pos rfl, if_neg (fun h => c3 h.2)]
        clear c3
        go_enter Tryd.func27, Tryd.ntmps27
        go_wp2
        go_ret
        exact ⟨rfl, rfl⟩
    · have hl2 : ¬ ((p : Int) + 1 < (n : Int)) := by omega
      rw [if_pos rfl, if_neg (fun h => c2 h.1)]
      clear c2 h1
      go_enter Tryd.func27, Tryd.ntmps27
      go_wp2
      go_ret
      exact ⟨rfl, rfl⟩
  · have ha : ((x : Int) == 13) = false := by simp; omega
    rw [if_neg c1]
    clear c1 h1
    by_cases c2 : x = 10
    · subst c2
      rw [if_pos rfl]
      go_enter Tryd.func27, Tryd.ntmps27
      go_wp2
      go_ret
      exact ⟨rfl, rfl⟩
    · have hb : ((x : Int) == 10) = false := by simp; omega
      rw [if_neg c2]
      clear c2
      go_enter Tryd.func27, Tryd.ntmps27
      go_wp2
      go_ret
      exact ⟨rfl, rfl⟩

theorem own_one (w : World) (x : Int) : (w.alloc (.cells #[.int .i64 x] 3)).ownsRow w.heap.size 3 1 (.slice (some ⟨w.heap.size, 0, none⟩) 1 1) 1 [.int .i64 x] :=
  ⟨rfl, .inr ⟨w.heap.size, 1, #[.int .i64 x], rfl, Nat.le_refl _, heap_alloc_new w _, Nat.le_refl _, by unfold maxLen; omega, rfl, rfl⟩⟩

set_option maxHeartbeats 2000000 in
set_option maxRecDepth 100000 in
theorem refStarts_on (s : ByteArray) (b off cap : Nat) (w : World) (hm : s.size ≤ 1000000) (hp : ∀ j, j < s.size → w.cell? ⟨b, off + j, none⟩ = some (.int .u8 (s.get! j).toNat)) :
    Calls Tryd.prog 21 #[.slice (some ⟨b, off, none⟩) s.size cap] w fun e w' => ∃ v, e = .returned v ∧ w'.ownsRow w.heap.size 3 1 v (st s).length (places (st s)) ∧ Below w.heap.size w w' := by
  obtain ⟨i0, hi, hz0, hz1, hz2⟩ := info_parts infoInt
  go_enter Tryd.func21, Tryd.ntmps21
  go_wp2
  go_loopg [3, 4] s.size (fun gf v at' wr => ∃ (pos : Nat), at' = .int .i64 pos ∧ wr.ownsRow w.heap.size 3 1 v (stN s pos).length (places (stN s pos)) ∧ Below w.heap.size w wr ∧ s.size ≤ pos + gf ∧ pos ≤ s.size)
  case atStart => exact ⟨0, rfl, own_one w 0, (Below.refl _ w).alloc (Nat.le_refl _) _, by omega, Nat.zero_le _⟩
  case round =>
    obtain ⟨pos, rfl, hown, hb, hf, hps⟩ := hrel
    by_cases hlt : pos < s.size
    · have hB := refBreak b off cap s.size pos (s.get! pos).toNat (s.get! (pos + 1)).toNat wr hlt (by omega) ((hb.cell (p := ⟨b, off + pos, none⟩) (lt_of_cell (hp pos hlt))).trans (hp pos hlt)) (fun h => (hb.cell (p := ⟨b, off + (pos + 1), none⟩) (lt_of_cell (hp _ h))).trans (hp _ h))
      obtain ⟨hs1, hs2, hs3⟩ := brk_step s pos hlt
      have hsl := stN_len s pos
      generalize brkN s.size pos (s.get! pos).toNat (s.get! (pos + 1)).toNat = K at *
      have HB := Lib.hid hB
      have HS := Lib.hid hs1
      have hpi2 : (pos : Int) < (s.size : Int) := by omega
      clear hB hs1 hp
      generalize hL : stN s pos = L at *
      have HL := Lib.hid hL
      clear hL
      by_cases hk : 0 < K
      · have hmx : max K 1 = K := by omega
        rw [hmx] at hs2
        have hki : 0 < (K : Int) := by omega
        have hkm : max (K : Int) 1 = (K : Int) := by omega
        have HM := Lib.hid hmx
        clear hmx
        go_wp2_with fail
        refine HB.out.mono ?_
        rintro e W1 ⟨rfl, rfl⟩
        go_wp2_with (at_builtin; go_must (refine wpList_append_own _ rfl (.tmp 20) (.tmp 22) 51 rfl w.heap.size 3 i0 (.int .i64 0) 1 8 Tryd.underlying51 hi hz0 hz1 hz2 rfl (by decide) _ _ _ rfl (hown.alloc _) ⟨wr.heap.size, 0, none⟩ 1 1 [.int .i64 ((pos : Int) + (K : Int))] rfl rfl (cell_one_new _ _ _) (by intro u hu; simp at hu; subst hu; rfl) (by unfold maxLen; omega) (by omega) (by have := hb.size; simp; omega) ?_; intro v3 w3 hown4 hgrow hnil))
        go_roundg (gk - 1)
        case measure => omega
        case rel =>
          have hX := hown.alloc (.cells #[.int .i64 ((pos : Int) + (K : Int))] 3)
          refine ⟨pos + K, by go_num, ?_, ?_, by omega, hs2⟩
          · have e := HS.out
            rw [HM.out, if_pos hk] at e
            rw [e, List.length_append, places_snoc]
            have : ((pos + K : Nat) : Int) = (pos : Int) + (K : Int) := by omega
            rw [this]
            exact hown4
          · exact (hb.alloc hb.size _).grown hgrow (by have := hb.size; simp; omega) (fun j hj => (hX.lt j hj).1)
      · obtain rfl : K = 0 := by omega
        go_wp2_with fail
        refine HB.out.mono ?_
        rintro e W1 ⟨rfl, rfl⟩
        go_wp2
        go_roundg (gk - 1)
        case measure => omega
        case rel =>
          refine ⟨pos + 1, by go_num, ?_, hb, by omega, hs2⟩
          have e := HS.out
          rw [if_neg (by omega), List.append_nil] at e
          rw [show pos + 1 = pos + max 0 1 from rfl, e]
          exact hown
    · have hge : ¬ ((pos : Int) < (s.size : Int)) := by omega
      obtain rfl : pos = s.size := by omega
      go_wp2
      go_ret
      exact ⟨_, rfl, hown, hb⟩
end Go.Proofs.YtdngcihjfbmbpaaDoor
