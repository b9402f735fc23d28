/- What the chapter's own text of lines computes (correctorref2.Place): a place's line and column. -/
import Derived.Test.YtdngcihjfbmbpaaDoorLnRef
import Derived.Test.YtdngcihjfbmbpaaDoorCut
namespace Go.Proofs.YtdngcihjfbmbpaaDoor
open Go.RowKit
open Go.Proofs.YtdngcihjfbmbpaaDoor.Sg

set_option maxHeartbeats 1000000 in
set_option maxRecDepth 100000 in
theorem refStarts_nil (w : World) :
    Calls Tryd.prog 21 #[.slice none 0 0] w fun e w' => ∃ v, e = .returned v ∧ w'.ownsRow w.heap.size 3 1 v 1 (places [0]) ∧ Below w.heap.size w w' := by
  go_enter Tryd.func21, Tryd.ntmps21
  go_wp2
  refine wp_loop_rounds 1 ?_
  rw [rounds_succ]
  go_wp2
  go_ret
  exact ⟨_, rfl, own_one w 0, (Below.refl _ w).alloc (Nat.le_refl _) _⟩
theorem refStarts (s : ByteArray) (v : Value) (w : World) (h : Bys w v s) (hm : s.size ≤ 1000000) :
    Calls Tryd.prog 21 #[v] w fun e w' => ∃ v, e = .returned v ∧ w'.ownsRow w.heap.size 3 1 v (st s).length (places (st s)) ∧ Below w.heap.size w w' := by
  rcases h with ⟨rfl, h⟩ | ⟨b, off, cap, rfl, h2, h3, h4⟩
  · have e : st s = [0] := by unfold st; rw [h]; rfl
    rw [e]
    exact refStarts_nil w
  · exact refStarts_on s b off cap w hm h4

theorem places_get (l : List Nat) (j : Nat) (h : j < l.length) : (places l)[j]? = some (.int .i64 (l.getD j 0 : Nat)) := by
  simp [places, h]
/-- A row of places of the call's own, opened: it has an address, its cells are the places. -/
theorem own_open {w : World} {base : Nat} {v : Value} {l : List Nat} (h : w.ownsRow base 3 1 v l.length (places l)) (hl : 0 < l.length) :
    ∃ g cap, v = .slice (some ⟨g, 0, none⟩) l.length cap ∧ l.length ≤ cap ∧ cap ≤ maxLen ∧ ∀ j, j < l.length → w.cell? ⟨g, j, none⟩ = some (.int .i64 (l.getD j 0 : Nat)) := by
  rcases h.2 with ⟨h1, h2⟩ | ⟨g, cap, cur, h1, h2, h3, h4, h5, h6, h7⟩
  · omega
  · refine ⟨g, cap, h1, h4, h5, fun j hj => ?_⟩
    have hc := h.cells (g := g) (by rw [h1]; rfl) j _ (places_get l j hj)
    rw [addr_add, Nat.zero_add] at hc
    exact hc

set_option maxHeartbeats 1000000 in
set_option maxRecDepth 100000 in
theorem refPlace_out (a : Option Addr) (n cap : Nat) (at' : Int) (w : World) (h : at' < 0 ∨ (n : Int) < at') :
    Calls Tryd.prog 16 #[.slice a n cap, .int .i64 at'] w fun e w' => e = .returned (.tuple #[.int .i64 0, .int .i64 0]) ∧ Below w.heap.size w w' := by
  rcases h with h | h
  · go_enter Tryd.func16, Tryd.ntmps16
    go_wp2
    go_ret2
    exact ⟨rfl, Below.refl _ w⟩
  · have h0 : ¬ (at' < 0) := by omega
    go_enter Tryd.func16, Tryd.ntmps16
    go_wp2
    go_ret2
    exact ⟨rfl, Below.refl _ w⟩

set_option maxHeartbeats 600000 in
set_option maxRecDepth 100000 in
theorem refPlace_in (s : ByteArray) (a : Option Addr) (cap k : Nat) (w : World) (h : Bys w (.slice a s.size cap) s) (hm : s.size ≤ 1000000) (hk : k ≤ s.size) :
    Calls Tryd.prog 16 #[.slice a s.size cap, .int .i64 k] w fun e w' => e = .returned (.tuple #[.int .i64 ((stN s k).length : Nat), .int .i64 (1 + (cnt (s.extract (ls s k) k) : Nat))]) ∧ Below w.heap.size w w' := by
  have hcap := h.cap_le
  simp only [maxLen] at hcap
  have h0 : ¬ ((k : Int) < 0) := by omega
  have h1 : ¬ ((s.size : Int) < (k : Int)) := by omega
  go_enter Tryd.func16, Tryd.ntmps16
  go_wp2_with fail
  refine (refStarts s _ w h hm).mono ?_
  rintro e w1 ⟨v1, rfl, hown, hb⟩
  have hpos := stN_pos s s.size
  have hlen := stN_len s s.size
  have hpk := stN_pos s k
  have hbl : (stN s k).length ≤ (st s).length := by
    obtain ⟨r, e1, _⟩ := stN_front s k (s.size - k)
    rw [show k + (s.size - k) = s.size from by omega] at e1
    unfold st; rw [e1, List.length_append]; omega
  have hat : ∀ j, j < (st s).length → ((st s).getD j 0 ≤ k ↔ j < (stN s k).length) := fun j hj => st_at s k s.size j hk hj
  have hla : (st s).getD ((stN s k).length - 1) 0 = ls s k := st_lastAt s k s.size hk
  have hle := ls_le s k
  change 1 ≤ (st s).length at hpos
  change (st s).length ≤ s.size + 1 at hlen
  obtain ⟨g, c1, rfl, hc1, hc2, hcell⟩ := own_open hown (by omega)
  have hB := h.below hb
  obtain ⟨vc, hsl, hvc⟩ := cut_lh (lo := ls s k) (hi := k) hB (by omega) hk
  generalize hN : (stN s k).length = N at *
  generalize hA : ls s k = A at *
  generalize hL : st s = L at *
  simp only [maxLen] at hc2
  have HC := Lib.hid hcell
  have HT := Lib.hid hat
  have HLA := Lib.hid hla
  have HN := Lib.hid hN
  have HV := Lib.hid hvc
  have hq := cnt_le (s.extract A k)
  rw [ext_size s A k hk] at hq
  obtain ⟨q, hQ⟩ : ∃ q, cnt (s.extract A k) = q := ⟨_, rfl⟩
  rw [hQ] at hq
  have HQ := Lib.hid hQ
  have HA := Lib.hid hA
  clear hN hA hL hcell hat hla hown h hB hvc hQ
  go_wp2_with fail
  go_loop [7] (fun n => ∃ j : Nat, j ≤ N ∧ n = .int .i64 j) (fun n => N - (intOf n).toNat)
  case atStart => exact ⟨0, Nat.zero_le _, rfl⟩
  case round =>
    obtain ⟨j, hj, rfl⟩ := hrel
    by_cases hjn : j < N
    · have hx := (HT.out j (by omega)).2 hjn
      have hc := HC.out j (by omega)
      have hin : (j : Int) < (L.length : Int) := by omega
      generalize L.getD j 0 = x at *
      have hxi : (x : Int) ≤ (k : Int) := by omega
      clear hx
      go_wp2
      go_round
      case rel => exact ⟨j + 1, by omega, by go_num⟩
      case measure => simp [intOf]; omega
    · obtain rfl : j = N := by omega
      obtain ⟨m, rfl⟩ : ∃ m, j = m + 1 := ⟨j - 1, by omega⟩
      have hc := HC.out m (by omega)
      have hla := HLA.out
      rw [Nat.add_sub_cancel] at hla
      rw [hla] at hc
      have hml : (m : Int) < (L.length : Int) := by omega
      have hml2 : m < L.length := by omega
      have hAk : (A : Int) ≤ (k : Int) := by omega
      have hkc : (k : Int) ≤ (cap : Int) := by omega
      clear hla HLA hj hjn
      by_cases hjl : m + 1 < L.length
      · have hx := HT.out (m + 1) (by omega)
        have hc2' := HC.out (m + 1) (by omega)
        have hin : (m : Int) + 1 < (L.length : Int) := by omega
        have hin2 : m + 1 < L.length := by omega
        generalize L.getD (m + 1) 0 = x at *
        have hxi : ¬ ((x : Int) ≤ (k : Int)) := by omega
        clear hx HT HC hjl
        go_wp2_with fail
        refine (refCount (s.extract A k) _ _ HV.out).mono ?_
        rw [HQ.out]
        rintro e w2 ⟨rfl, rfl⟩
        go_wp2
        go_ret2
        exact ⟨by rw [HN.out, HA.out, HQ.out]; simp, hb⟩
      · have hin : ¬ ((m : Int) + 1 < (L.length : Int)) := by omega
        clear HT HC
        go_wp2_with fail
        refine (refCount (s.extract A k) _ _ HV.out).mono ?_
        rw [HQ.out]
        rintro e w2 ⟨rfl, rfl⟩
        go_wp2
        go_ret2
        exact ⟨by rw [HN.out, HA.out, HQ.out]; simp, hb⟩
end Go.Proofs.YtdngcihjfbmbpaaDoor
