/- The chapter's own first sign (correctorref1), and where its scanner ends a plain text. -/
import Derived.Test.YtmlpaafclobgcaaChecked
import Derived.Test.YtmlpaafclobgcaaMgA
import Derived.WalkKit
import Derived.WalkLawsBesides
import Derived.WalkSpells
import Derived.Below
import Derived.OwnWalk
import Derived.Outline
import Derived.LoopTactic
import Derived.LoopN
import Derived.Lib.Hide
import Derived.Test.YtmlpaafclobgcaaMgC
import Derived.Test.YtmlpaafclobgcaaMa
import Derived.Test.YtmlpaafclobgcaaCut
/- What the chapter's own text of signs computes (correctorref1: sign, Next): one contract a function. -/
namespace Go.Proofs.Ytmlpaafclobgcaa
open Go.RowKit
open Go.Proofs.Ytmlpaafclobgcaa.Sg

theorem ret2 {p : Int × Nat} {x k : Int} (h : p.1 = x ∧ (p.2 : Int) = k) : Ending.returned (.tuple #[.int .i32 x, .int .i64 k]) = .returned (.tuple #[.int .i32 p.1, .int .i64 p.2]) := by rw [h.1, h.2]

set_option maxHeartbeats 1000000 in
set_option maxRecDepth 100000 in
theorem sign2 (b off len cap : Nat) (v0 : Int) (b1 : Nat) (w : World) (hl : len ≤ 9223372036854775807) (h0 : 0 ≤ v0) (h1 : v0 < 32) (l1 : b1 < 256)
    (hc1 : 1 < len → w.cell? ⟨b, off + 1, none⟩ = some (.int .u8 b1)) :
    Calls Try.prog 52 #[.slice (some ⟨b, off, none⟩) len cap, .int .i64 2, .int .i32 v0, .int .i32 128] w fun e w' => e = .returned (.tuple #[.int .i32 (sg2 len v0.toNat b1).1, .int .i64 (sg2 len v0.toNat b1).2]) ∧ w = w' := by
  obtain ⟨v, rfl⟩ := Int.eq_ofNat_of_zero_le h0
  rw [Int.toNat_natCast]
  by_cases hn : len < 2
  · go_enter Try.func52, Try.ntmps52
    go_wp2
    go_ret2
    refine ⟨?_, rfl⟩
    exact ret2 (by unfold sg2; (repeat' split); all_goals first | exact ⟨rfl, rfl⟩ | (exfalso; omega))
  · have g1 := hc1 (by omega)
    clear hc1
    have hlt : (1 : Int) < (len : Int) := by omega
    by_cases k1 : b1 < 128 ∨ 191 < b1
    · go_enter Try.func52, Try.ntmps52
      go_wp2
      refine wp_loop_rounds 2 ?_
      rw [rounds_succ]
      go_wp2
      all_goals
        go_ret2
        refine ⟨?_, rfl⟩
        exact ret2 (by unfold sg2; (repeat' split); all_goals first | exact ⟨rfl, rfl⟩ | (exfalso; omega))
    · obtain ⟨k1a, k1b⟩ : 128 ≤ b1 ∧ b1 ≤ 191 := by omega
      clear k1
      go_enter Try.func52, Try.ntmps52
      go_wp2
      refine wp_loop_rounds 2 ?_
      rw [rounds_succ]
      go_wp2
      rw [rounds_succ]
      go_wp2
      all_goals
        go_ret2
        refine ⟨?_, rfl⟩
        exact ret2 (by unfold sg2; (repeat' split); all_goals first | exact ⟨rfl, rfl⟩ | (exfalso; omega) | (refine ⟨?_, rfl⟩; dsimp only; omega))

set_option maxHeartbeats 1000000 in
set_option maxRecDepth 100000 in
theorem sign3 (b off len cap : Nat) (v0 : Int) (b1 b2 : Nat) (w : World) (hl : len ≤ 9223372036854775807) (h0 : 0 ≤ v0) (h1 : v0 < 16) (l1 : b1 < 256) (l2 : b2 < 256)
    (hc1 : 1 < len → w.cell? ⟨b, off + 1, none⟩ = some (.int .u8 b1))
    (hc2 : 2 < len → w.cell? ⟨b, off + 2, none⟩ = some (.int .u8 b2)) :
    Calls Try.prog 52 #[.slice (some ⟨b, off, none⟩) len cap, .int .i64 3, .int .i32 v0, .int .i32 2048] w fun e w' => e = .returned (.tuple #[.int .i32 (sg3 len v0.toNat b1 b2).1, .int .i64 (sg3 len v0.toNat b1 b2).2]) ∧ w = w' := by
  obtain ⟨v, rfl⟩ := Int.eq_ofNat_of_zero_le h0
  rw [Int.toNat_natCast]
  by_cases hn : len < 3
  · go_enter Try.func52, Try.ntmps52
    go_wp2
    go_ret2
    refine ⟨?_, rfl⟩
    exact ret2 (by unfold sg3; (repeat' split); all_goals first | exact ⟨rfl, rfl⟩ | (exfalso; omega))
  · have g1 := hc1 (by omega)
    have g2 := hc2 (by omega)
    clear hc1 hc2
    have hlt : (2 : Int) < (len : Int) := by omega
    by_cases k1 : b1 < 128 ∨ 191 < b1
    · go_enter Try.func52, Try.ntmps52
      go_wp2
      refine wp_loop_rounds 3 ?_
      rw [rounds_succ]
      go_wp2
      all_goals
        go_ret2
        refine ⟨?_, rfl⟩
        exact ret2 (by unfold sg3; (repeat' split); all_goals first | exact ⟨rfl, rfl⟩ | (exfalso; omega))
    · obtain ⟨k1a, k1b⟩ : 128 ≤ b1 ∧ b1 ≤ 191 := by omega
      clear k1
      by_cases k2 : b2 < 128 ∨ 191 < b2
      · go_enter Try.func52, Try.ntmps52
        go_wp2
        refine wp_loop_rounds 3 ?_
        rw [rounds_succ]
        go_wp2
        rw [rounds_succ]
        go_wp2
        all_goals
          go_ret2
          refine ⟨?_, rfl⟩
          exact ret2 (by unfold sg3; (repeat' split); all_goals first | exact ⟨rfl, rfl⟩ | (exfalso; omega))
      · obtain ⟨k2a, k2b⟩ : 128 ≤ b2 ∧ b2 ≤ 191 := by omega
        clear k2
        go_enter Try.func52, Try.ntmps52
        go_wp2
        refine wp_loop_rounds 3 ?_
        rw [rounds_succ]
        go_wp2
        rw [rounds_succ]
        go_wp2
        rw [rounds_succ]
        go_wp2
        all_goals
          go_ret2
          refine ⟨?_, rfl⟩
          exact ret2 (by unfold sg3; (repeat' split); all_goals first | exact ⟨rfl, rfl⟩ | (exfalso; omega) | (refine ⟨?_, rfl⟩; dsimp only; omega))

set_option maxHeartbeats 1000000 in
set_option maxRecDepth 100000 in
theorem sign4 (b off len cap : Nat) (v0 : Int) (b1 b2 b3 : Nat) (w : World) (hl : len ≤ 9223372036854775807) (h0 : 0 ≤ v0) (h1 : v0 < 8) (l1 : b1 < 256) (l2 : b2 < 256) (l3 : b3 < 256)
    (hc1 : 1 < len → w.cell? ⟨b, off + 1, none⟩ = some (.int .u8 b1))
    (hc2 : 2 < len → w.cell? ⟨b, off + 2, none⟩ = some (.int .u8 b2))
    (hc3 : 3 < len → w.cell? ⟨b, off + 3, none⟩ = some (.int .u8 b3)) :
    Calls Try.prog 52 #[.slice (some ⟨b, off, none⟩) len cap, .int .i64 4, .int .i32 v0, .int .i32 65536] w fun e w' => e = .returned (.tuple #[.int .i32 (sg4 len v0.toNat b1 b2 b3).1, .int .i64 (sg4 len v0.toNat b1 b2 b3).2]) ∧ w = w' := by
  obtain ⟨v, rfl⟩ := Int.eq_ofNat_of_zero_le h0
  rw [Int.toNat_natCast]
  by_cases hn : len < 4
  · go_enter Try.func52, Try.ntmps52
    go_wp2
    go_ret2
    refine ⟨?_, rfl⟩
    exact ret2 (by unfold sg4; (repeat' split); all_goals first | exact ⟨rfl, rfl⟩ | (exfalso; omega))
  · have g1 := hc1 (by omega)
    have g2 := hc2 (by omega)
    have g3 := hc3 (by omega)
    clear hc1 hc2 hc3
    have hlt : (3 : Int) < (len : Int) := by omega
    by_cases k1 : b1 < 128 ∨ 191 < b1
    · go_enter Try.func52, Try.ntmps52
      go_wp2
      refine wp_loop_rounds 4 ?_
      rw [rounds_succ]
      go_wp2
      all_goals
        go_ret2
        refine ⟨?_, rfl⟩
        exact ret2 (by unfold sg4; (repeat' split); all_goals first | exact ⟨rfl, rfl⟩ | (exfalso; omega))
    · obtain ⟨k1a, k1b⟩ : 128 ≤ b1 ∧ b1 ≤ 191 := by omega
      clear k1
      by_cases k2 : b2 < 128 ∨ 191 < b2
      · go_enter Try.func52, Try.ntmps52
        go_wp2
        refine wp_loop_rounds 4 ?_
        rw [rounds_succ]
        go_wp2
        rw [rounds_succ]
        go_wp2
        all_goals
          go_ret2
          refine ⟨?_, rfl⟩
          exact ret2 (by unfold sg4; (repeat' split); all_goals first | exact ⟨rfl, rfl⟩ | (exfalso; omega))
      · obtain ⟨k2a, k2b⟩ : 128 ≤ b2 ∧ b2 ≤ 191 := by omega
        clear k2
        by_cases k3 : b3 < 128 ∨ 191 < b3
        · go_enter Try.func52, Try.ntmps52
          go_wp2
          refine wp_loop_rounds 4 ?_
          rw [rounds_succ]
          go_wp2
          rw [rounds_succ]
          go_wp2
          rw [rounds_succ]
          go_wp2
          all_goals
            go_ret2
            refine ⟨?_, rfl⟩
            exact ret2 (by unfold sg4; (repeat' split); all_goals first | exact ⟨rfl, rfl⟩ | (exfalso; omega))
        · obtain ⟨k3a, k3b⟩ : 128 ≤ b3 ∧ b3 ≤ 191 := by omega
          clear k3
          go_enter Try.func52, Try.ntmps52
          go_wp2
          refine wp_loop_rounds 4 ?_
          rw [rounds_succ]
          go_wp2
          rw [rounds_succ]
          go_wp2
          rw [rounds_succ]
          go_wp2
          rw [rounds_succ]
          go_wp2
          all_goals
            go_ret2
            refine ⟨?_, rfl⟩
            exact ret2 (by unfold sg4; (repeat' split); all_goals first | exact ⟨rfl, rfl⟩ | (exfalso; omega) | (refine ⟨?_, rfl⟩; dsimp only; omega))

end Go.Proofs.Ytmlpaafclobgcaa

/- What the chapter's own text of signs computes (correctorref1.Next): the first sign of any bytes. -/
namespace Go.Proofs.Ytmlpaafclobgcaa
open Go.RowKit
open Go.Proofs.Ytmlpaafclobgcaa.Sg

set_option maxHeartbeats 1000000 in
set_option maxRecDepth 100000 in
theorem refNext_nil (w : World) : Calls Try.prog 34 #[.slice none 0 0] w fun e w' => e = .returned (.tuple #[.int .i32 (-1), .int .i64 0]) ∧ w = w' := by
  go_enter Try.func34, Try.ntmps34
  go_wp2
  go_ret2
  exact ⟨rfl, rfl⟩

set_option maxHeartbeats 1000000 in
set_option maxRecDepth 100000 in
theorem refNext_any (n b off cap x0 x1 x2 x3 : Nat) (w : World) (hm : n ≤ 9223372036854775807) (l0 : x0 < 256) (l1 : x1 < 256) (l2 : x2 < 256) (l3 : x3 < 256)
    (h0 : 0 < n → w.cell? ⟨b, off, none⟩ = some (.int .u8 x0)) (h1 : 1 < n → w.cell? ⟨b, off + 1, none⟩ = some (.int .u8 x1)) (h2 : 2 < n → w.cell? ⟨b, off + 2, none⟩ = some (.int .u8 x2)) (h3 : 3 < n → w.cell? ⟨b, off + 3, none⟩ = some (.int .u8 x3)) :
    Calls Try.prog 34 #[.slice (some ⟨b, off, none⟩) n cap] w fun e w' => e = .returned (.tuple #[.int .i32 (nxN n x0 x1 x2 x3).1, .int .i64 (nxN n x0 x1 x2 x3).2]) ∧ w = w' := by
  by_cases hz : n = 0
  · subst hz
    clear h0 h1 h2 h3
    rw [nx_none]
    go_enter Try.func34, Try.ntmps34
    go_wp2
    go_ret2
    exact ⟨rfl, rfl⟩
  · have hlt : (0 : Int) < (n : Int) := by omega
    have hne : ((n : Int) == 0) = false := by simp; omega
    have g0 := h0 (by omega)
    clear h0
    have t2 := nx_two n x0 x1 x2 x3 (by omega)
    have t3 := nx_three n x0 x1 x2 x3 (by omega)
    have t4 := nx_four n x0 x1 x2 x3 (by omega)
    by_cases c1 : x0 < 128
    · rw [nx_ascii n x0 x1 x2 x3 (by omega) c1]
      clear h1 h2 h3 t2 t3 t4
      go_enter Try.func34, Try.ntmps34
      go_wp2
      go_ret2
      exact ⟨rfl, rfl⟩
    by_cases c2 : x0 < 192
    · rw [nx_bad n x0 x1 x2 x3 (by omega) (by omega) (by omega)]
      clear h1 h2 h3 t2 t3 t4
      go_enter Try.func34, Try.ntmps34
      go_wp2
      go_ret2
      exact ⟨rfl, rfl⟩
    by_cases c3 : x0 < 224
    · rw [t2 (by omega) c3 l1]
      clear t2 t3 t4
      go_enter Try.func34, Try.ntmps34
      go_wp2_with fail
      refine (sign2 b off n cap ((x0 : Int) % 32) x1 w hm (by omega) (by omega) l1 h1).mono ?_
      rintro e w' ⟨rfl, rfl⟩
      go_wp2
      go_ret2
      rw [show ((x0 : Int) % 32).toNat = x0 % 32 from by omega]
      exact ⟨rfl, rfl⟩
    by_cases c4 : x0 < 240
    · rw [t3 (by omega) c4 l1 l2]
      clear t2 t3 t4
      go_enter Try.func34, Try.ntmps34
      go_wp2_with fail
      refine (sign3 b off n cap ((x0 : Int) % 16) x1 x2 w hm (by omega) (by omega) l1 l2 h1 h2).mono ?_
      rintro e w' ⟨rfl, rfl⟩
      go_wp2
      go_ret2
      rw [show ((x0 : Int) % 16).toNat = x0 % 16 from by omega]
      exact ⟨rfl, rfl⟩
    by_cases c5 : x0 < 248
    · rw [t4 (by omega) c5 l1 l2 l3]
      clear t2 t3 t4
      go_enter Try.func34, Try.ntmps34
      go_wp2_with fail
      refine (sign4 b off n cap ((x0 : Int) % 8) x1 x2 x3 w hm (by omega) (by omega) l1 l2 l3 h1 h2 h3).mono ?_
      rintro e w' ⟨rfl, rfl⟩
      go_wp2
      go_ret2
      rw [show ((x0 : Int) % 8).toNat = x0 % 8 from by omega]
      exact ⟨rfl, rfl⟩
    rw [nx_bad n x0 x1 x2 x3 (by omega) (by omega) (by omega)]
    clear h1 h2 h3 t2 t3 t4
    go_enter Try.func34, Try.ntmps34
    go_wp2
    go_ret2
    exact ⟨rfl, rfl⟩

theorem refNext (s : ByteArray) (n b off cap : Nat) (w : World) (hn : s.size = n) (hm : n ≤ 9223372036854775807) (hp : ∀ j, j < n → w.cell? ⟨b, off + j, none⟩ = some (.int .u8 (s.get! j).toNat)) :
    Calls Try.prog 34 #[.slice (some ⟨b, off, none⟩) n cap] w fun e w' => e = .returned (.tuple #[.int .i32 (nx s 0).1, .int .i64 (nx s 0).2]) ∧ w = w' := by
  have h := refNext_any n b off cap (s.get! 0).toNat (s.get! 1).toNat (s.get! 2).toNat (s.get! 3).toNat w hm (s.get! 0).toNat_lt (s.get! 1).toNat_lt (s.get! 2).toNat_lt (s.get! 3).toNat_lt (hp 0) (hp 1) (hp 2) (hp 3)
  simpa only [nx, hn, Nat.sub_zero, Nat.zero_add] using h
end Go.Proofs.Ytmlpaafclobgcaa

/- The chapter's own scanner (correctorref6): plain. -/
namespace Go.Proofs.Ytmlpaafclobgcaa
open Go.RowKit
open Go.Proofs.Ytmlpaafclobgcaa.Sg
set_option linter.unusedVariables false
variable {w : World} {a b off cap n : Nat} {L : List Nat}

/-- The text's rest, from a place on. -/
theorem slice_at (i : Nat) (hi : i < n) (hc : n ≤ cap) (hcm : cap ≤ maxLen) (hm : n ≤ 16384) (W : World) :
    (Instr.slice 24 (.slice (some ⟨b, off, none⟩) n cap) (some (.int .i64 (i : Int))) none none).run Try.prog W = .ok (.slice (some ⟨b, off + i, none⟩) (n - i) (cap - i)) W := by
  rw [run_slice_l W _ _ n cap elem_bytes .i64 i (by omega) (by omega), size_bytes]
  simp only [Result.andThen, sliced]
  have hne : ¬ cap = i := by omega
  simp [hne, addr_add]
theorem rNext (i c : Nat) (t : List Nat) (M cp : Nat) (h1 : L.drop i = c :: t) (hn : L.length = n) (hm : n ≤ 16384) (hL : ∀ x ∈ L, x < 256) (hM : n - i = M) (hT : Txt w b off L) :
    Calls Try.prog 34 #[.slice (some ⟨b, off + i, none⟩) M cp] w fun e w' => e = .returned (.tuple #[.int .i32 (Sc.nxL (c :: t)).1, .int .i64 (Sc.nxL (c :: t)).2]) ∧ w = w' := by
  have h2 := Sc.drop_lt h1
  have hlen : (c :: t).length = M := by rw [← h1, List.length_drop, hn, hM]
  have hlt : ∀ j, (c :: t).getD j 0 < 256 := by
    intro j
    rw [List.getD_eq_getElem?_getD]
    cases hj : (c :: t)[j]? with
    | none => simp
    | some x =>
      have hx : x ∈ c :: t := List.mem_of_getElem? hj
      rw [← h1] at hx
      simp only [Option.getD_some]
      exact hL x (List.mem_of_mem_drop hx)
  have hcell : ∀ j, j < M → w.cell? ⟨b, off + i + j, none⟩ = some (.int .u8 ((c :: t).getD j 0 : Nat)) := by
    intro j hj
    have e : L[i + j]? = some ((c :: t).getD j 0) := by
      rw [← List.getElem?_drop, h1, List.getD_eq_getElem?_getD, List.getElem?_eq_getElem (by rw [hlen]; exact hj)]
      rfl
    have := hT (i + j) _ e
    rw [← Nat.add_assoc] at this
    exact this
  have := refNext_any M b (off + i) cp ((c :: t).getD 0 0) ((c :: t).getD 1 0) ((c :: t).getD 2 0) ((c :: t).getD 3 0) w (by omega) (hlt 0) (hlt 1) (hlt 2) (hlt 3) (fun h => hcell 0 h) (fun h => hcell 1 h) (fun h => hcell 2 h) (fun h => hcell 3 h)
  unfold Sc.nxL
  rw [hlen]
  exact this
theorem nxL_rng (l : List Nat) : -1 ≤ (Sc.nxL l).1 ∧ (Sc.nxL l).1 ≤ 1114111 := by
  unfold Sc.nxL nxN Lib.decodeN
  generalize l.getD 0 0 = b0, l.getD 1 0 = b1, l.getD 2 0 = b2, l.getD 3 0 = b3
  constructor
  · (repeat' split) <;> (dsimp only; omega)
  · (repeat' split) <;> (dsimp only at *; omega)
set_option maxHeartbeats 8000000 in
set_option maxRecDepth 100000 in
theorem rPlain (p op c : Nat) (t : List Nat) (h1 : L.drop p = c :: t) (hbk : Sc.brk c = false) (hbl : Sc.blk c = false) (hn : L.length = n) (hm : n ≤ 16384) (hc : n ≤ cap) (hcm : cap ≤ maxLen) (hL : ∀ x ∈ L, x < 256)
    (c0 : w.cell? ⟨a, 0, none⟩ = some (.slice (some ⟨b, off, none⟩) n cap)) (c1 : w.cell? ⟨a, 1, none⟩ = some (.int .i64 p)) (c3 : w.cell? ⟨a, 3, none⟩ = some (.int .i64 op)) (hT : Txt w b off L) (T : Nat) (hTT : p + Sc.plainN (decide (0 < op)) (Sc.rowL (c :: t)) = T) :
    Calls Try.prog 40 #[.pointer (some ⟨a, 0, none⟩)] w fun e w' => e = .returned (.int .i64 T) ∧ Below w.heap.size w w' := by
  have h2 := Sc.drop_lt h1
  have hrow : Sc.rowN (c :: t) ≠ 0 := by rw [(Sc.row_on c t hbk).2]; omega
  have hin := Sc.nx_in_row (c :: t) hrow
  have hrl := Sc.rowN_le (c :: t)
  obtain ⟨N, hN⟩ : ∃ N, (Sc.nxL (c :: t)).2 + Sc.goesN (decide (0 < op)) ((c :: t).getD ((Sc.nxL (c :: t)).2 - 1) 0) (Sc.rowL ((c :: t).drop (Sc.nxL (c :: t)).2)) = N := ⟨_, rfl⟩
  obtain ⟨hpl, hNr, hN1⟩ := Sc.plain_row (decide (0 < op)) (c :: t) hrow N hN
  rw [hpl] at hTT
  obtain ⟨E, hE⟩ : ∃ E, p + N = E := ⟨_, rfl⟩
  have hnx := fun W (hb : Below w.heap.size w W) => rNext (w := W) p c t (n - p) (cap - p) h1 hn hm hL rfl (hT.below hb)
  obtain ⟨r0, hr0⟩ : ∃ r0, (Sc.nxL (c :: t)).1 = r0 := ⟨_, rfl⟩
  obtain ⟨K0, hK0⟩ : ∃ K0, (Sc.nxL (c :: t)).2 = K0 := ⟨_, rfl⟩
  rw [hr0, hK0] at hnx
  rw [hK0] at hin hN
  obtain ⟨q0, hq0⟩ : ∃ q0, p + K0 = q0 + 1 := ⟨p + K0 - 1, by omega⟩
  have hlD : n = p + (c :: t).length := by simp; omega
  have hst : q0 + 1 + Sc.goesN (decide (0 < op)) (L.getD q0 0) (Sc.rowL (L.drop (q0 + 1))) = E := by
    have e1 : (c :: t).getD (K0 - 1) 0 = L.getD q0 0 := by
      rw [← h1, List.getD_eq_getElem?_getD, List.getD_eq_getElem?_getD, List.getElem?_drop, show p + (K0 - 1) = q0 by omega]
    have e2 : (c :: t).drop K0 = L.drop (q0 + 1) := by rw [← h1, List.drop_drop, hq0]
    rw [e1, e2] at hN
    omega
  have HNx := Lib.hid hnx
  have hsl0 := slice_at (b := b) (off := off) p (by omega) hc hcm hm
  obtain ⟨M0, hM0⟩ : ∃ M0, n - p = M0 := ⟨_, rfl⟩
  obtain ⟨C0, hC0⟩ : ∃ C0, cap - p = C0 := ⟨_, rfl⟩
  rw [hM0, hC0] at hsl0 HNx
  have e0 : (p : Int) + (K0 : Int) = (q0 : Int) + 1 := by omega
  have w0 : IntKind.i64.wrap ((q0 : Int) + 1) = (q0 : Int) + 1 := IntWalk.i64_in _ (by omega)
  have i0 : (p : Int) ≤ (n : Int) := by omega
  have hq0n : p ≤ q0 ∧ q0 + 1 ≤ n := by omega
  have hEn : p + 1 ≤ E ∧ E ≤ n := by simp at hrl hlD; omega
  have HSt := Lib.hid hst
  have HTT := Lib.hid hTT
  have HNr := Lib.hid hNr
  have HE := Lib.hid hE
  have H1 := Lib.hid h1
  have HN := Lib.hid hn
  have HL := Lib.hid hL
  have HTx := Lib.hid hT
  have HC := Lib.hid hc
  have HCM := Lib.hid hcm
  have HB := Lib.hid (fun k => below_drewN (Below.refl w.heap.size w) k)
  have HBl := Lib.hid hbl
  have HRl := Lib.hid hrl
  clear hnx hst hTT hNr hE h1 hn hL hT hc hcm hN hpl hin hrl hr0 hK0 hq0 hM0 hC0 hbk hbl hrow h2 hlD hN1
  go_enter Try.func40, Try.ntmps40
  go_wp2_with fail
  go_big_quiet (exact (HNx.out _ (HB.out _)).mono fun _ _ h => ⟨h.1, _, h.2.symm⟩)
  have hb := HB.out nq
  have c0 := at_below hb c0
  have c1 := at_below hb c1
  have c3 := at_below hb c3
  generalize w.drewN nq = W at *
  have HTw := Lib.hid (HTx.out.below hb)
  have HBw := Lib.hid hb
  clear hb HB HNx HTx hsl0
  go_upto_block 0 with fail
  go_cut [5] (fun q wx => q = .int .i64 E ∧ W = wx)
  case first =>
    go_wp2_with fail
    go_loopw [5] (fun is wr => ∃ q : Nat, is = .int .i64 ((q : Int) + 1) ∧ p ≤ q ∧ q + 1 ≤ n ∧ Hid (q + 1 + Sc.goesN (decide (0 < op)) (L.getD q 0) (Sc.rowL (L.drop (q + 1))) = E) ∧ W = wr) (fun is _ => n + 1 - (intOf is).toNat)
    case atStart => exact ⟨q0, rfl, hq0n.1, hq0n.2, HSt, rfl⟩
    case round =>
      obtain ⟨q, rfl, hq1, hq2, HQ, rfl⟩ := hrel
      clear e0 w0
      rcases drop_cases L (q + 1) with ⟨h1, h2⟩ | ⟨x, u, h1, h2, h3⟩
      · have i2 : ¬ ((q : Int) + 1 < (n : Int)) := by have := HN.out; omega
        have HEq := Lib.hid (show E = q + 1 by have := HQ.out; rw [h1, show Sc.rowL [] = [] from rfl, show Sc.goesN (decide (0 < op)) (L.getD q 0) [] = 0 from rfl] at this; omega)
        clear h1 h2 HQ
        go_wp2_with fail
        go_meet
        exact ⟨by rw [HEq.out]; rfl, rfl⟩
      · have hqn : q + 1 < n := by have := HN.out; omega
        have i2 : (q : Int) + 1 < (n : Int) := by omega
        obtain ⟨y, hy⟩ : ∃ y, L[q]? = some y := ⟨_, List.getElem?_eq_getElem (by have := HN.out; omega)⟩
        have hyD : L.getD q 0 = y := by rw [List.getD_eq_getElem?_getD, hy]; rfl
        have dx : W.cell? ⟨b, off + (q + 1), none⟩ = some (.int .u8 x) := HTw.out.at_ h1
        have dy := HTw.out q y hy
        obtain ⟨M, hM⟩ : ∃ M, n - (q + 1) = M := ⟨_, rfl⟩
        obtain ⟨C, hC⟩ : ∃ C, cap - (q + 1) = C := ⟨_, rfl⟩
        have hsl := slice_at (b := b) (off := off) (q + 1) hqn HC.out HCM.out hm
        have hnx := rNext (w := W) (q + 1) x u M C h1 HN.out hm HL.out hM HTw.out
        have hB := brk_at_ (cap := cap) (q + 1) x u HN.out (by omega) HTw.out h1
        have hcol := rColon (a := a) (cap := cap) (q + 1) op x u h1 HN.out hm c0 c3 HTw.out
        rw [hM, hC, show ((q + 1 : Nat) : Int) = (q : Int) + 1 from by omega] at hsl
        rw [show ((q + 1 : Nat) : Int) = (q : Int) + 1 from by omega] at hB hcol
        have hz := brkS_zero x u
        have hrng := nxL_rng (x :: u)
        have hstp := Sc.goes_row_stop (decide (0 < op)) y (x :: u)
        have hgo := Sc.goes_row_on (decide (0 < op)) y (x :: u)
        rw [show Sc.stopT (decide (0 < op)) (Sc.blk y) (x :: u) = (decide ((Sc.nxL (x :: u)).1 < 0) || Sc.brk x || Sc.colT (decide (0 < op)) (x :: u) || (x == 35 && Sc.blk y) || (decide (0 < op) && Sc.flo x)) from rfl] at hstp hgo
        have hrow := Sc.rowN_le (x :: u)
        have hQ := HQ.out
        rw [hyD, h1] at hQ
        obtain ⟨r, hr⟩ : ∃ r, (Sc.nxL (x :: u)).1 = r := ⟨_, rfl⟩
        obtain ⟨K, hK⟩ : ∃ K, (Sc.nxL (x :: u)).2 = K := ⟨_, rfl⟩
        obtain ⟨Z, hZ⟩ : ∃ Z, Sc.brkS (x :: u) = Z := ⟨_, rfl⟩
        obtain ⟨Co, hCo⟩ : ∃ Co, Sc.colT (decide (0 < op)) (x :: u) = Co := ⟨_, rfl⟩
        obtain ⟨By, hBy⟩ : ∃ By, Sc.blk y = By := ⟨_, rfl⟩
        obtain ⟨Fx, hFx⟩ : ∃ Fx, Sc.flo x = Fx := ⟨_, rfl⟩
        obtain ⟨Kx, hKx⟩ : ∃ Kx, Sc.brk x = Kx := ⟨_, rfl⟩
        have hbl := refBlank y W
        have hfl := refFlow x W
        rw [hr, hK] at hnx hgo
        rw [hr] at hrng hstp
        rw [hCo] at hcol hstp hgo
        rw [hKx] at hstp hgo hz
        rw [hBy] at hstp hgo hbl
        rw [hFx] at hstp hgo hfl
        rw [hZ] at hB hz
        obtain ⟨S, hS⟩ : ∃ S, (decide (r < 0) || Kx || Co || (x == 35 && By) || (decide (0 < op) && Fx)) = S := ⟨_, rfl⟩
        rw [hS] at hstp hgo
        have HSx := Lib.hid hS
        have HStp := Lib.hid (fun h : S = true => show E = q + 1 by rw [hstp h] at hQ; omega)
        have HGo := Lib.hid (fun h : S = false => show 1 ≤ K ∧ q + 1 + K ≤ n ∧ q + K + 1 + Sc.goesN (decide (0 < op)) (L.getD (q + K) 0) (Sc.rowL (L.drop (q + K + 1))) = E by
          obtain ⟨g1, g2, g3⟩ := hgo h
          have hl : n = q + 1 + (x :: u).length := by have := HN.out; simp; omega
          have e1 : (x :: u).getD (K - 1) 0 = L.getD (q + K) 0 := by
            rw [← h1, List.getD_eq_getElem?_getD, List.getD_eq_getElem?_getD, List.getElem?_drop, show q + 1 + (K - 1) = q + K by omega]
          have e2 : (x :: u).drop K = L.drop (q + K + 1) := by rw [← h1, List.drop_drop, show q + 1 + K = q + K + 1 by omega]
          rw [g1, e1, e2] at hQ
          exact ⟨g2, by omega, by omega⟩)
        have HSl := Lib.hid hsl
        have HNx := Lib.hid hnx
        have HBk := Lib.hid hB
        have HCl := Lib.hid hcol
        have HBl2 := Lib.hid hbl
        have HFl := Lib.hid hfl
        have gZ : decide (0 < Z) = Kx := by
          cases hb : Kx with
          | true => exact decide_eq_true (by have := mt hz.1 (by rw [hb]; simp); omega)
          | false => exact decide_eq_false (by have := hz.2 hb; omega)
        have HZ := Lib.hid gZ
        clear h1 h2 h3 hy hyD hM hC hnx hB hcol hz hstp hgo hrow hQ HQ hr hK hZ hCo hBy hFx hKx hbl hfl hS gZ hsl
        have hsl := HSl.out
        go_wp2_with fail
        refine HNx.out.mono ?_
        rintro e w1 ⟨rfl, rfl⟩
        clear hsl HNx
        go_upto_region 5 with fail
        go_cut [97] (fun s wx => s = .bool S ∧ W = wx)
        case first =>
          by_cases q1 : r < 0
          · have HE2 := Lib.hid (show S = true by rw [← HSx.out, decide_eq_true q1]; simp)
            clear hrng
            go_wp2_with fail
            go_meet
            exact ⟨by rw [HE2.out], rfl⟩
          · have g1 : ¬ (r < 0) := q1
            cases Kx with
            | true =>
              have gz : (0 : Int) < (Z : Int) := by have := of_decide_eq_true HZ.out; omega
              have HE2 := Lib.hid (show S = true by rw [← HSx.out]; simp)
              clear hrng q1
              go_wp2_with fail
              refine HBk.out.mono ?_
              rintro e w1 ⟨rfl, rfl⟩
              go_wp2_with fail
              go_meet
              exact ⟨by rw [HE2.out], rfl⟩
            | false =>
              obtain rfl : Z = 0 := by have := of_decide_eq_false HZ.out; omega
              cases Co with
              | true =>
                have HE2 := Lib.hid (show S = true by rw [← HSx.out]; simp)
                clear hrng q1
                go_wp2_with fail
                refine HBk.out.mono ?_
                rintro e w1 ⟨rfl, rfl⟩
                go_wp2_with fail
                refine HCl.out.mono ?_
                rintro e w1 ⟨rfl, rfl⟩
                go_wp2_with fail
                go_meet
                exact ⟨by rw [HE2.out], rfl⟩
              | false =>
                by_cases q2 : x = 35
                · have g2 : ((x : Int) == 35) = true := by simp; omega
                  cases By with
                  | true =>
                    have HE2 := Lib.hid (show S = true by rw [← HSx.out, q2]; simp)
                    clear hrng q1 q2
                    go_wp2_with fail
                    refine HBk.out.mono ?_
                    rintro e w1 ⟨rfl, rfl⟩
                    go_wp2_with fail
                    refine HCl.out.mono ?_
                    rintro e w1 ⟨rfl, rfl⟩
                    go_wp2_with fail
                    refine HBl2.out.mono ?_
                    rintro e w1 ⟨rfl, rfl⟩
                    go_wp2_with fail
                    go_meet
                    exact ⟨by rw [HE2.out], rfl⟩
                  | false =>
                    by_cases q3 : 0 < op
                    · have g3 : (0 : Int) < (op : Int) := by omega
                      have HE2 := Lib.hid (show S = Fx by rw [← HSx.out, decide_eq_true q3, decide_eq_false q1]; simp)
                      clear hrng q1 q2 q3
                      go_wp2_with fail
                      refine HBk.out.mono ?_
                      rintro e w1 ⟨rfl, rfl⟩
                      go_wp2_with fail
                      refine HCl.out.mono ?_
                      rintro e w1 ⟨rfl, rfl⟩
                      go_wp2_with fail
                      refine HBl2.out.mono ?_
                      rintro e w1 ⟨rfl, rfl⟩
                      go_wp2_with fail
                      refine HFl.out.mono ?_
                      rintro e w1 ⟨rfl, rfl⟩
                      go_wp2_with fail
                      go_meet
                      exact ⟨by rw [HE2.out], rfl⟩
                    · obtain rfl : op = 0 := by omega
                      have HE2 := Lib.hid (show S = false by rw [← HSx.out, decide_eq_false q1]; simp)
                      clear hrng q1 q2 q3
                      go_wp2_with fail
                      refine HBk.out.mono ?_
                      rintro e w1 ⟨rfl, rfl⟩
                      go_wp2_with fail
                      refine HCl.out.mono ?_
                      rintro e w1 ⟨rfl, rfl⟩
                      go_wp2_with fail
                      refine HBl2.out.mono ?_
                      rintro e w1 ⟨rfl, rfl⟩
                      go_wp2_with fail
                      go_meet
                      exact ⟨by rw [HE2.out], rfl⟩
                · have g2 : ((x : Int) == 35) = false := by simp; omega
                  have g2' : (x == 35) = false := by simp; omega
                  by_cases q3 : 0 < op
                  · have g3 : (0 : Int) < (op : Int) := by omega
                    have HE2 := Lib.hid (show S = Fx by rw [← HSx.out, decide_eq_true q3, decide_eq_false q1, g2']; simp)
                    clear hrng q1 q2 q3 g2'
                    go_wp2_with fail
                    refine HBk.out.mono ?_
                    rintro e w1 ⟨rfl, rfl⟩
                    go_wp2_with fail
                    refine HCl.out.mono ?_
                    rintro e w1 ⟨rfl, rfl⟩
                    go_wp2_with fail
                    refine HFl.out.mono ?_
                    rintro e w1 ⟨rfl, rfl⟩
                    go_wp2_with fail
                    go_meet
                    exact ⟨by rw [HE2.out], rfl⟩
                  · obtain rfl : op = 0 := by omega
                    have HE2 := Lib.hid (show S = false by rw [← HSx.out, decide_eq_false q1, g2']; simp)
                    clear hrng q1 q2 q3 g2'
                    go_wp2_with fail
                    refine HBk.out.mono ?_
                    rintro e w1 ⟨rfl, rfl⟩
                    go_wp2_with fail
                    refine HCl.out.mono ?_
                    rintro e w1 ⟨rfl, rfl⟩
                    go_wp2_with fail
                    go_meet
                    exact ⟨by rw [HE2.out], rfl⟩
        case rest =>
          obtain ⟨rfl, rfl⟩ := hcut
          cases S with
          | true =>
            have HEq := Lib.hid (HStp.out rfl)
            go_wp2_with fail
            go_meet
            exact ⟨by rw [HEq.out]; rfl, rfl⟩
          | false =>
            obtain ⟨g1, g2, g3⟩ := HGo.out rfl
            have HR := Lib.hid g3
            obtain ⟨Q, hQ⟩ : ∃ Q, q + K = Q := ⟨_, rfl⟩
            rw [hQ] at HR
            have e1 : (q : Int) + 1 + (K : Int) = (Q : Int) + 1 := by omega
            have w1 : IntKind.i64.wrap ((Q : Int) + 1) = (Q : Int) + 1 := IntWalk.i64_in _ (by omega)
            have j1 : p ≤ Q ∧ Q + 1 ≤ n ∧ q < Q := by omega
            clear g1 g2 g3 hQ HGo HStp hrng dx dy
            go_wp2_with fail
            go_roundw
            case rel => exact ⟨Q, by go_num, j1.1, j1.2.1, HR, trivial⟩
            case measure => simp [intOf]; omega
  case rest =>
    obtain ⟨rfl, rfl⟩ := hcut
    obtain ⟨Q0, rfl⟩ : ∃ Q0, E = Q0 + 1 := ⟨E - 1, by omega⟩
    have htr : p + Sc.trim ((Sc.rowL (c :: t)).take (Q0 + 1 - p)) = T := by rw [show Q0 + 1 - p = N by have := HE.out; omega]; exact HTT.out
    have HTr := Lib.hid htr
    have hQ0 : p ≤ Q0 ∧ Q0 + 1 ≤ n := by omega
    have HEN := Lib.hid (show Q0 + 1 - p ≤ Sc.rowN (c :: t) by have := HE.out; have := HNr.out; omega)
    clear htr e0 w0 c3 HSt
    go_wp2_with fail
    go_loopw [5] (fun is wr => ∃ q : Nat, is = .int .i64 ((q : Int) + 1) ∧ p ≤ q ∧ q ≤ Q0 ∧ Hid (p + Sc.trim ((Sc.rowL (c :: t)).take (q + 1 - p)) = T) ∧ W = wr) (fun is _ => (intOf is).toNat)
    case atStart => exact ⟨Q0, rfl, hQ0.1, Nat.le_refl _, HTr, rfl⟩
    case round =>
      obtain ⟨q, rfl, hq1, hq2, HQ, rfl⟩ := hrel
      have hrl : (Sc.rowL (c :: t)).length = Sc.rowN (c :: t) := Sc.rowL_len _
      have hEN := HEN.out
      by_cases hqp : p < q
      · obtain ⟨m, rfl⟩ : ∃ m, q = m + 1 := ⟨q - 1, by omega⟩
        obtain ⟨z, hz⟩ : ∃ z, L[m + 1]? = some z := ⟨_, List.getElem?_eq_getElem (by have := HN.out; omega)⟩
        have dz := HTw.out (m + 1) z hz
        have hgd : (Sc.rowL (c :: t)).getD (m + 1 - p) 0 = z := by
          rw [Sc.getD_row _ _ (by omega), ← H1.out, List.getD_eq_getElem?_getD, List.getElem?_drop, show p + (m + 1 - p) = m + 1 by omega, hz]
          rfl
        have htt := Sc.trim_take (Sc.rowL (c :: t)) (m + 1 - p) (by omega)
        rw [hgd, show m + 1 - p + 1 = m + 1 + 1 - p by omega] at htt
        have hQ := HQ.out
        rw [htt] at hQ
        have hbz := refBlank z W
        have i2 : (p : Int) < (m : Int) + 1 := by omega
        have i3 : (m : Int) + 1 < (n : Int) := by omega
        obtain ⟨Bz, hBz⟩ : ∃ Bz, Sc.blk z = Bz := ⟨_, rfl⟩
        rw [hBz] at hbz hQ
        have HBz := Lib.hid hbz
        cases Bz with
        | true =>
          have HR := Lib.hid (show p + Sc.trim ((Sc.rowL (c :: t)).take (m + 1 - p)) = T by rw [if_pos rfl] at hQ; exact hQ)
          have j1 : p ≤ m := by omega
          clear hrl hEN hz hgd htt hQ hbz hBz HQ hqp
          go_wp2_with fail
          refine HBz.out.mono ?_
          rintro e w1 ⟨rfl, rfl⟩
          go_wp2_with fail
          go_roundw
          case rel => exact ⟨m, by go_num, j1, by omega, HR, trivial⟩
          case measure => simp [intOf]; omega
        | false =>
          have HR := Lib.hid (show T = m + 1 + 1 by rw [if_neg (by simp)] at hQ; omega)
          clear hrl hEN hz hgd htt hQ hbz hBz HQ hqp
          go_wp2_with fail
          refine HBz.out.mono ?_
          rintro e w1 ⟨rfl, rfl⟩
          go_wp2_with fail
          go_ret
          exact ⟨by rw [HR.out]; rfl, HBw.out⟩
      · obtain rfl : q = p := by omega
        have HR := Lib.hid (show T = q + 1 by
          have h := HQ.out
          rw [show q + 1 - q = 1 by omega, Sc.trim_one _ (by omega) (by
            rw [Sc.getD_row _ _ (by omega)]; exact HBl.out)] at h
          exact h.symm)
        clear hrl hEN HQ hqp
        go_wp2_with fail
        go_ret
        exact ⟨by rw [HR.out]; rfl, HBw.out⟩
end Go.Proofs.Ytmlpaafclobgcaa
