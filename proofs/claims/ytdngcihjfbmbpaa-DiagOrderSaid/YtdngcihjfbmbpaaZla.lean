/- correctorlaw14's small functions: within, known, has; correctorlaw12.Diags. -/
import Derived.Test.YtdngcihjfbmbpaaZkl
import Derived.Test.YtdngcihjfbmbpaaZow
import Derived.Deep.DeepCutAuto
import Derived.Deep.CutBlock
import Derived.LoopTactic
import Derived.BigQuiet
import Derived.Deep.QuietTactic
namespace Go.Proofs.Ytdngcihjfbmbpaa.Zm
open Go.RowKit
open Go.Proofs.Ytdngcihjfbmbpaa.Sq
open Go.Proofs.Ytdngcihjfbmbpaa.Zd
set_option linter.unusedVariables false

/-- A number brought within n. -/
def wit (x n : Int) : Int := if x.tmod n < 0 then x.tmod n + n else x.tmod n
theorem wit_bd (x n : Int) (h : 0 < n) : 0 ≤ wit x n ∧ wit x n < n := by
  have h1 := Int.tmod_lt_of_pos x h
  have h2 : -n < x.tmod n := by
    have := Int.tmod_lt_of_pos (-x) h
    rw [Int.neg_tmod] at this
    omega
  unfold wit
  split <;> omega
set_option maxHeartbeats 400000 in
theorem within_any (x n : Int) (w : World) (h1 : 1 ≤ n) (h2 : n ≤ 100000) :
    Calls Try.prog 12 #[.int .i64 x, .int .i64 n] w fun e w' => e = .returned (.int .i64 (wit x n)) ∧ w = w' := by
  have hb1 := Int.tmod_lt_of_pos x (show 0 < n by omega)
  have hb2 : -n < x.tmod n := by
    have := Int.tmod_lt_of_pos (-x) (show 0 < n by omega)
    rw [Int.neg_tmod] at this
    omega
  have hz : (n == 0) = false := by simp; omega
  have hn1 : n ≠ 0 := by omega
  unfold wit
  by_cases hc : x.tmod n < 0
  · rw [if_pos hc]
    go_enter Try.func12, Try.ntmps12
    go_wp2
    go_ret
    exact ⟨rfl, rfl⟩
  · rw [if_neg hc]
    go_enter Try.func12, Try.ntmps12
    go_wp2
    go_ret
    exact ⟨rfl, rfl⟩
theorem text_0 (w : World) : Calls Try.prog 11 #[.int .i64 0] w fun e w' => e = .returned (.string ⟨#[119, 104, 97, 116]⟩) ∧ w = w' := by
  go_enter Try.func11, Try.ntmps11
  go_wp2
  go_ret
  exact ⟨rfl, rfl⟩
theorem text_1 (w : World) : Calls Try.prog 11 #[.int .i64 1] w fun e w' => e = .returned (.string ⟨#[98, 121, 116, 101]⟩) ∧ w = w' := by
  go_enter Try.func11, Try.ntmps11
  go_wp2
  go_ret
  exact ⟨rfl, rfl⟩
theorem known14 (w : World) : Calls Try.prog 5 #[] w fun e w' => e = .returned (.bool true) ∧ w = w' := by
  go_enter Try.func5, Try.ntmps5
  go_wp2_with fail
  refine (text_0 w).mono ?_
  rintro e w1 ⟨rfl, rfl⟩
  go_wp2_with fail
  refine (text_1 w).mono ?_
  rintro e w1 ⟨rfl, rfl⟩
  go_wp2
  go_ret
  exact ⟨rfl, rfl⟩
theorem neq_same (x : Dg) (w : World) : (binOp .neq 28 (.agg #[.int .i64 x.code, .int .i64 x.f, .int .i64 x.t]) (.agg #[.int .i64 x.code, .int .i64 x.f, .int .i64 x.t])).run Try.prog w = .ok (.bool false) w := by
  rw [neq_diag]; simp
set_option maxHeartbeats 4000000 in
set_option maxRecDepth 100000 in
theorem diagsP (va vb : Value) (D : List Dg) (w : World) (ha : Reads encZ w va D) (hb : Reads encZ w vb D) :
    Calls Try.prog 7 #[va, vb] w fun e w' => e = .returned (.bool true) ∧ Below w.heap.size w w' := by
  obtain ⟨a, ca, rfl⟩ := ha.shape
  obtain ⟨b, cb, rfl⟩ := hb.shape
  have hl := ha.size_le
  obtain ⟨n, hn⟩ : ∃ n, D.length = n := ⟨_, rfl⟩
  have HX := Lib.hid (fun W (hW : Below w.heap.size w W) j x hx => diag_cells (ha.below hW) j x hx)
  have HY := Lib.hid (fun W (hW : Below w.heap.size w W) j x hx => diag_cells (hb.below hW) j x hx)
  have HQ := Lib.hid (fun w' => show Below w.heap.size w w' → (fun e (w' : World) => e = Ending.returned (.bool true) ∧ Below w.heap.size w w') (.returned (.bool true)) w' from fun h => ⟨rfl, h⟩)
  obtain ⟨Q, hQ⟩ : ∃ Q, (fun e (w' : World) => e = Ending.returned (.bool true) ∧ Below w.heap.size w w') = Q := ⟨_, rfl⟩
  rw [hQ] at HQ ⊢
  rw [hn] at hl ⊢
  have hl2 : n ≤ 9223372036854775807 := Nat.le_trans hl (by decide)
  have HN := Lib.hid hn
  have hg := guard_diag
  clear ha hb hn hQ hl
  go_enter Try.func7, Try.ntmps7
  go_wp2_with fail
  go_loopw [5] (fun iv wr => ∃ i : Nat, iv = .int .i64 i ∧ i ≤ n ∧ Below w.heap.size w wr) (fun iv _ => n - (intOf iv).toNat)
  case atStart => exact ⟨0, rfl, Nat.zero_le _, Below.refl _ _⟩
  case round =>
    obtain ⟨i, rfl, hin, hb⟩ := hrel
    by_cases hlt : i < n
    · obtain ⟨x, hx⟩ : ∃ x, D[i]? = some x := ⟨_, List.getElem?_eq_getElem (by rw [HN.out]; exact hlt)⟩
      obtain ⟨b, off, rfl, x0, x1, x2⟩ := HX.out wr hb i x hx
      obtain ⟨b', off', rfl, y0, y1, y2⟩ := HY.out wr hb i x hx
      have hii : (i : Int) < (n : Int) := by omega
      have he := neq_same x
      have HBq := Lib.hid hb
      clear hx hb
      go_wp2_with fail
      go_quiet (fail)
      have HBn := Lib.hid (below_drewN HBq.out nq)
      clear x0 x1 x2 y0 y1 y2 he
      generalize World.drewN _ nq = wn at *
      go_wp2_with fail
      go_roundw
      case rel => exact ⟨i + 1, by go_num, by omega, HBn.out⟩
      case measure => simp [intOf]; omega
    · have hii : ¬ ((i : Int) < (n : Int)) := by omega
      have HD := Lib.hid (HQ.out _ hb)
      clear hb
      go_wp2_with fail
      try simp only [Exit.jump]
      exact HD.out

set_option maxHeartbeats 4000000 in
set_option maxRecDepth 100000 in
theorem has_any (v : Value) (l : List Dg) (d : Dg) (w : World) (h : Reads encZ w v l) (hd : d ∈ l) :
    Calls Try.prog 10 #[v, .agg #[.int .i64 d.code, .int .i64 d.f, .int .i64 d.t]] w fun e w' => e = .returned (.bool true) ∧ Below w.heap.size w w' := by
  obtain ⟨a, ca, rfl⟩ := h.shape
  have hl := h.size_le
  obtain ⟨n, hn⟩ : ∃ n, l.length = n := ⟨_, rfl⟩
  have HX := Lib.hid (fun W (hW : Below w.heap.size w W) j x hx => diag_cells (h.below hW) j x hx)
  obtain ⟨dc, df, dt⟩ := d
  rw [hn] at hl ⊢
  have hl2 : n ≤ 9223372036854775807 := Nat.le_trans hl (by decide)
  have HN := Lib.hid hn
  have HM := Lib.hid hd
  have hg := guard_diag
  obtain ⟨w1, hw1⟩ : ∃ w1, w.alloc (.cells #[.int .i64 dc, .int .i64 df, .int .i64 dt] 28) = w1 := ⟨_, rfl⟩
  have hbx := box_new w dc df dt
  rw [show w.alloc (box dc df dt) = w1 from hw1] at hbx
  have hb1 : Below w.heap.size w w1 := hw1 ▸ below_alloc w _
  have HBx := Lib.hid hbx
  have HB1 := Lib.hid hb1
  have hs1 : w1.heap.size = w.heap.size + 1 := by rw [← hw1]; exact size_alloc w _
  have HS1 := Lib.hid hs1
  have HW1 := Lib.hid hw1
  clear h hn hl hd hbx hb1 hs1 hw1
  go_enter Try.func10, Try.ntmps10
  go_wp2_with fail
  rw [HW1.out]
  clear HW1
  go_loopw [5] (fun iv wr => ∃ i : Nat, iv = .int .i64 i ∧ i ≤ n ∧ Hid (∀ j x, j < i → l[j]? = some x → x ≠ ⟨dc, df, dt⟩) ∧ Hid (Below w1.heap.size w1 wr)) (fun iv _ => n - (intOf iv).toNat)
  case atStart => exact ⟨0, rfl, Nat.zero_le _, Lib.hid (fun j x hj => absurd hj (Nat.not_lt_zero j)), Lib.hid (Below.refl _ _)⟩
  case round =>
    obtain ⟨i, rfl, hin, HA, HB⟩ := hrel
    have hlt : i < n := by
      obtain ⟨j, hj⟩ := List.getElem?_of_mem HM.out
      have hjl := (List.getElem?_eq_some_iff.1 hj).1
      rw [HN.out] at hjl
      rcases Nat.lt_or_ge j i with h2 | h2
      · exact absurd rfl (HA.out j _ h2 hj)
      · omega
    obtain ⟨x, hx⟩ : ∃ x, l[i]? = some x := ⟨_, List.getElem?_eq_getElem (by rw [HN.out]; exact hlt)⟩
    obtain ⟨b, off, rfl, x0, x1, x2⟩ := HX.out wr (HB1.out.trans (HB.out.mono (by rw [HS1.out]; omega))) i x hx
    have HXi := Lib.hid hx
    obtain ⟨xc, xf, xt⟩ := x
    have y0 := at_below HB.out HBx.out.1
    have y1 := at_below HB.out HBx.out.2.1
    have y2 := at_below HB.out HBx.out.2.2
    have hii : (i : Int) < (n : Int) := by omega
    clear hx
    dsimp only at x0 x1 x2
    by_cases he : xc = dc ∧ xf = df ∧ xt = dt
    · obtain ⟨rfl, rfl, rfl⟩ := he
      have heq : ∀ W : World, (binOp .eql 28 (.agg #[.int .i64 xc, .int .i64 xf, .int .i64 xt]) (.agg #[.int .i64 xc, .int .i64 xf, .int .i64 xt])).run Try.prog W = .ok (.bool true) W := fun W => by rw [eql_diag]; simp
      go_wp2_with fail
      go_big_quiet (fail)
      have HBn := Lib.hid (below_drewN HB.out nq)
      clear x0 x1 x2 y0 y1 y2 heq
      generalize World.drewN _ nq = wn at *
      go_wp2_with fail
      go_ret
      exact ⟨rfl, HB1.out.trans (HBn.out.mono (by rw [HS1.out]; omega))⟩
    · have hne : ((xc == dc) && (xf == df) && (xt == dt)) = false := by
        rw [Bool.eq_false_iff]
        intro h2
        simp only [Bool.and_eq_true, beq_iff_eq] at h2
        exact he ⟨h2.1.1, h2.1.2, h2.2⟩
      have heq : ∀ W : World, (binOp .eql 28 (.agg #[.int .i64 xc, .int .i64 xf, .int .i64 xt]) (.agg #[.int .i64 dc, .int .i64 df, .int .i64 dt])).run Try.prog W = .ok (.bool false) W := fun W => by rw [eql_diag, hne]
      have HA2 := Lib.hid (show ∀ j x, j < i + 1 → l[j]? = some x → x ≠ (⟨dc, df, dt⟩ : Dg) from fun j x hj hx => by
        rcases Nat.lt_or_ge j i with h2 | h2
        · exact HA.out j x h2 hx
        · obtain rfl : j = i := by omega
          rw [HXi.out] at hx
          rintro rfl
          injection hx with hx
          injection hx with h1 h2 h3
          exact he ⟨h1, h2, h3⟩)
      clear hne he
      go_wp2_with fail
      go_big_quiet (fail)
      have HBn := Lib.hid (below_drewN HB.out nq)
      clear x0 x1 x2 y0 y1 y2 heq
      generalize World.drewN _ nq = wn at *
      go_wp2_with fail
      go_roundw
      case rel => exact ⟨i + 1, by go_num, by omega, HA2, HBn⟩
      case measure => simp [intOf]; omega
end Go.Proofs.Ytdngcihjfbmbpaa.Zm
