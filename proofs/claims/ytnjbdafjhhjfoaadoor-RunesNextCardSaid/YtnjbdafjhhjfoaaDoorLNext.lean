/- The walk of correctorlaw1.RunesNext: the first sign of any bytes is the chapter's; any sign is read as it was written, whatever stands behind. -/
import Derived.Test.YtnjbdafjhhjfoaaDoorRef4
namespace Go.Proofs.YtnjbdafjhhjfoaaDoor
open Go.RowKit
open Go.Proofs.YtnjbdafjhhjfoaaDoor.Sg

/-- runes.Next and the chapter's own Next, at whatever slice. -/
theorem runesNextB (v : Value) (s : ByteArray) (w : World) (h : Bys w v s) (hT : Tabs w) :
    Calls Tryd.prog 10 #[v] w fun e w' => e = .returned (.tuple #[.int .i32 (nx s 0).1, .int .i64 (nx s 0).2]) ∧ Below w.heap.size w w' := by
  rcases h with ⟨rfl, hz⟩ | ⟨b, off, cap, rfl, h2, h3, h4⟩
  · have e : nx s 0 = (-1, 0) := by unfold nx; rw [hz]; exact nx_none _ _ _ _
    rw [e]
    exact (runesNext_nil w).mono fun e w' ⟨h1, h2⟩ => ⟨h1, by rw [h2]; exact Below.refl _ _⟩
  · exact runesNext s s.size b off cap w rfl hT h4
theorem refNextB (v : Value) (s : ByteArray) (w : World) (h : Bys w v s) :
    Calls Tryd.prog 11 #[v] w fun e w' => e = .returned (.tuple #[.int .i32 (nx s 0).1, .int .i64 (nx s 0).2]) ∧ w = w' := by
  rcases h with ⟨rfl, hz⟩ | ⟨b, off, cap, rfl, h2, h3, h4⟩
  · have e : nx s 0 = (-1, 0) := by unfold nx; rw [hz]; exact nx_none _ _ _ _
    rw [e]
    exact refNext_nil w
  · simp only [maxLen] at h3
    exact refNext s s.size b off cap w rfl (by omega) h4

theorem list_app (a b : ByteArray) : cellsOf a ++ cellsOf b = cellsOf (a ++ b) := by simp [cellsOf]

set_option maxHeartbeats 4000000 in
set_option maxRecDepth 100000 in
theorem walk_RunesNext (v0 : Value) (s0 : ByteArray) (r : Int) (v2 : Value) (s2 : ByteArray) (w : World) (h0 : Bys w v0 s0) (_hr : (Lit.int .i32 r).wf = true) (h2 : Bys w v2 s2) (hT : Tabs w) :
    Calls Tryd.prog 3 #[v0, .int .i32 r, v2] w fun e w' => e = .returned (.bool true) ∧ Below w.heap.size w w' := by
  have hm0 := h0.size_le
  have hm2 := h2.size_le
  simp only [maxLen] at hm0 hm2
  have HK := Lib.hid (known_true w hT)
  obtain ⟨a0, c0, rfl⟩ := h0.shape
  obtain ⟨a2, c2, rfl⟩ := h2.shape
  by_cases hbig : 20 < s0.size ∨ 20 < s2.size
  · have hbig' : (20 : Int) < (s0.size : Int) ∨ (20 : Int) < (s2.size : Int) := by omega
    clear hbig
    by_cases hb0 : (20 : Int) < (s0.size : Int)
    · clear h0 h2 hT hbig'
      go_enter Tryd.func3, Tryd.ntmps3
      go_wp2_with fail
      refine HK.out.mono ?_
      rintro e w1 ⟨rfl, hb⟩
      go_wp2
      go_ret
      exact ⟨rfl, hb⟩
    · have hb2 : (20 : Int) < (s2.size : Int) := by omega
      clear h0 h2 hT hbig'
      go_enter Tryd.func3, Tryd.ntmps3
      go_wp2_with fail
      refine HK.out.mono ?_
      rintro e w1 ⟨rfl, hb⟩
      go_wp2
      go_ret
      exact ⟨rfl, hb⟩
  · have hs0 : ¬ ((20 : Int) < (s0.size : Int)) := by omega
    have hs2 : ¬ ((20 : Int) < (s2.size : Int)) := by omega
    have hn1 : ((nx s0 0).1 != (nx s0 0).1) = false := by simp
    have hn2 : (((nx s0 0).2 : Int) != ((nx s0 0).2 : Int)) = false := by simp
    generalize hX : (nx s0 0).1 = X at hn1
    generalize hK : (nx s0 0).2 = K at hn2
    go_enter Tryd.func3, Tryd.ntmps3
    go_wp2_with fail
    refine HK.out.mono ?_
    rintro e w1 ⟨rfl, hb⟩
    have k0 := h0.below hb
    have k2 := h2.below hb
    have hT1 := hT.below hb
    clear hT h0 h2 HK
    have k0' : Bys (w1.alloc (.cells #[] 5)) (.slice a0 s0.size c0) s0 := k0.below ((Below.refl _ w1).alloc (Nat.le_refl _) _)
    go_wp2_with (at_builtin; go_must (refine wpList_append_bys rfl (.tmp 25) (.tmp 26) rfl w1.heap.size _ 0 [] rfl (own_empty w1) _ s0 rfl k0' (by omega) (by simp) ?_; intro v3 w2 hown2 hg2))
    rw [Nat.zero_add, List.nil_append] at hown2
    have hA : Below w1.heap.size w1 w2 := ((Below.refl _ w1).alloc (Nat.le_refl _) _).grown hg2 (by simp) (fun k hk => Nat.le_of_eq (Option.some.inj hk))
    have k02 := k0.below hA
    have k22 := k2.below hA
    have hT2 := hT1.below hA
    have hB2 : Below w.heap.size w w2 := hb.trans (hA.mono hb.size)
    clear k0 k0' k2 hT1 hg2 hA hb
    go_wp2_with fail
    refine (runesNextB v3 s0 w2 (Bys.of_own hown2) hT2).mono ?_
    rw [hX, hK]
    rintro e w3 ⟨rfl, hb3⟩
    have k03 := k02.below hb3
    have k23 := k22.below hb3
    have hT3 := hT2.below hb3
    have hB3 := hB2.trans (hb3.mono hB2.size)
    clear k02 k22 hT2 hb3 hB2 hown2
    go_wp2_with fail
    refine (refNextB _ s0 w3 k03).mono ?_
    rw [hX, hK]
    rintro e w4 ⟨rfl, rfl⟩
    clear k03 hX hK
    by_cases hv : Utf8.valid r = true
    · have hv' := hv
      simp only [Utf8.valid, Bool.or_eq_true, Bool.and_eq_true, decide_eq_true_eq] at hv'
      have q0 : 0 ≤ r := by omega
      have q1 : r ≤ 1114111 := by omega
      have q : r < 55296 ∨ 57343 < r := by omega
      have hnx := nx_enc r s2
      rw [sgn_valid hv, ← encode_size] at hnx
      have hes : (Utf8.encode r).size ≤ 4 := by rw [encode_size]; exact (encL_len _).2
      clear hv'
      rcases q with q | q
      all_goals
        go_wp2_with fail
        refine (refWrite r w3 hv).mono ?_
        rintro e w5 ⟨rfl, k5, hb5⟩
        have k25 := k23.below hb5
        have hT5 := hT3.below hb5
        have hB5 := hB3.trans (hb5.mono hB3.size)
        generalize Utf8.encode r = E at hnx hes k5
        have k5' : Bys (w5.alloc (.cells #[] 5)) (.slice (some ⟨w3.heap.size, 0, none⟩) E.size E.size) E := k5.below ((Below.refl _ w5).alloc (Nat.le_refl _) _)
        have HN := Lib.hid hnx
        clear k23 hT3 hb5 hB3 hnx hv
        have tok : True := trivial
        go_wp2_with (first | (at_builtin; have _t := tok; clear tok; go_must (refine wpList_append_bys rfl (.tmp 61) (.tmp 62) rfl w5.heap.size _ 0 [] rfl (own_empty w5) _ E rfl k5' (by omega) (by simp) ?_; intro v6 w6 hown6 hg6; rw [Nat.zero_add, List.nil_append] at hown6; have hA : Below w5.heap.size w5 w6 := ((Below.refl _ w5).alloc (Nat.le_refl _) _).grown hg6 (by simp) (fun k hk => Nat.le_of_eq (Option.some.inj hk)); have k26 := k25.below hA; clear k5' k5 hg6)) | (at_builtin; go_must (refine wpList_append_bys rfl (.tmp 63) (.tmp 64) rfl w5.heap.size v6 E.size (cellsOf E) rfl hown6 _ s2 rfl k26 (by omega) hA.size ?_; intro v7 w7 hown7 hg7)))
        have hA7 : Below w5.heap.size w5 w7 := hA.grown hg7 hA.size (fun k hk => (hown6.lt k hk).1)
        have hT7 := hT5.below hA7
        have hB7 := hB5.trans (hA7.mono hB5.size)
        rw [list_app, ← app_size] at hown7
        go_wp2_with fail
        refine (runesNextB v7 (E ++ s2) w7 (Bys.of_own hown7) hT7).mono ?_
        rw [HN.out]
        rintro e w8 ⟨rfl, hb8⟩
        clear hown7 hown6 hg7 hT7 k26 hA hA7 k25 hT5
        go_wp2
        go_ret
        exact ⟨by simp, hB7.trans (hb8.mono hB7.size)⟩
    · have hv' : r < 0 ∨ 1114111 < r ∨ (55296 ≤ r ∧ r ≤ 57343) := by
        simp only [Utf8.valid, Bool.or_eq_true, Bool.and_eq_true, decide_eq_true_eq] at hv
        omega
      by_cases q1 : r < 0
      · clear hv' hv
        go_wp2
        go_ret
        exact ⟨rfl, hB3⟩
      · by_cases q2 : 1114111 < r
        · clear hv' hv
          go_wp2
          go_ret
          exact ⟨rfl, hB3⟩
        · have q3 : 55296 ≤ r := by omega
          have q4 : r ≤ 57343 := by omega
          clear hv' hv
          go_wp2
          go_ret
          exact ⟨rfl, hB3⟩
end Go.Proofs.YtnjbdafjhhjfoaaDoor
