/- The statements' own small functions (correctorlaw2.known, within, Text): one contract a function. -/
import Derived.Test.YtfjlapkdfomclaaDoorBytes
import Derived.Test.YtfjlapkdfomclaaDoorRowArg
import Derived.Test.YtfjlapkdfomclaaDoorLnRun2
namespace Go.Proofs.YtfjlapkdfomclaaDoor
open Go.ChangeShapes Go.WideShapes Go.ChangeAt Go.RowKit
open Go.Proofs.YtfjlapkdfomclaaDoor.Sg

/-- A number brought within n. -/
def wit (x n : Int) : Int := if x.tmod n < 0 then x.tmod n + n else x.tmod n
theorem wit_bd (x n : Int) (h : 0 < n) : 0 ≤ wit x n ∧ wit x n < n := by
  have h1 := Int.tmod_lt_of_pos x h
  have h2 : -n < x.tmod n := by
    have := Int.tmod_lt_of_pos (-x) h
    rw [Int.neg_tmod] at this
    omega
  unfold wit
  split <;> omega
set_option maxHeartbeats 400000 in
theorem within_any (x n : Int) (w : World) (h1 : 1 ≤ n) (h2 : n ≤ 1000) :
    Calls Tryd.prog 15 #[.int .i64 x, .int .i64 n] w fun e w' => e = .returned (.int .i64 (wit x n)) ∧ w = w' := by
  have hb1 := Int.tmod_lt_of_pos x (show 0 < n by omega)
  have hb2 : -n < x.tmod n := by
    have := Int.tmod_lt_of_pos (-x) (show 0 < n by omega)
    rw [Int.neg_tmod] at this
    omega
  have hz : (n == 0) = false := by simp; omega
  have hn1 : n ≠ 0 := by omega
  unfold wit
  by_cases hc : x.tmod n < 0
  · rw [if_pos hc]
    go_enter Tryd.func15, Tryd.ntmps15
    go_wp2
    go_ret
    exact ⟨rfl, rfl⟩
  · rw [if_neg hc]
    go_enter Tryd.func15, Tryd.ntmps15
    go_wp2
    go_ret
    exact ⟨rfl, rfl⟩

set_option maxHeartbeats 600000 in
set_option maxRecDepth 100000 in
theorem known2_true (w : World) (hT : Tabs w) :
    Calls Tryd.prog 8 #[] w fun e w' => e = .returned (.bool true) ∧ Below w.heap.size w w' := by
  have hc : ∀ j, j < 2 → (w.alloc (.cells #[.int .u8 97, .int .u8 10] 5)).cell? ⟨w.heap.size, 0 + j, none⟩ = some (.int .u8 ((⟨#[97, 10]⟩ : ByteArray).get! j).toNat) := fun j hj => by
    match j, hj with
    | 0, _ => simp [World.cell?_alloc_mark]; rfl
    | 1, _ => simp [World.cell?_alloc_mark]; rfl
  have hb0 : Below w.heap.size w (w.alloc (.cells #[.int .u8 97, .int .u8 10] 5)) := (Below.refl _ w).alloc (Nat.le_refl _) _
  have hB : Bys (w.alloc (.cells #[.int .u8 97, .int .u8 10] 5)) (.slice (some ⟨w.heap.size, 0, none⟩) (⟨#[97, 10]⟩ : ByteArray).size 2) ⟨#[97, 10]⟩ :=
    .inr ⟨w.heap.size, 0, 2, rfl, Nat.le_refl _, by unfold maxLen; omega, hc⟩
  have hN := lnStarts ⟨#[97, 10]⟩ (some ⟨w.heap.size, 0, none⟩) 2 (w.alloc (.cells #[.int .u8 97, .int .u8 10] 5)) hB (hT.below hb0) (by decide)
  have e1 : st ⟨#[97, 10]⟩ = [0, 2] := by decide +kernel
  rw [e1] at hN
  have HN := Lib.hid hN
  clear hN e1 hc hT hB
  go_enter Tryd.func8, Tryd.ntmps8
  go_wp2_with fail
  refine HN.out.mono ?_
  rintro e w1 ⟨v1, rfl, hown, hb⟩
  obtain ⟨g, c1, rfl, hc1, hc2, hcell⟩ := own_open hown (by simp)
  have c0 := hcell 0 (by simp)
  have c1' := hcell 1 (by simp)
  have hbb := hb0.trans (hb.mono hb0.size)
  clear hcell hown hb hb0 HN
  rw [show ([0, 2] : List Nat).getD 0 0 = 0 from rfl] at c0
  rw [show ([0, 2] : List Nat).getD 1 0 = 2 from rfl] at c1'
  go_wp2
  go_ret
  exact ⟨by simp, hbb⟩

theorem Nums.shape {k : IntKind} {w : World} {v : Value} {l : List Int} (h : Nums k w v l) : ∃ a cap, v = .slice a l.length cap := by
  rcases h.1 with ⟨h1, h2⟩ | ⟨b, off, cap, h1, _⟩
  · exact ⟨none, 0, by rw [h1, h2]; rfl⟩
  · exact ⟨_, _, h1⟩
theorem Nums.below {k : IntKind} {w w' : World} {v : Value} {l : List Int} (h : Nums k w v l) (hb : Below w.heap.size w w') : Nums k w' v l := by
  refine ⟨?_, h.2⟩
  rcases h.1 with h1 | ⟨b, off, cap, h1, h2, h3, h4⟩
  · exact .inl h1
  · refine .inr ⟨b, off, cap, h1, h2, h3, fun j hj => ?_⟩
    have h5 := h4 j hj
    rw [hb.cell (p := ⟨b, off + j, none⟩) (lt_of_cell h5)]
    exact h5
theorem Nums.at_ {k : IntKind} {w : World} {a : Option Addr} {l : List Int} {cap j : Nat} (h : Nums k w (.slice a l.length cap) l) (hj : j < l.length) :
    ∃ b off, a = some ⟨b, off, none⟩ ∧ l.length ≤ cap ∧ cap ≤ maxLen ∧ w.cell? ⟨b, off + j, none⟩ = some (.int k (l.getD j 0)) := by
  rcases h.1 with ⟨_, hz⟩ | ⟨b, off, cap', hv, g2, g3, g4⟩
  · rw [hz] at hj; exact absurd hj (Nat.not_lt_zero _)
  · obtain ⟨rfl, -, rfl⟩ := Value.slice.inj hv
    exact ⟨b, off, rfl, g2, g3, g4 j hj⟩
theorem Bys.at_ {w : World} {a : Option Addr} {s : ByteArray} {cap j : Nat} (h : Bys w (.slice a s.size cap) s) (hj : j < s.size) :
    ∃ b off, a = some ⟨b, off, none⟩ ∧ s.size ≤ cap ∧ cap ≤ maxLen ∧ w.cell? ⟨b, off + j, none⟩ = some (.int .u8 (s.get! j).toNat) := by
  rcases h with ⟨hv, h0⟩ | ⟨b, off, cap', hv, g2, g3, g4⟩
  · omega
  · obtain ⟨rfl, -, rfl⟩ := Value.slice.inj hv
    exact ⟨b, off, rfl, g2, g3, g4 j hj⟩

set_option maxHeartbeats 1000000 in
set_option maxRecDepth 100000 in
theorem text_any (s : ByteArray) (a : Option Addr) (cap : Nat) (l : List Int) (a1 : Option Addr) (cap1 : Nat) (w : World) (h : Bys w (.slice a s.size cap) s) (h1 : Nums .i64 w (.slice a1 l.length cap1) l) :
    Calls Tryd.prog 9 #[.slice a s.size cap, .slice a1 l.length cap1] w fun e w' => ∃ v, e = .returned v ∧ ∃ t : ByteArray, w'.ownsRow w.heap.size 5 1 v t.size (cellsOf t) ∧ t.size ≤ 360 ∧ Below w.heap.size w w' := by
  have hm := h.size_le
  simp only [maxLen] at hm
  have hl1 : l.length ≤ 9223372036854775807 := by
    rcases h1.1 with ⟨_, hz⟩ | ⟨_, _, _, _, g2, g3, _⟩
    · rw [hz]; exact Nat.zero_le _
    · simp only [maxLen] at g3; omega
  have H0 := Lib.hid h
  have H1 := Lib.hid h1
  clear h h1
  go_enter Tryd.func9, Tryd.ntmps9
  go_wp2
  go_loopw [5, 6] (fun v i wr => ∃ (k : Nat) (t : ByteArray), i = .int .i64 k ∧ k ≤ s.size ∧ k ≤ 120 ∧ wr.ownsRow w.heap.size 5 1 v t.size (cellsOf t) ∧ t.size ≤ 3 * k ∧ Below w.heap.size w wr) (fun _ i _ => 120 - (intOf i).toNat)
  case atStart => exact ⟨0, ⟨#[]⟩, rfl, Nat.zero_le _, Nat.zero_le _, World.ownsRow_nil _ _ _ _, Nat.zero_le _, Below.refl _ w⟩
  case round =>
    obtain ⟨k, t, rfl, hk, hk2, hown, ht, hb⟩ := hrel
    by_cases hlt : k < s.size ∧ k < 120
    · obtain ⟨hlt1, hlt2⟩ := hlt
      obtain ⟨b, off, rfl, g2, g3, hc⟩ := H0.out.at_ hlt1
      simp only [maxLen] at g3
      have hi1 : (k : Int) < (s.size : Int) := by omega
      have hi2 : (k : Int) < 120 := by omega
      have hcu : cellsOf ⟨#[s.get! k]⟩ = [.int .u8 (s.get! k).toNat] := rfl
      have HU := Lib.hid hcu
      have hca : ∀ W, Below w.heap.size w W → W.cell? ⟨b, off + k, none⟩ = some (.int .u8 (s.get! k).toNat) := fun W hW => (hW.cell (p := ⟨b, off + k, none⟩) (lt_of_cell hc)).trans hc
      have HCA := Lib.hid hca
      clear hcu hca hc
      generalize s.get! k = X at *
      have hX256 := X.toNat_lt
      by_cases hkl : k < l.length
      · obtain ⟨b1, off1, rfl, q2, q3, hc1⟩ := (H1.out.below hb).at_ hkl
        simp only [maxLen] at q3
        have hi3 : (k : Int) < (l.length : Int) := by omega
        generalize l.getD k 0 = y at *
        have hwb := wit_bd y 6 (by omega)
        have HW := Lib.hid (within_any y 6 wr (by omega) (by omega))
        generalize wit y 6 = q at *
        by_cases c0 : q = 0
        · subst c0
          have tok : True := trivial
          go_wp2_with fail
          refine HW.out.mono ?_
          rintro e w1 ⟨rfl, rfl⟩
          go_wp2_with (first | (at_builtin; have _t := tok; clear tok; go_must (refine wpList_append_new rfl (.tmp 28) (.tmp 29) rfl w.heap.size _ t ⟨#[10]⟩ [.int .u8 10] 1 rfl hown rfl rfl rfl (by omega) w hb (Nat.le_refl _) ?_; intro v3 w3 hown3 hb3; have hc3 := HCA.out _ hb3; obtain ⟨t2, ht2, hown5⟩ : ∃ t2 : ByteArray, t2.size ≤ 3 * k + 2 ∧ w3.ownsRow w.heap.size 5 1 v3 t2.size (cellsOf t2) := ⟨_, by rw [app_size]; show t.size + 1 ≤ _; omega, hown3⟩; clear hown3)) | (at_builtin; go_must (refine wpList_append_new rfl (.tmp 41) (.tmp 46) rfl w.heap.size _ t2 ⟨#[X]⟩ [.int .u8 X.toNat] 1 rfl hown5 HU.out rfl rfl (by omega) w hb3 (Nat.le_refl _) ?_; intro v4 w4 hown4 hb4)))
          go_roundw
          case rel => exact ⟨k + 1, t2 ++ ⟨#[X]⟩, by go_num, by omega, by omega, hown4, by rw [app_size]; show _ + 1 ≤ _; omega, hb4⟩
          case measure => simp [intOf]; omega
        by_cases c1 : q = 1
        · subst c1
          have tok : True := trivial
          go_wp2_with fail
          refine HW.out.mono ?_
          rintro e w1 ⟨rfl, rfl⟩
          go_wp2_with (first | (at_builtin; have _t := tok; clear tok; go_must (refine wpList_append_new rfl (.tmp 33) (.tmp 34) rfl w.heap.size _ t ⟨#[13]⟩ [.int .u8 13] 1 rfl hown rfl rfl rfl (by omega) w hb (Nat.le_refl _) ?_; intro v3 w3 hown3 hb3; have hc3 := HCA.out _ hb3; obtain ⟨t2, ht2, hown5⟩ : ∃ t2 : ByteArray, t2.size ≤ 3 * k + 2 ∧ w3.ownsRow w.heap.size 5 1 v3 t2.size (cellsOf t2) := ⟨_, by rw [app_size]; show t.size + 1 ≤ _; omega, hown3⟩; clear hown3)) | (at_builtin; go_must (refine wpList_append_new rfl (.tmp 41) (.tmp 46) rfl w.heap.size _ t2 ⟨#[X]⟩ [.int .u8 X.toNat] 1 rfl hown5 HU.out rfl rfl (by omega) w hb3 (Nat.le_refl _) ?_; intro v4 w4 hown4 hb4)))
          go_roundw
          case rel => exact ⟨k + 1, t2 ++ ⟨#[X]⟩, by go_num, by omega, by omega, hown4, by rw [app_size]; show _ + 1 ≤ _; omega, hb4⟩
          case measure => simp [intOf]; omega
        by_cases c2 : q = 2
        · subst c2
          have tok : True := trivial
          go_wp2_with fail
          refine HW.out.mono ?_
          rintro e w1 ⟨rfl, rfl⟩
          go_wp2_with (first | (at_builtin; have _t := tok; clear tok; go_must (refine wpList_append_new rfl (.tmp 38) (.tmp 39) rfl w.heap.size _ t ⟨#[13, 10]⟩ [.int .u8 13, .int .u8 10] 2 rfl hown rfl rfl rfl (by omega) w hb (Nat.le_refl _) ?_; intro v3 w3 hown3 hb3; have hc3 := HCA.out _ hb3; obtain ⟨t2, ht2, hown5⟩ : ∃ t2 : ByteArray, t2.size ≤ 3 * k + 2 ∧ w3.ownsRow w.heap.size 5 1 v3 t2.size (cellsOf t2) := ⟨_, by rw [app_size]; show t.size + 2 ≤ _; omega, hown3⟩; clear hown3)) | (at_builtin; go_must (refine wpList_append_new rfl (.tmp 41) (.tmp 46) rfl w.heap.size _ t2 ⟨#[X]⟩ [.int .u8 X.toNat] 1 rfl hown5 HU.out rfl rfl (by omega) w hb3 (Nat.le_refl _) ?_; intro v4 w4 hown4 hb4)))
          go_roundw
          case rel => exact ⟨k + 1, t2 ++ ⟨#[X]⟩, by go_num, by omega, by omega, hown4, by rw [app_size]; show _ + 1 ≤ _; omega, hb4⟩
          case measure => simp [intOf]; omega
        have d0 : (q == 0) = false := by simp; omega
        have d1 : (q == 1) = false := by simp; omega
        have d2 : (q == 2) = false := by simp; omega
        clear c0 c1 c2
        go_wp2_with fail
        refine HW.out.mono ?_
        rintro e w1 ⟨rfl, rfl⟩
        have hc3 := HCA.out _ hb
        go_wp2_with (at_builtin; go_must (refine wpList_append_new rfl (.tmp 41) (.tmp 46) rfl w.heap.size _ t ⟨#[X]⟩ [.int .u8 X.toNat] 1 rfl hown HU.out rfl rfl (by omega) w hb (Nat.le_refl _) ?_; intro v4 w4 hown4 hb4))
        go_roundw
        case rel => exact ⟨k + 1, t ++ ⟨#[X]⟩, by go_num, by omega, by omega, hown4, by rw [app_size]; show _ + 1 ≤ _; omega, hb4⟩
        case measure => simp [intOf]; omega
      · have hi3 : ¬ ((k : Int) < (l.length : Int)) := by omega
        have hc3 := HCA.out _ hb
        go_wp2_with (at_builtin; go_must (refine wpList_append_new rfl (.tmp 41) (.tmp 46) rfl w.heap.size _ t ⟨#[X]⟩ [.int .u8 X.toNat] 1 rfl hown HU.out rfl rfl (by omega) w hb (Nat.le_refl _) ?_; intro v4 w4 hown4 hb4))
        go_roundw
        case rel => exact ⟨k + 1, t ++ ⟨#[X]⟩, by go_num, by omega, by omega, hown4, by rw [app_size]; show _ + 1 ≤ _; omega, hb4⟩
        case measure => simp [intOf]; omega
    · by_cases hlt1 : k < s.size
      · have hi1 : (k : Int) < (s.size : Int) := by omega
        have hi2 : ¬ ((k : Int) < 120) := by omega
        clear hlt
        go_wp2
        go_ret
        exact ⟨_, rfl, t, hown, by omega, hb⟩
      · have hi1 : ¬ ((k : Int) < (s.size : Int)) := by omega
        clear hlt
        go_wp2
        go_ret
        exact ⟨_, rfl, t, hown, by omega, hb⟩
end Go.Proofs.YtfjlapkdfomclaaDoor
