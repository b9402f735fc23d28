/- The walk of correctorlaw1.RunesText: of a text of the language's own signs none is bad, and there are as many as it ranges over. -/
import Derived.Test.YtnjbdafjhhjfoaaDoorConv
import Derived.Test.YtnjbdafjhhjfoaaDoorRowArg
namespace Go.Proofs.YtnjbdafjhhjfoaaDoor
open Go.RowKit
open Go.Proofs.YtnjbdafjhhjfoaaDoor.Sg

theorem conv_rune (n : Int) (w : World) : (convert 21 9 (.int .i32 n)).run Tryd.prog w = .ok (.string (Utf8.encode n)) w := by
  simp [convert, run_underlying Tryd.underlying21, run_underlying Tryd.underlying9, Conv.intToString]
theorem Nums.shape {k : IntKind} {w : World} {v : Value} {l : List Int} (h : Nums k w v l) : ∃ a cap, v = .slice a l.length cap := by
  rcases h.1 with ⟨h1, h2⟩ | ⟨b, off, cap, h1, _⟩
  · exact ⟨none, 0, by rw [h1, h2]; rfl⟩
  · exact ⟨_, _, h1⟩
theorem Nums.below {k : IntKind} {w w' : World} {v : Value} {l : List Int} (h : Nums k w v l) (hb : Below w.heap.size w w') : Nums k w' v l := by
  refine ⟨?_, h.2⟩
  rcases h.1 with h1 | ⟨b, off, cap, h1, h2, h3, h4⟩
  · exact .inl h1
  · refine .inr ⟨b, off, cap, h1, h2, h3, fun j hj => ?_⟩
    have h5 := h4 j hj
    rw [hb.cell (p := ⟨b, off + j, none⟩) (lt_of_cell h5)]
    exact h5
theorem take_succ (l : List Int) (k : Nat) (h : k < l.length) : text (l.take (k + 1)) = text (l.take k) ++ Utf8.encode (l.getD k 0) := by
  rw [List.take_succ_eq_append_getElem h, text_snoc, List.getD_eq_getElem?_getD, List.getElem?_eq_getElem h]
  rfl
theorem own_shape' {w : World} {base e size n : Nat} {v : Value} {xs : List Value} (h : w.ownsRow base e size v n xs) : ∃ a cap, v = .slice a n cap := by
  rcases h.2 with ⟨h1, h2⟩ | ⟨g, cap, cur, h1, _⟩
  · exact ⟨none, 0, by rw [h1, h2]⟩
  · exact ⟨_, _, h1⟩

set_option maxHeartbeats 4000000 in
set_option maxRecDepth 100000 in
theorem walk_RunesText (v : Value) (l : List Int) (w : World) (h : Nums .i32 w v l) (hT : Tabs w) :
    Calls Tryd.prog 6 #[v] w fun e w' => e = .returned (.bool true) ∧ Below w.heap.size w w' := by
  have HK := Lib.hid (known_true w hT)
  obtain ⟨a, cap, rfl⟩ := h.shape
  by_cases hbig : 50 < l.length
  · have hgt : (50 : Int) < (l.length : Int) := by omega
    clear hbig h hT
    go_enter Tryd.func6, Tryd.ntmps6
    go_wp2_with fail
    refine HK.out.mono ?_
    rintro e w1 ⟨rfl, hb⟩
    go_wp2
    go_ret
    exact ⟨rfl, hb⟩
  · have hle : ¬ ((50 : Int) < (l.length : Int)) := by omega
    have hlen : l.length ≤ 50 := by omega
    go_enter Tryd.func6, Tryd.ntmps6
    go_wp2_with fail
    refine HK.out.mono ?_
    rintro e w1 ⟨rfl, hb⟩
    have H1 := Lib.hid (h.below hb)
    have HT1 := Lib.hid (hT.below hb)
    clear h hT HK hbig
    go_wp2_with fail
    go_loop [3, 4] (fun s i => ∃ k : Nat, k ≤ l.length ∧ i = .int .i64 k ∧ s = .string (text (l.take k))) (fun _ i => l.length - (intOf i).toNat)
    case atStart => exact ⟨0, Nat.zero_le _, rfl, rfl⟩
    case round =>
      obtain ⟨k, hk, rfl, rfl⟩ := hrel
      have hts := (text_size (l.take k)).2
      rw [List.length_take] at hts
      by_cases hlt : k < l.length
      · have hin : (k : Int) < (l.length : Int) := by omega
        rcases H1.out.1 with ⟨_, hz⟩ | ⟨b, off, cap', hv, g2, g3, g4⟩
        · rw [hz] at hlt; exact absurd hlt (Nat.not_lt_zero _)
        · obtain ⟨rfl, rfl⟩ : a = some ⟨b, off, none⟩ ∧ cap = cap' := ⟨(Value.slice.inj hv).1, (Value.slice.inj hv).2.2⟩
          have hc := g4 k hlt
          have hsn := take_succ l k hlt
          have hes : (Utf8.encode (l.getD k 0)).size ≤ 4 := by rw [encode_size]; exact (encL_len _).2
          obtain ⟨x, hx⟩ : ∃ x, l.getD k 0 = x := ⟨_, rfl⟩
          rw [hx] at hc hsn hes
          have hcv := conv_rune x w1
          generalize hE : Utf8.encode x = E at hcv hsn hes
          have HS := Lib.hid hsn
          clear hsn hx hE g4 hv H1 HT1
          generalize text (l.take k) = X at *
          have hadd : X.size + E.size ≤ 9223372036854775807 := by omega
          go_wp2
          go_round
          case rel => exact ⟨k + 1, by omega, by go_num, by rw [HS.out]⟩
          case measure => simp [intOf]; omega
      · have hkk : k = l.length := by omega
        subst hkk
        have hge : ¬ ((l.length : Int) < (l.length : Int)) := by omega
        rw [List.take_length] at *
        have hta := text_alone l
        generalize text l = S at *
        go_wp2
        go_loopg [5] S.size (fun gf n wr => ∃ (pos acc : Nat), n = .int .i64 acc ∧ wr.heap[w1.heap.size]? = some (.stringIter S pos) ∧ Below w1.heap.size w1 wr ∧ acc + cntF S gf pos = cnt S ∧ S.size ≤ pos + gf ∧ acc ≤ pos ∧ pos ≤ S.size)
        case atStart => exact ⟨0, 0, rfl, World.iter_heap w1 S 0, (Below.refl _ w1).alloc (Nat.le_refl _) _, by simp [cnt], by omega, Nat.le_refl _, Nat.zero_le _⟩
        case round =>
          obtain ⟨pos, acc, rfl, hit, hbw, hc, hf, ha, hps⟩ := hrel
          by_cases hlt2 : pos < S.size
          · obtain ⟨g', rfl⟩ : ∃ g', gk = g' + 1 := ⟨gk - 1, by omega⟩
            have hnx : ∀ ty, (Instr.next (.pointer (some ⟨w1.heap.size, 0, none⟩)) true ty).run Tryd.prog wr = _ := fun ty => Lib.run_next_any_at wr w1.heap.size S pos ty hit hlt2
            have hwd := nx_pos S pos hlt2
            have hwn := nx_le S pos hlt2
            rw [cntF_step S g' pos hlt2] at hc
            rw [← nx_width S pos hlt2] at hnx
            obtain ⟨K, hK⟩ : ∃ K, (nx S pos).2 = K := ⟨_, rfl⟩
            obtain ⟨R, hR⟩ : ∃ R, (Utf8.decode S pos).1 = R := ⟨_, rfl⟩
            rw [hK, hR] at hnx
            rw [hK] at hwd hwn hc
            have hit2 := Lib.iterAt_heap wr w1.heap.size S pos (pos + K) hit
            have hb2 := Lib.below_iterAt hbw (k := w1.heap.size) (Nat.le_refl _) S (pos + K)
            obtain ⟨W, hWd⟩ : ∃ W, wr.iterAt w1.heap.size S (pos + K) = W := ⟨_, rfl⟩
            rw [hWd] at hnx hit2 hb2
            have HC := Lib.hid hc
            have HA := Lib.hid hta
            clear hK hR hWd hit hbw hc hta H1 HT1
            go_wp2
            go_roundg g'
            case measure => omega
            case rel => exact ⟨pos + K, acc + 1, by go_num, hit2, hb2, by have := HC.out; omega, by omega, by omega, hwn⟩
          · have hnx : ∀ ty, (Instr.next (.pointer (some ⟨w1.heap.size, 0, none⟩)) true ty).run Tryd.prog wr = _ := fun ty => Lib.run_next_end_at wr w1.heap.size S pos ty hit hlt2
            rw [cntF_end S gk pos hlt2, Nat.add_zero] at hc
            have hT3 := HT1.out.below hbw
            obtain ⟨c4, w4, hcv4, hr4, hb4⟩ := conv_str S wr (by simp only [maxLen]; omega)
            have HC := Lib.hid hc
            have HA := Lib.hid hta
            clear hc hta H1 HT1
            go_wp2_with fail
            refine (runesBad S _ w4 hr4.bys (hT3.below hb4) (by omega)).mono ?_
            rw [HA.out.1]
            rintro e w5 ⟨v5, rfl, hown5, hb5⟩
            obtain ⟨a5, c5, rfl⟩ := own_shape' hown5
            have hB4 := hbw.trans (hb4.mono hbw.size)
            have hB5 := hB4.trans (hb5.mono hB4.size)
            obtain ⟨c6, w6, hcv6, hr6, hb6⟩ := conv_str S w5 (by simp only [maxLen]; omega)
            have hB6 := hB5.trans (hb6.mono hB5.size)
            clear hown5 hb5 hr4 hb4 hT3 hcv4 hnx hit
            go_wp2_with fail
            refine (runesCount S _ w6 hr6.bys).mono ?_
            rw [← HC.out]
            rintro e w7 ⟨rfl, hb7⟩
            have hB7 := hB6.trans (hb7.mono hB6.size)
            clear hcv6 hr6 hb6 hb7 HA HC
            go_wp2
            go_ret
            exact ⟨by simp, hb.trans (hB7.mono hb.size)⟩
end Go.Proofs.YtnjbdafjhhjfoaaDoor
