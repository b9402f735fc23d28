/- The walk of correctorlaw1.RunesJoin: bytes that end with a whole sign, and others behind them, have the bad places of both. -/
import Derived.Test.YtnjbdafjhhjfoaaDoorLText
namespace Go.Proofs.YtnjbdafjhhjfoaaDoor
open Go.RowKit
open Go.Proofs.YtnjbdafjhhjfoaaDoor.Sg

theorem badF_small (s : ByteArray) : ∀ f p, ∀ x ∈ badF s f p, x ≤ s.size
  | 0, _ => by intro x hx; cases hx
  | f + 1, p => by
    intro x hx
    by_cases h : p < s.size
    · rw [badF_step s f p h] at hx
      rcases List.mem_append.1 hx with h1 | h1
      · split at h1
        · simp at h1; omega
        · cases h1
      · exact badF_small s f _ x h1
    · rw [badF_end s _ p h] at hx; cases hx
theorem bad_small (s : ByteArray) (k : Nat) (h : k < (bad s).length) (hs : s.size ≤ 1000000) : (((bad s).getD k 0 : Nat) : Int) ≤ 1000000 := by
  have := badF_small s s.size 0 (bad s)[k] (List.getElem_mem h)
  rw [List.getD_eq_getElem?_getD, List.getElem?_eq_getElem h]
  show ((bad s)[k] : Int) ≤ _
  omega
set_option maxHeartbeats 8000000 in
set_option maxRecDepth 100000 in
theorem walk_RunesJoin (v0 : Value) (l : List Int) (v1 : Value) (s : ByteArray) (w : World) (h0 : Nums .i32 w v0 l) (h1 : Bys w v1 s) (hT : Tabs w) :
    Calls Tryd.prog 8 #[v0, v1] w fun e w' => e = .returned (.bool true) ∧ Below w.heap.size w w' := by
  have HK := Lib.hid (known_true w hT)
  obtain ⟨a, cap, rfl⟩ := h0.shape
  obtain ⟨a1, cap1, rfl⟩ := h1.shape
  have hm1 := h1.size_le
  simp only [maxLen] at hm1
  by_cases hb0 : (20 : Int) < (l.length : Int)
  · clear h0 h1 hT
    go_enter Tryd.func8, Tryd.ntmps8
    go_wp2_with fail
    refine HK.out.mono ?_
    rintro e w1 ⟨rfl, hb⟩
    go_wp2
    go_ret
    exact ⟨rfl, hb⟩
  by_cases hb1 : (60 : Int) < (s.size : Int)
  · clear h0 h1 hT
    go_enter Tryd.func8, Tryd.ntmps8
    go_wp2_with fail
    refine HK.out.mono ?_
    rintro e w1 ⟨rfl, hb⟩
    go_wp2
    go_ret
    exact ⟨rfl, hb⟩
  have hlen : l.length ≤ 20 := by omega
  go_enter Tryd.func8, Tryd.ntmps8
  go_wp2_with fail
  refine HK.out.mono ?_
  rintro e w1 ⟨rfl, hb⟩
  have H0 := Lib.hid (h0.below hb)
  have H1 := Lib.hid (h1.below hb)
  have HT1 := Lib.hid (hT.below hb)
  clear h0 h1 hT HK
  go_wp2_with fail
  go_loop [5, 6] (fun s i => ∃ k : Nat, k ≤ l.length ∧ i = .int .i64 k ∧ s = .string (text (l.take k))) (fun _ i => l.length - (intOf i).toNat)
  case atStart => exact ⟨0, Nat.zero_le _, rfl, rfl⟩
  case round =>
    obtain ⟨k, hk, rfl, rfl⟩ := hrel
    have hts := (text_size (l.take k)).2
    rw [List.length_take] at hts
    by_cases hlt : k < l.length
    · have hin : (k : Int) < (l.length : Int) := by omega
      rcases H0.out.1 with ⟨_, hz⟩ | ⟨b, off, cap', hv, g2, g3, g4⟩
      · rw [hz] at hlt; exact absurd hlt (Nat.not_lt_zero _)
      · obtain ⟨rfl, rfl⟩ : a = some ⟨b, off, none⟩ ∧ cap = cap' := ⟨(Value.slice.inj hv).1, (Value.slice.inj hv).2.2⟩
        have hc := g4 k hlt
        have hsn := take_succ l k hlt
        have hes : (Utf8.encode (l.getD k 0)).size ≤ 4 := by rw [encode_size]; exact (encL_len _).2
        obtain ⟨x, hx⟩ : ∃ x, l.getD k 0 = x := ⟨_, rfl⟩
        rw [hx] at hc hsn hes
        have hcv := conv_rune x w1
        generalize hE : Utf8.encode x = E at hcv hsn hes
        have HS := Lib.hid hsn
        clear hsn hx hE g4 hv H0 H1 HT1
        generalize text (l.take k) = X at *
        have hadd : X.size + E.size ≤ 9223372036854775807 := by omega
        go_wp2
        go_round
        case rel => exact ⟨k + 1, by omega, by go_num, by rw [HS.out]⟩
        case measure => simp [intOf]; omega
    · have hkk : k = l.length := by omega
      subst hkk
      have hge : ¬ ((l.length : Int) < (l.length : Int)) := by omega
      rw [List.take_length] at *
      have hbh := (behind l s)
      have hta := text_alone l
      have hcn : cnt (text l ++ s) = cnt (text l) + cnt s := by rw [hbh.2, hta.2]
      have hbd := hbh.1
      clear hbh hta
      generalize text l = S at *
      obtain ⟨c2, w2, hcv2, hr2, hb2⟩ := conv_str S w1 (by simp only [maxLen]; omega)
      have HK1 := Lib.hid H1.out
      have HTK := Lib.hid HT1.out
      have k2 := H1.out.below hb2
      have hT2 := HT1.out.below hb2
      have HC := Lib.hid hcn
      have HB := Lib.hid hbd
      clear hcn hbd H0 H1 HT1
      go_wp2_with (at_builtin; go_must (refine wpList_append_str rfl (.tmp 34) (.tmp 35) rfl w1.heap.size c2 S rfl hr2 _ s rfl k2 (by omega) ?_; intro v3 w3 hB3 hb3))
      have hA3 : Below w1.heap.size w1 w3 := hb2.trans hb3
      have k1 := HK1.out.below hA3
      have hT3 := HTK.out.below hA3
      have hW3 : Below w.heap.size w w3 := hb.trans (hA3.mono hb.size)
      clear hr2 hb2 k2 hT2 hcv2 hb3
      go_wp2_with fail
      refine (runesBad (S ++ s) v3 w3 hB3 hT3 (by rw [app_size]; omega)).mono ?_
      rw [HB.out]
      rintro e w4 ⟨v4, rfl, hown4, hb4⟩
      have k14 := k1.below hb4
      have hT4 := hT3.below hb4
      have hW4 := hW3.trans (hb4.mono hW3.size)
      clear k1 hT3 hB3 hA3 HK1 HTK hW3
      go_wp2_with fail
      refine (runesBad s _ w4 k14 hT4 (by omega)).mono ?_
      rintro e w5 ⟨v5, rfl, hown5, hb5⟩
      have k15 := k14.below hb5
      have hW5 := hW4.trans (hb5.mono hW4.size)
      have I4 := (Ints.of_own hown4).below hb5
      have I5 := Ints.of_own hown5
      have hbl := bad_len s
      obtain ⟨a4, c4, rfl⟩ := own_shape' hown4
      obtain ⟨a5, c5, rfl⟩ := own_shape' hown5
      rw [List.length_map]
      clear hown4 hown5 hb4 hb5 k14 hT4 HB hW4
      generalize hL : bad s = L at *
      have HL := Lib.hid hL
      clear hL
      have hne : ((L.length : Int) != (L.length : Int)) = false := by simp
      have J4 := Lib.hid I4
      have J5 := Lib.hid I5
      have HW5 := Lib.hid hW5
      have HK5 := Lib.hid k15
      clear I4 I5 hW5 k15
      go_wp2_with fail
      go_loopw [9] (fun i wr => ∃ k : Nat, i = .int .i64 k ∧ k ≤ L.length ∧ ∃ q, wr = w5.drewN q) (fun i _ => L.length - (intOf i).toNat)
      case atStart => exact ⟨0, rfl, Nat.zero_le _, 0, rfl⟩
      case round =>
        obtain ⟨k, rfl, hk, q, rfl⟩ := hrel
        by_cases hlt2 : k < L.length
        · have hin : (k : Int) < (L.length : Int) := by omega
          rcases J4.out with ⟨_, hz⟩ | ⟨b4, o4, c4', hv4, g42, g43, g44⟩
          · have := congrArg List.length hz
            simp only [List.length_map, List.length_nil] at this
            omega
          rcases J5.out with ⟨_, hz⟩ | ⟨b5, o5, c5', hv5, g52, g53, g54⟩
          · have := congrArg List.length hz
            simp only [List.length_map, List.length_nil] at this
            omega
          obtain rfl : a4 = some ⟨b4, o4, none⟩ := (Value.slice.inj hv4).1
          obtain rfl : a5 = some ⟨b5, o5, none⟩ := (Value.slice.inj hv5).1
          have e4 := g44 k (by simp; omega)
          have e5 := g54 k (by simp; omega)
          have d4 : ((L.map (S.size + ·)).map fun (p : Nat) => (p : Int)).getD k 0 = (L.getD k 0 : Int) + (S.size : Int) := by
            simp [List.getD, hlt2]; omega
          have d5 : (L.map fun (p : Nat) => (p : Int)).getD k 0 = (L.getD k 0 : Int) := by
            simp [List.getD, hlt2]
          rw [d4] at e4
          rw [d5] at e5
          have hLb : ((L.getD k 0 : Nat) : Int) ≤ 1000000 := by
            rw [← HL.out] at hlt2 ⊢
            exact bad_small s k hlt2 (by omega)
          generalize L.getD k 0 = z at *
          have hSz : (S.size : Int) ≤ 80 := by omega
          have hneq : (((z : Int) + (S.size : Int)) != ((z : Int) + (S.size : Int))) = false := by simp
          clear d4 d5 hv4 hv5 g44 g54 J4 J5 HW5 HK5 HL
          go_wp2_with fail
          go_quiet (fail)
          go_wp2
          go_roundw
          case rel => exact ⟨k + 1, by go_num, by omega, q + _, rfl⟩
          case measure => simp [intOf]; omega
        · have hge2 : ¬ ((k : Int) < (L.length : Int)) := by omega
          have hWq : Below w.heap.size w (w5.drewN q) := below_drewN HW5.out q
          have kq : Bys (w5.drewN q) (.slice a1 s.size cap1) s := HK5.out.below (below_drewN (Below.refl _ w5) q)
          generalize w5.drewN q = W at *
          obtain ⟨c6, w6, hcv6, hr6, hb6⟩ := conv_str S W (by simp only [maxLen]; omega)
          have k6 := kq.below hb6
          clear J4 J5 HW5 HK5 HL
          go_wp2_with (at_builtin; go_must (refine wpList_append_str rfl (.tmp 64) (.tmp 65) rfl W.heap.size c6 S rfl hr6 _ s rfl k6 (by omega) ?_; intro v7 w7 hB7 hb7))
          have hA7 : Below W.heap.size W w7 := hb6.trans hb7
          have k7 := kq.below hA7
          have hW7 := hWq.trans (hA7.mono hWq.size)
          clear hr6 hb6 k6 hcv6 hb7 kq hWq hA7
          go_wp2_with fail
          refine (runesCount (S ++ s) v7 w7 hB7).mono ?_
          rw [HC.out]
          rintro e w8 ⟨rfl, hb8⟩
          have k8 := k7.below hb8
          have hW8 := hW7.trans (hb8.mono hW7.size)
          obtain ⟨c9, w9, hcv9, hr9, hb9⟩ := conv_str S w8 (by simp only [maxLen]; omega)
          have k9 := k8.below hb9
          have hW9 := hW8.trans (hb9.mono hW8.size)
          have hc1 := cnt_le S
          have hc2 := cnt_le s
          clear hB7 hb8 k7 k8 hb9 hW7 hW8
          go_wp2_with fail
          refine (runesCount S _ w9 hr9.bys).mono ?_
          rintro e w10 ⟨rfl, hb10⟩
          have k10 := k9.below hb10
          have hW10 := hW9.trans (hb10.mono hW9.size)
          clear hr9 hcv9 hb10 k9 hW9
          go_wp2_with fail
          refine (runesCount s _ w10 k10).mono ?_
          rintro e w11 ⟨rfl, hb11⟩
          have hW11 := hW10.trans (hb11.mono hW10.size)
          clear k10 hb11 hW10 HC
          generalize cnt S = n1 at *
          generalize cnt s = n2 at *
          go_wp2
          go_ret
          exact ⟨by simp, hW11⟩
end Go.Proofs.YtnjbdafjhhjfoaaDoor
