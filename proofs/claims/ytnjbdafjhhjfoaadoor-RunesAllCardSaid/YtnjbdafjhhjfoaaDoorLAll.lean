/- The walk of correctorlaw1.RunesAll: going from sign to sign all bytes are gone through. -/
import Derived.Test.YtnjbdafjhhjfoaaDoorAid1
namespace Go.Proofs.YtnjbdafjhhjfoaaDoor
open Go.RowKit
open Go.Proofs.YtnjbdafjhhjfoaaDoor.Sg

theorem cnt_bad_step (s : ByteArray) (f p : Nat) (h : p < s.size) : (badF s (f + 1) p).length = (if (nx s p).1 < 0 then 1 else 0) + (badF s f (p + (nx s p).2)).length := by
  rw [badF_step s f p h, List.length_append]
  split <;> rfl

theorem own_shape {w : World} {base e size n : Nat} {v : Value} {xs : List Value} (h : w.ownsRow base e size v n xs) : ∃ a cap, v = .slice a n cap := by
  rcases h.2 with ⟨h1, h2⟩ | ⟨g, cap, cur, h1, _⟩
  · exact ⟨none, 0, by rw [h1, h2]⟩
  · exact ⟨_, _, h1⟩
set_option maxHeartbeats 4000000 in
set_option maxRecDepth 100000 in
theorem walk_RunesAll (v : Value) (s : ByteArray) (w : World) (h : Bys w v s) (hT : Tabs w) :
    Calls Tryd.prog 5 #[v] w fun e w' => e = .returned (.bool true) ∧ Below w.heap.size w w' := by
  have hm := h.size_le
  simp only [maxLen] at hm
  have HK := Lib.hid (known_true w hT)
  by_cases hbig : 200 < s.size
  · obtain ⟨a, cap, rfl⟩ := h.shape
    have hgt : (200 : Int) < (s.size : Int) := by omega
    clear hbig h hT
    go_enter Tryd.func5, Tryd.ntmps5
    go_wp2_with fail
    refine HK.out.mono ?_
    rintro e w1 ⟨rfl, hb⟩
    go_wp2
    go_ret
    exact ⟨rfl, hb⟩
  · have hle : ¬ ((200 : Int) < (s.size : Int)) := by omega
    have hsh := h.shape
    obtain ⟨a, cap, rfl⟩ := hsh
    go_enter Tryd.func5, Tryd.ntmps5
    go_wp2_with fail
    refine HK.out.mono ?_
    rintro e w1 ⟨rfl, hb⟩
    have h1 := h.below hb
    have hT1 := hT.below hb
    clear hT h HK hbig
    have H1 := Lib.hid h1
    have HT1 := Lib.hid hT1
    clear h1 hT1
    go_wp2_with fail
    go_loopg [3, 4, 5] s.size (fun gf at' st bd wr => ∃ pos steps bad : Nat, at' = .int .i64 pos ∧ st = .int .i64 steps ∧ bd = .int .i64 bad ∧ Below w1.heap.size w1 wr ∧ steps + cntF s gf pos = cnt s ∧ bad + (badF s gf pos).length = (Sg.bad s).length ∧ s.size ≤ pos + gf ∧ steps ≤ pos ∧ bad ≤ pos ∧ pos ≤ s.size)
    case atStart => exact ⟨0, 0, 0, rfl, rfl, rfl, Below.refl _ _, by simp [cnt], by simp [Sg.bad], by omega, Nat.le_refl _, Nat.le_refl _, Nat.zero_le _⟩
    case round =>
      obtain ⟨pos, steps, bad, rfl, rfl, rfl, hbw, hc, hbd, hf, hs1, hs2, hps⟩ := hrel
      by_cases hlt : pos < s.size
      · obtain ⟨g', rfl⟩ : ∃ g', gk = g' + 1 := ⟨gk - 1, by omega⟩
        have h2 := H1.out.below hbw
        have hT2 := HT1.out.below hbw
        have hwd := nx_pos s pos hlt
        have hwn := nx_le s pos hlt
        have hw4 := nx_w4 s pos
        have hlo := nx_lo s pos
        have hone := nx_one s pos hlt
        rw [cntF_step s g' pos hlt] at hc
        rw [cnt_bad_step s g' pos hlt] at hbd
        have hNX : nx (s.extract pos s.size) 0 = nx s pos := by rw [nx_tail, Nat.add_zero]
        obtain ⟨K, hK⟩ : ∃ K, (nx s pos).2 = K := ⟨_, rfl⟩
        obtain ⟨X, hX⟩ : ∃ X, (nx s pos).1 = X := ⟨_, rfl⟩
        rw [hX] at hlo hbd hone
        rw [hK] at hwd hwn hw4 hc hbd hone
        rcases h2 with ⟨_, hz⟩ | ⟨b, off, cap', hv, g2, g3, g4⟩
        · omega
        · obtain ⟨rfl, rfl⟩ : a = some ⟨b, off, none⟩ ∧ cap = cap' := by
            have := Value.slice.inj hv
            exact ⟨this.1, this.2.2⟩
          have hN := runesNext (s.extract pos s.size) (s.size - pos) b (off + pos) (cap - pos) wr (Lib.tail_size s pos) hT2 (fun j hj => by
            rw [Lib.tail_get!, ← g4 (pos + j) (by omega), Nat.add_assoc])
          rw [hNX, hK, hX] at hN
          have HN := Lib.hid hN
          have HC := Lib.hid hc
          have HB := Lib.hid hbd
          simp only [maxLen] at g3
          have hpi : (pos : Int) ≤ (cap : Int) := by omega
          have hpi2 : (pos : Int) < (s.size : Int) := by omega
          have hk1 : (1 : Int) ≤ (K : Int) := by omega
          have hk4 : (K : Int) ≤ 4 := by omega
          have hkn : (pos : Int) + (K : Int) ≤ (s.size : Int) := by omega
          clear hK hX hc hbd hN hNX g4 hT2 hv H1 HT1
          by_cases hx : X < 0
          · have hK1 : K = 1 := hone hx
            subst hK1
            go_wp2_with fail
            refine HN.out.mono ?_
            rintro e w2 ⟨rfl, hb2⟩
            go_wp2
            go_roundg g'
            case measure => omega
            case rel =>
              have e1 := HC.out
              have e2 := HB.out
              rw [if_pos hx] at e2
              exact ⟨pos + 1, steps + 1, bad + 1, by go_num, by go_num, by go_num, hbw.trans (hb2.mono hbw.size), by omega, by omega, by omega, by omega, by omega, hwn⟩
          · have hx' : 0 ≤ X := by omega
            clear hone
            go_wp2_with fail
            refine HN.out.mono ?_
            rintro e w2 ⟨rfl, hb2⟩
            go_wp2
            go_roundg g'
            case measure => omega
            case rel =>
              have e1 := HC.out
              have e2 := HB.out
              rw [if_neg (by omega)] at e2
              exact ⟨pos + K, steps + 1, bad, by go_num, by go_num, rfl, hbw.trans (hb2.mono hbw.size), by omega, by omega, by omega, by omega, by omega, hwn⟩
      · have hge : ¬ ((pos : Int) < (s.size : Int)) := by omega
        rw [cntF_end s gk pos hlt] at hc
        rw [badF_end s gk pos hlt] at hbd
        simp only [List.length_nil, Nat.add_zero] at hc hbd
        have h2 := H1.out.below hbw
        have hT2 := HT1.out.below hbw
        have HC := Lib.hid hc
        have HB := Lib.hid hbd
        clear hc hbd H1 HT1
        go_wp2_with fail
        refine (runesCount s _ _ h2).mono ?_
        rintro e w2 ⟨rfl, hb2⟩
        have hbw2 := hbw.trans (hb2.mono hbw.size)
        have h3 := h2.below hb2
        have hT3 := hT2.below hb2
        rw [← HC.out]
        go_wp2_with fail
        refine (runesBad s _ _ h3 hT3 (by omega)).mono ?_
        rintro e w3 ⟨v3, rfl, hown, hb3⟩
        rw [← HB.out] at hown
        obtain ⟨a3, c3, rfl⟩ := own_shape hown
        have hbw3 := hbw2.trans (hb3.mono hbw2.size)
        clear hown HB HC hb3 hb2 h3 hT3 hT2 h2 hbw hbw2
        go_wp2
        go_ret
        exact ⟨by simp, hb.trans (hbw3.mono hb.size)⟩
end Go.Proofs.YtnjbdafjhhjfoaaDoor
