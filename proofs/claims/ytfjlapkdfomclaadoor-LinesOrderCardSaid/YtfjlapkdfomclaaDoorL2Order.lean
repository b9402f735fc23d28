/- The walk of correctorlaw2.LinesOrder: places at which signs begin, in order, have lines and columns in order. -/
import Derived.Test.YtfjlapkdfomclaaDoorPl
namespace Go.Proofs.YtfjlapkdfomclaaDoor
open Go.RowKit
open Go.Proofs.YtfjlapkdfomclaaDoor.Sg

/-- What holds ahead of place k of what was told last: it is not behind what is told there. -/
def OrdRel (t : ByteArray) (k : Nat) (p c : Int) : Prop :=
  (k ≤ t.size ∧ ∃ n, Sg.Reach t (ls t k) k n ∧ (p < ((stN t k).length : Nat) ∨ (p = ((stN t k).length : Nat) ∧ c ≤ 1 + (n : Int)))) ∨ (k = t.size + 1 ∧ p = ((stN t t.size).length : Nat))
theorem ord_step (t : ByteArray) (k n : Nat) (h : k < t.size) (hr : Sg.Reach t (ls t k) k n) : OrdRel t (k + (nx t k).2) ((stN t k).length : Nat) (1 + (n : Int)) := by
  have hw := nx_pos t k h
  have hle := nx_le t k h
  have ho := over t k (nx t k).2 hw (nx_over t k h)
  refine .inl ⟨hle, ?_⟩
  rw [ho.1, ho.2]
  by_cases he : ends t k
  · have hb : (t.get! k).toNat < 128 := by unfold ends at he; omega
    have e1 := (nx_first t k h).1 hb
    rw [if_pos he, if_pos he, e1]
    exact ⟨0, Sg.Reach.here, .inl (by rw [List.length_append]; show ((_ : Nat) : Int) < ((_ + 1 : Nat) : Int); omega)⟩
  · rw [if_neg he, if_neg he, List.append_nil]
    exact ⟨n + 1, Sg.Reach.step hr h, .inr ⟨rfl, by omega⟩⟩
theorem ord_next (t : ByteArray) (k n : Nat) (h : k ≤ t.size) (hr : Sg.Reach t (ls t k) k n) : OrdRel t (k + max (nx t k).2 1) ((stN t k).length : Nat) (1 + (n : Int)) := by
  by_cases hk : k < t.size
  · have hw := nx_pos t k hk
    rw [show max (nx t k).2 1 = (nx t k).2 from by omega]
    exact ord_step t k n hk hr
  · have e : nx t k = (-1, 0) := by unfold nx; rw [show t.size - k = 0 from by omega]; exact nx_none _ _ _ _
    obtain rfl : k = t.size := by omega
    rw [e]
    exact .inr ⟨rfl, rfl⟩
theorem refNext_bys (s : ByteArray) (v : Value) (w : World) (h : Bys w v s) :
    Calls Tryd.prog 14 #[v] w fun e w' => e = .returned (.tuple #[.int .i32 (nx s 0).1, .int .i64 (nx s 0).2]) ∧ w = w' := by
  have hm := h.size_le
  simp only [maxLen] at hm
  rcases h with ⟨rfl, h⟩ | ⟨b, off, cap, rfl, h2, h3, h4⟩
  · have e : nx s 0 = (-1, 0) := by unfold nx; rw [h]; exact nx_none _ _ _ _
    rw [e]
    exact refNext_nil w
  · exact refNext s s.size b off cap w rfl (by omega) h4

set_option maxHeartbeats 2000000 in
set_option maxRecDepth 100000 in
theorem walk_LinesOrder (v0 : Value) (s : ByteArray) (v1 : Value) (l : List Int) (w : World) (h0 : Bys w v0 s) (h1 : Nums .i64 w v1 l) (hT : Tabs w) :
    Calls Tryd.prog 5 #[v0, v1] w fun e w' => e = .returned (.bool true) ∧ Below w.heap.size w w' := by
  have HK := Lib.hid (known2_true w hT)
  obtain ⟨a, cap, rfl⟩ := h0.shape
  obtain ⟨a1, cap1, rfl⟩ := h1.shape
  go_enter Tryd.func5, Tryd.ntmps5
  go_wp2_with fail
  refine HK.out.mono ?_
  rintro e w1 ⟨rfl, hb⟩
  have k0 := h0.below hb
  have k1 := h1.below hb
  have hT1 := hT.below hb
  clear h0 h1 hT HK
  go_wp2_with fail
  refine (text_any s a cap l a1 cap1 w1 k0 k1).mono ?_
  rintro e w2 ⟨v2, rfl, t, hown, hts, hb2⟩
  have HT2 := Lib.hid (hT1.below hb2)
  have HB2 := Lib.hid (hb.trans (hb2.mono hb.size))
  have kt := Bys.own hown
  obtain ⟨a2, c2, rfl⟩ := kt.shape
  have KT := Lib.hid kt
  have hsl := fun k => stN_len t k
  clear k0 k1 hT1 hown hb hb2 kt
  have HSL := Lib.hid hsl
  clear hsl
  go_wp2_with fail
  go_loopw [6, 7, 8] (fun ln cl i wr => ∃ (k : Nat) (p c : Int), ln = .int .i64 p ∧ cl = .int .i64 c ∧ i = .int .i64 k ∧ Below w2.heap.size w2 wr ∧ OrdRel t k p c) (fun _ _ i _ => t.size + 1 - (intOf i).toNat)
  case atStart => exact ⟨0, 1, 1, rfl, rfl, rfl, Below.refl _ _, .inl ⟨Nat.zero_le _, 0, Sg.Reach.here, .inr ⟨rfl, by omega⟩⟩⟩
  case round =>
    obtain ⟨k, p, c, rfl, rfl, rfl, hbw, hrel⟩ := hrel
    have kw := KT.out.below hbw
    have tw := HT2.out.below hbw
    rcases hrel with ⟨hk, n, hr, hpc⟩ | ⟨rfl, hp⟩
    · have hle : (k : Int) ≤ (t.size : Int) := by omega
      have hP := lnPlace_in t a2 c2 k wr kw tw (by omega) hk
      rw [hr.cnt hk] at hP
      have hnb := hr.le
      have hsl := HSL.out k
      have hst := ord_next t k n hk hr
      have hP := hP
      obtain ⟨N, hNe⟩ : ∃ N, (stN t k).length = N := ⟨_, rfl⟩
      rw [hNe] at hpc hsl hP hst
      have HP := Lib.hid hP
      have hnx := nx_w4 t k
      obtain ⟨X, hX⟩ : ∃ X, nx t k = X := ⟨_, rfl⟩
      rw [hX] at hnx hst
      obtain ⟨X1, X2⟩ := X
      dsimp only at hnx hst
      have HX := Lib.hid hX
      obtain ⟨M, hM⟩ : ∃ M, max X2 1 = M := ⟨_, rfl⟩
      rw [hM] at hst
      have hmx : max (X2 : Int) 1 = (M : Int) := by omega
      have hm1 : 1 ≤ M := by omega
      have hm4 : M ≤ 4 := by omega
      have HST := Lib.hid hst
      have b3 : ¬ (1 + (n : Int) < 1) := by omega
      clear hP hr hNe hX hM hst
      rcases hpc with hpc | ⟨rfl, hpc⟩
      · have b1 : ¬ ((N : Int) < p) := by omega
        have b2 : ((N : Int) == p) = false := by simp; omega
        go_wp2_with fail
        refine HP.out.mono ?_
        rintro e w3 ⟨rfl, hb3⟩
        have k3 := kw.below hb3
        have hbw3 := hbw.trans (hb3.mono hbw.size)
        obtain ⟨vc, hcut, hvc⟩ := cut_l (lo := k) k3 hk
        have hNX := refNext_bys _ vc w3 hvc
        rw [nx_tail, Nat.add_zero, HX.out] at hNX
        have HNX := Lib.hid hNX
        clear hNX hvc kw tw hb3 hbw k3 hpc
        go_wp2_with fail
        refine HNX.out.mono ?_
        rintro e w4 ⟨rfl, rfl⟩
        go_wp2
        go_roundw
        case rel => exact ⟨k + M, N, 1 + n, rfl, rfl, by go_num, hbw3, HST.out⟩
        case measure => simp [intOf]; omega
      · have b1 : ¬ (1 + (n : Int) < c) := by omega
        go_wp2_with fail
        refine HP.out.mono ?_
        rintro e w3 ⟨rfl, hb3⟩
        have k3 := kw.below hb3
        have hbw3 := hbw.trans (hb3.mono hbw.size)
        obtain ⟨vc, hcut, hvc⟩ := cut_l (lo := k) k3 hk
        have hNX := refNext_bys _ vc w3 hvc
        rw [nx_tail, Nat.add_zero, HX.out] at hNX
        have HNX := Lib.hid hNX
        clear hNX hvc kw tw hb3 hbw k3 hpc
        go_wp2_with fail
        refine HNX.out.mono ?_
        rintro e w4 ⟨rfl, rfl⟩
        go_wp2
        go_roundw
        case rel => exact ⟨k + M, N, 1 + n, rfl, rfl, by go_num, hbw3, HST.out⟩
        case measure => simp [intOf]; omega
    · have hge : ¬ ((t.size : Int) + 1 ≤ (t.size : Int)) := by omega
      have hge2 : ¬ (((t.size + 1 : Nat) : Int) ≤ (t.size : Int)) := by omega
      have HP := Lib.hid hp
      clear hp
      go_wp2_with fail
      refine (lnStarts t a2 c2 wr kw tw (by omega)).mono ?_
      rintro e w3 ⟨v3, rfl, hown3, hb3⟩
      obtain ⟨g3, c3, rfl, -, -, -⟩ := own_open hown3 (stN_pos t t.size)
      have hbw3 := hbw.trans (hb3.mono hbw.size)
      have hp := HP.out
      change p = ((st t).length : Nat) at hp
      subst hp
      clear hown3 hb3 kw tw hbw HP
      go_wp2
      go_ret
      exact ⟨by simp, HB2.out.trans (hbw3.mono HB2.out.size)⟩
end Go.Proofs.YtfjlapkdfomclaaDoor
