/- What lines.endsLine and lines.Starts answer of any bytes. -/
import Derived.Test.YtfjlapkdfomclaaDoorLnRef2
import Derived.Test.YtfjlapkdfomclaaDoorRun2
namespace Go.Proofs.YtfjlapkdfomclaaDoor
open Go.RowKit
open Go.Proofs.YtfjlapkdfomclaaDoor.Sg

theorem runesNext_bys (s : ByteArray) (v : Value) (w : World) (h : Bys w v s) (hT : Tabs w) :
    Calls Tryd.prog 23 #[v] w fun e w' => e = .returned (.tuple #[.int .i32 (nx s 0).1, .int .i64 (nx s 0).2]) ∧ Below w.heap.size w w' := by
  rcases h with ⟨rfl, h⟩ | ⟨b, off, cap, rfl, h2, h3, h4⟩
  · have e : nx s 0 = (-1, 0) := by unfold nx; rw [h]; exact nx_none _ _ _ _
    rw [e]
    exact (runesNext_nil w).mono fun e w' h => ⟨h.1, by rw [h.2]; exact Below.refl _ w⟩
  · exact runesNext s s.size b off cap w rfl hT h4
/-- Whether a line feed stands there. -/
theorem nx_lf (s : ByteArray) (p : Nat) : (nx s p).1 = 10 ↔ (p < s.size ∧ (s.get! p).toNat = 10) := by
  by_cases h : p < s.size
  · have := nx_is s p 10 h (by omega)
    constructor
    · intro hh; exact ⟨h, this.1 hh⟩
    · intro hh; exact this.2 hh.2
  · have e : nx s p = (-1, 0) := by unfold nx; rw [show s.size - p = 0 from by omega]; exact nx_none _ _ _ _
    rw [e]
    constructor
    · intro hh; cases hh
    · intro hh; exact absurd hh.1 h

set_option maxHeartbeats 600000 in
set_option maxRecDepth 100000 in
theorem endsLine (s : ByteArray) (a : Option Addr) (cap i R : Nat) (w : World) (h : Bys w (.slice a s.size cap) s) (hT : Tabs w) (hi : i < s.size) (hm : s.size ≤ 1000000) (h13 : R = 13 ↔ (s.get! i).toNat = 13) (h10 : R = 10 ↔ (s.get! i).toNat = 10) :
    Calls Tryd.prog 17 #[.slice a s.size cap, .int .i64 i, .int .i32 R] w fun e w' => e = .returned (.bool (decide (ends s i))) ∧ Below w.heap.size w w' := by
  obtain ⟨vc, hsl, hvc⟩ := cut_l (lo := i + 1) h (by omega)
  have hN := runesNext_bys _ vc w hvc hT
  rw [nx_tail, Nat.add_zero] at hN
  have hlf := nx_lf s (i + 1)
  have hen : decide (ends s i) = if R = 13 then !decide ((nx s (i + 1)).1 = 10) else decide (R = 10) := by
    by_cases c1 : R = 13
    · rw [if_pos c1]
      by_cases c2 : (nx s (i + 1)).1 = 10
      · have : ¬ ends s i := by unfold ends; omega
        simp [c2, this]
      · have : ends s i := by unfold ends; omega
        simp [c2, this]
    · rw [if_neg c1]
      by_cases c2 : R = 10
      · have : ends s i := by unfold ends; omega
        simp [c2, this]
      · have : ¬ ends s i := by unfold ends; omega
        simp [c2, this]
  rw [hen]
  have hcast : ((i + 1 : Nat) : Int) = (i : Int) + 1 := by omega
  rw [hcast] at hsl
  generalize nx s (i + 1) = X at *
  obtain ⟨X1, X2⟩ := X
  dsimp only at hN ⊢
  have HN := Lib.hid hN
  have hii : (i : Int) < (s.size : Int) := by omega
  clear hN hlf hen hcast h13 h10 h hT hvc
  by_cases c1 : R = 13
  · subst c1
    rw [if_pos rfl]
    by_cases c2 : X1 = 10
    · subst c2
      go_enter Tryd.func17, Tryd.ntmps17
      go_wp2_with fail
      refine HN.out.mono ?_
      rintro e w1 ⟨rfl, hb⟩
      go_wp2
      go_ret
      exact ⟨rfl, hb⟩
    · have hx : (X1 != 10) = true := by simp; exact c2
      rw [decide_eq_false c2]
      go_enter Tryd.func17, Tryd.ntmps17
      go_wp2_with fail
      refine HN.out.mono ?_
      rintro e w1 ⟨rfl, hb⟩
      go_wp2
      go_ret
      exact ⟨rfl, hb⟩
  · have hr : ((R : Int) == 13) = false := by simp; omega
    rw [if_neg c1]
    clear c1 HN hsl
    by_cases c2 : R = 10
    · subst c2
      go_enter Tryd.func17, Tryd.ntmps17
      go_wp2
      go_ret
      exact ⟨rfl, Below.refl _ w⟩
    · have hr2 : ((R : Int) == 10) = false := by simp; omega
      rw [decide_eq_false c2]
      clear c2
      go_enter Tryd.func17, Tryd.ntmps17
      go_wp2
      go_ret
      exact ⟨rfl, Below.refl _ w⟩

theorem step_st (s : ByteArray) (p : Nat) (h : p < s.size) : stN s (p + (nx s p).2) = stN s p ++ (if ends s p then [p + 1] else []) :=
  (over s p _ (nx_pos s p h) (nx_over s p h)).1

set_option maxHeartbeats 600000 in
set_option maxRecDepth 100000 in
theorem lnStarts (s : ByteArray) (a : Option Addr) (cap : Nat) (w : World) (h : Bys w (.slice a s.size cap) s) (hT : Tabs w) (hm : s.size ≤ 1000000) :
    Calls Tryd.prog 10 #[.slice a s.size cap] w fun e w' => ∃ v, e = .returned v ∧ w'.ownsRow w.heap.size 3 1 v (st s).length (places (st s)) ∧ Below w.heap.size w w' := by
  obtain ⟨i0, hi, hz0, hz1, hz2⟩ := info_parts infoInt
  have hcv := conv_bys (h.below ((Below.refl _ w).alloc (Nat.le_refl _) (.cells #[.int .i64 0] 3)))
  have HB0 := Lib.hid h
  have HT0 := Lib.hid hT
  clear h hT
  go_enter Tryd.func10, Tryd.ntmps10
  go_wp2
  go_loopg [3] s.size (fun gf v wr => ∃ (pos : Nat), wr.ownsRow w.heap.size 3 1 v (stN s pos).length (places (stN s pos)) ∧ wr.heap[w.heap.size + 1]? = some (.stringIter s pos) ∧ Below w.heap.size w wr ∧ s.size ≤ pos + gf ∧ pos ≤ s.size)
  case atStart =>
    have hit := World.iter_heap (w.alloc (.cells #[.int .i64 0] 3)) s 0
    have hz : (w.alloc (.cells #[.int .i64 0] 3)).heap.size = w.heap.size + 1 := by simp
    rw [hz] at hit
    have hb1 : Below w.heap.size w (w.alloc (.cells #[.int .i64 0] 3)) := (Below.refl _ w).alloc (Nat.le_refl _) _
    exact ⟨0, (own_one w 0).alloc _, hit, hb1.alloc (by simp) _, by omega, Nat.zero_le _⟩
  case round =>
    obtain ⟨pos, hown, hit, hb, hf, hps⟩ := hrel
    clear hcv
    by_cases hlt : pos < s.size
    · have hnx : ∀ ty, (Instr.next (.pointer (some ⟨w.heap.size + 1, 0, none⟩)) true ty).run Tryd.prog wr = _ := fun ty => Lib.run_next_any_at wr (w.heap.size + 1) s pos ty hit hlt
      have hwd := nx_pos s pos hlt
      have hwn := nx_le s pos hlt
      have hs1 := step_st s pos hlt
      have hsl := stN_len s pos
      have e13 := dec_is s pos 13 hlt (by omega)
      have e10 := dec_is s pos 10 hlt (by omega)
      rw [← nx_width s pos hlt] at hnx
      obtain ⟨K, hK⟩ : ∃ K, (nx s pos).2 = K := ⟨_, rfl⟩
      obtain ⟨R, hR⟩ : ∃ R, (Utf8.decode s pos).1 = R := ⟨_, rfl⟩
      rw [hR] at e13 e10
      rw [hK, hR] at hnx
      rw [hK] at hwd hwn hs1
      have hit2 := Lib.iterAt_heap wr (w.heap.size + 1) s pos (pos + K) hit
      have hb2 := Lib.below_iterAt hb (k := w.heap.size + 1) (by omega) s (pos + K)
      have hown2 := own_iterAt hown hit (pos + K)
      obtain ⟨W, hWd⟩ : ∃ W, wr.iterAt (w.heap.size + 1) s (pos + K) = W := ⟨_, rfl⟩
      rw [hWd] at hnx hit2 hb2 hown2
      have hE := endsLine s a cap pos R W (HB0.out.below hb2) (HT0.out.below hb2) hlt hm e13 e10
      have HE := Lib.hid hE
      have HS := Lib.hid hs1
      have hpi : (pos : Int) < (s.size : Int) := by omega
      clear hK hR hWd hit hb hE hs1 hown e13 e10
      obtain ⟨L, hL⟩ : ∃ L, stN s pos = L := ⟨_, rfl⟩
      rw [hL] at hown2 hsl
      have HL := Lib.hid hL
      clear hL
      by_cases he : ends s pos
      · go_wp2_with fail
        refine HE.out.mono ?_
        rw [decide_eq_true he]
        rintro e W1 ⟨rfl, hb3⟩
        have hlt2 : w.heap.size + 1 < W.heap.size := (Array.getElem?_eq_some_iff.1 hit2).1
        have hown3 := own_below hown2 hb3
        have hit3 := (hb3.block _ hlt2).trans hit2
        have hb4 := hb2.trans (hb3.mono hb2.size)
        have HE2 := Lib.hid he
        clear hb3 hb2 hit2 hown2 he
        go_wp2_with (at_builtin; go_must (refine wpList_append_own _ rfl (.tmp 18) (.tmp 21) 23 rfl w.heap.size 3 i0 (.int .i64 0) 1 8 Tryd.underlying23 hi hz0 hz1 hz2 rfl (by decide) _ _ _ rfl (hown3.alloc _) ⟨W1.heap.size, 0, none⟩ 1 1 [.int .i64 ((pos : Int) + 1)] rfl rfl (cell_one_new _ _ _) (by intro u hu; simp at hu; subst hu; rfl) (by unfold maxLen; omega) (by omega) (by have := hb4.size; simp; omega) ?_; intro v3 w3 hown4 hgrow hnil))
        go_roundg (gk - 1)
        case measure => omega
        case rel =>
          have hX := hown3.alloc (.cells #[.int .i64 ((pos : Int) + 1)] 3)
          refine ⟨pos + K, ?_, ?_, ?_, by omega, hwn⟩
          · have e := HS.out
            rw [if_pos HE2.out] at e
            rw [e, List.length_append, places_snoc, HL.out]
            exact hown4
          · have hlt3 : w.heap.size + 1 < W1.heap.size := (Array.getElem?_eq_some_iff.1 hit3).1
            exact (hgrow.block (w.heap.size + 1) (by simp; omega) (own_ne_iter hown3 hit3)).trans ((Below.heap_alloc _ _ _ hlt3).trans hit3)
          · exact (hb4.alloc hb4.size _).grown hgrow (by have := hb4.size; simp; omega) (fun j hj => (hX.lt j hj).1)
      · go_wp2_with fail
        refine HE.out.mono ?_
        rw [decide_eq_false he]
        rintro e W1 ⟨rfl, hb3⟩
        have hlt2 : w.heap.size + 1 < W.heap.size := (Array.getElem?_eq_some_iff.1 hit2).1
        have hown3 := own_below hown2 hb3
        have hit3 := (hb3.block _ hlt2).trans hit2
        have hb4 := hb2.trans (hb3.mono hb2.size)
        have HE2 := Lib.hid he
        clear hb3 hb2 hit2 hown2 he
        go_wp2
        go_roundg (gk - 1)
        case measure => omega
        case rel =>
          have e := HS.out
          rw [if_neg HE2.out, List.append_nil] at e
          exact ⟨pos + K, by rw [e, HL.out]; exact hown3, hit3, hb4, by omega, hwn⟩
    · have hnx : ∀ ty, (Instr.next (.pointer (some ⟨w.heap.size + 1, 0, none⟩)) true ty).run Tryd.prog wr = _ := fun ty => Lib.run_next_end_at wr (w.heap.size + 1) s pos ty hit hlt
      obtain rfl : pos = s.size := by omega
      go_wp2
      go_ret
      exact ⟨_, rfl, hown, hb⟩
end Go.Proofs.YtfjlapkdfomclaaDoor
