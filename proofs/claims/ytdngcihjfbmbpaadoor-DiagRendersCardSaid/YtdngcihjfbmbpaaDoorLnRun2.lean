/- What lines.Place answers of any bytes and any place. -/
import Derived.Test.YtdngcihjfbmbpaaDoorLne
namespace Go.Proofs.YtdngcihjfbmbpaaDoor
open Go.RowKit
open Go.Proofs.YtdngcihjfbmbpaaDoor.Sg

set_option maxHeartbeats 600000 in
set_option maxRecDepth 100000 in
theorem lnPlace_out (a : Option Addr) (n cap : Nat) (at' : Int) (w : World) (h : at' < 0 ∨ (n : Int) < at') :
    Calls Tryd.prog 18 #[.slice a n cap, .int .i64 at'] w fun e w' => e = .returned (.tuple #[.int .i64 0, .int .i64 0]) ∧ Below w.heap.size w w' := by
  rcases h with h | h
  · go_enter Tryd.func18, Tryd.ntmps18
    go_wp2
    go_ret2
    exact ⟨rfl, Below.refl _ w⟩
  · have h0 : ¬ (at' < 0) := by omega
    go_enter Tryd.func18, Tryd.ntmps18
    go_wp2
    go_ret2
    exact ⟨rfl, Below.refl _ w⟩

/-- Of a text that is cut at k: a sign's step leads on among the lines as in the whole one. -/
theorem step_cut (s : ByteArray) (k p : Nat) (hk : k ≤ s.size) (h : p < k) :
    stN s (p + (nx (s.extract 0 k) p).2) = stN s p ++ (if ends s p then [p + 1] else []) ∧ ls s (p + (nx (s.extract 0 k) p).2) = (if ends s p then p + 1 else ls s p) ∧ p + (nx (s.extract 0 k) p).2 ≤ k ∧ 1 ≤ (nx (s.extract 0 k) p).2 := by
  have hz := ext_size s 0 k hk
  rw [Nat.sub_zero] at hz
  have hp : p < (s.extract 0 k).size := by omega
  have h1 := nx_pos _ p hp
  have h2 := nx_le _ p hp
  have h3 := nx_over _ p hp
  have ho := over s p (nx (s.extract 0 k) p).2 h1 (fun i a b => by
    have := h3 i a b
    rw [ext_get s 0 k i (by omega), Nat.zero_add] at this
    exact this)
  exact ⟨ho.1, ho.2, by omega, h1⟩
theorem dec_cut (s : ByteArray) (k p c : Nat) (hk : k ≤ s.size) (h : p < k) (hc : c < 128) : (Utf8.decode (s.extract 0 k) p).1 = c ↔ (s.get! p).toNat = c := by
  have hz := ext_size s 0 k hk
  rw [dec_is _ p c (by omega) hc, ext_get s 0 k p (by omega), Nat.zero_add]

set_option maxHeartbeats 600000 in
set_option maxRecDepth 100000 in
theorem lnPlace_in (s : ByteArray) (a : Option Addr) (cap k : Nat) (w : World) (h : Bys w (.slice a s.size cap) s) (hT : Tabs w) (hm : s.size ≤ 1000000) (hk : k ≤ s.size) :
    Calls Tryd.prog 18 #[.slice a s.size cap, .int .i64 k] w fun e w' => e = .returned (.tuple #[.int .i64 ((stN s k).length : Nat), .int .i64 (1 + (cnt (s.extract (ls s k) k) : Nat))]) ∧ Below w.heap.size w w' := by
  have h0 : ¬ ((k : Int) < 0) := by omega
  have h1 : ¬ ((s.size : Int) < (k : Int)) := by omega
  obtain ⟨vc, hsl, hvc⟩ := cut_h (hi := k) h hk
  have hcv := conv_bys hvc
  have HB0 := Lib.hid h
  have HT0 := Lib.hid hT
  have hzz := ext_size s 0 k hk
  rw [Nat.sub_zero] at hzz
  generalize hS : s.extract 0 k = S at *
  have HSS := Lib.hid hS
  have HZ := Lib.hid hzz
  clear h hT hvc hS hzz
  go_enter Tryd.func18, Tryd.ntmps18
  go_wp2
  go_loopg [4, 6] k (fun gf ln st' wr => ∃ (pos : Nat), ln = .int .i64 ((stN s pos).length : Nat) ∧ st' = .int .i64 (ls s pos : Nat) ∧ wr.heap[w.heap.size]? = some (.stringIter S pos) ∧ Below w.heap.size w wr ∧ k ≤ pos + gf ∧ pos ≤ k)
  case atStart => exact ⟨0, rfl, rfl, World.iter_heap w S 0, (Below.refl _ w).alloc (Nat.le_refl _) _, by omega, Nat.zero_le _⟩
  case round =>
    obtain ⟨pos, rfl, rfl, hit, hb, hf, hps⟩ := hrel
    clear hcv hsl
    by_cases hlt : pos < k
    · have hltS : pos < S.size := by rw [HZ.out]; exact hlt
      have hnx : ∀ ty, (Instr.next (.pointer (some ⟨w.heap.size, 0, none⟩)) true ty).run Tryd.prog wr = _ := fun ty => Lib.run_next_any_at wr w.heap.size S pos ty hit hltS
      obtain ⟨hs1, hs2, hwn, hwd⟩ := step_cut s k pos hk hlt
      have hsl := stN_len s pos
      have hll := ls_le s pos
      have e13 := dec_cut s k pos 13 hk hlt (by omega)
      have e10 := dec_cut s k pos 10 hk hlt (by omega)
      rw [← nx_width S pos hltS] at hnx
      rw [HSS.out] at hs1 hs2 hwn hwd e13 e10
      obtain ⟨K, hK⟩ : ∃ K, (nx S pos).2 = K := ⟨_, rfl⟩
      obtain ⟨R, hR⟩ : ∃ R, (Utf8.decode S pos).1 = R := ⟨_, rfl⟩
      rw [hR] at e13 e10
      rw [hK, hR] at hnx
      rw [hK] at hwd hwn hs1 hs2
      have hit2 := Lib.iterAt_heap wr w.heap.size S pos (pos + K) hit
      have hb2 := Lib.below_iterAt hb (k := w.heap.size) (Nat.le_refl _) S (pos + K)
      obtain ⟨W, hWd⟩ : ∃ W, wr.iterAt w.heap.size S (pos + K) = W := ⟨_, rfl⟩
      rw [hWd] at hnx hit2 hb2
      have hE := endsLine s a cap pos R W (HB0.out.below hb2) (HT0.out.below hb2) (by omega) hm e13 e10
      have HE := Lib.hid hE
      have hpi : (pos : Int) < (s.size : Int) := by omega
      have hl1 : (stN s (pos + K)).length = (stN s pos).length + if ends s pos then 1 else 0 := by
        rw [hs1, List.length_append]; split <;> rfl
      obtain ⟨N, hN⟩ : ∃ N, (stN s pos).length = N := ⟨_, rfl⟩
      obtain ⟨A, hA⟩ : ∃ A, ls s pos = A := ⟨_, rfl⟩
      rw [hN] at hl1 hsl
      rw [hA] at hs2 hll
      rw [hN, hA]
      have HL := Lib.hid hl1
      have HA := Lib.hid hs2
      clear hK hR hWd hit hb hE hs1 hs2 e13 e10 hl1 hN hA hltS
      by_cases he : ends s pos
      · go_wp2_with fail
        refine HE.out.mono ?_
        rw [decide_eq_true he]
        rintro e W1 ⟨rfl, hb3⟩
        have hlt2 : w.heap.size < W.heap.size := (Array.getElem?_eq_some_iff.1 hit2).1
        have hit3 := (hb3.block _ hlt2).trans hit2
        have hb4 := hb2.trans (hb3.mono hb2.size)
        have HE2 := Lib.hid he
        clear hb3 hb2 hit2 he
        go_wp2
        go_roundg (gk - 1)
        case measure => omega
        case rel =>
          have e1 := HL.out
          have e2 := HA.out
          rw [if_pos HE2.out] at e1 e2
          exact ⟨pos + K, by rw [e1]; go_num, by rw [e2]; go_num, hit3, hb4, by omega, hwn⟩
      · go_wp2_with fail
        refine HE.out.mono ?_
        rw [decide_eq_false he]
        rintro e W1 ⟨rfl, hb3⟩
        have hlt2 : w.heap.size < W.heap.size := (Array.getElem?_eq_some_iff.1 hit2).1
        have hit3 := (hb3.block _ hlt2).trans hit2
        have hb4 := hb2.trans (hb3.mono hb2.size)
        have HE2 := Lib.hid he
        clear hb3 hb2 hit2 he
        go_wp2
        go_roundg (gk - 1)
        case measure => omega
        case rel =>
          have e1 := HL.out
          have e2 := HA.out
          rw [if_neg HE2.out] at e1 e2
          exact ⟨pos + K, by rw [e1]; rfl, by rw [e2], hit3, hb4, by omega, hwn⟩
    · have hnx : ∀ ty, (Instr.next (.pointer (some ⟨w.heap.size, 0, none⟩)) true ty).run Tryd.prog wr = _ := fun ty => Lib.run_next_end_at wr w.heap.size S pos ty hit (by rw [HZ.out]; exact hlt)
      obtain rfl : pos = k := by omega
      have hB := HB0.out.below hb
      have hll := ls_le s pos
      obtain ⟨A, hA⟩ : ∃ A, ls s pos = A := ⟨_, rfl⟩
      obtain ⟨N, hN⟩ : ∃ N, (stN s pos).length = N := ⟨_, rfl⟩
      rw [hA] at hll
      have hq := cnt_le (s.extract A pos)
      rw [ext_size s _ pos hk] at hq
      obtain ⟨q, hQ⟩ : ∃ q, cnt (s.extract A pos) = q := ⟨_, rfl⟩
      rw [hQ] at hq
      obtain ⟨vc2, hsl2, hvc2⟩ := cut_lh (lo := A) (hi := pos) hB hll hk
      have HC := Lib.hid (runesCount _ vc2 wr hvc2)
      have HQ := Lib.hid hQ
      have HA := Lib.hid hA
      have HN := Lib.hid hN
      rw [hA, hN]
      clear hvc2 hB hQ hA hN
      go_wp2_with fail
      refine HC.out.mono ?_
      rw [HQ.out]
      rintro e w2 ⟨rfl, hb2⟩
      go_wp2
      go_ret2
      exact ⟨by rw [HN.out, HA.out, HQ.out]; simp, hb.trans (hb2.mono hb.size)⟩
end Go.Proofs.YtdngcihjfbmbpaaDoor
