/- strings.IndexAny of any text and the two breaks; scan.rowSize, scan.breakSize. -/
import Derived.Test.YtapkejdjbmdebaaDoorIdx
namespace Go.Proofs.YtapkejdjbmdebaaDoor
open Go.RowKit
open Go.Proofs.YtapkejdjbmdebaaDoor.Sg
set_option linter.unusedVariables false

theorem dec_bd (s : ByteArray) (p : Nat) : (Utf8.decode s p).1 < 55296 ∨ (57343 < (Utf8.decode s p).1 ∧ (Utf8.decode s p).1 ≤ 1114111) := by
  rw [Lib.decode_at]
  have h0 : (s.get! p).toNat < 256 := UInt8.toNat_lt _
  generalize (s.get! p).toNat = b0, (s.get! (p + 1)).toNat = b1, (s.get! (p + 2)).toNat = b2, (s.get! (p + 3)).toNat = b3 at *
  unfold Lib.decodeN
  (repeat' split) <;> (dsimp only at *; omega)
theorem dec_valid (s : ByteArray) (p : Nat) : Utf8.valid ((Utf8.decode s p).1 : Int) = true := by
  have := dec_bd s p
  simp [Utf8.valid]
  omega
set_option maxHeartbeats 4000000 in
set_option maxRecDepth 100000 in
theorem ixAny_short (s : ByteArray) (w : World) (hs : s.size ≤ 8) :
    Calls Tryd.prog 44 #[.string s, .string ⟨#[13, 10]⟩] w fun e w' => e = .returned (.int .i64 (rowI (Sc.nats s))) ∧ Below w.heap.size w w' := by
  have HR := Lib.hid (fun k h1 h2 => Sc.run_end (fun c => !Sc.brk c) (Sc.nats s) k h1 h2)
  have hl : (Sc.nats s).length = s.size := Sc.nats_len s
  have HL := Lib.hid hl
  clear hl
  go_enter Tryd.func44, Tryd.ntmps44
  go_wp2
  go_loopg [] s.size (fun gf wr => ∃ (pos : Nat), wr.heap[w.heap.size]? = some (.stringIter s pos) ∧ Below w.heap.size w wr ∧ Hid (∀ j, j < pos → (!Sc.brk ((Sc.nats s).getD j 0)) = true) ∧ pos ≤ s.size ∧ s.size ≤ pos + gf)
  case atStart => exact ⟨0, World.iter_heap w s 0, (Below.refl _ w).alloc (Nat.le_refl _) _, Lib.hid (fun j h => absurd h (Nat.not_lt_zero j)), Nat.zero_le _, by omega⟩
  case round =>
    obtain ⟨pos, hit, hb, hall, hle, hf⟩ := hrel
    by_cases hlt : pos < s.size
    · obtain ⟨g', rfl⟩ : ∃ g', gk = g' + 1 := ⟨gk - 1, by omega⟩
      have hgd := Sc.nats_getD s pos
      have hge := Sc.get_el s pos hlt
      have hnx : ∀ ty, (Instr.next (.pointer (some ⟨w.heap.size, 0, none⟩)) true ty).run Tryd.prog wr = _ := fun ty => Lib.run_next_any_at wr w.heap.size s pos ty hit hlt
      have hd := nx_dec s pos hlt
      have hwd := nx_pos s pos hlt
      have hwn := nx_le s pos hlt
      have hov := nx_over s pos hlt
      have hd13 := dec_is s pos 13 hlt (by decide)
      have hd10 := dec_is s pos 10 hlt (by decide)
      have hvl : Utf8.valid ((Utf8.decode s pos).1 : Int) = true := dec_valid s pos
      have hbd := dec_bd s pos
      rw [← nx_width s pos hlt] at hnx
      obtain ⟨K, hK⟩ : ∃ K, (nx s pos).2 = K := ⟨_, rfl⟩
      obtain ⟨R, hR⟩ : ∃ R, (Utf8.decode s pos).1 = R := ⟨_, rfl⟩
      rw [hK, hR] at hnx
      rw [hK] at hwd hwn hov
      rw [hR] at hd13 hd10 hvl hbd
      have hit2 := Lib.iterAt_heap wr w.heap.size s pos (pos + K) hit
      have hb2 := Lib.below_iterAt hb (k := w.heap.size) (Nat.le_refl _) s (pos + K)
      obtain ⟨W, hWd⟩ : ∃ W, wr.iterAt w.heap.size s (pos + K) = W := ⟨_, rfl⟩
      rw [hWd] at hnx hit2 hb2
      have HC := Lib.hid (ixRune_any (R : Int) W (by omega) (by omega) hvl)
      cases hk : Sc.brk (s.get! pos).toNat with
      | true =>
        have hcr : 0 ≤ crlf (R : Int) := by
          unfold crlf
          simp [Sc.brk] at hk
          split
          · omega
          · split
            · omega
            · rename_i h1 h2; rcases hk with h | h
              · exact absurd (hd10.2 h) (by omega)
              · exact absurd (hd13.2 h) (by omega)
        have hres := HR.out pos hall.out (.inr ⟨by rw [HL.out]; exact hlt, by rw [hgd, hk]; rfl⟩)
        have hrow : rowI (Sc.nats s) = (pos : Int) := by
          unfold rowI Sc.rowN
          rw [hres, HL.out, if_neg (by omega)]
        have HS := Lib.hid hrow
        generalize crlf (R : Int) = X at *
        clear hall hgd hge hit hb hd hwd hwn hov hd13 hd10 hvl hbd hK hR hWd hk hres HR hrow hit2
        go_wp2_with fail
        refine HC.out.mono ?_
        rintro e w1 ⟨rfl, hb3⟩
        go_wp2
        go_ret
        exact ⟨by rw [HS.out]; rfl, hb2.trans (hb3.mono hb2.size)⟩
      | false =>
        have hcr : crlf (R : Int) < 0 := by
          unfold crlf
          simp [Sc.brk] at hk
          rw [if_neg (fun h => hk.2 (hd13.1 (by omega))), if_neg (fun h => hk.1 (hd10.1 (by omega)))]
          omega
        have hall2 : ∀ j, j < pos + K → (!Sc.brk ((Sc.nats s).getD j 0)) = true := by
          intro j hj
          rcases Nat.lt_trichotomy j pos with h | h | h
          · exact hall.out j h
          · subst h; rw [hgd, hk]; rfl
          · have := hov j h hj
            rw [Sc.nats_getD]
            simp [Sc.brk]
            omega
        have HA := Lib.hid hall2
        have hn : ¬ (0 ≤ crlf (R : Int)) := by omega
        generalize crlf (R : Int) = X at *
        clear hall hall2 hgd hge hit hb hd hov hd13 hd10 hvl hbd hK hR hWd hk HR
        go_wp2_with fail
        refine HC.out.mono ?_
        rintro e w1 ⟨rfl, hb3⟩
        have hit3 : w1.heap[w.heap.size]? = some (.stringIter s (pos + K)) := (hb3.block _ (Array.getElem?_eq_some_iff.1 hit2).1).trans hit2
        have hb4 := hb2.trans (hb3.mono hb2.size)
        clear hit2 hb3 hb2
        go_wp2
        go_roundg g'
        case measure => omega
        case rel => exact ⟨pos + K, hit3, hb4, HA, hwn, by omega⟩
    · have hnx : ∀ ty, (Instr.next (.pointer (some ⟨w.heap.size, 0, none⟩)) true ty).run Tryd.prog wr = _ := fun ty => Lib.run_next_end_at wr w.heap.size s pos ty hit hlt
      obtain rfl : pos = s.size := by omega
      have hres := HR.out s.size hall.out (.inl HL.out.symm)
      have hrow : rowI (Sc.nats s) = -1 := by
        unfold rowI Sc.rowN
        rw [hres, HL.out, if_pos rfl]
      have HS := Lib.hid hrow
      clear hall hit hres HR hrow
      go_wp2
      go_ret
      exact ⟨by rw [HS.out]; rfl, hb⟩
end Go.Proofs.YtapkejdjbmdebaaDoor
