/- The program's run: how many bytes of a class a row begins with (a loop over its signs, a function value), at each class. (Written by tools/gen_pq2.py.) -/
import Derived.Test.YtapkejdjbmdebaaDoorPq1
namespace Go.Proofs.YtapkejdjbmdebaaDoor
open Go.RowKit
open Go.Proofs.YtapkejdjbmdebaaDoor.Sg
set_option linter.unusedVariables false

theorem blk_lt (c : Nat) (h : 128 ≤ c) : Sc.blk c = false := by simp [Sc.blk]; omega
theorem nam_lt (c : Nat) (h : 128 ≤ c) : Sc.nam c = false := by
  rw [Bool.eq_false_iff]
  intro hh
  simp [Sc.nam] at hh
  omega
theorem spc_lt (c : Nat) (h : 128 ≤ c) : Sc.spc c = false := by simp [Sc.spc]; omega
theorem tgc_lt (c : Nat) (h : 128 ≤ c) : Sc.tgc c = false := by simp [Sc.tgc, nam_lt c h]; omega
set_option maxHeartbeats 2000000 in
set_option maxRecDepth 100000 in
theorem runBlank (r : ByteArray) (w : World) (hr : r.size ≤ maxLen) :
    Calls Tryd.prog 47 #[.string r, .func (.func 48) #[] #[]] w fun e w' => e = .returned (.int .i64 (Sc.run Sc.blk (Sc.nats r))) ∧ Below w.heap.size w w' := by
  unfold maxLen at hr
  have HR := Lib.hid (fun k h1 h2 => Sc.run_end Sc.blk (Sc.nats r) k h1 h2)
  go_enter Tryd.func47, Tryd.ntmps47
  go_wp2
  go_loopg [] r.size (fun gf wr => ∃ (pos : Nat), wr.heap[w.heap.size]? = some (.stringIter r pos) ∧ Below w.heap.size w wr ∧ Hid (∀ j, j < pos → Sc.blk ((Sc.nats r).getD j 0) = true) ∧ pos ≤ r.size ∧ r.size ≤ pos + gf)
  case atStart => exact ⟨0, World.iter_heap w r 0, (Below.refl _ w).alloc (Nat.le_refl _) _, Lib.hid (fun j h => absurd h (Nat.not_lt_zero j)), Nat.zero_le _, by omega⟩
  case round =>
    obtain ⟨pos, hit, hb, hall, hle, hf⟩ := hrel
    by_cases hlt2 : pos < r.size
    · obtain ⟨g', rfl⟩ : ∃ g', gk = g' + 1 := ⟨gk - 1, by omega⟩
      have hgd := Sc.nats_getD r pos
      have hge := Sc.get_el r pos hlt2
      cases hc : Sc.blk (r[pos]'hlt2).toNat with
      | true =>
        have ha : (r[pos]'hlt2).toNat < 128 := by
          rcases Nat.lt_or_ge (r[pos]'hlt2).toNat 128 with h | h
          · exact h
          · rw [blk_lt _ h] at hc; cases hc
        have hnx : ∀ ty, (Instr.next (.pointer (some ⟨w.heap.size, 0, none⟩)) true ty).run Tryd.prog wr = _ := fun ty => Lib.run_next_ascii_at wr w.heap.size r pos ty hit hlt2 ha
        have hit2 := Lib.iterAt_heap wr w.heap.size r pos (pos + 1) hit
        have hb2 := Lib.below_iterAt hb (k := w.heap.size) (Nat.le_refl _) r (pos + 1)
        generalize wr.iterAt w.heap.size r (pos + 1) = W at *
        have hcall := pBlank (r[pos]'hlt2).toNat W
        rw [hc] at hcall
        have hall2 : ∀ j, j < pos + 1 → Sc.blk ((Sc.nats r).getD j 0) = true := by
          intro j hj
          rcases Nat.lt_or_eq_of_le (Nat.le_of_lt_succ hj) with h | h
          · exact hall.out j h
          · subst h; rw [hgd, ← hge]; exact hc
        have HC := Lib.hid hcall
        have HA := Lib.hid hall2
        clear hall hall2 hcall hc hgd hge hit hb
        go_wp2_with fail
        refine HC.out.mono ?_
        rintro e w1 ⟨rfl, rfl⟩
        go_wp2
        go_roundg g'
        case measure => omega
        case rel => exact ⟨pos + 1, hit2, hb2, HA, by omega, by omega⟩
      | false =>
        have hnx : ∀ ty, (Instr.next (.pointer (some ⟨w.heap.size, 0, none⟩)) true ty).run Tryd.prog wr = _ := fun ty => Lib.run_next_any_at wr w.heap.size r pos ty hit hlt2
        have hb2 := Lib.below_iterAt hb (k := w.heap.size) (Nat.le_refl _) r (pos + (Utf8.decode r pos).2)
        generalize (Utf8.decode r pos).1 = R at *
        generalize wr.iterAt w.heap.size r (pos + (Utf8.decode r pos).2) = W at *
        have hcall := pBlank (r[pos]'hlt2).toNat W
        rw [hc] at hcall
        have hres := HR.out pos hall.out (.inr ⟨by rw [Sc.nats_len]; exact hlt2, by rw [hgd, ← hge]; exact hc⟩)
        have HC := Lib.hid hcall
        have HS := Lib.hid hres
        clear hall hcall hc hgd hge hit hb hres HR
        go_wp2_with fail
        refine HC.out.mono ?_
        rintro e w1 ⟨rfl, rfl⟩
        go_wp2
        go_ret
        exact ⟨by rw [HS.out]; rfl, hb2⟩
    · have hnx : ∀ ty, (Instr.next (.pointer (some ⟨w.heap.size, 0, none⟩)) true ty).run Tryd.prog wr = _ := fun ty => Lib.run_next_end_at wr w.heap.size r pos ty hit hlt2
      obtain rfl : pos = r.size := by omega
      have hres := HR.out r.size hall.out (.inl (Sc.nats_len r).symm)
      have HS := Lib.hid hres
      clear hall hit hres HR
      go_wp2
      go_ret
      exact ⟨by rw [HS.out]; rfl, hb⟩
set_option maxHeartbeats 2000000 in
set_option maxRecDepth 100000 in
theorem runName (r : ByteArray) (w : World) (hr : r.size ≤ maxLen) :
    Calls Tryd.prog 47 #[.string r, .func (.func 70) #[] #[]] w fun e w' => e = .returned (.int .i64 (Sc.run Sc.nam (Sc.nats r))) ∧ Below w.heap.size w w' := by
  unfold maxLen at hr
  have HR := Lib.hid (fun k h1 h2 => Sc.run_end Sc.nam (Sc.nats r) k h1 h2)
  go_enter Tryd.func47, Tryd.ntmps47
  go_wp2
  go_loopg [] r.size (fun gf wr => ∃ (pos : Nat), wr.heap[w.heap.size]? = some (.stringIter r pos) ∧ Below w.heap.size w wr ∧ Hid (∀ j, j < pos → Sc.nam ((Sc.nats r).getD j 0) = true) ∧ pos ≤ r.size ∧ r.size ≤ pos + gf)
  case atStart => exact ⟨0, World.iter_heap w r 0, (Below.refl _ w).alloc (Nat.le_refl _) _, Lib.hid (fun j h => absurd h (Nat.not_lt_zero j)), Nat.zero_le _, by omega⟩
  case round =>
    obtain ⟨pos, hit, hb, hall, hle, hf⟩ := hrel
    by_cases hlt2 : pos < r.size
    · obtain ⟨g', rfl⟩ : ∃ g', gk = g' + 1 := ⟨gk - 1, by omega⟩
      have hgd := Sc.nats_getD r pos
      have hge := Sc.get_el r pos hlt2
      cases hc : Sc.nam (r[pos]'hlt2).toNat with
      | true =>
        have ha : (r[pos]'hlt2).toNat < 128 := by
          rcases Nat.lt_or_ge (r[pos]'hlt2).toNat 128 with h | h
          · exact h
          · rw [nam_lt _ h] at hc; cases hc
        have hnx : ∀ ty, (Instr.next (.pointer (some ⟨w.heap.size, 0, none⟩)) true ty).run Tryd.prog wr = _ := fun ty => Lib.run_next_ascii_at wr w.heap.size r pos ty hit hlt2 ha
        have hit2 := Lib.iterAt_heap wr w.heap.size r pos (pos + 1) hit
        have hb2 := Lib.below_iterAt hb (k := w.heap.size) (Nat.le_refl _) r (pos + 1)
        generalize wr.iterAt w.heap.size r (pos + 1) = W at *
        have hcall := pName (r[pos]'hlt2).toNat W
        rw [hc] at hcall
        have hall2 : ∀ j, j < pos + 1 → Sc.nam ((Sc.nats r).getD j 0) = true := by
          intro j hj
          rcases Nat.lt_or_eq_of_le (Nat.le_of_lt_succ hj) with h | h
          · exact hall.out j h
          · subst h; rw [hgd, ← hge]; exact hc
        have HC := Lib.hid hcall
        have HA := Lib.hid hall2
        clear hall hall2 hcall hc hgd hge hit hb
        go_wp2_with fail
        refine HC.out.mono ?_
        rintro e w1 ⟨rfl, rfl⟩
        go_wp2
        go_roundg g'
        case measure => omega
        case rel => exact ⟨pos + 1, hit2, hb2, HA, by omega, by omega⟩
      | false =>
        have hnx : ∀ ty, (Instr.next (.pointer (some ⟨w.heap.size, 0, none⟩)) true ty).run Tryd.prog wr = _ := fun ty => Lib.run_next_any_at wr w.heap.size r pos ty hit hlt2
        have hb2 := Lib.below_iterAt hb (k := w.heap.size) (Nat.le_refl _) r (pos + (Utf8.decode r pos).2)
        generalize (Utf8.decode r pos).1 = R at *
        generalize wr.iterAt w.heap.size r (pos + (Utf8.decode r pos).2) = W at *
        have hcall := pName (r[pos]'hlt2).toNat W
        rw [hc] at hcall
        have hres := HR.out pos hall.out (.inr ⟨by rw [Sc.nats_len]; exact hlt2, by rw [hgd, ← hge]; exact hc⟩)
        have HC := Lib.hid hcall
        have HS := Lib.hid hres
        clear hall hcall hc hgd hge hit hb hres HR
        go_wp2_with fail
        refine HC.out.mono ?_
        rintro e w1 ⟨rfl, rfl⟩
        go_wp2
        go_ret
        exact ⟨by rw [HS.out]; rfl, hb2⟩
    · have hnx : ∀ ty, (Instr.next (.pointer (some ⟨w.heap.size, 0, none⟩)) true ty).run Tryd.prog wr = _ := fun ty => Lib.run_next_end_at wr w.heap.size r pos ty hit hlt2
      obtain rfl : pos = r.size := by omega
      have hres := HR.out r.size hall.out (.inl (Sc.nats_len r).symm)
      have HS := Lib.hid hres
      clear hall hit hres HR
      go_wp2
      go_ret
      exact ⟨by rw [HS.out]; rfl, hb⟩
set_option maxHeartbeats 2000000 in
set_option maxRecDepth 100000 in
theorem runSpace (r : ByteArray) (w : World) (hr : r.size ≤ maxLen) :
    Calls Tryd.prog 47 #[.string r, .func (.func 49) #[] #[]] w fun e w' => e = .returned (.int .i64 (Sc.run Sc.spc (Sc.nats r))) ∧ Below w.heap.size w w' := by
  unfold maxLen at hr
  have HR := Lib.hid (fun k h1 h2 => Sc.run_end Sc.spc (Sc.nats r) k h1 h2)
  go_enter Tryd.func47, Tryd.ntmps47
  go_wp2
  go_loopg [] r.size (fun gf wr => ∃ (pos : Nat), wr.heap[w.heap.size]? = some (.stringIter r pos) ∧ Below w.heap.size w wr ∧ Hid (∀ j, j < pos → Sc.spc ((Sc.nats r).getD j 0) = true) ∧ pos ≤ r.size ∧ r.size ≤ pos + gf)
  case atStart => exact ⟨0, World.iter_heap w r 0, (Below.refl _ w).alloc (Nat.le_refl _) _, Lib.hid (fun j h => absurd h (Nat.not_lt_zero j)), Nat.zero_le _, by omega⟩
  case round =>
    obtain ⟨pos, hit, hb, hall, hle, hf⟩ := hrel
    by_cases hlt2 : pos < r.size
    · obtain ⟨g', rfl⟩ : ∃ g', gk = g' + 1 := ⟨gk - 1, by omega⟩
      have hgd := Sc.nats_getD r pos
      have hge := Sc.get_el r pos hlt2
      cases hc : Sc.spc (r[pos]'hlt2).toNat with
      | true =>
        have ha : (r[pos]'hlt2).toNat < 128 := by
          rcases Nat.lt_or_ge (r[pos]'hlt2).toNat 128 with h | h
          · exact h
          · rw [spc_lt _ h] at hc; cases hc
        have hnx : ∀ ty, (Instr.next (.pointer (some ⟨w.heap.size, 0, none⟩)) true ty).run Tryd.prog wr = _ := fun ty => Lib.run_next_ascii_at wr w.heap.size r pos ty hit hlt2 ha
        have hit2 := Lib.iterAt_heap wr w.heap.size r pos (pos + 1) hit
        have hb2 := Lib.below_iterAt hb (k := w.heap.size) (Nat.le_refl _) r (pos + 1)
        generalize wr.iterAt w.heap.size r (pos + 1) = W at *
        have hcall := pSpace (r[pos]'hlt2).toNat W
        rw [hc] at hcall
        have hall2 : ∀ j, j < pos + 1 → Sc.spc ((Sc.nats r).getD j 0) = true := by
          intro j hj
          rcases Nat.lt_or_eq_of_le (Nat.le_of_lt_succ hj) with h | h
          · exact hall.out j h
          · subst h; rw [hgd, ← hge]; exact hc
        have HC := Lib.hid hcall
        have HA := Lib.hid hall2
        clear hall hall2 hcall hc hgd hge hit hb
        go_wp2_with fail
        refine HC.out.mono ?_
        rintro e w1 ⟨rfl, rfl⟩
        go_wp2
        go_roundg g'
        case measure => omega
        case rel => exact ⟨pos + 1, hit2, hb2, HA, by omega, by omega⟩
      | false =>
        have hnx : ∀ ty, (Instr.next (.pointer (some ⟨w.heap.size, 0, none⟩)) true ty).run Tryd.prog wr = _ := fun ty => Lib.run_next_any_at wr w.heap.size r pos ty hit hlt2
        have hb2 := Lib.below_iterAt hb (k := w.heap.size) (Nat.le_refl _) r (pos + (Utf8.decode r pos).2)
        generalize (Utf8.decode r pos).1 = R at *
        generalize wr.iterAt w.heap.size r (pos + (Utf8.decode r pos).2) = W at *
        have hcall := pSpace (r[pos]'hlt2).toNat W
        rw [hc] at hcall
        have hres := HR.out pos hall.out (.inr ⟨by rw [Sc.nats_len]; exact hlt2, by rw [hgd, ← hge]; exact hc⟩)
        have HC := Lib.hid hcall
        have HS := Lib.hid hres
        clear hall hcall hc hgd hge hit hb hres HR
        go_wp2_with fail
        refine HC.out.mono ?_
        rintro e w1 ⟨rfl, rfl⟩
        go_wp2
        go_ret
        exact ⟨by rw [HS.out]; rfl, hb2⟩
    · have hnx : ∀ ty, (Instr.next (.pointer (some ⟨w.heap.size, 0, none⟩)) true ty).run Tryd.prog wr = _ := fun ty => Lib.run_next_end_at wr w.heap.size r pos ty hit hlt2
      obtain rfl : pos = r.size := by omega
      have hres := HR.out r.size hall.out (.inl (Sc.nats_len r).symm)
      have HS := Lib.hid hres
      clear hall hit hres HR
      go_wp2
      go_ret
      exact ⟨by rw [HS.out]; rfl, hb⟩
set_option maxHeartbeats 2000000 in
set_option maxRecDepth 100000 in
theorem runInTag (r : ByteArray) (w : World) (hr : r.size ≤ maxLen) :
    Calls Tryd.prog 47 #[.string r, .func (.func 69) #[] #[]] w fun e w' => e = .returned (.int .i64 (Sc.run Sc.tgc (Sc.nats r))) ∧ Below w.heap.size w w' := by
  unfold maxLen at hr
  have HR := Lib.hid (fun k h1 h2 => Sc.run_end Sc.tgc (Sc.nats r) k h1 h2)
  go_enter Tryd.func47, Tryd.ntmps47
  go_wp2
  go_loopg [] r.size (fun gf wr => ∃ (pos : Nat), wr.heap[w.heap.size]? = some (.stringIter r pos) ∧ Below w.heap.size w wr ∧ Hid (∀ j, j < pos → Sc.tgc ((Sc.nats r).getD j 0) = true) ∧ pos ≤ r.size ∧ r.size ≤ pos + gf)
  case atStart => exact ⟨0, World.iter_heap w r 0, (Below.refl _ w).alloc (Nat.le_refl _) _, Lib.hid (fun j h => absurd h (Nat.not_lt_zero j)), Nat.zero_le _, by omega⟩
  case round =>
    obtain ⟨pos, hit, hb, hall, hle, hf⟩ := hrel
    by_cases hlt2 : pos < r.size
    · obtain ⟨g', rfl⟩ : ∃ g', gk = g' + 1 := ⟨gk - 1, by omega⟩
      have hgd := Sc.nats_getD r pos
      have hge := Sc.get_el r pos hlt2
      cases hc : Sc.tgc (r[pos]'hlt2).toNat with
      | true =>
        have ha : (r[pos]'hlt2).toNat < 128 := by
          rcases Nat.lt_or_ge (r[pos]'hlt2).toNat 128 with h | h
          · exact h
          · rw [tgc_lt _ h] at hc; cases hc
        have hnx : ∀ ty, (Instr.next (.pointer (some ⟨w.heap.size, 0, none⟩)) true ty).run Tryd.prog wr = _ := fun ty => Lib.run_next_ascii_at wr w.heap.size r pos ty hit hlt2 ha
        have hit2 := Lib.iterAt_heap wr w.heap.size r pos (pos + 1) hit
        have hb2 := Lib.below_iterAt hb (k := w.heap.size) (Nat.le_refl _) r (pos + 1)
        generalize wr.iterAt w.heap.size r (pos + 1) = W at *
        have hcall := pInTag (r[pos]'hlt2).toNat W
        rw [hc] at hcall
        have hall2 : ∀ j, j < pos + 1 → Sc.tgc ((Sc.nats r).getD j 0) = true := by
          intro j hj
          rcases Nat.lt_or_eq_of_le (Nat.le_of_lt_succ hj) with h | h
          · exact hall.out j h
          · subst h; rw [hgd, ← hge]; exact hc
        have HC := Lib.hid hcall
        have HA := Lib.hid hall2
        clear hall hall2 hcall hc hgd hge hit hb
        go_wp2_with fail
        refine HC.out.mono ?_
        rintro e w1 ⟨rfl, rfl⟩
        go_wp2
        go_roundg g'
        case measure => omega
        case rel => exact ⟨pos + 1, hit2, hb2, HA, by omega, by omega⟩
      | false =>
        have hnx : ∀ ty, (Instr.next (.pointer (some ⟨w.heap.size, 0, none⟩)) true ty).run Tryd.prog wr = _ := fun ty => Lib.run_next_any_at wr w.heap.size r pos ty hit hlt2
        have hb2 := Lib.below_iterAt hb (k := w.heap.size) (Nat.le_refl _) r (pos + (Utf8.decode r pos).2)
        generalize (Utf8.decode r pos).1 = R at *
        generalize wr.iterAt w.heap.size r (pos + (Utf8.decode r pos).2) = W at *
        have hcall := pInTag (r[pos]'hlt2).toNat W
        rw [hc] at hcall
        have hres := HR.out pos hall.out (.inr ⟨by rw [Sc.nats_len]; exact hlt2, by rw [hgd, ← hge]; exact hc⟩)
        have HC := Lib.hid hcall
        have HS := Lib.hid hres
        clear hall hcall hc hgd hge hit hb hres HR
        go_wp2_with fail
        refine HC.out.mono ?_
        rintro e w1 ⟨rfl, rfl⟩
        go_wp2
        go_ret
        exact ⟨by rw [HS.out]; rfl, hb2⟩
    · have hnx : ∀ ty, (Instr.next (.pointer (some ⟨w.heap.size, 0, none⟩)) true ty).run Tryd.prog wr = _ := fun ty => Lib.run_next_end_at wr w.heap.size r pos ty hit hlt2
      obtain rfl : pos = r.size := by omega
      have hres := HR.out r.size hall.out (.inl (Sc.nats_len r).symm)
      have HS := Lib.hid hres
      clear hall hit hres HR
      go_wp2
      go_ret
      exact ⟨by rw [HS.out]; rfl, hb⟩
end Go.Proofs.YtapkejdjbmdebaaDoor
