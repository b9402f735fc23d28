/- package block, line by line: chars.Blank, ownOf, empty, spaces, indented. -/
import Derived.Test.YtogiaaiphbamnaaBl
import Derived.Test.YtogiaaiphbamnaaSl
import Derived.Test.YtogiaaiphbamnaaOwn
import Derived.Test.YtogiaaiphbamnaaCel
import Derived.BigQuiet
namespace Go.Proofs.Ytogiaaiphbamnaa.Bk
theorem tol_get (s : ByteArray) (j : Nat) (c : UInt8) (h : s.data.toList[j]? = some c) : s.get! j = c ∧ j < s.size := by
  refine ⟨?_, by rw [Lib.size_eq]; exact (List.getElem?_eq_some_iff.1 h).1⟩
  rw [← Lib.getD_get!', List.getD_eq_getElem?_getD, h]; rfl
theorem get_tol (s : ByteArray) (j : Nat) (h : j < s.size) : s.data.toList[j]? = some (s.get! j) := by
  have hj : j < s.data.toList.length := by rw [← Lib.size_eq]; exact h
  rw [← Lib.getD_get!', List.getD_eq_getElem?_getD, List.getElem?_eq_getElem hj]; rfl
theorem u8_of {c d : UInt8} (h : c.toNat = d.toNat) : c = d := UInt8.toNat_inj.1 h
theorem u8_ne {c d : UInt8} (h : c.toNat ≠ d.toNat) : c ≠ d := fun e => h (by rw [e])
end Go.Proofs.Ytogiaaiphbamnaa.Bk
namespace Go.Proofs.Ytogiaaiphbamnaa
open Go.RowKit
open Go.Proofs.Ytogiaaiphbamnaa.Sg
open Go.Proofs.Ytogiaaiphbamnaa.Bk
set_option linter.unusedVariables false

set_option maxHeartbeats 1000000 in
theorem bBlank (c : UInt8) (w : World) :
    Calls Try.prog 29 #[.int .u8 c.toNat] w fun e w' => e = .returned (.bool (blk c)) ∧ w = w' := by
  have h32 : ((c.toNat : Int) == 32) = (c == 32) := by
    rw [Bool.eq_iff_iff, beq_iff_eq, beq_iff_eq]
    exact ⟨fun h => u8_of (show c.toNat = (32 : UInt8).toNat by have : (32 : UInt8).toNat = 32 := rfl; omega), fun h => by rw [h]; rfl⟩
  have h9 : ((c.toNat : Int) == 9) = (c == 9) := by
    rw [Bool.eq_iff_iff, beq_iff_eq, beq_iff_eq]
    exact ⟨fun h => u8_of (show c.toNat = (9 : UInt8).toNat by have : (9 : UInt8).toNat = 9 := rfl; omega), fun h => by rw [h]; rfl⟩
  unfold blk
  cases e1 : (c == 32) with
  | true =>
    rw [e1] at h32
    clear h9
    go_enter Try.func29, Try.ntmps29
    go_wp2
    go_ret
    exact ⟨rfl, rfl⟩
  | false =>
    rw [e1] at h32
    cases e2 : (c == 9) with
    | true =>
      rw [e2] at h9
      go_enter Try.func29, Try.ntmps29
      go_wp2
      go_ret
      exact ⟨rfl, rfl⟩
    | false =>
      rw [e2] at h9
      go_enter Try.func29, Try.ntmps29
      go_wp2
      go_ret
      exact ⟨rfl, rfl⟩
set_option maxHeartbeats 2000000 in
set_option maxRecDepth 100000 in
theorem bOwn (s : ByteArray) (w : World) (hs : s.size ≤ maxLen) :
    Calls Try.prog 19 #[.string s] w fun e w' => e = .returned (.string ⟨(ownL s.data.toList).toArray⟩) ∧ Below w.heap.size w w' := by
  unfold maxLen at hs
  have HR := Lib.hid (own_take s.data.toList)
  have HX := Lib.hid (fun k => (Lib.extract_data s 0 k))
  obtain ⟨R0, hR0⟩ : ∃ R0, (⟨(ownL s.data.toList).toArray⟩ : ByteArray) = R0 := ⟨_, rfl⟩
  have HW := Lib.hid hR0
  rw [hR0]
  clear hR0
  go_enter Try.func19, Try.ntmps19
  go_wp2_with fail
  go_loopg [] s.size (fun gf wr => ∃ (pos : Nat), wr.heap[w.heap.size]? = some (.stringIter s pos) ∧ Below w.heap.size w wr ∧ Hid (∀ j c, j < pos → s.data.toList[j]? = some c → nbr c = true) ∧ pos ≤ s.size ∧ s.size ≤ pos + gf)
  case atStart => exact ⟨0, World.iter_heap w s 0, (Below.refl _ w).alloc (Nat.le_refl _) _, Lib.hid (fun j c h => absurd h (Nat.not_lt_zero j)), Nat.zero_le _, by omega⟩
  case round =>
    obtain ⟨pos, hit, hb, hall, hle, hf⟩ := hrel
    by_cases hlt2 : pos < s.size
    · obtain ⟨g', rfl⟩ : ∃ g', gk = g' + 1 := ⟨gk - 1, by omega⟩
      have hnx : ∀ ty, (Instr.next (.pointer (some ⟨w.heap.size, 0, none⟩)) true ty).run Try.prog wr = _ := fun ty => Lib.run_next_any_at wr w.heap.size s pos ty hit hlt2
      have hwd := nx_pos s pos hlt2
      have hwn := nx_le s pos hlt2
      have hov := Sg.nx_over s pos hlt2
      rw [nx_width s pos hlt2] at hwd hwn hov
      have d13 := Sg.dec_is s pos 13 hlt2 (by decide)
      have d10 := Sg.dec_is s pos 10 hlt2 (by decide)
      obtain ⟨K, hK⟩ : ∃ K, (Utf8.decode s pos).2 = K := ⟨_, rfl⟩
      obtain ⟨R, hR⟩ : ∃ R, (Utf8.decode s pos).1 = R := ⟨_, rfl⟩
      rw [hK] at hwd hwn hov hnx
      rw [hR] at d13 d10 hnx
      have hit2 := Lib.iterAt_heap wr w.heap.size s pos (pos + K) hit
      have hb2 := Lib.below_iterAt hb (k := w.heap.size) (by omega) s (pos + K)
      obtain ⟨W, hWd⟩ : ∃ W, wr.iterAt w.heap.size s (pos + K) = W := ⟨_, rfl⟩
      rw [hWd] at hnx hit2 hb2
      by_cases hc : nbr (s.get! pos) = true
      · have n13 : ((R : Int) == 13) = false := beq_eq_false_iff_ne.2 (fun h => by
          have := d13.1 (by omega)
          rw [u8_of (c := s.get! pos) (d := 13) (by rw [this]; rfl)] at hc
          exact absurd hc (by decide))
        have n10 : ((R : Int) == 10) = false := beq_eq_false_iff_ne.2 (fun h => by
          have := d10.1 (by omega)
          rw [u8_of (c := s.get! pos) (d := 10) (by rw [this]; rfl)] at hc
          exact absurd hc (by decide))
        have hall2 : ∀ j c, j < pos + K → s.data.toList[j]? = some c → nbr c = true := by
          intro j c hj hjc
          rcases Nat.lt_trichotomy j pos with h | h | h
          · exact hall.out j c h hjc
          · subst h; rw [← (tol_get s _ c hjc).1]; exact hc
          · have h1 := hov j h hj
            rw [(tol_get s j c hjc).1] at h1
            have e1 : c ≠ 10 := u8_ne (by have : (10 : UInt8).toNat = 10 := rfl; omega)
            have e2 : c ≠ 13 := u8_ne (by have : (13 : UInt8).toNat = 13 := rfl; omega)
            simp [nbr, e1, e2]
        have HA := Lib.hid hall2
        clear hall hall2 hc hit hb hov hK hR hWd d13 d10 HR HX HW
        go_wp2_with fail
        go_roundg g'
        case measure => omega
        case rel => exact ⟨pos + K, hit2, hb2, HA, hwn, by omega⟩
      · have hcf : nbr (s.get! pos) = false := by simpa using hc
        have hres := HR.out pos hall.out (.inr ⟨_, get_tol s pos hlt2, hcf⟩)
        have e0 : s.extract 0 pos = R0 := by
          rw [← HW.out, hres]
          refine ByteArray.ext ?_
          have h1 := HX.out pos
          rw [Nat.sub_zero, List.drop_zero] at h1
          rw [← h1]
        have ht : ((R : Int) == 13) = true ∨ (((R : Int) == 13) = false ∧ ((R : Int) == 10) = true) := by
          by_cases h : R = 13
          · exact .inl (by rw [h]; rfl)
          · refine .inr ⟨beq_eq_false_iff_ne.2 (by omega), ?_⟩
            have h2 : s.get! pos = 10 ∨ s.get! pos = 13 := by simp only [nbr, Bool.not_eq_false', Bool.or_eq_true, beq_iff_eq] at hcf; exact hcf
            rcases h2 with h2 | h2
            · have := d10.2 (by rw [h2]; rfl)
              rw [this]; rfl
            · exact absurd (d13.2 (by rw [h2]; rfl)) h
        have HE := Lib.hid e0
        clear hall hc hcf hres hit hb hov hK hR hWd d13 d10 HR HX HW e0
        rcases ht with h13 | ⟨h13, h10⟩
        all_goals
          go_wp2_with fail
          rw [HE.out]
          go_ret
          exact ⟨rfl, hb2⟩
    · have hnx : ∀ ty, (Instr.next (.pointer (some ⟨w.heap.size, 0, none⟩)) true ty).run Try.prog wr = _ := fun ty => Lib.run_next_end_at wr w.heap.size s pos ty hit hlt2
      obtain rfl : pos = s.size := by omega
      have hres := HR.out s.size hall.out (.inl (Lib.size_eq s))
      have e0 : s = R0 := by
        rw [← HW.out, hres, Lib.size_eq, List.take_length]
      have HE := Lib.hid e0
      clear hall hit HR HX HW hres e0
      go_wp2_with fail
      go_ret
      exact ⟨congrArg (fun x => Ending.returned (.string x)) HE.out, hb⟩
set_option maxHeartbeats 2000000 in
set_option maxRecDepth 100000 in
theorem bSpaces (s : ByteArray) (w : World) (hs : s.size ≤ maxLen) :
    Calls Try.prog 27 #[.string s] w fun e w' => e = .returned (.int .i64 (spaces s.data.toList : Nat)) ∧ Below w.heap.size w w' := by
  unfold maxLen at hs
  have HR := Lib.hid (spaces_is s.data.toList)
  obtain ⟨R0, hR0⟩ : ∃ R0, spaces s.data.toList = R0 := ⟨_, rfl⟩
  rw [hR0] at HR ⊢
  clear hR0
  go_enter Try.func27, Try.ntmps27
  go_wp2_with fail
  go_loopg [] s.size (fun gf wr => ∃ (pos : Nat), wr.heap[w.heap.size]? = some (.stringIter s pos) ∧ Below w.heap.size w wr ∧ Hid (∀ j c, j < pos → s.data.toList[j]? = some c → c = 32) ∧ pos ≤ s.size ∧ s.size ≤ pos + gf)
  case atStart => exact ⟨0, World.iter_heap w s 0, (Below.refl _ w).alloc (Nat.le_refl _) _, Lib.hid (fun j c h => absurd h (Nat.not_lt_zero j)), Nat.zero_le _, by omega⟩
  case round =>
    obtain ⟨pos, hit, hb, hall, hle, hf⟩ := hrel
    by_cases hlt2 : pos < s.size
    · obtain ⟨g', rfl⟩ : ∃ g', gk = g' + 1 := ⟨gk - 1, by omega⟩
      have hnx : ∀ ty, (Instr.next (.pointer (some ⟨w.heap.size, 0, none⟩)) true ty).run Try.prog wr = _ := fun ty => Lib.run_next_any_at wr w.heap.size s pos ty hit hlt2
      have hwd := nx_pos s pos hlt2
      have hwn := nx_le s pos hlt2
      have hfs := (Sg.nx_first s pos hlt2).1
      rw [nx_width s pos hlt2] at hwd hwn
      have hw1 : s.get! pos = 32 → (Utf8.decode s pos).2 = 1 := fun e => by
        rw [← nx_width s pos hlt2, hfs (by rw [e]; decide)]
      have d32 := Sg.dec_is s pos 32 hlt2 (by decide)
      clear hfs
      obtain ⟨K, hK⟩ : ∃ K, (Utf8.decode s pos).2 = K := ⟨_, rfl⟩
      obtain ⟨R, hR⟩ : ∃ R, (Utf8.decode s pos).1 = R := ⟨_, rfl⟩
      rw [hK] at hwd hwn hw1 hnx
      rw [hR] at d32 hnx
      have hit2 := Lib.iterAt_heap wr w.heap.size s pos (pos + K) hit
      have hb2 := Lib.below_iterAt hb (k := w.heap.size) (by omega) s (pos + K)
      obtain ⟨W, hWd⟩ : ∃ W, wr.iterAt w.heap.size s (pos + K) = W := ⟨_, rfl⟩
      rw [hWd] at hnx hit2 hb2
      by_cases hc : s.get! pos = 32
      · have hK1 := hw1 hc
        have g : ((R : Int) != 32) = false := by rw [d32.2 (by rw [hc]; rfl)]; rfl
        have hall2 : ∀ j c, j < pos + K → s.data.toList[j]? = some c → c = 32 := by
          intro j c hj hjc
          rcases Nat.lt_trichotomy j pos with h | h | h
          · exact hall.out j c h hjc
          · subst h; rw [← (tol_get s _ c hjc).1]; exact hc
          · omega
        have HA := Lib.hid hall2
        clear hall hall2 hc hit hb hK hR hWd d32 HR hw1 hK1
        go_wp2_with fail
        go_roundg g'
        case measure => omega
        case rel => exact ⟨pos + K, hit2, hb2, HA, hwn, by omega⟩
      · have g : ((R : Int) != 32) = true := by
          rw [bne_iff_ne]
          intro h
          exact hc (u8_of (show (s.get! pos).toNat = (32 : UInt8).toNat from d32.1 (by omega)))
        have hres := HR.out pos hall.out (.inr ⟨_, get_tol s pos hlt2, hc⟩)
        subst hres
        clear hall hc hit hb hK hR hWd d32 HR hw1
        go_wp2_with fail
        go_ret
        exact ⟨rfl, hb2⟩
    · have hnx : ∀ ty, (Instr.next (.pointer (some ⟨w.heap.size, 0, none⟩)) true ty).run Try.prog wr = _ := fun ty => Lib.run_next_end_at wr w.heap.size s pos ty hit hlt2
      obtain rfl : pos = s.size := by omega
      have hres := HR.out s.size hall.out (.inl (Lib.size_eq s))
      subst hres
      clear hall hit HR
      go_wp2_with fail
      go_ret
      exact ⟨rfl, hb⟩
set_option maxHeartbeats 2000000 in
set_option maxRecDepth 100000 in
theorem bEmpty (s : ByteArray) (w : World) (hs : s.size ≤ maxLen) :
    Calls Try.prog 20 #[.string s] w fun e w' => e = .returned (.bool (emptyL s.data.toList)) ∧ Below w.heap.size w w' := by
  unfold maxLen at hs
  have HR := Lib.hid (empty_is s.data.toList)
  have HN := Lib.hid (empty_not s.data.toList)
  obtain ⟨R0, hR0⟩ : ∃ R0, emptyL s.data.toList = R0 := ⟨_, rfl⟩
  rw [hR0] at HR HN ⊢
  clear hR0
  go_enter Try.func20, Try.ntmps20
  go_wp2_with fail
  go_loopg [] s.size (fun gf wr => ∃ (pos : Nat), wr.heap[w.heap.size]? = some (.stringIter s pos) ∧ Below w.heap.size w wr ∧ Hid (∀ j c, j < pos → s.data.toList[j]? = some c → blk c = true) ∧ pos ≤ s.size ∧ s.size ≤ pos + gf)
  case atStart => exact ⟨0, World.iter_heap w s 0, (Below.refl _ w).alloc (Nat.le_refl _) _, Lib.hid (fun j c h => absurd h (Nat.not_lt_zero j)), Nat.zero_le _, by omega⟩
  case round =>
    obtain ⟨pos, hit, hb, hall, hle, hf⟩ := hrel
    by_cases hlt2 : pos < s.size
    · obtain ⟨g', rfl⟩ : ∃ g', gk = g' + 1 := ⟨gk - 1, by omega⟩
      have hnx : ∀ ty, (Instr.next (.pointer (some ⟨w.heap.size, 0, none⟩)) true ty).run Try.prog wr = _ := fun ty => Lib.run_next_any_at wr w.heap.size s pos ty hit hlt2
      have hwd := nx_pos s pos hlt2
      have hwn := nx_le s pos hlt2
      have hfs := (Sg.nx_first s pos hlt2).1
      rw [nx_width s pos hlt2] at hwd hwn
      have hw1 : blk (s.get! pos) = true → (Utf8.decode s pos).2 = 1 := fun e => by
        have e2 : s.get! pos = 32 ∨ s.get! pos = 9 := by simpa [blk] using e
        rw [← nx_width s pos hlt2, hfs (by rcases e2 with e2 | e2 <;> rw [e2] <;> decide)]
      clear hfs
      have hgi : (s[pos]'hlt2) = s.get! pos := Sc.get_el s pos hlt2
      obtain ⟨K, hK⟩ : ∃ K, (Utf8.decode s pos).2 = K := ⟨_, rfl⟩
      obtain ⟨R, hR⟩ : ∃ R, (Utf8.decode s pos).1 = R := ⟨_, rfl⟩
      rw [hK] at hwd hwn hw1 hnx
      rw [hR] at hnx
      have hit2 := Lib.iterAt_heap wr w.heap.size s pos (pos + K) hit
      have hb2 := Lib.below_iterAt hb (k := w.heap.size) (by omega) s (pos + K)
      obtain ⟨W, hWd⟩ : ∃ W, wr.iterAt w.heap.size s (pos + K) = W := ⟨_, rfl⟩
      rw [hWd] at hnx hit2 hb2
      have HB := Lib.hid (bBlank (s.get! pos) W)
      cases hc : blk (s.get! pos) with
      | true =>
        rw [hc] at HB
        have hK1 := hw1 hc
        have hall2 : ∀ j c, j < pos + K → s.data.toList[j]? = some c → blk c = true := by
          intro j c hj hjc
          rcases Nat.lt_trichotomy j pos with h | h | h
          · exact hall.out j c h hjc
          · subst h; rw [← (tol_get s _ c hjc).1]; exact hc
          · omega
        have HA := Lib.hid hall2
        clear hall hall2 hc hit hb hK hR hWd HR HN hw1 hK1
        go_wp2_with fail
        refine HB.out.mono ?_
        rintro e W1 ⟨rfl, rfl⟩
        go_wp2_with fail
        go_roundg g'
        case measure => omega
        case rel => exact ⟨pos + K, hit2, hb2, HA, hwn, by omega⟩
      | false =>
        rw [hc] at HB
        have hres := HN.out pos _ (get_tol s pos hlt2) hc
        subst hres
        clear hall hc hit hb hK hR hWd HR HN hw1
        go_wp2_with fail
        refine HB.out.mono ?_
        rintro e W1 ⟨rfl, rfl⟩
        go_wp2_with fail
        go_ret
        exact ⟨rfl, hb2⟩
    · have hnx : ∀ ty, (Instr.next (.pointer (some ⟨w.heap.size, 0, none⟩)) true ty).run Try.prog wr = _ := fun ty => Lib.run_next_end_at wr w.heap.size s pos ty hit hlt2
      obtain rfl : pos = s.size := by omega
      have hres := HR.out (fun j c hj => hall.out j c (tol_get s j c hj).2 hj)
      subst hres
      clear hall hit HR HN
      go_wp2_with fail
      go_ret
      exact ⟨rfl, hb⟩
theorem inward_get (s : ByteArray) (h : 0 < s.size) : inward s.data.toList = blk (s.get! 0) := by
  have e := get_tol s 0 h
  cases hl : s.data.toList with
  | nil => rw [hl] at e; simp at e
  | cons c r =>
    rw [hl] at e
    obtain rfl : c = s.get! 0 := by simpa using e
    rfl
set_option maxHeartbeats 1000000 in
set_option maxRecDepth 100000 in
theorem bInward (s : ByteArray) (w : World) (hs : s.size ≤ maxLen) (h0 : 0 < s.size) :
    Calls Try.prog 43 #[.string s] w fun e w' => e = .returned (.bool (inward s.data.toList)) ∧ w = w' := by
  unfold maxLen at hs
  rw [inward_get s h0]
  have hgi : (s[0]'h0) = s.get! 0 := Sc.get_el s 0 h0
  have HB := Lib.hid (bBlank (s.get! 0) w)
  generalize blk (s.get! 0) = R0 at *
  go_enter Try.func43, Try.ntmps43
  go_wp2_with fail
  refine HB.out.mono ?_
  rintro e W1 ⟨rfl, rfl⟩
  go_wp2_with fail
  go_ret
  exact ⟨rfl, rfl⟩
end Go.Proofs.Ytogiaaiphbamnaa
