/- package quote: itself: the bytes ahead of the first that ends a piece. (Written by tools/gen_qa.py.) -/
import Derived.Test.YtmkchfpmlidaiaaIxq
import Derived.Test.YtmkchfpmlidaiaaSl
import Derived.Test.YtmkchfpmlidaiaaHe
namespace Go.Proofs.Ytmkchfpmlidaiaa
open Go.RowKit
open Go.Proofs.Ytmkchfpmlidaiaa.Sg
set_option linter.unusedVariables false

/-- A piece that says some bytes of the token. -/
def saidV (t : ByteArray) (n : Nat) : Value := .agg #[.string t, .int .i64 (n : Int)]
/-- Bytes that end no piece. -/
def nq1 (c : Nat) : Bool := !isq1 (c : Int)
def nq2 (c : Nat) : Bool := !isq2 (c : Int)
theorem isq1_dec (s : ByteArray) (p : Nat) (h : p < s.size) : isq1 ((Utf8.decode s p).1 : Int) = !nq1 (s.get! p).toNat := by
  have h1 := Sg.dec_is s p 39 h (by decide)
  unfold nq1 isq1
  rw [Bool.not_not]
  refine decide_eq_decide.2 ?_
  omega
theorem isq2_dec (s : ByteArray) (p : Nat) (h : p < s.size) : isq2 ((Utf8.decode s p).1 : Int) = !nq2 (s.get! p).toNat := by
  have h1 := Sg.dec_is s p 34 h (by decide)
  have h2 := Sg.dec_is s p 92 h (by decide)
  unfold nq2 isq2
  rw [Bool.not_not]
  refine decide_eq_decide.2 ?_
  omega
theorem _root_.Go.RowKit.Below.setNew2 {B b : Nat} {a w : World} (h : Below B a w) (x y : Value) (hB : B ≤ b) : Below B a ((w.setCell ⟨b, 0, none⟩ x).setCell ⟨b, 1, none⟩ y) :=
  (h.setCell (p := ⟨b, 0, none⟩) hB x).setCell (p := ⟨b, 1, none⟩) hB y
theorem ext_all (s : ByteArray) : s.extract 0 s.size = s := by simp
theorem nq1_high (c : Nat) (h : 128 ≤ c) : nq1 c = true := by simp [nq1, isq1]; omega
theorem nq2_high (c : Nat) (h : 128 ≤ c) : nq2 c = true := by simp [nq2, isq2]; omega
set_option maxHeartbeats 2000000 in
set_option maxRecDepth 100000 in
theorem itself1 (s : ByteArray) (w : World) (hs : s.size ≤ maxLen) :
    Calls Try.prog 30 #[.string s, .string ⟨#[39]⟩] w fun e w' => e = .returned (saidV (s.extract 0 (Sc.run nq1 (Sc.nats s))) (Sc.run nq1 (Sc.nats s))) ∧ Below w.heap.size w w' := by
  unfold maxLen at hs
  have HR := Lib.hid (fun k h1 h2 => Sc.run_end nq1 (Sc.nats s) k h1 h2)
  obtain ⟨R0, hR0⟩ : ∃ R0, Sc.run nq1 (Sc.nats s) = R0 := ⟨_, rfl⟩
  rw [hR0] at HR ⊢
  clear hR0
  go_enter Try.func30, Try.ntmps30
  go_wp2_with fail
  obtain ⟨w0, hw0⟩ : ∃ w0, w0 = w.alloc (.cells #[.string ⟨#[]⟩, .int .i64 0] 58) := ⟨_, rfl⟩
  have hB0 : Below w.heap.size w w0 := hw0 ▸ below_alloc w _
  have hz0 : w0.heap.size = w.heap.size + 1 := by rw [hw0]; exact size_alloc w _
  have H0 : Hld w0 w.heap.size 0 (.string ⟨#[]⟩) := hw0 ▸ hld_new rfl
  have H1 : Hld w0 w.heap.size 1 (.int .i64 0) := hw0 ▸ hld_new rfl
  rw [← hw0]
  clear hw0
  go_loopg [] s.size (fun gf wr => ∃ (pos : Nat), wr.heap[w.heap.size + 1]? = some (.stringIter s pos) ∧ Below w0.heap.size w0 wr ∧ Hid (∀ j, j < pos → nq1 ((Sc.nats s).getD j 0) = true) ∧ pos ≤ s.size ∧ s.size ≤ pos + gf)
  case atStart => exact ⟨0, by rw [← hz0]; exact World.iter_heap w0 s 0, (Below.refl _ w0).alloc (Nat.le_refl _) _, Lib.hid (fun j h => absurd h (Nat.not_lt_zero j)), Nat.zero_le _, by omega⟩
  case round =>
    obtain ⟨pos, hit, hb, hall, hle, hf⟩ := hrel
    by_cases hlt2 : pos < s.size
    · obtain ⟨g', rfl⟩ : ∃ g', gk = g' + 1 := ⟨gk - 1, by omega⟩
      have hnx : ∀ ty, (Instr.next (.pointer (some ⟨w.heap.size + 1, 0, none⟩)) true ty).run Try.prog wr = _ := fun ty => Lib.run_next_any_at wr (w.heap.size + 1) s pos ty hit hlt2
      have hwd := nx_pos s pos hlt2
      have hwn := nx_le s pos hlt2
      have hov := Sg.nx_over s pos hlt2
      rw [nx_width s pos hlt2] at hwd hwn hov
      have hgd := Sc.nats_getD s pos
      have hdc := isq1_dec s pos hlt2
      have hva := dec_valid s pos
      have hbd := dec_bd s pos
      obtain ⟨K, hK⟩ : ∃ K, (Utf8.decode s pos).2 = K := ⟨_, rfl⟩
      obtain ⟨R, hR⟩ : ∃ R, (Utf8.decode s pos).1 = R := ⟨_, rfl⟩
      rw [hK] at hwd hwn hov hnx
      rw [hR] at hdc hva hbd hnx
      have hit2 := Lib.iterAt_heap wr (w.heap.size + 1) s pos (pos + K) hit
      have hb2 := Lib.below_iterAt hb (k := w.heap.size + 1) (by omega) s (pos + K)
      obtain ⟨W, hWd⟩ : ∃ W, wr.iterAt (w.heap.size + 1) s (pos + K) = W := ⟨_, rfl⟩
      rw [hWd] at hnx hit2 hb2
      have hcall := crq1 (R : Int) W (by omega) (by omega) hva
      rw [hdc] at hcall
      have hall2 : nq1 (s.get! pos).toNat = true → ∀ j, j < pos + K → nq1 ((Sc.nats s).getD j 0) = true := by
        intro hc j hj
        rcases Nat.lt_trichotomy j pos with h | h | h
        · exact hall.out j h
        · subst h; rw [hgd]; exact hc
        · rw [Sc.nats_getD]; exact nq1_high _ (hov j h hj)
      cases hc : nq1 (s.get! pos).toNat with
      | true =>
        rw [hc] at hcall
        have HC := Lib.hid hcall
        have HA := Lib.hid (hall2 hc)
        clear hall hall2 hcall hc hgd hit hb hdc hva hbd hov hK hR hWd
        go_wp2_with fail
        refine HC.out.mono ?_
        rintro e W1 ⟨rfl, hb3⟩
        have hit3 := (hb3.block _ (Array.getElem?_eq_some_iff.1 hit2).1).trans hit2
        have hb4 := hb2.trans (hb3.mono hb2.size)
        go_wp2
        go_roundg g'
        case measure => omega
        case rel => exact ⟨pos + K, hit3, hb4, HA, hwn, by omega⟩
      | false =>
        rw [hc] at hcall
        have hres := HR.out pos hall.out (.inr ⟨by rw [Sc.nats_len]; exact hlt2, by rw [hgd]; exact hc⟩)
        have HC := Lib.hid hcall
        subst hres
        clear hall hall2 hcall hc hgd hit hb hdc hva hbd hov hK hR hWd HR
        go_wp2_with fail
        refine HC.out.mono ?_
        rintro e W1 ⟨rfl, hb3⟩
        have hb4 := hb2.trans (hb3.mono hb2.size)
        have q0 := (hld_below hb4 H0).1
        have q1 := (hld_below hb4 H1).1
        have z0 := (hld_below hb4 H0).2
        have z1 := (hld_below hb4 H1).2
        go_wp2_with fail
        refine bodyPost_ret (v := saidV (s.extract 0 R0) R0) ?_ rfl ⟨rfl, (hB0.trans (hb4.mono (by omega))).setNew2 _ _ (Nat.le_refl _)⟩
        simp [saidV, results, Try.results30, go_sem, q0, q1, cell_set_off, cell_set_eq]
    · have hnx : ∀ ty, (Instr.next (.pointer (some ⟨w.heap.size + 1, 0, none⟩)) true ty).run Try.prog wr = _ := fun ty => Lib.run_next_end_at wr (w.heap.size + 1) s pos ty hit hlt2
      obtain rfl : pos = s.size := by omega
      have hres := HR.out s.size hall.out (.inl (Sc.nats_len s).symm)
      subst hres
      have q0 := (hld_below hb H0).1
      have q1 := (hld_below hb H1).1
      have z0 := (hld_below hb H0).2
      have z1 := (hld_below hb H1).2
      clear hall hit HR
      go_wp2_with fail
      refine bodyPost_ret (v := saidV s s.size) ?_ rfl ⟨by rw [ext_all], (hB0.trans (hb.mono (by omega))).setNew2 _ _ (Nat.le_refl _)⟩
      simp [saidV, results, Try.results30, go_sem, q0, q1, cell_set_off, cell_set_eq]
set_option maxHeartbeats 2000000 in
set_option maxRecDepth 100000 in
theorem itself2 (s : ByteArray) (w : World) (hs : s.size ≤ maxLen) :
    Calls Try.prog 30 #[.string s, .string ⟨#[34, 92]⟩] w fun e w' => e = .returned (saidV (s.extract 0 (Sc.run nq2 (Sc.nats s))) (Sc.run nq2 (Sc.nats s))) ∧ Below w.heap.size w w' := by
  unfold maxLen at hs
  have HR := Lib.hid (fun k h1 h2 => Sc.run_end nq2 (Sc.nats s) k h1 h2)
  obtain ⟨R0, hR0⟩ : ∃ R0, Sc.run nq2 (Sc.nats s) = R0 := ⟨_, rfl⟩
  rw [hR0] at HR ⊢
  clear hR0
  go_enter Try.func30, Try.ntmps30
  go_wp2_with fail
  obtain ⟨w0, hw0⟩ : ∃ w0, w0 = w.alloc (.cells #[.string ⟨#[]⟩, .int .i64 0] 58) := ⟨_, rfl⟩
  have hB0 : Below w.heap.size w w0 := hw0 ▸ below_alloc w _
  have hz0 : w0.heap.size = w.heap.size + 1 := by rw [hw0]; exact size_alloc w _
  have H0 : Hld w0 w.heap.size 0 (.string ⟨#[]⟩) := hw0 ▸ hld_new rfl
  have H1 : Hld w0 w.heap.size 1 (.int .i64 0) := hw0 ▸ hld_new rfl
  rw [← hw0]
  clear hw0
  go_loopg [] s.size (fun gf wr => ∃ (pos : Nat), wr.heap[w.heap.size + 1]? = some (.stringIter s pos) ∧ Below w0.heap.size w0 wr ∧ Hid (∀ j, j < pos → nq2 ((Sc.nats s).getD j 0) = true) ∧ pos ≤ s.size ∧ s.size ≤ pos + gf)
  case atStart => exact ⟨0, by rw [← hz0]; exact World.iter_heap w0 s 0, (Below.refl _ w0).alloc (Nat.le_refl _) _, Lib.hid (fun j h => absurd h (Nat.not_lt_zero j)), Nat.zero_le _, by omega⟩
  case round =>
    obtain ⟨pos, hit, hb, hall, hle, hf⟩ := hrel
    by_cases hlt2 : pos < s.size
    · obtain ⟨g', rfl⟩ : ∃ g', gk = g' + 1 := ⟨gk - 1, by omega⟩
      have hnx : ∀ ty, (Instr.next (.pointer (some ⟨w.heap.size + 1, 0, none⟩)) true ty).run Try.prog wr = _ := fun ty => Lib.run_next_any_at wr (w.heap.size + 1) s pos ty hit hlt2
      have hwd := nx_pos s pos hlt2
      have hwn := nx_le s pos hlt2
      have hov := Sg.nx_over s pos hlt2
      rw [nx_width s pos hlt2] at hwd hwn hov
      have hgd := Sc.nats_getD s pos
      have hdc := isq2_dec s pos hlt2
      have hva := dec_valid s pos
      have hbd := dec_bd s pos
      obtain ⟨K, hK⟩ : ∃ K, (Utf8.decode s pos).2 = K := ⟨_, rfl⟩
      obtain ⟨R, hR⟩ : ∃ R, (Utf8.decode s pos).1 = R := ⟨_, rfl⟩
      rw [hK] at hwd hwn hov hnx
      rw [hR] at hdc hva hbd hnx
      have hit2 := Lib.iterAt_heap wr (w.heap.size + 1) s pos (pos + K) hit
      have hb2 := Lib.below_iterAt hb (k := w.heap.size + 1) (by omega) s (pos + K)
      obtain ⟨W, hWd⟩ : ∃ W, wr.iterAt (w.heap.size + 1) s (pos + K) = W := ⟨_, rfl⟩
      rw [hWd] at hnx hit2 hb2
      have hcall := crq2 (R : Int) W (by omega) (by omega) hva
      rw [hdc] at hcall
      have hall2 : nq2 (s.get! pos).toNat = true → ∀ j, j < pos + K → nq2 ((Sc.nats s).getD j 0) = true := by
        intro hc j hj
        rcases Nat.lt_trichotomy j pos with h | h | h
        · exact hall.out j h
        · subst h; rw [hgd]; exact hc
        · rw [Sc.nats_getD]; exact nq2_high _ (hov j h hj)
      cases hc : nq2 (s.get! pos).toNat with
      | true =>
        rw [hc] at hcall
        have HC := Lib.hid hcall
        have HA := Lib.hid (hall2 hc)
        clear hall hall2 hcall hc hgd hit hb hdc hva hbd hov hK hR hWd
        go_wp2_with fail
        refine HC.out.mono ?_
        rintro e W1 ⟨rfl, hb3⟩
        have hit3 := (hb3.block _ (Array.getElem?_eq_some_iff.1 hit2).1).trans hit2
        have hb4 := hb2.trans (hb3.mono hb2.size)
        go_wp2
        go_roundg g'
        case measure => omega
        case rel => exact ⟨pos + K, hit3, hb4, HA, hwn, by omega⟩
      | false =>
        rw [hc] at hcall
        have hres := HR.out pos hall.out (.inr ⟨by rw [Sc.nats_len]; exact hlt2, by rw [hgd]; exact hc⟩)
        have HC := Lib.hid hcall
        subst hres
        clear hall hall2 hcall hc hgd hit hb hdc hva hbd hov hK hR hWd HR
        go_wp2_with fail
        refine HC.out.mono ?_
        rintro e W1 ⟨rfl, hb3⟩
        have hb4 := hb2.trans (hb3.mono hb2.size)
        have q0 := (hld_below hb4 H0).1
        have q1 := (hld_below hb4 H1).1
        have z0 := (hld_below hb4 H0).2
        have z1 := (hld_below hb4 H1).2
        go_wp2_with fail
        refine bodyPost_ret (v := saidV (s.extract 0 R0) R0) ?_ rfl ⟨rfl, (hB0.trans (hb4.mono (by omega))).setNew2 _ _ (Nat.le_refl _)⟩
        simp [saidV, results, Try.results30, go_sem, q0, q1, cell_set_off, cell_set_eq]
    · have hnx : ∀ ty, (Instr.next (.pointer (some ⟨w.heap.size + 1, 0, none⟩)) true ty).run Try.prog wr = _ := fun ty => Lib.run_next_end_at wr (w.heap.size + 1) s pos ty hit hlt2
      obtain rfl : pos = s.size := by omega
      have hres := HR.out s.size hall.out (.inl (Sc.nats_len s).symm)
      subst hres
      have q0 := (hld_below hb H0).1
      have q1 := (hld_below hb H1).1
      have z0 := (hld_below hb H0).2
      have z1 := (hld_below hb H1).2
      clear hall hit HR
      go_wp2_with fail
      refine bodyPost_ret (v := saidV s s.size) ?_ rfl ⟨by rw [ext_all], (hB0.trans (hb.mono (by omega))).setNew2 _ _ (Nat.le_refl _)⟩
      simp [saidV, results, Try.results30, go_sem, q0, q1, cell_set_off, cell_set_eq]
end Go.Proofs.Ytmkchfpmlidaiaa
