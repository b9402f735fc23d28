/- container/heap over the heap of spans: which method a call takes; up, Push. -/
import Derived.Test.YtfikgocaidaheaaLe3
import Derived.LoopTactic
import Derived.Deep.LoopGhost
import Derived.Deep.RegionWith
namespace Go.Proofs.Ytfikgocaidaheaa
open Go.RowKit
open Go.Proofs.Ytfikgocaidaheaa.Hp

theorem m_push (a : Addr) (w : World) : (method 166 34 (.pointer (some a)) "Push").run Try.prog w = .ok (45, .pointer (some a)) w := by kernel_rfl
theorem m_pop (a : Addr) (w : World) : (method 166 34 (.pointer (some a)) "Pop").run Try.prog w = .ok (44, .pointer (some a)) w := by kernel_rfl
theorem m_len (a : Addr) (w : World) : (method 166 34 (.pointer (some a)) "Len").run Try.prog w = .ok (21, .pointer (some a)) w := by kernel_rfl
theorem m_less (a : Addr) (w : World) : (method 166 34 (.pointer (some a)) "Less").run Try.prog w = .ok (43, .pointer (some a)) w := by kernel_rfl
theorem m_swap (a : Addr) (w : World) : (method 166 34 (.pointer (some a)) "Swap").run Try.prog w = .ok (46, .pointer (some a)) w := by kernel_rfl

/-- All that is said of the heap behind up: its spans are the same, and a heap. -/
def UpDone (pb : Nat) (rb : Option Nat) (w : World) (l : List (Int × Int)) (w' : World) : Prop :=
  ∃ l', HeapAt w' pb rb l' ∧ Keep pb rb w w' ∧ Same l l' ∧ IsHeap l' l'.length
set_option maxHeartbeats 1000000 in
set_option maxRecDepth 100000 in
theorem heapUp (w : World) (pb : Nat) (rb : Option Nat) (l : List (Int × Int)) (j : Nat) (h : HeapAt w pb rb l) (hl : l.length ≤ 10000) (hj : j < l.length) (hu : UpInv l l.length j) :
    Calls Try.prog 24 #[.iface 34 (.pointer (some ⟨pb, 0, none⟩)), .int .i64 j] w fun e w' => e = .returned (.tuple #[]) ∧ UpDone pb rb w l w' := by
  have mLess := m_less ⟨pb, 0, none⟩
  have mSwap := m_swap ⟨pb, 0, none⟩
  obtain ⟨N, hN⟩ : ∃ N, l.length = N := ⟨_, rfl⟩
  have HN := Lib.hid hN
  rw [hN] at hl hj
  clear hN
  go_enter Try.func24, Try.ntmps24
  go_wp2_with fail
  go_loopw [1, 4] (fun js _ wr => ∃ (k : Nat) (lk : List (Int × Int)), js = .int .i64 k ∧ k < N ∧ HeapAt wr pb rb lk ∧ Keep pb rb w wr ∧ Same l lk ∧ UpInv lk N k) (fun js _ _ => (intOf js).toNat)
  case atStart => exact ⟨j, l, rfl, hj, h, Keep.refl _ _ _, Same.refl _, by rw [← HN.out]; exact hu⟩
  case round =>
    obtain ⟨k, lk, rfl, hk, hh, hkeep, hsame, hinv⟩ := hrel
    have HL := Lib.hid (hsame.1.symm.trans HN.out)
    have HI := Lib.hid hinv
    have HS := Lib.hid hsame
    clear hinv hsame h hu
    by_cases hk0 : k = 0
    · subst hk0
      go_wp2
      go_end0
      exact ⟨rfl, lk, hh, hkeep, HS.out, by rw [HL.out]; exact up_top HI.out⟩
    · obtain ⟨p, hp⟩ : ∃ p, (k - 1) / 2 = p := ⟨_, rfl⟩
      have e1 : ((k : Int) - 1) / 2 = (p : Int) := by omega
      have hpk : p < k := by omega
      have b1 : ((p : Int) == (k : Int)) = false := by simp; omega
      have hk1 : (0 : Int) ≤ (k : Int) - 1 := by omega
      obtain ⟨m, hm⟩ : ∃ m, ltB (at_ lk k) (at_ lk p) = m := ⟨_, rfl⟩
      have HM := Lib.hid hm
      have hless := lessH wr pb rb lk k p hh (by rw [HL.out]; exact hk) (by rw [HL.out]; omega)
      rw [hm] at hless
      have HE := Lib.hid hless
      have HP := Lib.hid hp
      clear hless hm hp
      cases m with
      | false =>
        go_wp2_with fail
        refine HE.out.mono ?_
        rintro e w1 ⟨rfl, hb⟩
        go_wp2
        go_end0
        exact ⟨rfl, lk, hh.keep hb, hkeep.trans (Keep.of_below hb) (.inl rfl), HS.out, by rw [HL.out]; exact up_stop HI.out (by rw [HP.out]; exact HM.out)⟩
      | true =>
        go_wp2_with fail
        refine HE.out.mono ?_
        rintro e w1 ⟨rfl, hb⟩
        have hh1 := hh.keep hb
        have hkeep1 := hkeep.trans (Keep.of_below (rb := rb) hb) (.inl rfl)
        clear hh hkeep hb HE
        go_wp2_with fail
        refine (swapH w1 pb rb lk p k hh1 (by rw [HL.out]; omega) (by rw [HL.out]; exact hk)).mono ?_
        rintro e w2 ⟨rfl, hh2, hkeep2⟩
        have hkeep3 := hkeep1.trans hkeep2 (.inl rfl)
        clear hh1 hkeep1 hkeep2
        go_wp2
        go_roundw
        case rel =>
          have h1 := HI.out
          refine ⟨p, sw lk p k, rfl, by omega, hh2, hkeep3, HS.out.trans (Same.sw (by rw [HL.out]; omega) (by rw [HL.out]; exact hk)), ?_⟩
          have := up_step HI.out (by omega) hk (by rw [HL.out]; exact Nat.le_refl _) (by rw [HP.out]; exact HM.out)
          rw [HP.out] at this
          exact this
        case measure => simp [intOf]; omega
/-- All that is said of the heap behind a Push. -/
def PushDone (pb : Nat) (rb : Option Nat) (w : World) (l : List (Int × Int)) (w' : World) : Prop :=
  ∃ l', Grew pb rb w l' w' ∧ Same l l' ∧ IsHeap l' l'.length
set_option maxHeartbeats 1000000 in
set_option maxRecDepth 100000 in
theorem heapPush (w : World) (pb : Nat) (rb : Option Nat) (l : List (Int × Int)) (a b : Int) (h : HeapAt w pb rb l) (hl : l.length ≤ 1000) (hh : IsHeap l l.length) :
    Calls Try.prog 20 #[.iface 34 (.pointer (some ⟨pb, 0, none⟩)), .iface 23 (.agg #[.int .i64 a, .int .i64 b])] w fun e w' => e = .returned (.tuple #[]) ∧ PushDone pb rb w (l ++ [(a, b)]) w' := by
  have mPush := m_push ⟨pb, 0, none⟩
  have mLen := m_len ⟨pb, 0, none⟩
  have HH := Lib.hid (up_start (a, b) hh)
  obtain ⟨N, hN⟩ : ∃ N, l.length = N := ⟨_, rfl⟩
  have HN := Lib.hid (show (l ++ [(a, b)]).length = N + 1 by simp [hN])
  have HN0 := Lib.hid hN
  have hNl : N ≤ 1000 := by omega
  clear hN hh
  go_enter Try.func20, Try.ntmps20
  go_wp2_with fail
  refine (pushH w pb rb l a b h hl).mono ?_
  rintro e w1 ⟨rfl, rb1, hh1, hk1, hr1⟩
  clear h hl
  have hlen := lenH w1 pb rb1 _ hh1
  rw [HN.out] at hlen
  have HL := Lib.hid hlen
  clear hlen
  go_wp2_with fail
  refine HL.out.mono ?_
  rintro e w2 ⟨rfl, rfl⟩
  go_wp2_with fail
  refine (heapUp w1 pb rb1 _ N hh1 (by rw [HN.out]; omega) (by rw [HN.out]; omega) ?_).mono ?_
  · have := HH.out
    rw [HN0.out] at this
    rw [HN.out]
    exact this
  rintro e w3 ⟨rfl, l', hh3, hk3, hs3, hi3⟩
  go_wp2
  go_end0
  exact ⟨rfl, l', ⟨rb1, hh3, hk1.trans hk3 hr1, hr1⟩, hs3, hi3⟩
end Go.Proofs.Ytfikgocaidaheaa
