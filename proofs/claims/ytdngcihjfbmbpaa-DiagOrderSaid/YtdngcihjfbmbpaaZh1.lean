/- container/heap over the heap of diagnostics: which method a call takes; up, Push. -/
import Derived.Test.YtdngcihjfbmbpaaZl3
import Derived.LoopTactic
import Derived.Deep.LoopGhost
import Derived.Deep.RegionWith
namespace Go.Proofs.Ytdngcihjfbmbpaa.Zm
open Go.RowKit
open Go.Proofs.Ytdngcihjfbmbpaa.Sq
open Go.Proofs.Ytdngcihjfbmbpaa.Zd

theorem m_push (a : Addr) (w : World) : (method 166 32 (.pointer (some a)) "Push").run Try.prog w = .ok (38, .pointer (some a)) w := by kernel_rfl
theorem m_pop (a : Addr) (w : World) : (method 166 32 (.pointer (some a)) "Pop").run Try.prog w = .ok (37, .pointer (some a)) w := by kernel_rfl
theorem m_len (a : Addr) (w : World) : (method 166 32 (.pointer (some a)) "Len").run Try.prog w = .ok (14, .pointer (some a)) w := by kernel_rfl
theorem m_less (a : Addr) (w : World) : (method 166 32 (.pointer (some a)) "Less").run Try.prog w = .ok (36, .pointer (some a)) w := by kernel_rfl
theorem m_swap (a : Addr) (w : World) : (method 166 32 (.pointer (some a)) "Swap").run Try.prog w = .ok (39, .pointer (some a)) w := by kernel_rfl

/-- All that is said of the heap behind up: its diagnostics are the same, and a heap. -/
def UpDone (pb : Nat) (rb : Option Nat) (w : World) (l : List Dg) (w' : World) : Prop :=
  ∃ l', HeapAt w' pb rb l' ∧ Keep pb rb w w' ∧ Same l l' ∧ IsHeap l' l'.length
set_option maxHeartbeats 1000000 in
set_option maxRecDepth 100000 in
theorem heapUp (w : World) (pb : Nat) (rb : Option Nat) (l : List Dg) (j : Nat) (h : HeapAt w pb rb l) (hl : l.length ≤ 1000000) (hj : j < l.length) (hu : UpInv l l.length j) :
    Calls Try.prog 17 #[.iface 32 (.pointer (some ⟨pb, 0, none⟩)), .int .i64 j] w fun e w' => e = .returned (.tuple #[]) ∧ UpDone pb rb w l w' := by
  have mLess := m_less ⟨pb, 0, none⟩
  have mSwap := m_swap ⟨pb, 0, none⟩
  obtain ⟨N, hN⟩ : ∃ N, l.length = N := ⟨_, rfl⟩
  have HN := Lib.hid hN
  rw [hN] at hl hj
  clear hN
  go_enter Try.func17, Try.ntmps17
  go_wp2_with fail
  go_loopw [1, 4] (fun js _ wr => ∃ (k : Nat) (lk : List Dg), js = .int .i64 k ∧ k < N ∧ HeapAt wr pb rb lk ∧ Keep pb rb w wr ∧ Same l lk ∧ UpInv lk N k) (fun js _ _ => (intOf js).toNat)
  case atStart => exact ⟨j, l, rfl, hj, h, Keep.refl _ _ _, Same.refl _, by rw [← HN.out]; exact hu⟩
  case round =>
    obtain ⟨k, lk, rfl, hk, hh, hkeep, hsame, hinv⟩ := hrel
    have HL := Lib.hid (hsame.1.symm.trans HN.out)
    have HI := Lib.hid hinv
    have HS := Lib.hid hsame
    clear hinv hsame h hu
    by_cases hk0 : k = 0
    · subst hk0
      go_wp2
      go_end0
      exact ⟨rfl, lk, hh, hkeep, HS.out, by rw [HL.out]; exact up_top HI.out⟩
    · obtain ⟨p, hp⟩ : ∃ p, (k - 1) / 2 = p := ⟨_, rfl⟩
      have e1 : ((k : Int) - 1) / 2 = (p : Int) := by omega
      have hpk : p < k := by omega
      have b1 : ((p : Int) == (k : Int)) = false := by simp; omega
      have hk1 : (0 : Int) ≤ (k : Int) - 1 := by omega
      obtain ⟨m, hm⟩ : ∃ m, less (at_ lk k) (at_ lk p) = m := ⟨_, rfl⟩
      have HM := Lib.hid hm
      have hless := lessH wr pb rb lk k p hh (by rw [HL.out]; exact hk) (by rw [HL.out]; omega)
      rw [hm] at hless
      have HE := Lib.hid hless
      have HP := Lib.hid hp
      clear hless hm hp
      cases m with
      | false =>
        go_wp2_with fail
        refine HE.out.mono ?_
        rintro e w1 ⟨rfl, hb⟩
        go_wp2
        go_end0
        exact ⟨rfl, lk, hh.keep hb, hkeep.trans (Keep.of_below hb) (.inl rfl), HS.out, by rw [HL.out]; exact up_stop HI.out (by rw [HP.out]; exact HM.out)⟩
      | true =>
        go_wp2_with fail
        refine HE.out.mono ?_
        rintro e w1 ⟨rfl, hb⟩
        have hh1 := hh.keep hb
        have hkeep1 := hkeep.trans (Keep.of_below (rb := rb) hb) (.inl rfl)
        clear hh hkeep hb HE
        go_wp2_with fail
        refine (swapH w1 pb rb lk p k hh1 (by rw [HL.out]; omega) (by rw [HL.out]; exact hk)).mono ?_
        rintro e w2 ⟨rfl, hh2, hkeep2⟩
        have hkeep3 := hkeep1.trans hkeep2 (.inl rfl)
        clear hh1 hkeep1 hkeep2
        go_wp2
        go_roundw
        case rel =>
          have h1 := HI.out
          refine ⟨p, sw lk p k, rfl, by omega, hh2, hkeep3, HS.out.trans (Same.sw (by rw [HL.out]; omega) (by rw [HL.out]; exact hk)), ?_⟩
          have := up_step HI.out (by omega) hk (by rw [HL.out]; exact Nat.le_refl _) (by rw [HP.out]; exact HM.out)
          rw [HP.out] at this
          exact this
        case measure => simp [intOf]; omega
/-- All that is said of the heap behind a Push. -/
def PushDone (pb : Nat) (rb : Option Nat) (w : World) (l : List Dg) (w' : World) : Prop :=
  ∃ l', Grew pb rb w l' w' ∧ Same l l' ∧ IsHeap l' l'.length
set_option maxHeartbeats 1000000 in
set_option maxRecDepth 100000 in
theorem heapPush (w : World) (pb : Nat) (rb : Option Nat) (l : List Dg) (a b c : Int) (h : HeapAt w pb rb l) (hl : l.length ≤ 100000) (hh : IsHeap l l.length) :
    Calls Try.prog 13 #[.iface 32 (.pointer (some ⟨pb, 0, none⟩)), .iface 28 (.agg #[.int .i64 a, .int .i64 b, .int .i64 c])] w fun e w' => e = .returned (.tuple #[]) ∧ PushDone pb rb w (l ++ [(⟨a, b, c⟩ : Dg)]) w' := by
  have mPush := m_push ⟨pb, 0, none⟩
  have mLen := m_len ⟨pb, 0, none⟩
  have HH := Lib.hid (up_start (⟨a, b, c⟩ : Dg) hh)
  obtain ⟨N, hN⟩ : ∃ N, l.length = N := ⟨_, rfl⟩
  have HN := Lib.hid (show (l ++ [(⟨a, b, c⟩ : Dg)]).length = N + 1 by simp [hN])
  have HN0 := Lib.hid hN
  have hNl : N ≤ 100000 := by omega
  clear hN hh
  go_enter Try.func13, Try.ntmps13
  go_wp2_with fail
  refine (pushH w pb rb l a b c h hl).mono ?_
  rintro e w1 ⟨rfl, rb1, hh1, hk1, hr1⟩
  clear h hl
  have hlen := lenH w1 pb rb1 _ hh1
  rw [HN.out] at hlen
  have HL := Lib.hid hlen
  clear hlen
  go_wp2_with fail
  refine HL.out.mono ?_
  rintro e w2 ⟨rfl, rfl⟩
  go_wp2_with fail
  refine (heapUp w1 pb rb1 _ N hh1 (by rw [HN.out]; omega) (by rw [HN.out]; omega) ?_).mono ?_
  · have := HH.out
    rw [HN0.out] at this
    rw [HN.out]
    exact this
  rintro e w3 ⟨rfl, l', hh3, hk3, hs3, hi3⟩
  go_wp2
  go_end0
  exact ⟨rfl, l', ⟨rb1, hh3, hk1.trans hk3 hr1, hr1⟩, hs3, hi3⟩
end Go.Proofs.Ytdngcihjfbmbpaa.Zm
