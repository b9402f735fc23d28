/- scan.bad: does a row begin with a byte that is no sign? (runes.Next over the first four bytes.) -/
import Derived.Test.YtapkejdjbmdebaaDoorPq4
import Derived.Test.YtapkejdjbmdebaaDoorRun1
import Derived.Test.YtapkejdjbmdebaaDoorConv
namespace Go.Proofs.YtapkejdjbmdebaaDoor
open Go.RowKit
open Go.Proofs.YtapkejdjbmdebaaDoor.Sg
set_option linter.unusedVariables false

theorem nxN_min (n b0 b1 b2 b3 : Nat) : nxN (min n 4) b0 b1 b2 b3 = nxN n b0 b1 b2 b3 := by
  have e0 : (min n 4 = 0) = (n = 0) := propext ⟨fun h => by omega, fun h => by omega⟩
  have e1 : (1 < min n 4) = (1 < n) := propext ⟨fun h => by omega, fun h => by omega⟩
  have e2 : (2 < min n 4) = (2 < n) := propext ⟨fun h => by omega, fun h => by omega⟩
  have e3 : (3 < min n 4) = (3 < n) := propext ⟨fun h => by omega, fun h => by omega⟩
  unfold nxN Lib.decodeN
  simp only [e0, e1, e2, e3]
theorem get_out (s : ByteArray) (i : Nat) (h : s.size ≤ i) : (s.get! i).toNat = 0 := by
  rw [← Lib.getD_get!', List.getD_eq_getElem?_getD, List.getElem?_eq_none (by rw [← Lib.size_eq]; exact h)]
  rfl
theorem nx_front (s : ByteArray) (m : Nat) (hm : m = min s.size 4) : nx (s.extract 0 m) 0 = nx s 0 := by
  have hz : (s.extract 0 m).size = m := by rw [ext_size s 0 m (by omega)]; omega
  have hg : ∀ j, j ≤ 3 → ((s.extract 0 m).get! j).toNat = (s.get! j).toNat := by
    intro j hj
    by_cases h : j < m
    · have := ext_get s 0 m j (by omega)
      rw [this, Nat.zero_add]
    · rw [get_out _ _ (by omega), get_out _ _ (by omega)]
  unfold nx
  rw [hz, Nat.sub_zero, Nat.sub_zero, hg 0 (by omega), hg (0 + 1) (by omega), hg (0 + 2) (by omega), hg (0 + 3) (by omega), hm, nxN_min]
theorem bad_of (s : ByteArray) : Sc.bad (Sc.nats s) = decide ((nx s 0).1 < 0) := by
  have := Sc.nx_list s 0
  rw [List.drop_zero] at this
  rw [Sc.bad, ← this]
set_option maxHeartbeats 2000000 in
set_option maxRecDepth 100000 in
theorem pBad (s : ByteArray) (w : World) (hs : s.size ≤ 100000) (h0 : 0 < s.size) (hT : Tabs w) :
    Calls Tryd.prog 57 #[.string s] w fun e w' => e = .returned (.bool (Sc.bad (Sc.nats s))) ∧ Below w.heap.size w w' := by
  rw [bad_of]
  obtain ⟨m, hm⟩ : ∃ m, m = min s.size 4 := ⟨_, rfl⟩
  have hmin : min (s.size : Int) 4 = (m : Int) := by omega
  have hle : (m : Int) ≤ (s.size : Int) := by omega
  have hm0 : (0 : Int) ≤ (m : Int) := by omega
  have hF := nx_front s m hm
  have hz : (s.extract 0 m).size = m := by rw [ext_size s 0 m (by omega)]; omega
  obtain ⟨F, hFd⟩ : ∃ F, s.extract 0 m = F := ⟨_, rfl⟩
  rw [hFd] at hF hz
  rw [← hF]
  obtain ⟨cap, w1, hcv, hrow, hb⟩ := conv_str F w (by unfold maxLen; omega)
  have hN := runesNext F F.size w.heap.size 0 cap w1 rfl (hT.below hb) (fun j hj => by rw [Nat.zero_add]; exact hrow.cell j hj)
  obtain ⟨r, hr⟩ : ∃ r, (nx F 0).1 = r := ⟨_, rfl⟩
  obtain ⟨k, hk⟩ : ∃ k, (nx F 0).2 = k := ⟨_, rfl⟩
  rw [hr, hk] at hN
  rw [hr]
  have HN := Lib.hid hN
  have HB := Lib.hid hb
  clear hF hz hrow hb hN hr hk hT hm
  go_enter Tryd.func57, Tryd.ntmps57
  go_wp2_with fail
  refine HN.out.mono ?_
  rintro e w2 ⟨rfl, hb2⟩
  go_wp2_with fail
  go_ret
  exact ⟨rfl, HB.out.trans (hb2.mono HB.out.size)⟩
end Go.Proofs.YtapkejdjbmdebaaDoor
