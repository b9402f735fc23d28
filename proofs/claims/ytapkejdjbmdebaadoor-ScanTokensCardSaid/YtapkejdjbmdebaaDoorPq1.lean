/- The program's small functions of packages chars and scan: classes of bytes, parted, run: one contract each. -/
import Derived.Test.YtapkejdjbmdebaaDoorSl
import Derived.Test.YtapkejdjbmdebaaDoorOwn
import Derived.BigQuiet
namespace Go.Proofs.YtapkejdjbmdebaaDoor
open Go.RowKit
open Go.Proofs.YtapkejdjbmdebaaDoor.Sg

set_option maxHeartbeats 1000000 in
theorem pBlank (c : Nat) (w : World) :
    Calls Tryd.prog 48 #[.int .u8 c] w fun e w' => e = .returned (.bool (Sc.blk c)) ∧ w = w' := by
  go_enter Tryd.func48, Tryd.ntmps48
  go_wp2
  all_goals
    go_ret
    refine ⟨?_, rfl⟩
    refine congrArg (fun b => Ending.returned (.bool b)) ?_
    rw [Bool.eq_iff_iff]
    simp [Sc.blk] at *
    try omega
set_option maxHeartbeats 1000000 in
theorem pName (c : Nat) (w : World) :
    Calls Tryd.prog 70 #[.int .u8 c] w fun e w' => e = .returned (.bool (Sc.nam c)) ∧ w = w' := by
  go_enter Tryd.func70, Tryd.ntmps70
  go_wp2
  all_goals
    go_ret
    refine ⟨?_, rfl⟩
    refine congrArg (fun b => Ending.returned (.bool b)) ?_
    rw [Bool.eq_iff_iff]
    simp [Sc.nam] at *
    try omega
set_option maxHeartbeats 1000000 in
theorem pFlow (c : Nat) (w : World) :
    Calls Tryd.prog 74 #[.int .u8 c] w fun e w' => e = .returned (.bool (Sc.flo c)) ∧ w = w' := by
  go_enter Tryd.func74, Tryd.ntmps74
  go_wp2
  all_goals
    go_ret
    refine ⟨?_, rfl⟩
    refine congrArg (fun b => Ending.returned (.bool b)) ?_
    rw [Bool.eq_iff_iff]
    simp [Sc.flo] at *
    try omega
set_option maxHeartbeats 1000000 in
theorem pSpace (c : Nat) (w : World) :
    Calls Tryd.prog 49 #[.int .u8 c] w fun e w' => e = .returned (.bool (Sc.spc c)) ∧ w = w' := by
  go_enter Tryd.func49, Tryd.ntmps49
  go_wp2
  all_goals
    go_ret
    refine ⟨?_, rfl⟩
    refine congrArg (fun b => Ending.returned (.bool b)) ?_
    rw [Bool.eq_iff_iff]
    simp [Sc.spc] at *
    try omega
set_option maxHeartbeats 1000000 in
theorem pInTag (c : Nat) (w : World) :
    Calls Tryd.prog 69 #[.int .u8 c] w fun e w' => e = .returned (.bool (Sc.tgc c)) ∧ w = w' := by
  by_cases h : c = 33
  · subst h
    go_enter Tryd.func69, Tryd.ntmps69
    go_wp2_with fail
    go_ret
    exact ⟨rfl, rfl⟩
  · have hb : ((c : Int) == 33) = false := by simp; omega
    have e : Sc.tgc c = Sc.nam c := by simp [Sc.tgc, h]
    rw [e]
    clear h e
    go_enter Tryd.func69, Tryd.ntmps69
    go_wp2_with fail
    refine (pName c w).mono ?_
    rintro e w1 ⟨rfl, rfl⟩
    go_wp2
    go_ret
    exact ⟨rfl, rfl⟩
theorem str_nil (s : ByteArray) (h : s.size = 0) : s = ⟨#[]⟩ := by
  cases s with
  | mk d => simp [ByteArray.size] at h; rw [h]
theorem list_ne (s : ByteArray) (h : 0 < s.size) : s.data.toList.isEmpty = false := by
  cases hl : s.data.toList with
  | nil => rw [Lib.size_eq, hl] at h; exact absurd h (by decide)
  | cons => rfl
theorem part_at (s : ByteArray) (h : 0 < s.size) : Sc.part (Sc.nats s) = Sc.blk (s.get! 0).toNat := by
  have := Sc.drop_cons s 0 h
  rw [List.drop_zero] at this
  rw [this]; rfl
theorem nats_nil : Sc.nats ⟨#[]⟩ = [] := rfl
set_option maxHeartbeats 1000000 in
theorem pParted (s : ByteArray) (w : World) (hs : s.size ≤ maxLen) :
    Calls Tryd.prog 67 #[.string s] w fun e w' => e = .returned (.bool (Sc.part (Sc.nats s))) ∧ w = w' := by
  unfold maxLen at hs
  by_cases h : s.size = 0
  · obtain rfl := str_nil s h
    go_enter Tryd.func67, Tryd.ntmps67
    go_wp2_with fail
    go_ret
    exact ⟨rfl, rfl⟩
  · have h0 : 0 < s.size := by omega
    have hP := part_at s h0
    have hB := pBlank (s.get! 0).toNat w
    rw [← hP] at hB
    rw [← Sc.get_el s 0 h0] at hB
    have HB := Lib.hid hB
    have hne : s ≠ ⟨#[]⟩ := fun e => by rw [e] at h; exact h rfl
    have hb : s.toList.isEmpty = false := by rw [ByteArray.toList_eq]; exact list_ne s h0
    clear hP hB hne
    go_enter Tryd.func67, Tryd.ntmps67
    go_wp2_with fail
    refine HB.out.mono ?_
    rintro e w1 ⟨rfl, rfl⟩
    go_wp2
    go_ret
    exact ⟨rfl, rfl⟩
end Go.Proofs.YtapkejdjbmdebaaDoor
