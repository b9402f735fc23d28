/- scan.headSize (case by case; written by tools/gen_pq5.py). -/
import Derived.Test.YtapkejdjbmdebaaDoorPq4
namespace Go.Proofs.YtapkejdjbmdebaaDoor
open Go.RowKit
open Go.Proofs.YtapkejdjbmdebaaDoor.Sg
set_option linter.unusedVariables false

theorem headS_at (s : ByteArray) (h0 : 0 < s.size) : Sc.headS (Sc.nats (s.extract 1 s.size)) = if 1 < s.size ∧ ((s.get! 1).toNat = 43 ∨ (s.get! 1).toNat = 45) then 2 else 1 := by
  rw [Sc.nats_tail]
  by_cases h1 : 1 < s.size
  · rw [Sc.drop_cons s 1 h1, Sc.headS]
    by_cases a : (s.get! 1).toNat = 43
    · rw [if_pos a, if_pos ⟨h1, .inl a⟩]
    · rw [if_neg a]
      by_cases b : (s.get! 1).toNat = 45
      · rw [if_pos b, if_pos ⟨h1, .inr b⟩]
      · rw [if_neg b, if_neg (fun x => x.2.elim a b)]
  · rw [Sc.drop_nil s 1 (by omega), if_neg (fun x => h1 x.1)]; rfl
/-- Behind a head of k bytes. -/
theorem tail_ok (s : ByteArray) (k n : Nat) (hk : k ≤ s.size) (hn : Sc.run Sc.blk (Sc.nats (s.extract k s.size)) = n) :
    Sc.tailOk ((Sc.nats s).drop k) = (decide (((s.extract k s.size).extract n (s.extract k s.size).size).size = 0) || (Sc.part (Sc.nats (s.extract k s.size)) && Sc.hsh (Sc.nats ((s.extract k s.size).extract n (s.extract k s.size).size)))) := by
  unfold Sc.tailOk
  rw [← Sc.nats_tail, hn, ← Sc.nats_tail (s.extract k s.size) n]
  congr 1
  rw [Bool.eq_iff_iff, beq_iff_eq, decide_eq_true_eq]
  exact ⟨fun h => by rw [← Sc.nats_len, h]; rfl, fun h => List.eq_nil_of_length_eq_zero (by rw [Sc.nats_len]; exact h)⟩
theorem hsh_at (s : ByteArray) (h : 0 < s.size) : Sc.hsh (Sc.nats s) = ((s[0]'h).toNat == 35) := by
  rw [row_cons s h]; rfl
theorem headN_at (s : ByteArray) (h0 : 0 < s.size) (k : Nat) (hk : Sc.headS (Sc.nats (s.extract 1 s.size)) = k) : Sc.headN (Sc.nats s) = if (s[0]'h0).toNat = 124 ∨ (s[0]'h0).toNat = 62 then (if Sc.tailOk ((Sc.nats s).drop k) = true then k else 0) else 0 := by
  subst hk
  have := row_cons s h0
  rw [this, Sc.headN]
/-- What headSize asks of the first byte. -/
def HeadB (x : Nat) : Prop := ((x : Int) != 124) = false ∨ (((x : Int) != 124) = true ∧ ((x : Int) != 62) = false)
theorem headB_of {x : Nat} (c : x = 124 ∨ x = 62) : HeadB x := by
  rcases c with c | c
  · left; rw [c]; rfl
  · right; rw [c]; exact ⟨rfl, rfl⟩
set_option maxHeartbeats 2000000 in
set_option maxRecDepth 100000 in
theorem pHead1 (s : ByteArray) (w : World) (hs : s.size ≤ 100000) (h0 : 0 < s.size) (c : (s[0]'h0).toNat = 124 ∨ (s[0]'h0).toNat = 62) (h1 : s.size = 1) :
    Calls Tryd.prog 56 #[.string s] w fun e w' => e = .returned (.int .i64 (Sc.headN (Sc.nats s))) ∧ Below w.heap.size w w' := by
  have hS : Sc.headS (Sc.nats (s.extract 1 s.size)) = 1 := by rw [headS_at s h0]; rw [if_neg (fun x => by omega)]
  have hres := headN_at s h0 1 hS
  rw [if_pos c, Sc.drop_nil s 1 (by omega)] at hres
  have hR : Sc.headN (Sc.nats s) = 1 := by rw [hres]; rfl
  rw [hR]
  have hI1 : ¬ ((1 : Int) < (s.size : Int)) := by omega
  have hkI : (1 : Int) ≤ (s.size : Int) := by omega
  have HB := Lib.hid (runBlank ByteArray.empty w (by decide))
  have gF := headB_of c
  clear hS hres hR c
  rcases gF with gA | ⟨gA, gB⟩
  all_goals
    go_enter Tryd.func56, Tryd.ntmps56
    go_wp2_with fail
    refine HB.out.mono ?_
    rintro e w1 ⟨rfl, hbw⟩
    go_wp2_with fail
    go_ret
    exact ⟨rfl, hbw⟩
set_option maxHeartbeats 4000000 in
set_option maxRecDepth 100000 in
theorem pHead2 (s : ByteArray) (w : World) (hs : s.size ≤ 100000) (h0 : 0 < s.size) (c : (s[0]'h0).toNat = 124 ∨ (s[0]'h0).toNat = 62) (h1 : 1 < s.size) (a : (s[1]'h1).toNat ≠ 43) (b : (s[1]'h1).toNat ≠ 45) :
    Calls Tryd.prog 56 #[.string s] w fun e w' => e = .returned (.int .i64 (Sc.headN (Sc.nats s))) ∧ Below w.heap.size w w' := by
  have hm : s.size ≤ maxLen := by unfold maxLen; omega
  have hS : Sc.headS (Sc.nats (s.extract 1 s.size)) = 1 := by rw [headS_at s h0]; rw [← Sc.get_el s 1 h1, if_neg (fun x => x.2.elim a b)]
  have hres := headN_at s h0 1 hS
  rw [if_pos c] at hres
  have hz := tail_max s 1 hm
  have hrb := runBlank (s.extract 1 s.size) w hz
  have hle := Sc.run_le Sc.blk (Sc.nats (s.extract 1 s.size))
  rw [Sc.nats_len] at hle
  obtain ⟨n, hn⟩ : ∃ n, Sc.run Sc.blk (Sc.nats (s.extract 1 s.size)) = n := ⟨_, rfl⟩
  have hok := tail_ok s 1 n (by omega) hn
  rw [hn] at hrb hle
  obtain ⟨rest, hrest⟩ : ∃ rest, s.extract 1 s.size = rest := ⟨_, rfl⟩
  have hrz : rest.size ≤ 100000 := by rw [← hrest, ByteArray.size_extract]; omega
  rw [hrest] at hrb hle hok hz
  have hpt := fun W => pParted rest W hz
  have hlo : (n : Int) ≤ (rest.size : Int) := by omega
  have hkI : (1 : Int) ≤ (s.size : Int) := by omega
  obtain ⟨bh, hbh⟩ : ∃ bh, rest.extract n rest.size = bh := ⟨_, rfl⟩
  rw [hbh] at hok
  have gF := headB_of c
  have hI1 : (1 : Int) < (s.size : Int) := by omega
  have ga : (((s[1]'h1).toNat : Int) == 43) = false := beq_eq_false_iff_ne.2 (by omega)
  have gb : (((s[1]'h1).toNat : Int) == 45) = false := beq_eq_false_iff_ne.2 (by omega)
  clear a b
  have HB := Lib.hid hrb
  clear hn hz hS c hle hrb hs hm
  by_cases hb0 : bh.size = 0
  · obtain rfl := str_nil bh hb0
    have hR : Sc.headN (Sc.nats s) = 1 := by rw [hres, hok]; rfl
    rw [hR]
    clear hres hok hpt hb0 hR
    rcases gF with gA | ⟨gA, gB⟩
    all_goals
      go_enter Tryd.func56, Tryd.ntmps56
      go_wp2_with fail
      refine HB.out.mono ?_
      rintro e w1 ⟨rfl, hbw⟩
      go_wp2_with fail
      go_ret
      exact ⟨rfl, hbw⟩
  · have hb1 : 0 < bh.size := by omega
    have hE : bh.toList.isEmpty = false := by rw [ByteArray.toList_eq]; exact list_ne bh hb1
    have hdb : decide (bh.size = 0) = false := decide_eq_false hb0
    have hh := hsh_at bh hb1
    rw [hdb, Bool.false_or] at hok
    clear hdb hb0
    cases hp : Sc.part (Sc.nats rest) with
    | false =>
      have hR : Sc.headN (Sc.nats s) = 0 := by rw [hres, hok, hp]; rfl
      rw [hR]
      have HP := Lib.hid (fun W => by have := hpt W; rw [hp] at this; exact this)
      clear hres hok hpt hp hh hR
      rcases gF with gA | ⟨gA, gB⟩
      all_goals
        go_enter Tryd.func56, Tryd.ntmps56
        go_wp2_with fail
        refine HB.out.mono ?_
        rintro e w1 ⟨rfl, hbw⟩
        go_wp2_with fail
        refine (HP.out _).mono ?_
        rintro e w2 ⟨rfl, rfl⟩
        go_wp2_with fail
        go_ret
        exact ⟨rfl, hbw⟩
    | true =>
      have HP := Lib.hid (fun W => by have := hpt W; rw [hp] at this; exact this)
      by_cases h35 : (bh[0]'hb1).toNat = 35
      · have hR : Sc.headN (Sc.nats s) = 1 := by rw [hres, hok, hp, hh, h35]; rfl
        rw [hR]
        have g35 : (((bh[0]'hb1).toNat : Int) == 35) = true := by rw [h35]; rfl
        clear hres hok hpt hp hh hR h35
        rcases gF with gA | ⟨gA, gB⟩
        all_goals
          go_enter Tryd.func56, Tryd.ntmps56
          go_wp2_with fail
          refine HB.out.mono ?_
          rintro e w1 ⟨rfl, hbw⟩
          go_wp2_with fail
          refine (HP.out _).mono ?_
          rintro e w2 ⟨rfl, rfl⟩
          go_wp2_with fail
          go_ret
          exact ⟨rfl, hbw⟩
      · have hR : Sc.headN (Sc.nats s) = 0 := by
          rw [hres, hok, hp, hh, beq_eq_false_iff_ne.2 h35]; rfl
        rw [hR]
        have g35 : (((bh[0]'hb1).toNat : Int) == 35) = false := beq_eq_false_iff_ne.2 (by omega)
        clear hres hok hpt hp hh hR h35
        rcases gF with gA | ⟨gA, gB⟩
        all_goals
          go_enter Tryd.func56, Tryd.ntmps56
          go_wp2_with fail
          refine HB.out.mono ?_
          rintro e w1 ⟨rfl, hbw⟩
          go_wp2_with fail
          refine (HP.out _).mono ?_
          rintro e w2 ⟨rfl, rfl⟩
          go_wp2_with fail
          go_ret
          exact ⟨rfl, hbw⟩
set_option maxHeartbeats 4000000 in
set_option maxRecDepth 100000 in
theorem pHead3 (s : ByteArray) (w : World) (hs : s.size ≤ 100000) (h0 : 0 < s.size) (c : (s[0]'h0).toNat = 124 ∨ (s[0]'h0).toNat = 62) (h1 : 1 < s.size) (a : (s[1]'h1).toNat = 43) :
    Calls Tryd.prog 56 #[.string s] w fun e w' => e = .returned (.int .i64 (Sc.headN (Sc.nats s))) ∧ Below w.heap.size w w' := by
  have hm : s.size ≤ maxLen := by unfold maxLen; omega
  have hS : Sc.headS (Sc.nats (s.extract 1 s.size)) = 2 := by rw [headS_at s h0]; rw [← Sc.get_el s 1 h1, if_pos ⟨h1, .inl a⟩]
  have hres := headN_at s h0 2 hS
  rw [if_pos c] at hres
  have hz := tail_max s 2 hm
  have hrb := runBlank (s.extract 2 s.size) w hz
  have hle := Sc.run_le Sc.blk (Sc.nats (s.extract 2 s.size))
  rw [Sc.nats_len] at hle
  obtain ⟨n, hn⟩ : ∃ n, Sc.run Sc.blk (Sc.nats (s.extract 2 s.size)) = n := ⟨_, rfl⟩
  have hok := tail_ok s 2 n (by omega) hn
  rw [hn] at hrb hle
  obtain ⟨rest, hrest⟩ : ∃ rest, s.extract 2 s.size = rest := ⟨_, rfl⟩
  have hrz : rest.size ≤ 100000 := by rw [← hrest, ByteArray.size_extract]; omega
  rw [hrest] at hrb hle hok hz
  have hpt := fun W => pParted rest W hz
  have hlo : (n : Int) ≤ (rest.size : Int) := by omega
  have hkI : (2 : Int) ≤ (s.size : Int) := by omega
  obtain ⟨bh, hbh⟩ : ∃ bh, rest.extract n rest.size = bh := ⟨_, rfl⟩
  rw [hbh] at hok
  have gF := headB_of c
  have hI1 : (1 : Int) < (s.size : Int) := by omega
  have ga : (((s[1]'h1).toNat : Int) == 43) = true := by rw [a]; rfl
  clear a
  have HB := Lib.hid hrb
  clear hn hz hS c hle hrb hs hm
  by_cases hb0 : bh.size = 0
  · obtain rfl := str_nil bh hb0
    have hR : Sc.headN (Sc.nats s) = 2 := by rw [hres, hok]; rfl
    rw [hR]
    clear hres hok hpt hb0 hR
    rcases gF with gA | ⟨gA, gB⟩
    all_goals
      go_enter Tryd.func56, Tryd.ntmps56
      go_wp2_with fail
      refine HB.out.mono ?_
      rintro e w1 ⟨rfl, hbw⟩
      go_wp2_with fail
      go_ret
      exact ⟨rfl, hbw⟩
  · have hb1 : 0 < bh.size := by omega
    have hE : bh.toList.isEmpty = false := by rw [ByteArray.toList_eq]; exact list_ne bh hb1
    have hdb : decide (bh.size = 0) = false := decide_eq_false hb0
    have hh := hsh_at bh hb1
    rw [hdb, Bool.false_or] at hok
    clear hdb hb0
    cases hp : Sc.part (Sc.nats rest) with
    | false =>
      have hR : Sc.headN (Sc.nats s) = 0 := by rw [hres, hok, hp]; rfl
      rw [hR]
      have HP := Lib.hid (fun W => by have := hpt W; rw [hp] at this; exact this)
      clear hres hok hpt hp hh hR
      rcases gF with gA | ⟨gA, gB⟩
      all_goals
        go_enter Tryd.func56, Tryd.ntmps56
        go_wp2_with fail
        refine HB.out.mono ?_
        rintro e w1 ⟨rfl, hbw⟩
        go_wp2_with fail
        refine (HP.out _).mono ?_
        rintro e w2 ⟨rfl, rfl⟩
        go_wp2_with fail
        go_ret
        exact ⟨rfl, hbw⟩
    | true =>
      have HP := Lib.hid (fun W => by have := hpt W; rw [hp] at this; exact this)
      by_cases h35 : (bh[0]'hb1).toNat = 35
      · have hR : Sc.headN (Sc.nats s) = 2 := by rw [hres, hok, hp, hh, h35]; rfl
        rw [hR]
        have g35 : (((bh[0]'hb1).toNat : Int) == 35) = true := by rw [h35]; rfl
        clear hres hok hpt hp hh hR h35
        rcases gF with gA | ⟨gA, gB⟩
        all_goals
          go_enter Tryd.func56, Tryd.ntmps56
          go_wp2_with fail
          refine HB.out.mono ?_
          rintro e w1 ⟨rfl, hbw⟩
          go_wp2_with fail
          refine (HP.out _).mono ?_
          rintro e w2 ⟨rfl, rfl⟩
          go_wp2_with fail
          go_ret
          exact ⟨rfl, hbw⟩
      · have hR : Sc.headN (Sc.nats s) = 0 := by
          rw [hres, hok, hp, hh, beq_eq_false_iff_ne.2 h35]; rfl
        rw [hR]
        have g35 : (((bh[0]'hb1).toNat : Int) == 35) = false := beq_eq_false_iff_ne.2 (by omega)
        clear hres hok hpt hp hh hR h35
        rcases gF with gA | ⟨gA, gB⟩
        all_goals
          go_enter Tryd.func56, Tryd.ntmps56
          go_wp2_with fail
          refine HB.out.mono ?_
          rintro e w1 ⟨rfl, hbw⟩
          go_wp2_with fail
          refine (HP.out _).mono ?_
          rintro e w2 ⟨rfl, rfl⟩
          go_wp2_with fail
          go_ret
          exact ⟨rfl, hbw⟩
set_option maxHeartbeats 4000000 in
set_option maxRecDepth 100000 in
theorem pHead4 (s : ByteArray) (w : World) (hs : s.size ≤ 100000) (h0 : 0 < s.size) (c : (s[0]'h0).toNat = 124 ∨ (s[0]'h0).toNat = 62) (h1 : 1 < s.size) (a : (s[1]'h1).toNat = 45) :
    Calls Tryd.prog 56 #[.string s] w fun e w' => e = .returned (.int .i64 (Sc.headN (Sc.nats s))) ∧ Below w.heap.size w w' := by
  have hm : s.size ≤ maxLen := by unfold maxLen; omega
  have hS : Sc.headS (Sc.nats (s.extract 1 s.size)) = 2 := by rw [headS_at s h0]; rw [← Sc.get_el s 1 h1, if_pos ⟨h1, .inr a⟩]
  have hres := headN_at s h0 2 hS
  rw [if_pos c] at hres
  have hz := tail_max s 2 hm
  have hrb := runBlank (s.extract 2 s.size) w hz
  have hle := Sc.run_le Sc.blk (Sc.nats (s.extract 2 s.size))
  rw [Sc.nats_len] at hle
  obtain ⟨n, hn⟩ : ∃ n, Sc.run Sc.blk (Sc.nats (s.extract 2 s.size)) = n := ⟨_, rfl⟩
  have hok := tail_ok s 2 n (by omega) hn
  rw [hn] at hrb hle
  obtain ⟨rest, hrest⟩ : ∃ rest, s.extract 2 s.size = rest := ⟨_, rfl⟩
  have hrz : rest.size ≤ 100000 := by rw [← hrest, ByteArray.size_extract]; omega
  rw [hrest] at hrb hle hok hz
  have hpt := fun W => pParted rest W hz
  have hlo : (n : Int) ≤ (rest.size : Int) := by omega
  have hkI : (2 : Int) ≤ (s.size : Int) := by omega
  obtain ⟨bh, hbh⟩ : ∃ bh, rest.extract n rest.size = bh := ⟨_, rfl⟩
  rw [hbh] at hok
  have gF := headB_of c
  have hI1 : (1 : Int) < (s.size : Int) := by omega
  have ga : (((s[1]'h1).toNat : Int) == 43) = false := by rw [a]; rfl
  have gb : (((s[1]'h1).toNat : Int) == 45) = true := by rw [a]; rfl
  clear a
  have HB := Lib.hid hrb
  clear hn hz hS c hle hrb hs hm
  by_cases hb0 : bh.size = 0
  · obtain rfl := str_nil bh hb0
    have hR : Sc.headN (Sc.nats s) = 2 := by rw [hres, hok]; rfl
    rw [hR]
    clear hres hok hpt hb0 hR
    rcases gF with gA | ⟨gA, gB⟩
    all_goals
      go_enter Tryd.func56, Tryd.ntmps56
      go_wp2_with fail
      refine HB.out.mono ?_
      rintro e w1 ⟨rfl, hbw⟩
      go_wp2_with fail
      go_ret
      exact ⟨rfl, hbw⟩
  · have hb1 : 0 < bh.size := by omega
    have hE : bh.toList.isEmpty = false := by rw [ByteArray.toList_eq]; exact list_ne bh hb1
    have hdb : decide (bh.size = 0) = false := decide_eq_false hb0
    have hh := hsh_at bh hb1
    rw [hdb, Bool.false_or] at hok
    clear hdb hb0
    cases hp : Sc.part (Sc.nats rest) with
    | false =>
      have hR : Sc.headN (Sc.nats s) = 0 := by rw [hres, hok, hp]; rfl
      rw [hR]
      have HP := Lib.hid (fun W => by have := hpt W; rw [hp] at this; exact this)
      clear hres hok hpt hp hh hR
      rcases gF with gA | ⟨gA, gB⟩
      all_goals
        go_enter Tryd.func56, Tryd.ntmps56
        go_wp2_with fail
        refine HB.out.mono ?_
        rintro e w1 ⟨rfl, hbw⟩
        go_wp2_with fail
        refine (HP.out _).mono ?_
        rintro e w2 ⟨rfl, rfl⟩
        go_wp2_with fail
        go_ret
        exact ⟨rfl, hbw⟩
    | true =>
      have HP := Lib.hid (fun W => by have := hpt W; rw [hp] at this; exact this)
      by_cases h35 : (bh[0]'hb1).toNat = 35
      · have hR : Sc.headN (Sc.nats s) = 2 := by rw [hres, hok, hp, hh, h35]; rfl
        rw [hR]
        have g35 : (((bh[0]'hb1).toNat : Int) == 35) = true := by rw [h35]; rfl
        clear hres hok hpt hp hh hR h35
        rcases gF with gA | ⟨gA, gB⟩
        all_goals
          go_enter Tryd.func56, Tryd.ntmps56
          go_wp2_with fail
          refine HB.out.mono ?_
          rintro e w1 ⟨rfl, hbw⟩
          go_wp2_with fail
          refine (HP.out _).mono ?_
          rintro e w2 ⟨rfl, rfl⟩
          go_wp2_with fail
          go_ret
          exact ⟨rfl, hbw⟩
      · have hR : Sc.headN (Sc.nats s) = 0 := by
          rw [hres, hok, hp, hh, beq_eq_false_iff_ne.2 h35]; rfl
        rw [hR]
        have g35 : (((bh[0]'hb1).toNat : Int) == 35) = false := beq_eq_false_iff_ne.2 (by omega)
        clear hres hok hpt hp hh hR h35
        rcases gF with gA | ⟨gA, gB⟩
        all_goals
          go_enter Tryd.func56, Tryd.ntmps56
          go_wp2_with fail
          refine HB.out.mono ?_
          rintro e w1 ⟨rfl, hbw⟩
          go_wp2_with fail
          refine (HP.out _).mono ?_
          rintro e w2 ⟨rfl, rfl⟩
          go_wp2_with fail
          go_ret
          exact ⟨rfl, hbw⟩
set_option maxHeartbeats 1000000 in
theorem pHead0 (s : ByteArray) (w : World) (hs : s.size ≤ 100000) (h0 : 0 < s.size) (c : ¬ ((s[0]'h0).toNat = 124 ∨ (s[0]'h0).toNat = 62)) :
    Calls Tryd.prog 56 #[.string s] w fun e w' => e = .returned (.int .i64 (Sc.headN (Sc.nats s))) ∧ Below w.heap.size w w' := by
  have hR : Sc.headN (Sc.nats s) = 0 := by rw [headN_at s h0 _ rfl, if_neg c]
  rw [hR]
  have gA : (((s[0]'h0).toNat : Int) != 124) = true := by simp; omega
  have gB : (((s[0]'h0).toNat : Int) != 62) = true := by simp; omega
  clear hR c
  go_enter Tryd.func56, Tryd.ntmps56
  go_wp2_with fail
  go_ret
  exact ⟨rfl, Below.refl _ _⟩
theorem pHead (s : ByteArray) (w : World) (hs : s.size ≤ 100000) (h0 : 0 < s.size) :
    Calls Tryd.prog 56 #[.string s] w fun e w' => e = .returned (.int .i64 (Sc.headN (Sc.nats s))) ∧ Below w.heap.size w w' := by
  by_cases c : (s[0]'h0).toNat = 124 ∨ (s[0]'h0).toNat = 62
  · by_cases h1 : 1 < s.size
    · by_cases a : (s[1]'h1).toNat = 43
      · exact pHead3 s w hs h0 c h1 a
      · by_cases b : (s[1]'h1).toNat = 45
        · exact pHead4 s w hs h0 c h1 b
        · exact pHead2 s w hs h0 c h1 a b
    · exact pHead1 s w hs h0 c (by omega)
  · exact pHead0 s w hs h0 c
end Go.Proofs.YtapkejdjbmdebaaDoor
