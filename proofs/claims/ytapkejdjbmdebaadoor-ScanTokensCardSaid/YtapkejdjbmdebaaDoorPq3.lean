/- scan.rowSize, breakSize, mark. -/
import Derived.Test.YtapkejdjbmdebaaDoorIdy
import Derived.Test.YtapkejdjbmdebaaDoorPq2
namespace Go.Proofs.YtapkejdjbmdebaaDoor
open Go.RowKit
open Go.Proofs.YtapkejdjbmdebaaDoor.Sg
set_option linter.unusedVariables false

set_option maxRecDepth 100000 in
theorem ixAny_any (s : ByteArray) (w : World) (hs : s.size ≤ 100000) :
    Calls Tryd.prog 44 #[.string s, .string ⟨#[13, 10]⟩] w fun e w' => e = .returned (.int .i64 (rowI (Sc.nats s))) ∧ Below w.heap.size w w' := by
  by_cases h : s.size ≤ 8
  · exact ixAny_short s w h
  · have h2 := Any.strings_IndexAny_long (L := ia_lays) Tryd.zeroValue67 (by kernel_rfl) s ⟨#[13, 10]⟩ w (by decide) (by omega) (by omega) (by decide) (ascii_of_all (by decide))
    refine Calls.mono h2 ?_
    rintro e w' ⟨rfl, rfl⟩
    refine ⟨?_, ((Below.refl _ w).alloc (Nat.le_refl _) _).alloc (by simp) _⟩
    rw [show Sc.nats s = s.data.toList.map UInt8.toNat from rfl, ← indexAny_row]
set_option maxHeartbeats 1000000 in
theorem pRowSize (s : ByteArray) (w : World) (hs : s.size ≤ 100000) :
    Calls Tryd.prog 25 #[.string s] w fun e w' => e = .returned (.int .i64 (Sc.rowN (Sc.nats s))) ∧ Below w.heap.size w w' := by
  have HC := Lib.hid (ixAny_any s w hs)
  have hl : (Sc.nats s).length = s.size := Sc.nats_len s
  by_cases h : Sc.rowN (Sc.nats s) = (Sc.nats s).length
  · have hI : rowI (Sc.nats s) = -1 := by unfold rowI; rw [if_pos h]
    rw [hI] at HC
    rw [h, hl]
    clear h hI hl
    go_enter Tryd.func25, Tryd.ntmps25
    go_wp2_with fail
    refine HC.out.mono ?_
    rintro e w1 ⟨rfl, hb⟩
    go_wp2
    go_ret
    exact ⟨rfl, hb⟩
  · have hI : rowI (Sc.nats s) = (Sc.rowN (Sc.nats s) : Int) := by unfold rowI; rw [if_neg h]
    rw [hI] at HC
    generalize Sc.rowN (Sc.nats s) = k at *
    have hk : (0 : Int) ≤ (k : Int) := by omega
    clear h hI hl
    go_enter Tryd.func25, Tryd.ntmps25
    go_wp2_with fail
    refine HC.out.mono ?_
    rintro e w1 ⟨rfl, hb⟩
    go_wp2
    go_ret
    exact ⟨rfl, hb⟩
theorem hasPre (s p : ByteArray) (w : World) :
    Calls Tryd.prog 45 #[.string s, .string p] w fun e w' => e = .returned (.bool (p.data.toList.isPrefixOf s.data.toList)) ∧ w' = w := Any.strings_HasPrefix (L := hp_lays) s p w
theorem pre1 (s : ByteArray) (a : Nat) (ha : a < 256) : ([UInt8.ofNat a] : List UInt8).isPrefixOf s.data.toList = decide (0 < s.size ∧ (s.get! 0).toNat = a) := by
  have e : (UInt8.ofNat a).toNat = a := by simp; omega
  have hd := Lib.getD_get!' s 0
  have hz := Lib.size_eq s
  cases hl : s.data.toList with
  | nil => rw [hl] at hz; simp at hz; simp [hz]
  | cons x r =>
    rw [hl] at hd hz
    simp only [List.length_cons] at hz
    have hx : x = s.get! 0 := by simpa using hd
    rw [← hx]
    simp only [List.isPrefixOf, Bool.and_true]
    rw [Bool.eq_iff_iff]
    simp only [beq_iff_eq, decide_eq_true_eq]
    constructor
    · rintro rfl; exact ⟨by omega, e⟩
    · rintro ⟨_, h⟩; exact UInt8.toNat_inj.1 (by rw [e, h])
theorem pre2 (s : ByteArray) (a b : Nat) (ha : a < 256) (hb : b < 256) : ([UInt8.ofNat a, UInt8.ofNat b] : List UInt8).isPrefixOf s.data.toList = decide (1 < s.size ∧ (s.get! 0).toNat = a ∧ (s.get! 1).toNat = b) := by
  have e : (UInt8.ofNat a).toNat = a := by simp; omega
  have e2 : (UInt8.ofNat b).toNat = b := by simp; omega
  have hd := Lib.getD_get!' s 0
  have hd1 := Lib.getD_get!' s 1
  have hz := Lib.size_eq s
  cases hl : s.data.toList with
  | nil => rw [hl] at hz; simp at hz; simp [hz]
  | cons x r =>
    cases r with
    | nil => rw [hl] at hz; simp at hz; simp [hz, List.isPrefixOf]
    | cons y r =>
      rw [hl] at hd hd1 hz
      simp only [List.length_cons] at hz
      have hx : x = s.get! 0 := by simpa using hd
      have hy : y = s.get! 1 := by simpa using hd1
      rw [← hx, ← hy]
      simp only [List.isPrefixOf, Bool.and_true]
      rw [Bool.eq_iff_iff]
      simp only [beq_iff_eq, decide_eq_true_eq, Bool.and_eq_true]
      constructor
      · rintro ⟨rfl, rfl⟩; exact ⟨by omega, e, e2⟩
      · rintro ⟨_, h, h2⟩; exact ⟨UInt8.toNat_inj.1 (by rw [e, h]), UInt8.toNat_inj.1 (by rw [e2, h2])⟩
theorem brk_at (s : ByteArray) : Sc.brkS (Sc.nats s) = if 1 < s.size ∧ (s.get! 0).toNat = 13 ∧ (s.get! 1).toNat = 10 then 2 else if 0 < s.size ∧ (s.get! 0).toNat = 13 then 1 else if 0 < s.size ∧ (s.get! 0).toNat = 10 then 1 else 0 := by
  have hl := Sc.nats_len s
  have g0 := Sc.nats_getD s 0
  have g1 := Sc.nats_getD s 1
  cases h : Sc.nats s with
  | nil => rw [h] at hl; simp at hl; simp [← hl, Sc.brkS]
  | cons c r =>
    cases r with
    | nil =>
      rw [h] at hl g0 g1
      simp at hl g0 g1
      rw [Sc.brkS, ← hl, ← g0]
      simp
    | cons d r =>
      rw [h] at hl g0 g1
      simp at hl g0 g1
      rw [Sc.brkS, ← g0, ← g1, ← hl]
      by_cases h1 : c = 13
      · subst h1; by_cases h2 : d = 10 <;> simp [h2]
      · by_cases h2 : c = 10 <;> simp [h1, h2]
set_option maxHeartbeats 1000000 in
theorem pBreakSize (s : ByteArray) (w : World) :
    Calls Tryd.prog 26 #[.string s] w fun e w' => e = .returned (.int .i64 (Sc.brkS (Sc.nats s))) ∧ w' = w := by
  rw [brk_at]
  have h1 := hasPre s ⟨#[13, 10]⟩ w
  have h2 := hasPre s ⟨#[13]⟩ w
  have h3 := hasPre s ⟨#[10]⟩ w
  rw [show ((⟨#[13, 10]⟩ : ByteArray).data.toList.isPrefixOf s.data.toList) = _ from pre2 s 13 10 (by decide) (by decide)] at h1
  rw [show ((⟨#[13]⟩ : ByteArray).data.toList.isPrefixOf s.data.toList) = _ from pre1 s 13 (by decide)] at h2
  rw [show ((⟨#[10]⟩ : ByteArray).data.toList.isPrefixOf s.data.toList) = _ from pre1 s 10 (by decide)] at h3
  by_cases c1 : 1 < s.size ∧ (s.get! 0).toNat = 13 ∧ (s.get! 1).toNat = 10
  · rw [if_pos c1]
    rw [decide_eq_true c1] at h1
    have H1 := Lib.hid h1
    clear h1 h2 h3 c1
    go_enter Tryd.func26, Tryd.ntmps26
    go_wp2_with fail
    refine H1.out.mono ?_
    rintro e w1 ⟨rfl, rfl⟩
    go_wp2_with fail
    go_ret
    exact ⟨rfl, rfl⟩
  · rw [if_neg c1]
    rw [decide_eq_false c1] at h1
    have H1 := Lib.hid h1
    clear h1 c1
    by_cases c2 : 0 < s.size ∧ (s.get! 0).toNat = 13
    · rw [if_pos c2]
      rw [decide_eq_true c2] at h2
      have H2 := Lib.hid h2
      clear h2 h3 c2
      go_enter Tryd.func26, Tryd.ntmps26
      go_wp2_with fail
      refine H1.out.mono ?_
      rintro e w1 ⟨rfl, rfl⟩
      go_wp2_with fail
      refine H2.out.mono ?_
      rintro e w2 ⟨rfl, rfl⟩
      go_wp2_with fail
      go_ret
      exact ⟨rfl, rfl⟩
    · rw [if_neg c2]
      rw [decide_eq_false c2] at h2
      have H2 := Lib.hid h2
      clear h2 c2
      by_cases c3 : 0 < s.size ∧ (s.get! 0).toNat = 10
      · rw [if_pos c3]
        rw [decide_eq_true c3] at h3
        have H3 := Lib.hid h3
        clear h3 c3
        go_enter Tryd.func26, Tryd.ntmps26
        go_wp2_with fail
        refine H1.out.mono ?_
        rintro e w1 ⟨rfl, rfl⟩
        go_wp2_with fail
        refine H2.out.mono ?_
        rintro e w2 ⟨rfl, rfl⟩
        go_wp2_with fail
        refine H3.out.mono ?_
        rintro e w3 ⟨rfl, rfl⟩
        go_wp2_with fail
        go_ret
        exact ⟨rfl, rfl⟩
      · rw [if_neg c3]
        rw [decide_eq_false c3] at h3
        have H3 := Lib.hid h3
        clear h3 c3
        go_enter Tryd.func26, Tryd.ntmps26
        go_wp2_with fail
        refine H1.out.mono ?_
        rintro e w1 ⟨rfl, rfl⟩
        go_wp2_with fail
        refine H2.out.mono ?_
        rintro e w2 ⟨rfl, rfl⟩
        go_wp2_with fail
        refine H3.out.mono ?_
        rintro e w3 ⟨rfl, rfl⟩
        go_wp2_with fail
        go_ret
        exact ⟨rfl, rfl⟩
/-- The program's kinds: what is none is -1. -/
def kI (k : Nat) : Int := if k = 0 then -1 else (k : Int)
theorem part_drop (s : ByteArray) : Sc.part ((Sc.nats s).drop 3) = Sc.part (Sc.nats (s.extract 3 s.size)) := by rw [Sc.nats_tail]
theorem head_list (s : ByteArray) (l : List UInt8) (h3 : 3 ≤ s.size) : ((s.extract 0 3).toList = l) ↔ (Sc.nats s).take 3 = l.map UInt8.toNat := by
  rw [ByteArray.toList_eq, ← Sc.nats_head]
  constructor
  · intro h; rw [← h]; rfl
  · intro h
    exact List.map_inj_right (fun _ _ => UInt8.toNat_inj.1) |>.1 h
set_option maxHeartbeats 1000000 in
theorem pMark (s : ByteArray) (w : World) (hs : s.size ≤ maxLen) :
    Calls Tryd.prog 46 #[.string s] w fun e w' => e = .returned (.int .i64 (kI (Sc.mark (Sc.nats s)))) ∧ w = w' := by
  have hs2 := hs
  unfold maxLen at hs
  by_cases h3 : s.size < 3
  · have hm : kI (Sc.mark (Sc.nats s)) = -1 := by
      have hl := Sc.nats_len s
      have : ((Sc.nats s).take 3).length < 3 := by rw [List.length_take]; omega
      unfold Sc.mark
      rw [if_neg (fun h => by rw [h] at this; simp at this), if_neg (fun h => by rw [h] at this; simp at this)]
      rfl
    rw [hm]
    have hlt : (s.size : Int) < 3 := by omega
    clear hm h3
    go_enter Tryd.func46, Tryd.ntmps46
    go_wp2_with fail
    go_ret
    exact ⟨rfl, rfl⟩
  · have hz : (s.extract 3 s.size).size ≤ maxLen := by rw [ByteArray.size_extract]; omega
    have hP := pParted (s.extract 3 s.size) w hz
    rw [← part_drop] at hP
    have hge : ¬ ((s.size : Int) < 3) := by omega
    have hlo : (3 : Int) ≤ (s.size : Int) := by omega
    have e1 := head_list s [45, 45, 45] (by omega)
    have e2 := head_list s [46, 46, 46] (by omega)
    unfold Sc.mark
    cases hp : Sc.part ((Sc.nats s).drop 3) with
    | false =>
      rw [hp] at hP
      have HP := Lib.hid hP
      have hr : kI (if (Sc.nats s).take 3 = [45, 45, 45] then (if false = true then 20 else 0) else if (Sc.nats s).take 3 = [46, 46, 46] then (if false = true then 21 else 0) else 0) = -1 := by
        simp [kI]
      rw [hr]
      clear hP hp hz e1 e2 h3 hr
      go_enter Tryd.func46, Tryd.ntmps46
      go_wp2_with fail
      refine HP.out.mono ?_
      rintro e w1 ⟨rfl, rfl⟩
      go_wp2_with fail
      go_ret
      exact ⟨rfl, rfl⟩
    | true =>
      rw [hp] at hP
      have HP := Lib.hid hP
      by_cases c1 : (Sc.nats s).take 3 = [45, 45, 45]
      · have g1 : ((s.extract 0 3).toList == [45, 45, 45]) = true := beq_iff_eq.2 (e1.2 (by rw [c1]; rfl))
        rw [if_pos c1]
        clear hP hp hz e1 e2 h3 c1
        go_enter Tryd.func46, Tryd.ntmps46
        go_wp2_with fail
        refine HP.out.mono ?_
        rintro e w1 ⟨rfl, rfl⟩
        go_wp2_with fail
        go_ret
        exact ⟨rfl, rfl⟩
      · have g1 : ((s.extract 0 3).toList == [45, 45, 45]) = false := beq_eq_false_iff_ne.2 fun h => c1 (by rw [e1.1 h]; rfl)
        rw [if_neg c1]
        by_cases c2 : (Sc.nats s).take 3 = [46, 46, 46]
        · have g2 : ((s.extract 0 3).toList == [46, 46, 46]) = true := beq_iff_eq.2 (e2.2 (by rw [c2]; rfl))
          rw [if_pos c2]
          clear hP hp hz e1 e2 h3 c1 c2
          go_enter Tryd.func46, Tryd.ntmps46
          go_wp2_with fail
          refine HP.out.mono ?_
          rintro e w1 ⟨rfl, rfl⟩
          go_wp2_with fail
          go_ret
          exact ⟨rfl, rfl⟩
        · have g2 : ((s.extract 0 3).toList == [46, 46, 46]) = false := beq_eq_false_iff_ne.2 fun h => c2 (by rw [e2.1 h]; rfl)
          rw [if_neg c2]
          clear hP hp hz e1 e2 h3 c1 c2
          go_enter Tryd.func46, Tryd.ntmps46
          go_wp2_with fail
          refine HP.out.mono ?_
          rintro e w1 ⟨rfl, rfl⟩
          go_wp2_with fail
          go_ret
          exact ⟨rfl, rfl⟩
end Go.Proofs.YtapkejdjbmdebaaDoor
