/- What lines.endsLine and lines.Starts answer of any bytes. -/
import Derived.Test.YtdngcihjfbmbpaaDoorLnRef2
import Derived.Test.YtdngcihjfbmbpaaDoorRun2
namespace Go.Proofs.YtdngcihjfbmbpaaDoor
open Go.RowKit
open Go.Proofs.YtdngcihjfbmbpaaDoor.Sg

theorem runesNext_bys (s : ByteArray) (v : Value) (w : World) (h : Bys w v s) (hT : Tabs w) :
    Calls Tryd.prog 29 #[v] w fun e w' => e = .returned (.tuple #[.int .i32 (nx s 0).1, .int .i64 (nx s 0).2]) ∧ Below w.heap.size w w' := by
  rcases h with ⟨rfl, h⟩ | ⟨b, off, cap, rfl, h2, h3, h4⟩
  · have e : nx s 0 = (-1, 0) := by unfold nx; rw [h]; exact nx_none _ _ _ _
    rw [e]
    exact (runesNext_nil w).mono fun e w' h => ⟨h.1, by rw [h.2]; exact Below.refl _ w⟩
  · exact runesNext s s.size b off cap w rfl hT h4
/-- Whether a line feed stands there. -/
theorem nx_lf (s : ByteArray) (p : Nat) : (nx s p).1 = 10 ↔ (p < s.size ∧ (s.get! p).toNat = 10) := by
  by_cases h : p < s.size
  · have := nx_is s p 10 h (by omega)
    constructor
    · intro hh; exact ⟨h, this.1 hh⟩
    · intro hh; exact this.2 hh.2
  · have e : nx s p = (-1, 0) := by unfold nx; rw [show s.size - p = 0 from by omega]; exact nx_none _ _ _ _
    rw [e]
    constructor
    · intro hh; cases hh
    · intro hh; exact absurd hh.1 h

set_option maxHeartbeats 600000 in
set_option maxRecDepth 100000 in
theorem endsLine (s : ByteArray) (a : Option Addr) (cap i R : Nat) (w : World) (h : Bys w (.slice a s.size cap) s) (hT : Tabs w) (hi : i < s.size) (hm : s.size ≤ 1000000) (h13 : R = 13 ↔ (s.get! i).toNat = 13) (h10 : R = 10 ↔ (s.get! i).toNat = 10) :
    Calls Tryd.prog 23 #[.slice a s.size cap, .int .i64 i, .int .i32 R] w fun e w' => e = .returned (.bool (decide (ends s i))) ∧ Below w.heap.size w w' := by
  obtain ⟨vc, hsl, hvc⟩ := cut_l (lo := i + 1) h (by omega)
  have hN := runesNext_bys _ vc w hvc hT
  rw [nx_tail, Nat.add_zero] at hN
  have hlf := nx_lf s (i + 1)
  have hen : decide (ends s i) = if R = 13 then !decide ((nx s (i + 1)).1 = 10) else decide (R = 10) := by
    by_cases c1 : R = 13
    · rw [if_pos c1]
      by_cases c2 : (nx s (i + 1)).1 = 10
      · have : ¬ ends s i := by unfold ends; omega
        simp [c2, this]
      · have : ends s i := by unfold ends; omega
        simp [c2, this]
    · rw [if_neg c1]
      by_cases c2 : R = 10
      · have : ends s i := by unfold ends; omega
        simp [c2, this]
      · have : ¬ ends s i := by unfold ends; omega
        simp [c2, this]
  rw [hen]
  have hcast : ((i + 1 : Nat) : Int) = (i : Int) + 1 := by omega
  rw [hcast] at hsl
  generalize nx s (i + 1) = X at *
  obtain ⟨X1, X2⟩ := X
  dsimp only at hN ⊢
  have HN := Lib.hid hN
  have hii : (i : Int) < (s.size : Int) := by omega
  clear hN hlf hen hcast h13 h10 h hT hvc
  by_cases c1 : R = 13
  · subst c1
    rw [if_pos rfl]
    by_cases c2 : X1 = 10
    · subst c2
      go_enter Tryd.func23, Tryd.ntmps23
      go_wp2_with fail
      refine HN.out.mono ?_
      rintro e w1 ⟨rfl, hb⟩
      go_wp2
      go_ret
      exact ⟨rfl, hb⟩
    · have hx : (X1 != 10) = true := by simp; exact c2
      rw [decide_eq_false c2]
      go_enter Tryd.func23, Tryd.ntmps23
      go_wp2_with fail
      refine HN.out.mono ?_
      rintro e w1 ⟨rfl, hb⟩
      go_wp2
      go_ret
      exact ⟨rfl, hb⟩
  · have hr : ((R : Int) == 13) = false := by simp; omega
    rw [if_neg c1]
    clear c1 HN hsl
    by_cases c2 : R = 10
    · subst c2
      go_enter Tryd.func23, Tryd.ntmps23
      go_wp2
      go_ret
      exact ⟨rfl, Below.refl _ w⟩
    · have hr2 : ((R : Int) == 10) = false := by simp; omega
      rw [decide_eq_false c2]
      clear c2
      go_enter Tryd.func23, Tryd.ntmps23
      go_wp2
      go_ret
      exact ⟨rfl, Below.refl _ w⟩

theorem step_st (s : ByteArray) (p : Nat) (h : p < s.size) : stN s (p + (nx s p).2) = stN s p ++ (if ends s p then [p + 1] else []) :=
  (over s p _ (nx_pos s p h) (nx_over s p h)).1

end Go.Proofs.YtdngcihjfbmbpaaDoor
