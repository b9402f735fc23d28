/- Diagnostics as a map's keys; the map from them to how often they came. -/
import Derived.Test.YtdngcihjfbmbpaaZdb
import Derived.Test.YtdngcihjfbmbpaaZmp
import Derived.DeepKeys4
namespace Go.Proofs.Ytdngcihjfbmbpaa.Zm
open Go.RowKit
open Go.Proofs.Ytdngcihjfbmbpaa.Sq
open Go.Proofs.Ytdngcihjfbmbpaa.Zd
open Go.Proofs.Ytdngcihjfbmbpaa.Mp
open Go.Maps (Keyed)

/-- Of 64 bits each. -/
def Wf (d : Dg) : Prop := (Lit.int .i64 d.code).wf = true ∧ (Lit.int .i64 d.f).wf = true ∧ (Lit.int .i64 d.t).wf = true
theorem outD : laidOutB Try.prog = true := by kernel_rfl
theorem rowD : (28 : TypeId) < Try.prog.types.size := of_decide_eq_true (by kernel_rfl)
theorem wideD : (match Try.prog.underlying 28 with | some (.array _ _) | some (.struct _) => true | _ => false) = true := by rw [Try.underlying28]
theorem lawD : Keyed Try.prog 28 := Keyed.of_law (deep_law_laid outD (m := 2) (by omega) rowD (by kernel_rfl) wideD)
theorem sizeD : ∃ n, Try.prog.types.size = n + 1 := by
  have h := rowD
  revert h
  generalize Try.prog.types.size = m
  intro h
  have h' : 0 < m := Nat.lt_of_le_of_lt (Nat.zero_le _) h
  exact ⟨m - 1, by omega⟩
theorem deepD : Try.prog.keyType 28 = true := by kernel_rfl
theorem cellsD : Try.prog.cellsOf 28 = 3 := by kernel_rfl
theorem cellsI : Try.prog.cellsOf 3 = 1 := by kernel_rfl
theorem keyD (d : Dg) (h : Wf d) : ∃ l, keyOf Try.prog 28 (val d) = some l := by
  obtain ⟨h1, h2, h3⟩ := h
  obtain ⟨n, hn⟩ := sizeD
  have e : Try.prog.keyLits (n + 2) 28 [.int .i64 d.code, .int .i64 d.f, .int .i64 d.t] = some [.int .i64 d.code, .int .i64 d.f, .int .i64 d.t] := by
    simp [Program.keyLits, Try.underlying28, Try.underlying3, cellsD, cellsI, h1, h2, h3]
  have hf : (val d).formed Try.prog 28 = true := by simp [Value.formed, Try.underlying28, cellsD]
  refine ⟨.string (keyBytes [.int .i64 d.code, .int .i64 d.f, .int .i64 d.t]), ?_⟩
  unfold keyOf
  rw [Try.underlying28]
  dsimp only
  rw [deepD, hf, hn, show (val d).cells.toList = [.int .i64 d.code, .int .i64 d.f, .int .i64 d.t] from rfl, e]
  rfl
theorem zeroI (w : World) : (zeroValue 3).run Try.prog w = .ok (.int .i64 0) w := by kernel_rfl
theorem val_inj {a b : Dg} (h : val a = val b) : a = b := by
  obtain ⟨a1, a2, a3⟩ := a
  obtain ⟨b1, b2, b3⟩ := b
  simp only [val, Value.agg.injEq, Array.mk.injEq, List.cons.injEq, Value.int.injEq, true_and, and_true] at h
  obtain ⟨rfl, rfl, rfl⟩ := h
  rfl
/-- The block b is a map of how often each of l came. -/
def Times (w : World) (b : Nat) (l : List Dg) : Prop := ∃ f, MapOf Try.prog 28 w b l.length f ∧ ∀ d, f (val d) = if d ∈ l then some (.int .i64 (l.count d : Nat)) else none
theorem Times.same {w w' : World} {b : Nat} {l : List Dg} (h : Times w b l) (hb : w'.heap[b]? = w.heap[b]?) : Times w' b l := by
  obtain ⟨f, h1, h2⟩ := h
  exact ⟨f, h1.same hb, h2⟩
theorem Times.lt {w : World} {b : Nat} {l : List Dg} (h : Times w b l) : b < w.heap.size := by
  obtain ⟨f, h1, h2⟩ := h
  exact h1.lt
theorem times_made (w : World) : Times (w.alloc (.map #[] 0)) w.heap.size [] := ⟨_, MapOf.made w _ _, fun d => by simp⟩
/-- What it says at one. -/
theorem Times.look {w : World} {b : Nat} {l : List Dg} (h : Times w b l) (d : Dg) (hd : Wf d) : (Instr.lookup 35 (.map (some b)) (val d) false).run Try.prog w = .ok (.int .i64 (l.count d : Nat)) w := by
  obtain ⟨f, h1, h2⟩ := h
  obtain ⟨k, hk⟩ := keyD d hd
  have := h1.look false lawD Try.underlying35 (zeroI w) hk
  rw [this, h2 d]
  by_cases hm : d ∈ l
  · simp [hm]
  · simp [hm, List.count_eq_zero_of_not_mem hm]
/-- One more. -/
theorem Times.more {w : World} {b : Nat} {l : List Dg} (h : Times w b l) (d : Dg) (hd : Wf d) :
    ∃ (u : Value) (st : Nat) (w1 : World), (Instr.mapEntry 35 (.map (some b)) (val d)).run Try.prog w = .ok (.tuple #[u, goInt st]) w1 ∧ (Instr.lookup 35 (.map (some b)) (val d) false).run Try.prog w1 = .ok (.int .i64 (l.count d : Nat)) w1 ∧ w.grownBy w1 (some b) ∧
      ∀ w2 : World, w2.heap[b]? = w1.heap[b]? → ∃ w3, (Instr.entryStore 35 (.map (some b)) (goInt st) (.int .i64 ((l.count d : Nat) + 1))).run Try.prog w2 = .ok () w3 ∧ Times w3 b (l ++ [d]) ∧ w2.grownBy w3 (some b) := by
  obtain ⟨f, h1, h2⟩ := h
  obtain ⟨k, hk⟩ := keyD d hd
  obtain ⟨st, w1, hr, hm, hg, hs⟩ := h1.entry lawD Try.underlying35 zeroI hk
  have hv : (f (val d)).getD (.int .i64 0) = .int .i64 (l.count d : Nat) := by
    rw [h2 d]
    by_cases hm : d ∈ l
    · simp [hm]
    · simp [hm, List.count_eq_zero_of_not_mem hm]
  refine ⟨_, st, w1, hr, ?_, hg, fun w2 hw => ?_⟩
  · have := hm.look false lawD Try.underlying35 (zeroI w1) hk
    rw [this, upd_same, hv]
    rfl
  · obtain ⟨w3, r1, r2, r3⟩ := hs w2 (.int .i64 ((l.count d : Nat) + 1)) hw
    refine ⟨w3, r1, ⟨_, by simpa using r2, fun x => ?_⟩, r3⟩
    by_cases hx : x = d
    · subst hx
      rw [upd_same]
      simp
    · rw [upd_other _ _ (fun e => hx (val_inj e)), h2 x]
      have hx' : ¬ d = x := fun e => hx e.symm
      simp [hx, hx']
end Go.Proofs.Ytdngcihjfbmbpaa.Zm
