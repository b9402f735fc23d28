/- A place's line and column, of any number: what lines.Place and the chapter's own text answer alike. -/
import Derived.Test.YtdngcihjfbmbpaaDoorLnRun2
import Derived.Test.YtdngcihjfbmbpaaDoorLnRef2
namespace Go.Proofs.YtdngcihjfbmbpaaDoor
open Go.RowKit
open Go.Proofs.YtdngcihjfbmbpaaDoor.Sg

def pl (s : ByteArray) (x : Int) : Int × Int :=
  if 0 ≤ x ∧ x ≤ s.size then (((stN s x.toNat).length : Int), 1 + (cnt (s.extract (ls s x.toNat) x.toNat) : Int)) else (0, 0)
theorem pl_in (s : ByteArray) (k : Nat) (h : k ≤ s.size) : pl s k = (((stN s k).length : Int), 1 + (cnt (s.extract (ls s k) k) : Int)) := by
  unfold pl; rw [if_pos (by omega)]; rfl
theorem pl_out (s : ByteArray) (x : Int) (h : ¬ (0 ≤ x ∧ x ≤ s.size)) : pl s x = (0, 0) := by
  unfold pl; rw [if_neg h]
theorem lnPlace (s : ByteArray) (a : Option Addr) (cap : Nat) (x : Int) (w : World) (h : Bys w (.slice a s.size cap) s) (hT : Tabs w) (hm : s.size ≤ 1000000) :
    Calls Tryd.prog 18 #[.slice a s.size cap, .int .i64 x] w fun e w' => e = .returned (.tuple #[.int .i64 (pl s x).1, .int .i64 (pl s x).2]) ∧ Below w.heap.size w w' := by
  by_cases hx : 0 ≤ x ∧ x ≤ s.size
  · obtain ⟨k, rfl⟩ : ∃ k : Nat, x = k := ⟨x.toNat, by omega⟩
    rw [pl_in s k (by omega)]
    exact lnPlace_in s a cap k w h hT hm (by omega)
  · rw [pl_out s x hx]
    exact lnPlace_out a s.size cap x w (by omega)
theorem refPlace (s : ByteArray) (a : Option Addr) (cap : Nat) (x : Int) (w : World) (h : Bys w (.slice a s.size cap) s) (hm : s.size ≤ 1000000) :
    Calls Tryd.prog 16 #[.slice a s.size cap, .int .i64 x] w fun e w' => e = .returned (.tuple #[.int .i64 (pl s x).1, .int .i64 (pl s x).2]) ∧ Below w.heap.size w w' := by
  by_cases hx : 0 ≤ x ∧ x ≤ s.size
  · obtain ⟨k, rfl⟩ : ∃ k : Nat, x = k := ⟨x.toNat, by omega⟩
    rw [pl_in s k (by omega)]
    exact refPlace_in s a cap k w h hm (by omega)
  · rw [pl_out s x hx]
    exact refPlace_out a s.size cap x w (by omega)
end Go.Proofs.YtdngcihjfbmbpaaDoor
