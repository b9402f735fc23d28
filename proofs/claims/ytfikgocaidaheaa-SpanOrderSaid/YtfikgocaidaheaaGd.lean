/- What the statements make of raw spans: a row of good ones. -/
import Derived.Test.YtfikgocaidaheaaSrt2
import Derived.Test.YtfikgocaidaheaaSp1
namespace Go.Proofs.Ytfikgocaidaheaa
open Go.RowKit
open Go.Proofs.Ytfikgocaidaheaa.Hp

/-- A raw span made good. -/
def gd (p : Int × Int) : Int × Int := (g1 p.1, g2 p.1 p.2)
theorem gd_at {l : List (Int × Int)} {k : Nat} (hk : k < l.length) : Hp.at_ (l.map gd) k = gd (Hp.at_ l k) := by simp [Hp.at_, hk]
theorem map_take_succ {l : List (Int × Int)} {k : Nat} {a b : Int} (hk : k < l.length) (ha : Hp.at_ l k = (a, b)) : (l.take (k + 1)).map gd = (l.take k).map gd ++ [(g1 a, g2 a b)] := by
  have e : l[k] = (a, b) := by rw [← ha]; simp [Hp.at_, hk]
  rw [List.take_succ_eq_append_getElem hk, List.map_append, e]
  rfl
/-- What the loop that makes them good holds ahead of span k. -/
def InGot (w : World) (l : List (Int × Int)) (k : Nat) (vs : Value) (wr : World) : Prop :=
  wr.ownsRow w.heap.size 23 2 vs ((l.take k).map gd).length (cellsS ((l.take k).map gd)) ∧ Below w.heap.size w wr
theorem in_start (w w1 : World) (l : List (Int × Int)) (h : Below w.heap.size w w1) : InGot w l 0 (.slice none 0 0) w1 := ⟨by simpa [cellsS] using World.ownsRow_nil w1 w.heap.size 23 2, h⟩
end Go.Proofs.Ytfikgocaidaheaa
