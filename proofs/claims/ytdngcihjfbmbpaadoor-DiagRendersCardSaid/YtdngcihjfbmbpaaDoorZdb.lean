/- Diagnostics (three whole numbers each) as cells: rows of them, boxes behind calls. -/
import Derived.Test.YtdngcihjfbmbpaaDoorChecked
import Derived.Test.YtdngcihjfbmbpaaDoorZda
import Derived.Test.YtdngcihjfbmbpaaDoorCel
import Derived.Lib.Hide
import Derived.Laws.StructEq
namespace Go.Proofs.YtdngcihjfbmbpaaDoor.Zm
open Go.RowKit
open Go.Proofs.YtdngcihjfbmbpaaDoor.Sq
open Go.Proofs.YtdngcihjfbmbpaaDoor.Zd

def zCells (x : Dg) : List Value := [.int .i64 x.code, .int .i64 x.f, .int .i64 x.t]
def encZ : Enc Dg := ⟨zCells, 3, by decide, fun _ => rfl, fun x u hu => by
  cases hu with
  | head => rfl
  | tail _ hu => cases hu with
    | head => rfl
    | tail _ hu => cases hu with
      | head => rfl
      | tail _ hu => cases hu⟩
theorem tyZ : Ty Tryd.prog encZ 23 31 24 := Ty.of (z := .agg #[.int .i64 0, .int .i64 0, .int .i64 0]) Tryd.underlying23 (by kernel_rfl) (by kernel_rfl) rfl (fun w => by kernel_rfl)
theorem infoDiag : (Tryd.prog.info? 31).map (fun i => (i.zero, i.size, i.bytes)) = some (some (.agg #[.int .i64 0, .int .i64 0, .int .i64 0]), 3, 24) := by kernel_rfl
abbrev val (x : Dg) : Value := .agg #[.int .i64 x.code, .int .i64 x.f, .int .i64 x.t]
def cellsS (l : List Dg) : List Value := encZ.all l
theorem cellsS_len (l : List Dg) : (cellsS l).length = l.length * 3 := all_len encZ l
theorem cellsS_app (a b : List Dg) : cellsS (a ++ b) = cellsS a ++ cellsS b := all_app encZ a b
theorem cellsS_one (l : List Dg) : ∀ u ∈ cellsS l, u.oneCell' = true := all_one encZ l
theorem at_some {l : List Dg} {k : Nat} (h : k < l.length) : l[k]? = some (at_ l k) := by
  simp [at_, h]
theorem cellsS_get (l : List Dg) (k : Nat) (h : k < l.length) : (cellsS l)[k * 3]? = some (.int .i64 (at_ l k).code) ∧ (cellsS l)[k * 3 + 1]? = some (.int .i64 (at_ l k).f) ∧ (cellsS l)[k * 3 + 2]? = some (.int .i64 (at_ l k).t) :=
  ⟨all_get encZ l k _ (at_some h) 0 (by decide), all_get encZ l k _ (at_some h) 1 (by decide), all_get encZ l k _ (at_some h) 2 (by decide)⟩
theorem cellsS_take (l : List Dg) (n : Nat) : (cellsS l).take (n * 3) = cellsS (l.take n) := all_take encZ l n
theorem diag_at {w : World} {a : Option Addr} {cap : Nat} {l : List Dg} (h : Reads encZ w (.slice a l.length cap) l) (j : Nat) (hj : j < l.length) :
    ∃ b off, a = some ⟨b, off, none⟩ ∧ w.cell? ⟨b, off + j * 3, none⟩ = some (.int .i64 (at_ l j).code) ∧ w.cell? ⟨b, off + j * 3 + 1, none⟩ = some (.int .i64 (at_ l j).f) ∧ w.cell? ⟨b, off + j * 3 + 2, none⟩ = some (.int .i64 (at_ l j).t) := by
  obtain ⟨b, off, rfl, hat⟩ := h.at_ j _ (at_some hj)
  exact ⟨b, off, rfl, hat 0 _ rfl, hat 1 _ rfl, hat 2 _ rfl⟩
theorem diag_cells {w : World} {a : Option Addr} {cap : Nat} {l : List Dg} (h : Reads encZ w (.slice a l.length cap) l) (j : Nat) (x : Dg) (hx : l[j]? = some x) :
    ∃ b off, a = some ⟨b, off, none⟩ ∧ w.cell? ⟨b, off + j * 3, none⟩ = some (.int .i64 x.code) ∧ w.cell? ⟨b, off + j * 3 + 1, none⟩ = some (.int .i64 x.f) ∧ w.cell? ⟨b, off + j * 3 + 2, none⟩ = some (.int .i64 x.t) := by
  obtain ⟨b, off, rfl, hat⟩ := h.at_ j x hx
  exact ⟨b, off, rfl, hat 0 _ rfl, hat 1 _ rfl, hat 2 _ rfl⟩
abbrev box (a b c : Int) : Obj := .cells #[.int .i64 a, .int .i64 b, .int .i64 c] 31
theorem box_new (w : World) (a b c : Int) : (w.alloc (box a b c)).cell? ⟨w.heap.size, 0, none⟩ = some (.int .i64 a) ∧ (w.alloc (box a b c)).cell? ⟨w.heap.size, 1, none⟩ = some (.int .i64 b) ∧ (w.alloc (box a b c)).cell? ⟨w.heap.size, 2, none⟩ = some (.int .i64 c) :=
  ⟨at_new rfl, at_new rfl, at_new rfl⟩
/-- A cell is there, holds u, and may be written. -/
def Here (w : World) (b o : Nat) (u : Value) : Prop := w.cell? ⟨b, o, none⟩ = some u ∧ w.frozen? ⟨b, o, none⟩ = false
theorem here_below {W w' : World} {b o : Nat} {u : Value} (hb : Below W.heap.size W w') (h : Here W b o u) : Here w' b o u :=
  ⟨by rw [hb.cell (p := ⟨b, o, none⟩) (lt_of_cell h.1)]; exact h.1, by rw [hb.frozen (p := ⟨b, o, none⟩) (lt_of_cell h.1)]; exact h.2⟩
theorem here_alloc {W : World} {o : Obj} {b k : Nat} {u : Value} (h : Here W b k u) : Here (W.alloc o) b k u := here_below (below_alloc W o) h
theorem here_drew {W : World} {b k : Nat} {u : Value} (h : Here W b k u) : Here W.drew b k u := h
theorem here_new {W : World} {n k : Nat} {u : Value} {C : Array Value} {t : TypeId} (hn : n = W.heap.size) (h : C[k]? = some u) : Here (W.alloc (.cells C t)) n k u := ⟨by subst hn; exact at_new h, by subst hn; exact World.frozen?_alloc_new W C t k⟩
theorem guard_diag : Tryd.prog.eqGuardType Tryd.prog.depth 31 = false := by kernel_rfl
theorem eql_diag (a b c x y z : Int) (w : World) : (binOp .eql 31 (.agg #[.int .i64 a, .int .i64 b, .int .i64 c]) (.agg #[.int .i64 x, .int .i64 y, .int .i64 z])).run Tryd.prog w = .ok (.bool ((a == x) && (b == y) && (c == z))) w := by
  have u3 := Tryd.underlying3
  have hS : Tryd.prog.underlying 31 = some (.struct (Tryd.prog.fieldsOf 31)) := by kernel_rfl
  have hp : Tryd.prog.stoodInHeld 31 = false := by kernel_rfl
  rw [run_eql_struct, show (10000 : Nat) = 9999 + 1 from rfl, run_equalIn_agg w 9999 31 _ _ hS hp]
  simp only [Program.fieldsOf, Tryd.underlying31]
  go_simp
  by_cases h1 : a = x <;> by_cases h2 : b = y <;> by_cases h3 : c = z <;> simp [h1, h2, h3]
theorem neq_diag (a b c x y z : Int) (w : World) : (binOp .neq 31 (.agg #[.int .i64 a, .int .i64 b, .int .i64 c]) (.agg #[.int .i64 x, .int .i64 y, .int .i64 z])).run Tryd.prog w = .ok (.bool (!((a == x) && (b == y) && (c == z)))) w := by
  have h := eql_diag a b c x y z w
  rw [run_eql_struct] at h
  rw [run_neq_struct]
  revert h
  generalize (Op.equalIn 10000 31 (.agg #[.int .i64 a, .int .i64 b, .int .i64 c]) (.agg #[.int .i64 x, .int .i64 y, .int .i64 z])).run Tryd.prog w = r
  intro h
  cases r with
  | ok x w1 =>
    simp only [Result.andThen_ok] at h ⊢
    injection h with h1 h2
    injection h1 with h1
    rw [h1, h2]
  | halt x w1 => simp [Result.andThen] at h
end Go.Proofs.YtdngcihjfbmbpaaDoor.Zm
