/- Rows and entries as values: how they lie in a row of a call's own; what it means that a call hands them back (no function of the program's). -/
import Derived.Test.YtaokjeopmhbddaaTkn
import Derived.Test.YtaokjeopmhbddaaRwk
import Derived.OneCell
namespace Go.Proofs.Ytaokjeopmhbddaa
open Go.RowKit
open Go.Proofs.Ytaokjeopmhbddaa.Sg
open Go.Proofs.Ytaokjeopmhbddaa.Sq
set_option linter.unusedVariables false

def rCells (x : Rw.R) : List Value := [.int .i64 x.kind, .int .i64 x.from', .int .i64 x.to, .int .i64 x.col]
def encR : Enc Rw.R := ⟨rCells, 4, by decide, fun _ => rfl, fun x u hu => by
  cases hu with
  | head => rfl
  | tail _ hu => cases hu with
    | head => rfl
    | tail _ hu => cases hu with
      | head => rfl
      | tail _ hu => cases hu with
        | head => rfl
        | tail _ hu => cases hu⟩
/-- A row as one value. -/
abbrev rAgg (x : Rw.R) : Value := .agg #[.int .i64 x.kind, .int .i64 x.from', .int .i64 x.to, .int .i64 x.col]
theorem tyR : Ty Try.prog encR 29 33 32 := Ty.of (z := .agg #[.int .i64 0, .int .i64 0, .int .i64 0, .int .i64 0]) Try.underlying29 (by kernel_rfl) (by kernel_rfl) rfl (fun w => by kernel_rfl)
def eCells (x : Rw.E) : List Value := [.bool x.dash, .int .i64 x.col, .int .i64 x.from', .int .i64 x.to]
def encE : Enc Rw.E := ⟨eCells, 4, by decide, fun _ => rfl, fun x u hu => by
  cases hu with
  | head => rfl
  | tail _ hu => cases hu with
    | head => rfl
    | tail _ hu => cases hu with
      | head => rfl
      | tail _ hu => cases hu with
        | head => rfl
        | tail _ hu => cases hu⟩
theorem tyE : Ty Try.prog encE 35 42 32 := Ty.of (z := .agg #[.bool false, .int .i64 0, .int .i64 0, .int .i64 0]) Try.underlying35 (by kernel_rfl) (by kernel_rfl) rfl (fun w => by kernel_rfl)
theorem tyF : Ty Try.prog encE 38 43 32 := Ty.of (z := .agg #[.bool false, .int .i64 0, .int .i64 0, .int .i64 0]) Try.underlying38 (by kernel_rfl) (by kernel_rfl) rfl (fun w => by kernel_rfl)
theorem rows_at {w : World} {a : Option Addr} {cap : Nat} {l : List Rw.R} (h : Reads encR w (.slice a l.length cap) l) (j : Nat) (x : Rw.R) (hj : l[j]? = some x) :
    ∃ b off, a = some ⟨b, off, none⟩ ∧ w.cell? ⟨b, off + j * 4, none⟩ = some (.int .i64 x.kind) ∧ w.cell? ⟨b, off + j * 4 + 1, none⟩ = some (.int .i64 x.from') ∧ w.cell? ⟨b, off + j * 4 + 2, none⟩ = some (.int .i64 x.to) ∧ w.cell? ⟨b, off + j * 4 + 3, none⟩ = some (.int .i64 x.col) := by
  obtain ⟨b, off, h1, h2⟩ := h.at_ j x hj
  exact ⟨b, off, h1, h2 0 _ rfl, h2 1 _ rfl, h2 2 _ rfl, h2 3 _ rfl⟩
theorem ents_at {w : World} {a : Option Addr} {cap : Nat} {l : List Rw.E} (h : Reads encE w (.slice a l.length cap) l) (j : Nat) (x : Rw.E) (hj : l[j]? = some x) :
    ∃ b off, a = some ⟨b, off, none⟩ ∧ w.cell? ⟨b, off + j * 4, none⟩ = some (.bool x.dash) ∧ w.cell? ⟨b, off + j * 4 + 1, none⟩ = some (.int .i64 x.col) ∧ w.cell? ⟨b, off + j * 4 + 2, none⟩ = some (.int .i64 x.from') ∧ w.cell? ⟨b, off + j * 4 + 3, none⟩ = some (.int .i64 x.to) := by
  obtain ⟨b, off, h1, h2⟩ := h.at_ j x hj
  exact ⟨b, off, h1, h2 0 _ rfl, h2 1 _ rfl, h2 2 _ rfl, h2 3 _ rfl⟩
/-- A row of the call's own that reads as these rows. -/
def GivesR (L : List Rw.R) (w : World) (e : Ending) (w' : World) : Prop :=
  ∃ u, e = .returned u ∧ w'.ownsRow w.heap.size 33 4 u L.length (encR.all L) ∧ Below w.heap.size w w'
theorem GivesR.read {L : List Rw.R} {w w' : World} {e : Ending} (h : GivesR L w e w') : ∃ a cap, e = .returned (.slice a L.length cap) ∧ Reads encR w' (.slice a L.length cap) L ∧ Below w.heap.size w w' := by
  obtain ⟨u, rfl, hO, hB⟩ := h
  have hR := Reads.of_own (E := encR) hO
  obtain ⟨a, cap, rfl⟩ := hR.shape
  exact ⟨a, cap, rfl, hR, hB⟩
/-- Entries and where the rest begins. -/
def GivesE (t : TypeId) (L : List Rw.E) (n : Nat) (w : World) (e : Ending) (w' : World) : Prop :=
  ∃ u, e = .returned (.tuple #[u, .int .i64 n]) ∧ w'.ownsRow w.heap.size t 4 u L.length (encE.all L) ∧ Below w.heap.size w w'
theorem GivesE.read {t : TypeId} {L : List Rw.E} {n : Nat} {w w' : World} {e : Ending} (h : GivesE t L n w e w') : ∃ a cap, e = .returned (.tuple #[.slice a L.length cap, .int .i64 n]) ∧ Reads encE w' (.slice a L.length cap) L ∧ Below w.heap.size w w' := by
  obtain ⟨u, rfl, hO, hB⟩ := h
  have hR := Reads.of_own (E := encE) hO
  obtain ⟨a, cap, rfl⟩ := hR.shape
  exact ⟨a, cap, rfl, hR, hB⟩
/-- From a smaller world on. -/
theorem below_from {w w1 w2 : World} (h1 : Below w.heap.size w w1) (h2 : Below w1.heap.size w1 w2) : Below w.heap.size w w2 := h1.trans (h2.mono h1.size)
end Go.Proofs.Ytaokjeopmhbddaa
