/- Tokens as values: how they lie in a row; the row of a call's own that holds them; what it means that a call hands them back (no function of the program's). -/
import Derived.Test.YtaokjeopmhbddaaSk
import Derived.Test.YtaokjeopmhbddaaOwn
import Derived.Test.YtaokjeopmhbddaaSeq
import Derived.Test.YtaokjeopmhbddaaCel
import Derived.WalkSmall
import Derived.BigQuiet
namespace Go.Proofs.Ytaokjeopmhbddaa
open Go.RowKit
open Go.Proofs.Ytaokjeopmhbddaa.Sg
open Go.Proofs.Ytaokjeopmhbddaa.Sq
set_option linter.unusedVariables false

/-- A token: its kind, from, to. -/
abbrev Tk := Nat × Nat × Nat
def tkCells (x : Tk) : List Value := [.int .i64 x.1, .int .i64 x.2.1, .int .i64 x.2.2]
def encT : Enc Tk := ⟨tkCells, 3, by decide, fun _ => rfl, fun x u hu => by
  cases hu with
  | head => rfl
  | tail _ hu => cases hu with
    | head => rfl
    | tail _ hu => cases hu with
      | head => rfl
      | tail _ hu => cases hu⟩
theorem tyT : Ty Try.prog encT 27 45 24 := Ty.of (z := .agg #[.int .i64 0, .int .i64 0, .int .i64 0]) Try.underlying27 (by kernel_rfl) (by kernel_rfl) rfl (fun w => by kernel_rfl)
theorem toks_at {w : World} {a : Option Addr} {cap : Nat} {l : List Tk} (h : Reads encT w (.slice a l.length cap) l) (j : Nat) (x : Tk) (hj : l[j]? = some x) :
    ∃ b off, a = some ⟨b, off, none⟩ ∧ w.cell? ⟨b, off + j * 3, none⟩ = some (.int .i64 x.1) ∧ w.cell? ⟨b, off + j * 3 + 1, none⟩ = some (.int .i64 x.2.1) ∧ w.cell? ⟨b, off + j * 3 + 2, none⟩ = some (.int .i64 x.2.2) := by
  obtain ⟨b, off, h1, h2⟩ := h.at_ j x hj
  exact ⟨b, off, h1, h2 0 _ rfl, h2 1 _ rfl, h2 2 _ rfl⟩

section
variable {w w' : World} {b : Nat} {v : Value}
/-- The tokens' row is the call's own, and lies above. -/
abbrev Row (w : World) (b : Nat) (v : Value) (l : List Tk) : Prop := w.ownsRow (b + 1) 45 3 v l.length (encT.all l)
theorem row_set {l : List Tk} (h : Row w b v l) (o : Nat) (u : Value) : Row (w.setCell ⟨b, o, none⟩ u) b v l := ownsRow_setCell_below h (a := ⟨b, o, none⟩) (by simp) u
theorem bel_set {B : Nat} {a : World} (h : Below B a w) (hB : B ≤ b) (o : Nat) (u : Value) : Below B a (w.setCell ⟨b, o, none⟩ u) := h.setCell (p := ⟨b, o, none⟩) hB u

theorem tok_new (W : World) (x : Tk) (t : TypeId) : ∀ j c, (encT.all [x])[j]? = some c → (W.alloc (.cells #[.int .i64 x.1, .int .i64 x.2.1, .int .i64 x.2.2] t)).cell? ⟨W.heap.size, j, none⟩ = some c := by
  intro j c hj
  rw [World.cell?_alloc_mark]
  simpa [Enc.all, encT, tkCells] using hj
/-- Where the lower bound is smaller. -/
theorem _root_.Go.RowKit.Below.trans_lo {B C : Nat} {a m c : World} (h : Below B a m) (hC : C ≤ B) (h2 : Below C m c) : Below C a c := (h.mono hC).trans h2
end
/-- What Tokens hands back: a row of its own that reads as the tokens of the text. -/
def Gives (L : List Nat) (w : World) (e : Ending) (w' : World) : Prop :=
  ∃ u, e = .returned u ∧ w'.ownsRow w.heap.size 45 3 u (Sc.tokens L).length (encT.all (Sc.tokens L)) ∧ Below w.heap.size w w'
/-- What Tokens hands back, to be read. -/
theorem Gives.read {L : List Nat} {w w' : World} {e : Ending} (h : Gives L w e w') : ∃ a cap, e = .returned (.slice a (Sc.tokens L).length cap) ∧ Reads encT w' (.slice a (Sc.tokens L).length cap) (Sc.tokens L) ∧ Below w.heap.size w w' := by
  obtain ⟨u, rfl, hO, hB⟩ := h
  have hR := Reads.of_own (E := encT) hO
  obtain ⟨a, cap, rfl⟩ := hR.shape
  exact ⟨a, cap, rfl, hR, hB⟩
theorem reads_all {w : World} {a : Option Addr} {cap : Nat} {l : List Tk} (h : Reads encT w (.slice a l.length cap) l) (h0 : l ≠ []) :
    ∃ b off, a = some ⟨b, off, none⟩ ∧ ∀ j x, l[j]? = some x → w.cell? ⟨b, off + j * 3, none⟩ = some (.int .i64 x.1) ∧ w.cell? ⟨b, off + j * 3 + 1, none⟩ = some (.int .i64 x.2.1) ∧ w.cell? ⟨b, off + j * 3 + 2, none⟩ = some (.int .i64 x.2.2) := by
  obtain ⟨x0, r, rfl⟩ := List.exists_cons_of_ne_nil h0
  obtain ⟨b, off, rfl, -⟩ := toks_at h 0 x0 rfl
  refine ⟨b, off, rfl, fun j x hj => ?_⟩
  obtain ⟨b', off', h2, h3⟩ := toks_at h j x hj
  injection h2 with h2
  injection h2 with h4 h5
  subst h4 h5
  exact h3
end Go.Proofs.Ytaokjeopmhbddaa
