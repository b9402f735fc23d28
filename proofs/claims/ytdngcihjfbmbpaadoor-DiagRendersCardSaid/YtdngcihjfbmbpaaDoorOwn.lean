/- Rows of a call's own beside texts that are ranged over; the tables kept; places as values. -/
import Derived.Test.YtdngcihjfbmbpaaDoorWorld
import Derived.Test.YtdngcihjfbmbpaaDoorChecked
import Derived.WalkLawsBesides
import Derived.WalkSpells
import Derived.OwnWalk
import Derived.Outline
import Derived.LoopTactic
import Derived.Lib.Hide
import Derived.Laws.IdiomStrings
import Derived.Lib.OthersKept
import Derived.Deep.LoopGhost
import Derived.WalkSmall
import Derived.Maps.AppendAt
import Derived.Deep.DeepMust
import Derived.LoopN
namespace Go.Proofs.YtdngcihjfbmbpaaDoor
open Go.RowKit
open Go.Proofs.YtdngcihjfbmbpaaDoor.Sg

theorem addr_add (b off j : Nat) : (⟨b, off, none⟩ : Addr).add j = ⟨b, off + j, none⟩ := by
  unfold Addr.add
  split
  · rename_i h; subst h; rfl
  · rfl
theorem conv_bytes (b off cap : Nat) (s : ByteArray) (w : World) (hp : ∀ j, j < s.size → w.cell? ⟨b, off + j, none⟩ = some (.int .u8 (s.get! j).toNat)) :
    (convert 22 9 (.slice (some ⟨b, off, none⟩) s.size cap)).run Tryd.prog w = .ok (.string s) w := by
  have h := run_convert_bytes_back (P := Tryd.prog) w 22 9 5 ⟨b, off, none⟩ cap s.data.toList Tryd.underlying22 Tryd.underlying5 Tryd.underlying9 (fun j hj => by
    have hj' : j < s.size := by rw [Lib.size_eq]; exact hj
    have e := hp j hj'
    have e2 : s.data.toList[j] = s.get! j := by
      rw [← Lib.getD_get!']
      rw [List.getD_eq_getElem?_getD, List.getElem?_eq_getElem hj]
      rfl
    rw [e2]
    rw [addr_add]
    exact e)
  rw [← Lib.size_eq] at h
  simpa using h
theorem conv_nil (w : World) (c : Nat) : (convert 22 9 (.slice none 0 c)).run Tryd.prog w = .ok (.string ⟨#[]⟩) w := by
  rw [run_convert_bytes_string w 22 9 5 none 0 c Tryd.underlying22 Tryd.underlying5 Tryd.underlying9]
  simp [Conv.bytesToString]
  rfl

/-- A row of the call's own does not lie where a text is being ranged over. -/
theorem row_off_iter {w : World} {B e size n k pos : Nat} {v : Value} {xs : List Value} {s : ByteArray} (h : w.ownsRow B e size v n xs) (hk : w.heap[k]? = some (.stringIter s pos)) : v.ownBlock ≠ some k := fun e => by
  rcases h.2 with ⟨h1, _⟩ | ⟨g, cap, cur, h1, _, h3, _⟩
  · rw [h1] at e; cases e
  · rw [h1] at e
    obtain rfl : g = k := Option.some.inj e
    rw [h3] at hk; cases hk
theorem own_iterAt {w : World} {B e size n k pos : Nat} {v : Value} {xs : List Value} {s : ByteArray} (h : w.ownsRow B e size v n xs) (hk : w.heap[k]? = some (.stringIter s pos)) (pos' : Nat) : (w.iterAt k s pos').ownsRow B e size v n xs :=
  h.kept (row := some k) ⟨rfl, rfl, rfl, Nat.le_of_eq (Lib.iterAt_size w k s pos').symm, fun j _ hj => Lib.iterAt_other w k j s pos' (fun e => hj (by rw [e]))⟩ (.inr (row_off_iter h hk))
theorem own_ne_iter {w : World} {B e size n k pos : Nat} {v : Value} {xs : List Value} {s : ByteArray} (h : w.ownsRow B e size v n xs) (hk : w.heap[k]? = some (.stringIter s pos)) : some k ≠ v.ownBlock := fun e => row_off_iter h hk e.symm
/-- A row of the call's own stays where nothing below the heap's size changes. -/
theorem own_below {w w' : World} {B e size n : Nat} {v : Value} {xs : List Value} (h : w.ownsRow B e size v n xs) (hb : Below w.heap.size w w') : w'.ownsRow B e size v n xs := by
  refine ⟨h.1, ?_⟩
  rcases h.2 with h0 | ⟨g, cap, cur, hv, hbg, hg, rest⟩
  · exact .inl h0
  · have hlt : g < w.heap.size := (Array.getElem?_eq_some_iff.1 hg).1
    exact .inr ⟨g, cap, cur, hv, hbg, (hb.block g hlt).trans hg, rest⟩
/-- Places as values. -/
def places (l : List Nat) : List Value := l.map fun (p : Nat) => Value.int .i64 (p : Int)
theorem places_snoc (l : List Nat) (p : Nat) : places (l ++ [p]) = places l ++ [.int .i64 (p : Int)] := by simp [places]
theorem infoInt : (Tryd.prog.info? 3).map (fun i => (i.zero, i.size, i.bytes)) = some (some (.int .i64 0), 1, 8) := by kernel_rfl
end Go.Proofs.YtdngcihjfbmbpaaDoor
