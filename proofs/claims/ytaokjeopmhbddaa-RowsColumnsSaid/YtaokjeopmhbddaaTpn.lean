/- For later seats: the walk of correctorlaw6.Piece: some text of at most 400 bytes. -/
import Derived.Test.YtaokjeopmhbddaaWit6
import Derived.Test.YtaokjeopmhbddaaNumb
import Derived.Test.YtaokjeopmhbddaaTkn
import Derived.Lib.AppendStr
namespace Go.Proofs.Ytaokjeopmhbddaa
open Go.RowKit
open Go.Proofs.Ytaokjeopmhbddaa.Sg
open Go.Proofs.Ytaokjeopmhbddaa.Sq
set_option linter.unusedVariables false

def pieceL : List (List UInt8) := [[97], [98, 58, 32], [45, 32], [10], [10], [10, 32, 32], [10, 32, 32, 32, 32], [107, 101, 121, 58, 32], [91], [93], [123], [125], [44, 32], [58, 32], [39, 105, 116, 39, 39, 115, 39], [34, 120, 92, 110, 34], [35, 32, 110, 111, 116, 101, 10], [38, 110, 32], [42, 110], [33, 33, 105, 110, 116, 32], [124, 10], [62, 45, 10], [45, 45, 45], [46, 46, 46], [9], [13, 10], [32], [49], [126], [39, 111, 112, 101, 110], [34, 92, 113, 34], [45], [58], [116, 101, 120, 116, 32, 111, 102, 32, 119, 111, 114, 100, 115], [10, 45, 32], [10, 107, 58, 32], [32, 32], [35, 32, 111, 102, 102], [44], [124, 43], [10, 10]]
abbrev pieceV : List Value := [Value.string ⟨#[97]⟩, Value.string ⟨#[98, 58, 32]⟩, Value.string ⟨#[45, 32]⟩, Value.string ⟨#[10]⟩, Value.string ⟨#[10]⟩, Value.string ⟨#[10, 32, 32]⟩, Value.string ⟨#[10, 32, 32, 32, 32]⟩, Value.string ⟨#[107, 101, 121, 58, 32]⟩, Value.string ⟨#[91]⟩, Value.string ⟨#[93]⟩, Value.string ⟨#[123]⟩, Value.string ⟨#[125]⟩, Value.string ⟨#[44, 32]⟩, Value.string ⟨#[58, 32]⟩, Value.string ⟨#[39, 105, 116, 39, 39, 115, 39]⟩, Value.string ⟨#[34, 120, 92, 110, 34]⟩, Value.string ⟨#[35, 32, 110, 111, 116, 101, 10]⟩, Value.string ⟨#[38, 110, 32]⟩, Value.string ⟨#[42, 110]⟩, Value.string ⟨#[33, 33, 105, 110, 116, 32]⟩, Value.string ⟨#[124, 10]⟩, Value.string ⟨#[62, 45, 10]⟩, Value.string ⟨#[45, 45, 45]⟩, Value.string ⟨#[46, 46, 46]⟩, Value.string ⟨#[9]⟩, Value.string ⟨#[13, 10]⟩, Value.string ⟨#[32]⟩, Value.string ⟨#[49]⟩, Value.string ⟨#[126]⟩, Value.string ⟨#[39, 111, 112, 101, 110]⟩, Value.string ⟨#[34, 92, 113, 34]⟩, Value.string ⟨#[45]⟩, Value.string ⟨#[58]⟩, Value.string ⟨#[116, 101, 120, 116, 32, 111, 102, 32, 119, 111, 114, 100, 115]⟩, Value.string ⟨#[10, 45, 32]⟩, Value.string ⟨#[10, 107, 58, 32]⟩, Value.string ⟨#[32, 32]⟩, Value.string ⟨#[35, 32, 111, 102, 102]⟩, Value.string ⟨#[44]⟩, Value.string ⟨#[124, 43]⟩, Value.string ⟨#[10, 10]⟩]
theorem pieceV_eq : pieceV = pieceL.map fun p => Value.string ⟨p.toArray⟩ := rfl
theorem all_pieces : ∀ k : Fin 41, ((pieceL[k.val]?).map fun p => decide (p.length ≤ 13)) = some true := by decide +kernel
theorem piece_at (k : Nat) (hk : k < 41) : ∃ X : ByteArray, X.size ≤ 13 ∧ pieceV[k]? = some (.string X) := by
  have h := all_pieces ⟨k, hk⟩
  simp only at h
  cases hp : pieceL[k]? with
  | none => rw [hp] at h; cases h
  | some p =>
    rw [hp, Option.map_some] at h
    injection h with h
    refine ⟨⟨p.toArray⟩, by show p.toArray.size ≤ 13; simpa using h, ?_⟩
    rw [pieceV_eq, List.getElem?_map, hp]; rfl
/-- What Piece gives. -/
def Pieced (w : World) (e : Ending) (w' : World) : Prop := ∃ X : ByteArray, e = .returned (.string X) ∧ X.size ≤ 13 ∧ Below w.heap.size w w'
set_option maxHeartbeats 4000000 in
set_option maxRecDepth 100000 in
theorem piece_any (x : Int) (w : World) :
    Calls Try.prog 18 #[.int .i64 x] w (Pieced w) := by
  obtain ⟨m, hm, hwi⟩ := within6_nat x 41 (by decide) (by decide)
  obtain ⟨X, hX, h5⟩ := piece_at m hm
  obtain ⟨tc, htc⟩ : ∃ tc, tc = w.heap.size := ⟨_, rfl⟩
  obtain ⟨V, hV⟩ : ∃ V, V = w.alloc (.cells pieceV.toArray 9) := ⟨_, rfl⟩
  have hbV := hV ▸ below_alloc w (.cells pieceV.toArray 9)
  have HBV := Lib.hid hbV
  have c0 : V.cell? ⟨tc, m, none⟩ = some (.string X) := by
    rw [hV, htc, World.cell?_alloc_new]; show (pieceV.toArray)[m]? = _; rw [List.getElem?_toArray]; exact h5
  have HV := Lib.hid hV
  have HTc := Lib.hid htc
  have HW := Lib.hid (hwi V)
  have hm0 : (m : Int) < 41 := by omega
  have hm1 : (0 : Int) ≤ (m : Int) := by omega
  have HX := Lib.hid hX
  clear h5 hwi hV htc hbV hX
  go_enter Try.func18, Try.ntmps18
  go_wp2_with fail
  rw [← HV.out, ← HTc.out]
  refine HW.out.mono ?_
  rintro e w2 ⟨rfl, rfl⟩
  go_wp2_with fail
  go_ret
  exact ⟨X, rfl, HX.out, HBV.out⟩
end Go.Proofs.Ytaokjeopmhbddaa
