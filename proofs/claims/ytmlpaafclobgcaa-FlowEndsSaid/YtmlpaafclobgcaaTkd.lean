/- The tokens of FlowDeep's and FlowOpen's texts, plainly; no program text. -/
import Derived.Test.YtmlpaafclobgcaaMgA
import Derived.Test.YtmlpaafclobgcaaMgE
namespace Go.Proofs.Ytmlpaafclobgcaa.Fl

def deepB (n : Nat) : List Nat := List.replicate n 91 ++ 97 :: List.replicate n 93
def deepOk (n : Nat) : Bool := Sc.tokens (deepB n) == deepL n
theorem deep_all : ∀ k : Fin 20, deepOk (k.val + 1) = true := by decide +kernel
theorem deep_toks (n : Nat) (h0 : 0 < n) (h : n ≤ 20) : Sc.tokens (deepB n) = deepL n := by
  have h1 := deep_all ⟨n - 1, by omega⟩
  rw [show (⟨n - 1, by omega⟩ : Fin 20).val + 1 = n by show n - 1 + 1 = n; omega] at h1
  exact eq_of_beq h1
def openB (n : Nat) (marks : Bool) : List Nat := (List.replicate n [91, 97, 44, 32]).flatten ++ (if marks = true then [10, 45, 45, 45, 10, 93, 93, 93] else [])
def openOk (n : Nat) (marks : Bool) : Bool :=
  let l := Sc.tokens (openB n marks)
  (l.take (4 * n) == (List.range (4 * n)).map (fun i => (openK i, i, i + 1))) && kd l l.length (trivia l l.length (4 * n - 1)) == 0 && decide (l.length ≤ 100)
theorem open_alls : ∀ k : Fin 8, (openOk (k.val + 1) true && openOk (k.val + 1) false) = true := by decide +kernel
theorem open_toks (n : Nat) (h0 : 0 < n) (h : n ≤ 8) (marks : Bool) : Opened (Sc.tokens (openB n marks)) n ∧ (Sc.tokens (openB n marks)).length ≤ 100 := by
  have h1 := open_alls ⟨n - 1, by omega⟩
  rw [show (⟨n - 1, by omega⟩ : Fin 8).val + 1 = n by show n - 1 + 1 = n; omega] at h1
  have h2 : openOk n marks = true := by
    rw [Bool.and_eq_true] at h1
    cases marks with
    | true => exact h1.1
    | false => exact h1.2
  unfold openOk at h2
  dsimp only at h2
  rw [Bool.and_eq_true, Bool.and_eq_true] at h2
  obtain ⟨⟨h3, h4⟩, h5⟩ := h2
  refine ⟨⟨fun i hi => ?_, eq_of_beq h4⟩, of_decide_eq_true h5⟩
  have h6 := congrArg (fun x => x[i]?) (eq_of_beq h3)
  rw [List.getElem?_take_of_lt hi, List.getElem?_map, List.getElem?_range hi] at h6
  exact h6
end Go.Proofs.Ytmlpaafclobgcaa.Fl
