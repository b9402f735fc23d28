/- What the walks of correctorlaw11's statements share. -/
import Derived.Test.YtmlpaafclobgcaaMgN
import Derived.Test.YtmlpaafclobgcaaTkd
import Derived.Deep.DeepCutAuto
import Derived.Deep.CutBlock
import Derived.BigQuiet
namespace Go.Proofs.Ytmlpaafclobgcaa
open Go.RowKit
open Go.Proofs.Ytmlpaafclobgcaa.Sg
open Go.Proofs.Ytmlpaafclobgcaa.Sq
open Go.Proofs.Ytmlpaafclobgcaa.Ar
set_option linter.unusedVariables false

theorem within_lit (x : Int) (n : Nat) (m : Int) (hm : m = (n : Int)) (h1 : 1 ≤ n) (h2 : n ≤ 100000) : ∃ k : Nat, k < n ∧ ∀ w : World, Calls Try.prog 11 #[.int .i64 x, .int .i64 m] w fun e w' => e = .returned (.int .i64 (k : Int)) ∧ w = w' := by
  subst hm
  obtain ⟨k, hk, -, h⟩ := within_nat x n h1 h2
  exact ⟨k, hk, h⟩
theorem guard_diag : Try.prog.eqGuardType Try.prog.depth 40 = false := by kernel_rfl
theorem eql_diag (a b c : Int) (w : World) : (binOp .eql 40 (.agg #[.int .i64 a, .int .i64 b, .int .i64 c]) (.agg #[.int .i64 a, .int .i64 b, .int .i64 c])).run Try.prog w = .ok (.bool true) w := by
  have u3 := Try.underlying3
  have hS : Try.prog.underlying 40 = some (.struct (Try.prog.fieldsOf 40)) := by kernel_rfl
  have hp : Try.prog.stoodInHeld 40 = false := by kernel_rfl
  rw [run_eql_struct, show (10000 : Nat) = 9999 + 1 from rfl, run_equalIn_agg w 9999 40 _ _ hS hp]
  simp only [Program.fieldsOf, Try.underlying40]
  go_simp
/-- A text is known by its bytes. -/
theorem nats_one (c : UInt8) : Sc.nats ⟨#[c]⟩ = [c.toNat] := rfl
theorem nats_put (S : ByteArray) (c : UInt8) (L : List Nat) (h : Sc.nats S = L) : Sc.nats (S ++ ⟨#[c]⟩) = L ++ [c.toNat] := by rw [Sc.nats_app, h]; rfl
theorem size_of_nats {S : ByteArray} {L : List Nat} (h : Sc.nats S = L) : S.size = L.length := by rw [← h, Sc.nats_len]
end Go.Proofs.Ytmlpaafclobgcaa
