/- The statement's own function Same. -/
import Derived.Test.YtapkejdjbmdebaaDoorSQuiet
import Derived.Laws.StructEq
namespace Go.Proofs.YtapkejdjbmdebaaDoor
open Go.RowKit
open Go.Proofs.YtapkejdjbmdebaaDoor.Sg
open Go.Proofs.YtapkejdjbmdebaaDoor.Sq
set_option linter.unusedVariables false

theorem guard_tok6 : Tryd.prog.eqGuardType Tryd.prog.depth 32 = false := by kernel_rfl
theorem eql_tok6 (a b c : Int) (w : World) : (binOp .eql 32 (.agg #[.int .i64 a, .int .i64 b, .int .i64 c]) (.agg #[.int .i64 a, .int .i64 b, .int .i64 c])).run Tryd.prog w = .ok (.bool true) w := by
  have u3 := Tryd.underlying3
  have hS : Tryd.prog.underlying 32 = some (.struct (Tryd.prog.fieldsOf 32)) := by kernel_rfl
  have hp : Tryd.prog.stoodInHeld 32 = false := by kernel_rfl
  rw [run_eql_struct, show (10000 : Nat) = 9999 + 1 from rfl, run_equalIn_agg w 9999 32 _ _ hS hp]
  simp only [Program.fieldsOf, Tryd.underlying32]
  go_simp
theorem neq_tok6 (a b c : Int) (w : World) : (binOp .neq 32 (.agg #[.int .i64 a, .int .i64 b, .int .i64 c]) (.agg #[.int .i64 a, .int .i64 b, .int .i64 c])).run Tryd.prog w = .ok (.bool false) w := by
  have h := eql_tok6 a b c w
  rw [run_eql_struct] at h
  rw [run_neq_struct]
  revert h
  generalize (Op.equalIn 10000 32 (.agg #[.int .i64 a, .int .i64 b, .int .i64 c]) (.agg #[.int .i64 a, .int .i64 b, .int .i64 c])).run Tryd.prog w = r
  intro h
  cases r with
  | ok x w1 =>
    simp only [Result.andThen_ok] at h ⊢
    injection h with h1 h2
    injection h1 with h1
    rw [h1, h2]; rfl
  | halt x w1 => simp [Result.andThen] at h
/-- The tokens l stand where a slice begins. -/
def Stand (w : World) (a : Option Addr) (l : List Tk) : Prop :=
  ∀ j x, l[j]? = some x → ∃ b off, a = some ⟨b, off, none⟩ ∧ w.cell? ⟨b, off + j * 3, none⟩ = some (.int .i64 x.1) ∧ w.cell? ⟨b, off + j * 3 + 1, none⟩ = some (.int .i64 x.2.1) ∧ w.cell? ⟨b, off + j * 3 + 2, none⟩ = some (.int .i64 x.2.2)
set_option maxHeartbeats 1600000 in
set_option maxRecDepth 100000 in
theorem same6_true (a1 a2 : Option Addr) (cap1 cap2 : Nat) (l : List Tk) (w : World) (hsz : l.length ≤ 1000000) (ha : Stand w a1 l) (hb : Stand w a2 l) :
    Calls Tryd.prog 12 #[.slice a1 l.length cap1, .slice a2 l.length cap2] w fun e w' => e = .returned (.bool true) ∧ Below w.heap.size w w' := by
  obtain ⟨N, hN⟩ : ∃ N, l.length = N := ⟨_, rfl⟩
  have HA := Lib.hid ha
  have HB := Lib.hid hb
  have HN := Lib.hid hN
  rw [hN] at hsz
  rw [hN]
  have hg := guard_tok6
  clear hN ha hb
  go_enter Tryd.func12, Tryd.ntmps12
  go_wp2_with fail
  go_loopw [5] (fun is wr => ∃ k : Nat, is = .int .i64 k ∧ k ≤ N ∧ Below w.heap.size w wr) (fun is _ => N - (intOf is).toNat)
  case atStart => exact ⟨0, rfl, Nat.zero_le _, Below.refl _ _⟩
  case round =>
    obtain ⟨k, rfl, hk, hbw⟩ := hrel
    by_cases hlt : k < N
    · have hkl : k < l.length := by rw [HN.out]; exact hlt
      have hj2 : (k : Int) < (N : Int) := by omega
      obtain ⟨x, hx⟩ : ∃ x, l[k]? = some x := ⟨_, List.getElem?_eq_getElem hkl⟩
      obtain ⟨b, off, rfl, c0, c1, c2⟩ := HA.out k x hx
      obtain ⟨b', off', rfl, d0, d1, d2⟩ := HB.out k x hx
      have c0 := at_below hbw c0
      have c1 := at_below hbw c1
      have c2 := at_below hbw c2
      have d0 := at_below hbw d0
      have d1 := at_below hbw d1
      have d2 := at_below hbw d2
      have he := neq_tok6 x.1 x.2.1 x.2.2
      obtain ⟨f, t, p⟩ := x
      have HBq := Lib.hid hbw
      clear hx hbw
      go_wp2_with fail
      go_quiet (fail)
      have HBn := Lib.hid (below_drewN HBq.out nq)
      clear c0 c1 c2 d0 d1 d2 he
      go_wp2
      go_roundw
      case rel => exact ⟨k + 1, by go_num, by omega, HBn.out⟩
      case measure => simp [intOf]; omega
    · obtain rfl : k = N := by omega
      go_wp2
      go_ret
      exact ⟨rfl, hbw⟩
end Go.Proofs.YtapkejdjbmdebaaDoor
