/- What the tokens of a short text are (plain); the rows of tokens lie within them; == of rows. -/
import Derived.Test.YtaokjeopmhbddaaAid9
import Derived.Test.YtaokjeopmhbddaaRrf
import Derived.Test.YtaokjeopmhbddaaTtn
import Derived.BigQuiet
namespace Go.Proofs.Ytaokjeopmhbddaa.Rw
/-- Rows lie within their tokens, none is empty. -/
theorem rowsF_in : ∀ (f op at' : Nat) (l : List Tk), ∀ r ∈ rowsF f op at' l, at' ≤ r.from' ∧ r.from' < r.to ∧ r.to ≤ at' + l.length
  | 0, _, _, _ => fun r h => by cases h
  | f + 1, op, at', l => fun r h => by
    rw [rowsF] at h
    by_cases hl : l = []
    · rw [if_pos hl] at h; cases h
    · rw [if_neg hl] at h
      have hp := rlen_pos l hl
      have hle := rlen_le l
      rcases List.mem_cons.1 h with rfl | h
      · exact ⟨Nat.le_refl _, by show at' < at' + rlen l; omega, by show at' + rlen l ≤ _; omega⟩
      · have := rowsF_in f _ _ _ r h
        rw [List.length_drop] at this
        omega
theorem rows_in (l : List Tk) (r : R) (h : r ∈ rowsN l) : r.from' < r.to ∧ r.to ≤ l.length := by
  have := rowsF_in _ _ _ _ r h
  omega
end Go.Proofs.Ytaokjeopmhbddaa.Rw
namespace Go.Proofs.Ytaokjeopmhbddaa
open Go.RowKit
open Go.Proofs.Ytaokjeopmhbddaa.Sg
open Go.Proofs.Ytaokjeopmhbddaa.Sq
set_option linter.unusedVariables false

/-- Of a text of at most 1000 bytes. -/
theorem toks_short (t : ByteArray) (h : t.size ≤ 1000) (T : List Tk) (hT : Sc.tokens (Sc.nats t) = T) : T.length ≤ 1000 ∧ (∀ x ∈ T, x.2.1 ≤ 1000000) ∧ (∀ x ∈ T, x.2.1 ≤ 1000) ∧ Rw.Tile 0 T := by
  subst hT
  have h1 := tokens_len (Sc.nats t)
  have h2 := Sc.nats_len t
  refine ⟨by omega, fun x hx => ?_, fun x hx => ?_, Rw.tile_tokens _⟩
  · have := (tokens_bd _ x hx).1; omega
  · have := (tokens_bd _ x hx).1; omega
theorem guard_row : Try.prog.eqGuardType Try.prog.depth 33 = false := by kernel_rfl
theorem eql_row (a b c d : Int) (w : World) : (binOp .eql 33 (.agg #[.int .i64 a, .int .i64 b, .int .i64 c, .int .i64 d]) (.agg #[.int .i64 a, .int .i64 b, .int .i64 c, .int .i64 d])).run Try.prog w = .ok (.bool true) w := by
  have u3 := Try.underlying3
  have hS : Try.prog.underlying 33 = some (.struct (Try.prog.fieldsOf 33)) := by kernel_rfl
  have hp : Try.prog.stoodInHeld 33 = false := by kernel_rfl
  rw [run_eql_struct, show (10000 : Nat) = 9999 + 1 from rfl, run_equalIn_agg w 9999 33 _ _ hS hp]
  simp only [Program.fieldsOf, Try.underlying33]
  go_simp
theorem neq_row (a b c d : Int) (w : World) : (binOp .neq 33 (.agg #[.int .i64 a, .int .i64 b, .int .i64 c, .int .i64 d]) (.agg #[.int .i64 a, .int .i64 b, .int .i64 c, .int .i64 d])).run Try.prog w = .ok (.bool false) w := by
  have h := eql_row a b c d w
  rw [run_eql_struct] at h
  rw [run_neq_struct]
  revert h
  generalize (Op.equalIn 10000 33 (.agg #[.int .i64 a, .int .i64 b, .int .i64 c, .int .i64 d]) (.agg #[.int .i64 a, .int .i64 b, .int .i64 c, .int .i64 d])).run Try.prog w = r
  intro h
  cases r with
  | ok x w1 =>
    simp only [Result.andThen_ok] at h ⊢
    injection h with h1 h2
    injection h1 with h1
    rw [h1, h2]; rfl
  | halt x w1 => simp [Result.andThen] at h
end Go.Proofs.Ytaokjeopmhbddaa
