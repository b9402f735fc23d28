/- correctorref14.Sort of what is in order already, each once: the same. (Written by tools/gen_srs.py.) -/
import Derived.Test.YtdngcihjfbmbpaaZr1
import Derived.Test.YtdngcihjfbmbpaaZow
import Derived.Test.YtdngcihjfbmbpaaDr
import Derived.Test.YtdngcihjfbmbpaaCel
import Derived.Laws.CopyOwn
import Derived.Laws.StructEq
namespace Go
/-- Nothing goes over where one of the two has no element, whatever an element's size. -/
theorem run_copy_zero {P : Program} (w : World) (dT sT ty elem : TypeId) (d a : Option Addr) (dLen dCap sLen sCap : Nat) (hu : P.underlying dT = some (.slice elem)) (hs : (P.info? elem).isSome = true) (hn : Nat.min sLen dLen = 0) :
    (Builtin.copy_ #[dT, sT] ty #[.slice d dLen dCap, .slice a sLen sCap]).run P w = .ok (goInt 0) w := by
  cases hq : P.info? elem with
  | none => simp [hq] at hs
  | some i =>
    have hl : ∀ (x : Addr), (loadCells x 0).run P w = .ok #[] w := fun x => by simpa using run_loadCells_list (P := P) w x [] (by simp)
    cases d <;> cases a <;> simp [Builtin.copy_, run_underlying hu, Builtin.lenOf, Builtin.firstCells, sizeOf, typeInfo, hq, hn, storeCells, hl]
end Go
namespace Go.Proofs.Ytdngcihjfbmbpaa.Zm
open Go.RowKit
open Go.Proofs.Ytdngcihjfbmbpaa.Sq
open Go.Proofs.Ytdngcihjfbmbpaa.Zd
set_option linter.unusedVariables false

abbrev dAgg (x : Dg) : Value := .agg #[.int .i64 x.code, .int .i64 x.f, .int .i64 x.t]
theorem eql_diff (a b : Dg) (h : same a b = false) (w : World) : (binOp .eql 28 (.agg #[.int .i64 a.code, .int .i64 a.f, .int .i64 a.t]) (.agg #[.int .i64 b.code, .int .i64 b.f, .int .i64 b.t])).run Try.prog w = .ok (.bool false) w := by
  obtain ⟨ac, af, at'⟩ := a
  obtain ⟨bc, bf, bt⟩ := b
  unfold same at h
  dsimp only at h ⊢
  have u3 := Try.underlying3
  have hS : Try.prog.underlying 28 = some (.struct (Try.prog.fieldsOf 28)) := by kernel_rfl
  have hp : Try.prog.stoodInHeld 28 = false := by kernel_rfl
  rw [run_eql_struct, show (10000 : Nat) = 9999 + 1 from rfl, run_equalIn_agg w 9999 28 _ _ hS hp]
  simp only [Program.fieldsOf, Try.underlying28]
  by_cases h1 : ac = bc
  · by_cases h2 : af = bf
    · have h3 : at' ≠ bt := fun e => by subst h1 h2 e; simp at h
      have n1 : ((ac : Int) == (bc : Int)) = true := by simp [h1]
      have n2 : ((af : Int) == (bf : Int)) = true := by simp [h2]
      have n3 : ((at' : Int) == (bt : Int)) = false := by simp; omega
      go_simp
    · have n1 : ((ac : Int) == (bc : Int)) = true := by simp [h1]
      have n2 : ((af : Int) == (bf : Int)) = false := by simp; omega
      go_simp
  · have n1 : ((ac : Int) == (bc : Int)) = false := by simp; omega
    go_simp
theorem elem_diags' : Try.prog.underlying 22 = some (.slice (Try.prog.elem 22)) := by kernel_rfl
theorem size_diags' (w : World) : (sizeOf (Try.prog.elem 22)).run Try.prog w = .ok 3 w := by kernel_rfl
/-- The rest of a row of what is told. -/
theorem diag_rest (a : Option Addr) (n cap l : Nat) (hl : l ≤ n) (hb : n ≤ 1000000000000) :
    ∃ a' c', ∀ W : World, (Instr.slice 22 (.slice a n cap) (some (.int .i64 (l : Int))) none none).run Try.prog W = .ok (.slice a' (n - l) c') W := by
  refine ⟨if cap = l then a else a.map (·.add (l * 3)), cap - l, fun W => ?_⟩
  rw [run_slice_l W _ a n cap elem_diags' .i64 l (by omega) (by omega), size_diags']
  simp only [Result.andThen, sliced, Int.toNat_natCast]
theorem copy_diags (a1 a2 : Option Addr) (c1 c2 : Nat) (ty : TypeId) (W : World) : (Builtin.copy_ #[22, 22] ty #[.slice a1 0 c1, .slice a2 1 c2]).run Try.prog W = .ok (goInt 0) W :=
  run_copy_zero W _ _ _ _ a1 a2 0 c1 1 c2 Try.underlying22 (by kernel_rfl) rfl
theorem take_put (D : List Dg) (i : Nat) (x : Dg) (hx : D[i]? = some x) (y : Dg) : (D.take i ++ [y]).set i x = D.take (i + 1) := by
  obtain ⟨h1, h2⟩ := List.getElem?_eq_some_iff.1 hx
  have hl : (D.take i).length = i := by rw [List.length_take]; omega
  rw [List.set_append_right _ _ (by omega), hl, Nat.sub_self, List.set_cons_zero, List.take_succ_eq_append_getElem h1, h2]
/-- The last one put in: three stores. -/
theorem own_put {w : World} {B g n cap i : Nat} {D : List Dg} {x : Dg} (hx : D[i]? = some x) (h : w.ownsRow B 28 3 (.slice (some ⟨g, 0, none⟩) n cap) (D.take i ++ [(⟨0, 0, 0⟩ : Dg)]).length (encZ.all (D.take i ++ [(⟨0, 0, 0⟩ : Dg)]))) :
    (((w.setCell ⟨g, i * 3, none⟩ (.int .i64 x.code)).setCell ⟨g, i * 3 + 1, none⟩ (.int .i64 x.f)).setCell ⟨g, i * 3 + 2, none⟩ (.int .i64 x.t)).ownsRow B 28 3 (.slice (some ⟨g, 0, none⟩) n cap) (D.take (i + 1)).length (encZ.all (D.take (i + 1))) := by
  have hi := (List.getElem?_eq_some_iff.1 hx).1
  have hl : (D.take i).length = i := by rw [List.length_take]; omega
  have e0 : (D.take i ++ [(⟨0, 0, 0⟩ : Dg)])[i]? = some ⟨0, 0, 0⟩ := by rw [List.getElem?_append_right (by omega), hl, Nat.sub_self]; rfl
  have h1 := own_set (E := encZ) h i 0 _ (⟨x.code, 0, 0⟩ : Dg) (.int .i64 x.code) e0 rfl (by decide)
  have hs : i < (D.take i ++ [(⟨0, 0, 0⟩ : Dg)]).length := by rw [List.length_append, hl]; simp
  have h2 := own_set (E := encZ) h1 i 1 _ (⟨x.code, x.f, 0⟩ : Dg) (.int .i64 x.f) (List.getElem?_set_self hs) rfl (by decide)
  have h3 := own_set (E := encZ) h2 i 2 _ x (.int .i64 x.t) (List.getElem?_set_self (by rw [List.length_set]; exact hs)) rfl (by decide)
  rw [List.set_set, List.set_set, take_put D i x hx] at h3
  exact h3
end Go.Proofs.Ytdngcihjfbmbpaa.Zm
