/- package diag: a place as a text (place.text). -/
import Derived.Test.YtdngcihjfbmbpaaDoorZte
import Derived.Lib.AppendIntMem
import Derived.Deep.DeepCutAuto
import Derived.Deep.CutBlock
namespace Go.Proofs.YtdngcihjfbmbpaaDoor.Zm
open Go.RowKit
open Go.Proofs.YtdngcihjfbmbpaaDoor.Sq
set_option linter.unusedVariables false
set_option linter.unusedSimpArgs false

/-- The library's table of powers of ten lies as it must. -/
def Pow (w : World) : Prop := Lib.TabIs Tryd.prog w "internal/strconv.uint64pow10" .u64 Lib.pow10Tab
theorem Pow.below {w w' : World} (h : Pow w) (hb : Below w.heap.size w w') : Pow w' := Lib.tabBelow_of_tabIs h w' hb
theorem itoa_b (n : Int) (h0 : -9223372036854775808 ≤ n) (h1 : n ≤ 9223372036854775807) (w : World) (hp : Pow w) : Calls Tryd.prog 20 #[.int .i64 n] w fun e w' => e = .returned (.string (dig n)) ∧ Below w.heap.size w w' := by
  refine (itoa_any n h0 h1 w hp).mono ?_
  rintro e w' ⟨rfl, k, os, rfl⟩
  refine ⟨rfl, rfl, rfl, rfl, by simp [Sort.grow], fun i hi => ?_⟩
  show (w.heap ++ os)[i]? = w.heap[i]?
  rw [Array.getElem?_append_left hi]
/-- A place as it is told. -/
def ptxt (a b : Int) : ByteArray := (dig a ++ ⟨#[58]⟩) ++ dig b
theorem ptxt_size (a b : Int) (h0 : -9223372036854775808 ≤ a) (h1 : a ≤ 9223372036854775807) (h2 : -9223372036854775808 ≤ b) (h3 : b ≤ 9223372036854775807) : (ptxt a b).size ≤ 43 := by
  have s1 := dig_size a h0 h1
  have s2 := dig_size b h2 h3
  unfold ptxt
  rw [ByteArray.size_append, ByteArray.size_append, show (⟨#[58]⟩ : ByteArray).size = 1 from rfl]
  omega
set_option maxHeartbeats 4000000 in
set_option maxRecDepth 100000 in
theorem ptext (a b : Int) (h0 : -9223372036854775808 ≤ a) (h1 : a ≤ 9223372036854775807) (h2 : -9223372036854775808 ≤ b) (h3 : b ≤ 9223372036854775807) (w : World) (hp : Pow w) :
    Calls Tryd.prog 14 #[.agg #[.int .i64 a, .int .i64 b]] w fun e w' => e = .returned (.string (ptxt a b)) ∧ Below w.heap.size w w' := by
  obtain ⟨wa, hwa⟩ : ∃ wa, w.alloc (.cells #[.int .i64 a, .int .i64 b] 40) = wa := ⟨_, rfl⟩
  obtain ⟨pb, hpb⟩ : ∃ pb, w.heap.size = pb := ⟨_, rfl⟩
  have hb : Below w.heap.size w wa := hwa ▸ below_alloc w _
  have c0 : wa.cell? ⟨pb, 0, none⟩ = some (.int .i64 a) := by rw [← hwa, ← hpb]; exact at_new rfl
  have c1 : wa.cell? ⟨pb, 1, none⟩ = some (.int .i64 b) := by rw [← hwa, ← hpb]; exact at_new rfl
  have HB := Lib.hid hb
  have HPa := Lib.hid (hp.below hb)
  have s1 := dig_size a h0 h1
  have s2 := dig_size b h2 h3
  have IA := Lib.hid (fun W hW => itoa_b a h0 h1 W hW)
  have IB := Lib.hid (fun W hW => itoa_b b h2 h3 W hW)
  obtain ⟨A, hA⟩ : ∃ A, dig a = A := ⟨_, rfl⟩
  obtain ⟨B, hB⟩ : ∃ B, dig b = B := ⟨_, rfl⟩
  have hX : ptxt a b = (A ++ ⟨#[58]⟩) ++ B := by rw [← hA, ← hB]; rfl
  rw [hA] at IA s1
  rw [hB] at IB s2
  have hk : (⟨#[58]⟩ : ByteArray).size = 1 := rfl
  have g1 : ¬ (9223372036854775807 < A.size + 1) := by omega
  have g2 : ¬ (9223372036854775807 < A.size + 1 + B.size) := by omega
  rw [hX]
  clear hX hA hB hp h0 h1 h2 h3 s1 s2 hb
  go_enter Tryd.func14, Tryd.ntmps14
  go_upto_region 1 with fail
  try rw [hwa]
  try rw [hpb]
  clear hwa hpb
-- GEN R1
  refine wp_region_I (fun wx => Below wa.heap.size wa wx) (by kernel_rfl) (Below.refl wa.heap.size wa).drew ?_
  refine wpAnyI_take (i := 0) (oi := { dst := some 3, op := Op.fieldAddr 40 (Operand.tmp 1) 0, type := 0, pos := _, after := #[], guard := none }) (v := .pointer (some ⟨pb, 0, none⟩)) rfl (by kernel_rfl) (by kernel_rfl) (by kernel_rfl) (Or.inl ⟨rfl, fun W hW => ?_⟩) ?_
  · refine RunI.of_run ?_ hW; go_simp
  try simp only [Act.put, List.setIfInBounds_toArray, List.set_cons_zero, List.set_cons_succ]
  refine wpAnyI_take (i := 1) (oi := { dst := some 4, op := Op.load 3 (Operand.tmp 3), type := 3, pos := _, after := #[{ on := 0, ground := Ground.data }], guard := none }) (v := .int .i64 a) rfl (by kernel_rfl) (by kernel_rfl) (by kernel_rfl) (Or.inl ⟨rfl, fun W hW => ?_⟩) ?_
  · refine RunI.of_run ?_ hW; have z0 := at_below hW c0; have z1 := at_below hW c1; go_simp
  try simp only [Act.put, List.setIfInBounds_toArray, List.set_cons_zero, List.set_cons_succ]
  refine wpAnyI_take (i := 2) (oi := { dst := some 5, op := Op.call { callee := Callee.value (Operand.func 20), args := #[Operand.tmp 4], argTypes := #[3] }, type := 9, pos := _, after := #[{ on := 1, ground := Ground.data }], guard := none }) (v := .string A) rfl (by kernel_rfl) (by kernel_rfl) (by kernel_rfl) (Or.inl ⟨rfl, fun W hW => ?_⟩) ?_
  · refine RunI.of_call (w' := W) (f := 20) (args := #[.int .i64 a]) ?_ ?_
    · go_simp
    · refine (IA.out W (HPa.out.below hW)).mono ?_
      rintro e w2 ⟨rfl, h9⟩
      exact ⟨rfl, below_from hW h9⟩
  try simp only [Act.put, List.setIfInBounds_toArray, List.set_cons_zero, List.set_cons_succ]
  refine wpAnyI_take (i := 3) (oi := { dst := some 6, op := Op.binOp BinOp.add 9 (Operand.tmp 5) (Operand.const (Value.string { data := #[58] })) 9, type := 9, pos := _, after := #[{ on := 2, ground := Ground.data }], guard := none }) (v := .string (A ++ ⟨#[58]⟩)) rfl (by kernel_rfl) (by kernel_rfl) (by kernel_rfl) (Or.inl ⟨rfl, fun W hW => ?_⟩) ?_
  · refine RunI.of_run ?_ hW; go_simp
  try simp only [Act.put, List.setIfInBounds_toArray, List.set_cons_zero, List.set_cons_succ]
  refine wpAnyI_take (i := 4) (oi := { dst := some 7, op := Op.fieldAddr 40 (Operand.tmp 1) 1, type := 0, pos := _, after := #[], guard := none }) (v := .pointer (some ⟨pb, 1, none⟩)) rfl (by kernel_rfl) (by kernel_rfl) (by kernel_rfl) (Or.inl ⟨rfl, fun W hW => ?_⟩) ?_
  · refine RunI.of_run ?_ hW; go_simp
  try simp only [Act.put, List.setIfInBounds_toArray, List.set_cons_zero, List.set_cons_succ]
  refine wpAnyI_take (i := 5) (oi := { dst := some 8, op := Op.load 3 (Operand.tmp 7), type := 3, pos := _, after := #[{ on := 4, ground := Ground.data }], guard := none }) (v := .int .i64 b) rfl (by kernel_rfl) (by kernel_rfl) (by kernel_rfl) (Or.inl ⟨rfl, fun W hW => ?_⟩) ?_
  · refine RunI.of_run ?_ hW; have z0 := at_below hW c0; have z1 := at_below hW c1; go_simp
  try simp only [Act.put, List.setIfInBounds_toArray, List.set_cons_zero, List.set_cons_succ]
  refine wpAnyI_take (i := 6) (oi := { dst := some 9, op := Op.call { callee := Callee.value (Operand.func 20), args := #[Operand.tmp 8], argTypes := #[3] }, type := 9, pos := _, after := #[{ on := 5, ground := Ground.data }, { on := 2, ground := Ground.chain }], guard := none }) (v := .string B) rfl (by kernel_rfl) (by kernel_rfl) (by kernel_rfl) (Or.inl ⟨rfl, fun W hW => ?_⟩) ?_
  · refine RunI.of_call (w' := W) (f := 20) (args := #[.int .i64 b]) ?_ ?_
    · go_simp
    · refine (IB.out W (HPa.out.below hW)).mono ?_
      rintro e w2 ⟨rfl, h9⟩
      exact ⟨rfl, below_from hW h9⟩
  try simp only [Act.put, List.setIfInBounds_toArray, List.set_cons_zero, List.set_cons_succ]
  refine wpAnyI_take (i := 7) (oi := { dst := some 10, op := Op.binOp BinOp.add 9 (Operand.tmp 6) (Operand.tmp 9) 9, type := 9, pos := _, after := #[{ on := 3, ground := Ground.data }, { on := 6, ground := Ground.data }], guard := none }) (v := .string ((A ++ ⟨#[58]⟩) ++ B)) rfl (by kernel_rfl) (by kernel_rfl) (by kernel_rfl) (Or.inl ⟨rfl, fun W hW => ?_⟩) ?_
  · refine RunI.of_run ?_ hW; go_simp
  try simp only [Act.put, List.setIfInBounds_toArray, List.set_cons_zero, List.set_cons_succ]
  refine wpAnyI_take (i := 8) (oi := { dst := some 2, op := Op.assign (Operand.tmp 10), type := 9, pos := _, after := #[{ on := 7, ground := Ground.data }, { on := 6, ground := Ground.chain }, { on := 0, ground := Ground.phase }, { on := 1, ground := Ground.phase }, { on := 2, ground := Ground.phase }, { on := 3, ground := Ground.phase }, { on := 4, ground := Ground.phase }, { on := 5, ground := Ground.phase }, { on := 6, ground := Ground.phase }, { on := 7, ground := Ground.phase }], guard := none }) (v := .string ((A ++ ⟨#[58]⟩) ++ B)) rfl (by kernel_rfl) (by kernel_rfl) (by kernel_rfl) (Or.inl ⟨rfl, fun W hW => ?_⟩) ?_
  · refine RunI.of_run ?_ hW; go_simp
  try simp only [Act.put, List.setIfInBounds_toArray, List.set_cons_zero, List.set_cons_succ]
  refine wpAnyI_done (by kernel_rfl) (fun wz hz => ?_) _
-- END R1
  go_wp2_with fail
  go_ret
  exact ⟨rfl, below_from HB.out hz⟩
end Go.Proofs.YtdngcihjfbmbpaaDoor.Zm
