/- correctorref14.Render: a line of each that lies in a text. -/
import Derived.Test.YtdngcihjfbmbpaaDoorZln
import Derived.Test.YtdngcihjfbmbpaaDoorZdb
import Derived.Deep.DeepMust
import Derived.Deep.DeepCutAuto
import Derived.Deep.CutBlock
import Derived.BigQuiet
namespace Go.Proofs.YtdngcihjfbmbpaaDoor.Zm
open Go.RowKit
open Go.Proofs.YtdngcihjfbmbpaaDoor.Sq
open Go.Proofs.YtdngcihjfbmbpaaDoor.Zd
set_option linter.unusedVariables false
set_option linter.unusedSimpArgs false

set_option maxHeartbeats 8000000 in
set_option maxRecDepth 100000 in
theorem refRender (s : ByteArray) (a : Option Addr) (cap : Nat) (v : Value) (l : List Dg) (w : World) (hs : Bys w (.slice a s.size cap) s) (h : Reads encZ w v l) (hm : s.size ≤ 1000000) (hl : l.length ≤ 100000) :
    Calls Tryd.prog 9 #[.slice a s.size cap, v] w fun e w' => e = .returned (.string (rlB s l)) ∧ Below w.heap.size w w' := by
  obtain ⟨la, lc, rfl⟩ := h.shape
  obtain ⟨n, hn⟩ : ∃ n, l.length = n := ⟨_, rfl⟩
  have HX := Lib.hid (fun W (hW : Below w.heap.size w W) j x hx => diag_cells (h.below hW) j x hx)
  have HP := Lib.hid (fun W x (hW : Below w.heap.size w W) => refPlace s a cap x W (hs.below hW) hm)
  have HN := Lib.hid hn
  have HM := Lib.hid hm
  have hz : rlB s (l.take n) = rlB s l := by rw [← hn, List.take_length]
  obtain ⟨Q, hQ⟩ : ∃ Q, (fun e (w' : World) => e = Ending.returned (.string (rlB s l)) ∧ Below w.heap.size w w') = Q := ⟨_, rfl⟩
  have HQ := Lib.hid (show ∀ w', Below w.heap.size w w' → Q (.returned (.string (rlB s (l.take n)))) w' from fun w' hb => by rw [← hQ, hz]; exact ⟨rfl, hb⟩)
  rw [hQ]
  rw [hn] at hl ⊢
  clear h hs hn hz hQ hm
  go_enter Tryd.func9, Tryd.ntmps9
  go_wp2_with fail
  go_loopw [5, 6] (fun ov iv wr => ∃ i : Nat, iv = .int .i64 i ∧ i ≤ n ∧ ov = .string (rlB s (l.take i)) ∧ Hid (Below w.heap.size w wr)) (fun _ iv _ => n - (intOf iv).toNat)
  case atStart => exact ⟨0, rfl, Nat.zero_le _, by rw [List.take_zero]; rfl, Lib.hid (Below.refl _ _)⟩
  case round =>
    obtain ⟨i, rfl, hin, rfl, HB⟩ := hrel
    by_cases hlt : i < n
    · obtain ⟨x, hx⟩ : ∃ x, l[i]? = some x := ⟨_, List.getElem?_eq_getElem (by rw [HN.out]; exact hlt)⟩
      obtain ⟨b, off, rfl, x0, x1, x2⟩ := HX.out wr HB.out i x hx
      have hmore := rlB_more s l i x hx
      have hO := rlB_size s HM.out (l.take i)
      have hOl : (l.take i).length ≤ 100000 := by rw [List.length_take, HN.out]; omega
      have ii : (i : Int) < (n : Int) := by omega
      have ii0 : (0 : Int) ≤ (i : Int) := by omega
      obtain ⟨xc, xf, xt⟩ := x
      dsimp only at x0 x1 x2
      have p1 := HP.out wr xf HB.out
      have b1 := pl_bd s xf HM.out
      have b2 := pl_bd s xt HM.out
      obtain ⟨O, hOe⟩ : ∃ O, rlB s (l.take i) = O := ⟨_, rfl⟩
      have HY := Lib.hid (show 0 < (pl s xf).1 → 0 < (pl s xt).1 → lineT s ⟨xc, xf, xt⟩ = _ from lineT_yes s ⟨xc, xf, xt⟩)
      have HNo := Lib.hid (show ¬ (0 < (pl s xf).1 ∧ 0 < (pl s xt).1) → lineT s ⟨xc, xf, xt⟩ = _ from lineT_no s ⟨xc, xf, xt⟩)
      have HP2 := Lib.hid (fun W hW => HP.out W xt hW)
      dsimp only at HY
      obtain ⟨A, hA⟩ : ∃ A, (pl s xf).1 = A := ⟨_, rfl⟩
      obtain ⟨C, hC⟩ : ∃ C, (pl s xf).2 = C := ⟨_, rfl⟩
      obtain ⟨D, hD⟩ : ∃ D, (pl s xt).1 = D := ⟨_, rfl⟩
      obtain ⟨E, hE⟩ : ∃ E, (pl s xt).2 = E := ⟨_, rfl⟩
      rw [hA, hC] at p1 b1
      rw [hD, hE] at HP2 b2
      rw [hA, hC, hD, hE] at HY
      rw [hA, hD] at HNo
      have hO2 : O.size ≤ 10000000 := by rw [← hOe]; omega
      rw [hOe] at hmore ⊢
      have HMo := Lib.hid hmore
      have P1 := Lib.hid p1
      clear hx hmore hO hOl p1 hOe hA hC hD hE
      go_wp2_with fail
      refine P1.out.mono ?_
      rintro e w1 ⟨rfl, hb1⟩
      have HB1 := Lib.hid (below_from HB.out hb1)
      have y0 := at_below hb1 x0
      have y1 := at_below hb1 x1
      have y2 := at_below hb1 x2
      clear hb1 x0 x1 x2 P1
      go_wp2_with fail
      refine (HP2.out w1 HB1.out).mono ?_
      rintro e w2 ⟨rfl, hb2⟩
      have HB2 := Lib.hid (below_from HB1.out hb2)
      have z0 := at_below hb2 y0
      clear hb2 y0 y1 y2 HP2
      by_cases hA0 : A = 0
      · have t1 : (A == 0) = true := by simp [hA0]
        have hnl : rlB s (l.take (i + 1)) = O := by rw [HMo.out, HNo.out (by omega)]; exact ByteArray.append_empty
        have HR := Lib.hid hnl
        clear hA0 hnl b1
        go_wp2_with fail
        go_roundw
        case rel => exact ⟨i + 1, by go_num, by omega, by rw [HR.out], HB2⟩
        case measure => simp [intOf]; omega
      · have t1 : (A == 0) = false := by simp [hA0]
        by_cases hD0 : D = 0
        · have t2 : (D == 0) = true := by simp [hD0]
          have hnl : rlB s (l.take (i + 1)) = O := by rw [HMo.out, HNo.out (by omega)]; exact ByteArray.append_empty
          have HR := Lib.hid hnl
          clear hD0 hnl b2 hA0
          go_wp2_with fail
          go_roundw
          case rel => exact ⟨i + 1, by go_num, by omega, by rw [HR.out], HB2⟩
          case measure => simp [intOf]; omega
        · have t2 : (D == 0) = false := by simp [hD0]
          have hyes := HY.out (by omega) (by omega)
          obtain ⟨nA, rfl⟩ : ∃ k : Nat, A = (k : Int) := ⟨A.toNat, by omega⟩
          obtain ⟨nC, rfl⟩ : ∃ k : Nat, C = (k : Int) := ⟨C.toNat, by omega⟩
          obtain ⟨nD, rfl⟩ : ∃ k : Nat, D = (k : Int) := ⟨D.toNat, by omega⟩
          obtain ⟨nE, rfl⟩ : ∃ k : Nat, E = (k : Int) := ⟨E.toNat, by omega⟩
          have IA := Lib.hid (fun W => refDigits nA (by omega) W)
          have IC := Lib.hid (fun W => refDigits nC (by omega) W)
          have ID := Lib.hid (fun W => refDigits nD (by omega) W)
          have IE := Lib.hid (fun W => refDigits nE (by omega) W)
          have IW := Lib.hid (fun W => refText xc W)
          have sA := dig_size (nA : Int) (by omega) (by omega)
          have sC := dig_size (nC : Int) (by omega) (by omega)
          have sD := dig_size (nD : Int) (by omega) (by omega)
          have sE := dig_size (nE : Int) (by omega) (by omega)
          have sW := word_size xc
          unfold ptxt at hyes
          have hnew := HMo.out
          rw [hyes] at hnew
          obtain ⟨TA, hTA⟩ : ∃ T, dig (nA : Int) = T := ⟨_, rfl⟩
          obtain ⟨TC, hTC⟩ : ∃ T, dig (nC : Int) = T := ⟨_, rfl⟩
          obtain ⟨TD, hTD⟩ : ∃ T, dig (nD : Int) = T := ⟨_, rfl⟩
          obtain ⟨TE, hTE⟩ : ∃ T, dig (nE : Int) = T := ⟨_, rfl⟩
          obtain ⟨TW, hTW⟩ : ∃ T, word xc = T := ⟨_, rfl⟩
          rw [hTA] at IA sA hnew
          rw [hTC] at IC sC hnew
          rw [hTD] at ID sD hnew
          rw [hTE] at IE sE hnew
          rw [hTW] at IW sW hnew
          rw [← line_puts O TA TC TD TE TW] at hnew
          have HR := Lib.hid hnew
          have k1 : (⟨#[58]⟩ : ByteArray).size = 1 := rfl
          have k2 : (⟨#[32]⟩ : ByteArray).size = 1 := rfl
          have k3 : (⟨#[10]⟩ : ByteArray).size = 1 := rfl
          have g1 : ¬ (9223372036854775807 < O.size + TA.size) := by omega
          have g2 : ¬ (9223372036854775807 < O.size + TA.size + 1) := by omega
          have g3 : ¬ (9223372036854775807 < O.size + TA.size + 1 + TC.size) := by omega
          have g4 : ¬ (9223372036854775807 < O.size + TA.size + 1 + TC.size + 1) := by omega
          have g5 : ¬ (9223372036854775807 < O.size + TA.size + 1 + TC.size + 1 + TD.size) := by omega
          have g6 : ¬ (9223372036854775807 < O.size + TA.size + 1 + TC.size + 1 + TD.size + 1) := by omega
          have g7 : ¬ (9223372036854775807 < O.size + TA.size + 1 + TC.size + 1 + TD.size + 1 + TE.size) := by omega
          have g8 : ¬ (9223372036854775807 < O.size + TA.size + 1 + TC.size + 1 + TD.size + 1 + TE.size + 1) := by omega
          have g9 : ¬ (9223372036854775807 < O.size + TA.size + 1 + TC.size + 1 + TD.size + 1 + TE.size + 1 + TW.size) := by omega
          have g10 : ¬ (9223372036854775807 < O.size + TA.size + 1 + TC.size + 1 + TD.size + 1 + TE.size + 1 + TW.size + 1) := by omega
          clear hyes hnew hTA hTC hTD hTE hTW hA0 hD0 b1 b2 sA sC sD sE sW
          go_wp2_with fail
-- GEN R8
          refine wp_region_I (fun wx => Below w2.heap.size w2 wx) (by kernel_rfl) (Below.refl w2.heap.size w2).drew ?_
          refine wpAnyI_take (i := 0) (oi := { dst := some 43, op := Op.move (Operand.tmp 5), type := 9, pos := _, after := #[], guard := none }) (v := .string O) rfl (by kernel_rfl) (by kernel_rfl) (by kernel_rfl) (Or.inl ⟨rfl, fun W hW => ?_⟩) ?_
          · refine RunI.of_run ?_ hW; go_simp
          try simp only [Act.put, List.setIfInBounds_toArray, List.set_cons_zero, List.set_cons_succ]
          refine wpAnyI_take (i := 1) (oi := { dst := some 44, op := Op.move (Operand.tmp 7), type := 3, pos := _, after := #[], guard := none }) (v := .int .i64 (nA : Nat)) rfl (by kernel_rfl) (by kernel_rfl) (by kernel_rfl) (Or.inl ⟨rfl, fun W hW => ?_⟩) ?_
          · refine RunI.of_run ?_ hW; go_simp
          try simp only [Act.put, List.setIfInBounds_toArray, List.set_cons_zero, List.set_cons_succ]
          refine wpAnyI_take (i := 2) (oi := { dst := some 45, op := Op.call { callee := Callee.value (Operand.func 17), args := #[Operand.tmp 44], argTypes := #[3] }, type := 9, pos := _, after := #[{ on := 1, ground := Ground.data }], guard := none }) (v := .string TA) rfl (by kernel_rfl) (by kernel_rfl) (by kernel_rfl) (Or.inl ⟨rfl, fun W hW => ?_⟩) ?_
          · refine RunI.of_call (w' := W) (f := 17) (args := #[.int .i64 (nA : Nat)]) ?_ ?_
            · go_simp
            · refine (IA.out W).mono ?_
              rintro e w3 ⟨rfl, h9⟩
              exact ⟨rfl, below_from hW h9⟩
          try simp only [Act.put, List.setIfInBounds_toArray, List.set_cons_zero, List.set_cons_succ]
          refine wpAnyI_take (i := 3) (oi := { dst := some 46, op := Op.binOp BinOp.add 9 (Operand.tmp 43) (Operand.tmp 45) 9, type := 9, pos := _, after := #[{ on := 0, ground := Ground.data }, { on := 2, ground := Ground.data }], guard := none }) (v := .string (O ++ TA)) rfl (by kernel_rfl) (by kernel_rfl) (by kernel_rfl) (Or.inl ⟨rfl, fun W hW => ?_⟩) ?_
          · refine RunI.of_run ?_ hW; go_simp
          try simp only [Act.put, List.setIfInBounds_toArray, List.set_cons_zero, List.set_cons_succ]
          refine wpAnyI_take (i := 4) (oi := { dst := some 47, op := Op.binOp BinOp.add 9 (Operand.tmp 46) (Operand.const (Value.string { data := #[58] })) 9, type := 9, pos := _, after := #[{ on := 3, ground := Ground.data }], guard := none }) (v := .string ((O ++ TA) ++ ⟨#[58]⟩)) rfl (by kernel_rfl) (by kernel_rfl) (by kernel_rfl) (Or.inl ⟨rfl, fun W hW => ?_⟩) ?_
          · refine RunI.of_run ?_ hW; go_simp
          try simp only [Act.put, List.setIfInBounds_toArray, List.set_cons_zero, List.set_cons_succ]
          refine wpAnyI_take (i := 5) (oi := { dst := some 48, op := Op.move (Operand.tmp 8), type := 3, pos := _, after := #[], guard := none }) (v := .int .i64 (nC : Nat)) rfl (by kernel_rfl) (by kernel_rfl) (by kernel_rfl) (Or.inl ⟨rfl, fun W hW => ?_⟩) ?_
          · refine RunI.of_run ?_ hW; go_simp
          try simp only [Act.put, List.setIfInBounds_toArray, List.set_cons_zero, List.set_cons_succ]
          refine wpAnyI_take (i := 6) (oi := { dst := some 49, op := Op.call { callee := Callee.value (Operand.func 17), args := #[Operand.tmp 48], argTypes := #[3] }, type := 9, pos := _, after := #[{ on := 5, ground := Ground.data }, { on := 2, ground := Ground.chain }], guard := none }) (v := .string TC) rfl (by kernel_rfl) (by kernel_rfl) (by kernel_rfl) (Or.inl ⟨rfl, fun W hW => ?_⟩) ?_
          · refine RunI.of_call (w' := W) (f := 17) (args := #[.int .i64 (nC : Nat)]) ?_ ?_
            · go_simp
            · refine (IC.out W).mono ?_
              rintro e w3 ⟨rfl, h9⟩
              exact ⟨rfl, below_from hW h9⟩
          try simp only [Act.put, List.setIfInBounds_toArray, List.set_cons_zero, List.set_cons_succ]
          refine wpAnyI_take (i := 7) (oi := { dst := some 50, op := Op.binOp BinOp.add 9 (Operand.tmp 47) (Operand.tmp 49) 9, type := 9, pos := _, after := #[{ on := 4, ground := Ground.data }, { on := 6, ground := Ground.data }], guard := none }) (v := .string (((O ++ TA) ++ ⟨#[58]⟩) ++ TC)) rfl (by kernel_rfl) (by kernel_rfl) (by kernel_rfl) (Or.inl ⟨rfl, fun W hW => ?_⟩) ?_
          · refine RunI.of_run ?_ hW; go_simp
          try simp only [Act.put, List.setIfInBounds_toArray, List.set_cons_zero, List.set_cons_succ]
          refine wpAnyI_take (i := 8) (oi := { dst := some 51, op := Op.binOp BinOp.add 9 (Operand.tmp 50) (Operand.const (Value.string { data := #[32] })) 9, type := 9, pos := _, after := #[{ on := 7, ground := Ground.data }], guard := none }) (v := .string ((((O ++ TA) ++ ⟨#[58]⟩) ++ TC) ++ ⟨#[32]⟩)) rfl (by kernel_rfl) (by kernel_rfl) (by kernel_rfl) (Or.inl ⟨rfl, fun W hW => ?_⟩) ?_
          · refine RunI.of_run ?_ hW; go_simp
          try simp only [Act.put, List.setIfInBounds_toArray, List.set_cons_zero, List.set_cons_succ]
          refine wpAnyI_take (i := 9) (oi := { dst := some 52, op := Op.move (Operand.tmp 9), type := 3, pos := _, after := #[], guard := none }) (v := .int .i64 (nD : Nat)) rfl (by kernel_rfl) (by kernel_rfl) (by kernel_rfl) (Or.inl ⟨rfl, fun W hW => ?_⟩) ?_
          · refine RunI.of_run ?_ hW; go_simp
          try simp only [Act.put, List.setIfInBounds_toArray, List.set_cons_zero, List.set_cons_succ]
          refine wpAnyI_take (i := 10) (oi := { dst := some 53, op := Op.call { callee := Callee.value (Operand.func 17), args := #[Operand.tmp 52], argTypes := #[3] }, type := 9, pos := _, after := #[{ on := 9, ground := Ground.data }, { on := 6, ground := Ground.chain }], guard := none }) (v := .string TD) rfl (by kernel_rfl) (by kernel_rfl) (by kernel_rfl) (Or.inl ⟨rfl, fun W hW => ?_⟩) ?_
          · refine RunI.of_call (w' := W) (f := 17) (args := #[.int .i64 (nD : Nat)]) ?_ ?_
            · go_simp
            · refine (ID.out W).mono ?_
              rintro e w3 ⟨rfl, h9⟩
              exact ⟨rfl, below_from hW h9⟩
          try simp only [Act.put, List.setIfInBounds_toArray, List.set_cons_zero, List.set_cons_succ]
          refine wpAnyI_take (i := 11) (oi := { dst := some 54, op := Op.binOp BinOp.add 9 (Operand.tmp 51) (Operand.tmp 53) 9, type := 9, pos := _, after := #[{ on := 8, ground := Ground.data }, { on := 10, ground := Ground.data }], guard := none }) (v := .string (((((O ++ TA) ++ ⟨#[58]⟩) ++ TC) ++ ⟨#[32]⟩) ++ TD)) rfl (by kernel_rfl) (by kernel_rfl) (by kernel_rfl) (Or.inl ⟨rfl, fun W hW => ?_⟩) ?_
          · refine RunI.of_run ?_ hW; go_simp
          try simp only [Act.put, List.setIfInBounds_toArray, List.set_cons_zero, List.set_cons_succ]
          refine wpAnyI_take (i := 12) (oi := { dst := some 55, op := Op.binOp BinOp.add 9 (Operand.tmp 54) (Operand.const (Value.string { data := #[58] })) 9, type := 9, pos := _, after := #[{ on := 11, ground := Ground.data }], guard := none }) (v := .string ((((((O ++ TA) ++ ⟨#[58]⟩) ++ TC) ++ ⟨#[32]⟩) ++ TD) ++ ⟨#[58]⟩)) rfl (by kernel_rfl) (by kernel_rfl) (by kernel_rfl) (Or.inl ⟨rfl, fun W hW => ?_⟩) ?_
          · refine RunI.of_run ?_ hW; go_simp
          try simp only [Act.put, List.setIfInBounds_toArray, List.set_cons_zero, List.set_cons_succ]
          refine wpAnyI_take (i := 13) (oi := { dst := some 56, op := Op.move (Operand.tmp 10), type := 3, pos := _, after := #[], guard := none }) (v := .int .i64 (nE : Nat)) rfl (by kernel_rfl) (by kernel_rfl) (by kernel_rfl) (Or.inl ⟨rfl, fun W hW => ?_⟩) ?_
          · refine RunI.of_run ?_ hW; go_simp
          try simp only [Act.put, List.setIfInBounds_toArray, List.set_cons_zero, List.set_cons_succ]
          refine wpAnyI_take (i := 14) (oi := { dst := some 57, op := Op.call { callee := Callee.value (Operand.func 17), args := #[Operand.tmp 56], argTypes := #[3] }, type := 9, pos := _, after := #[{ on := 13, ground := Ground.data }, { on := 10, ground := Ground.chain }], guard := none }) (v := .string TE) rfl (by kernel_rfl) (by kernel_rfl) (by kernel_rfl) (Or.inl ⟨rfl, fun W hW => ?_⟩) ?_
          · refine RunI.of_call (w' := W) (f := 17) (args := #[.int .i64 (nE : Nat)]) ?_ ?_
            · go_simp
            · refine (IE.out W).mono ?_
              rintro e w3 ⟨rfl, h9⟩
              exact ⟨rfl, below_from hW h9⟩
          try simp only [Act.put, List.setIfInBounds_toArray, List.set_cons_zero, List.set_cons_succ]
          refine wpAnyI_take (i := 15) (oi := { dst := some 58, op := Op.binOp BinOp.add 9 (Operand.tmp 55) (Operand.tmp 57) 9, type := 9, pos := _, after := #[{ on := 12, ground := Ground.data }, { on := 14, ground := Ground.data }], guard := none }) (v := .string (((((((O ++ TA) ++ ⟨#[58]⟩) ++ TC) ++ ⟨#[32]⟩) ++ TD) ++ ⟨#[58]⟩) ++ TE)) rfl (by kernel_rfl) (by kernel_rfl) (by kernel_rfl) (Or.inl ⟨rfl, fun W hW => ?_⟩) ?_
          · refine RunI.of_run ?_ hW; go_simp
          try simp only [Act.put, List.setIfInBounds_toArray, List.set_cons_zero, List.set_cons_succ]
          refine wpAnyI_take (i := 16) (oi := { dst := some 59, op := Op.binOp BinOp.add 9 (Operand.tmp 58) (Operand.const (Value.string { data := #[32] })) 9, type := 9, pos := _, after := #[{ on := 15, ground := Ground.data }], guard := none }) (v := .string ((((((((O ++ TA) ++ ⟨#[58]⟩) ++ TC) ++ ⟨#[32]⟩) ++ TD) ++ ⟨#[58]⟩) ++ TE) ++ ⟨#[32]⟩)) rfl (by kernel_rfl) (by kernel_rfl) (by kernel_rfl) (Or.inl ⟨rfl, fun W hW => ?_⟩) ?_
          · refine RunI.of_run ?_ hW; go_simp
          try simp only [Act.put, List.setIfInBounds_toArray, List.set_cons_zero, List.set_cons_succ]
          refine wpAnyI_take (i := 17) (oi := { dst := some 60, op := Op.move (Operand.tmp 1), type := 23, pos := _, after := #[], guard := none }) (v := .slice (some ⟨b, off, none⟩) n lc) rfl (by kernel_rfl) (by kernel_rfl) (by kernel_rfl) (Or.inl ⟨rfl, fun W hW => ?_⟩) ?_
          · refine RunI.of_run ?_ hW; go_simp
          try simp only [Act.put, List.setIfInBounds_toArray, List.set_cons_zero, List.set_cons_succ]
          refine wpAnyI_take (i := 18) (oi := { dst := some 61, op := Op.move (Operand.tmp 6), type := 3, pos := _, after := #[], guard := none }) (v := .int .i64 (i : Nat)) rfl (by kernel_rfl) (by kernel_rfl) (by kernel_rfl) (Or.inl ⟨rfl, fun W hW => ?_⟩) ?_
          · refine RunI.of_run ?_ hW; go_simp
          try simp only [Act.put, List.setIfInBounds_toArray, List.set_cons_zero, List.set_cons_succ]
          refine wpAnyI_take (i := 19) (oi := { dst := some 62, op := Op.indexAddr 23 (Operand.tmp 60) (Operand.tmp 61), type := 0, pos := _, after := #[{ on := 17, ground := Ground.data }, { on := 18, ground := Ground.data }], guard := none }) (v := .pointer (some ⟨b, off + i * 3, none⟩)) rfl (by kernel_rfl) (by kernel_rfl) (by kernel_rfl) (Or.inl ⟨rfl, fun W hW => ?_⟩) ?_
          · refine RunI.of_run ?_ hW; go_simp
          try simp only [Act.put, List.setIfInBounds_toArray, List.set_cons_zero, List.set_cons_succ]
          refine wpAnyI_take (i := 20) (oi := { dst := some 63, op := Op.fieldAddr 31 (Operand.tmp 62) 0, type := 0, pos := _, after := #[{ on := 19, ground := Ground.data }], guard := none }) (v := .pointer (some ⟨b, off + i * 3, none⟩)) rfl (by kernel_rfl) (by kernel_rfl) (by kernel_rfl) (Or.inl ⟨rfl, fun W hW => ?_⟩) ?_
          · refine RunI.of_run ?_ hW; go_simp
          try simp only [Act.put, List.setIfInBounds_toArray, List.set_cons_zero, List.set_cons_succ]
          refine wpAnyI_take (i := 21) (oi := { dst := some 64, op := Op.load 3 (Operand.tmp 63), type := 3, pos := _, after := #[{ on := 20, ground := Ground.data }], guard := none }) (v := .int .i64 xc) rfl (by kernel_rfl) (by kernel_rfl) (by kernel_rfl) (Or.inl ⟨rfl, fun W hW => ?_⟩) ?_
          · refine RunI.of_run ?_ hW; have q0 := at_below hW z0; go_simp
          try simp only [Act.put, List.setIfInBounds_toArray, List.set_cons_zero, List.set_cons_succ]
          refine wpAnyI_take (i := 22) (oi := { dst := some 65, op := Op.call { callee := Callee.value (Operand.func 7), args := #[Operand.tmp 64], argTypes := #[3] }, type := 9, pos := _, after := #[{ on := 21, ground := Ground.data }, { on := 14, ground := Ground.chain }], guard := none }) (v := .string TW) rfl (by kernel_rfl) (by kernel_rfl) (by kernel_rfl) (Or.inl ⟨rfl, fun W hW => ?_⟩) ?_
          · refine RunI.of_call (w' := W) (f := 7) (args := #[.int .i64 xc]) ?_ ?_
            · go_simp
            · refine (IW.out W).mono ?_
              rintro e w3 ⟨rfl, h9⟩
              exact ⟨rfl, below_from hW h9⟩
          try simp only [Act.put, List.setIfInBounds_toArray, List.set_cons_zero, List.set_cons_succ]
          refine wpAnyI_take (i := 23) (oi := { dst := some 66, op := Op.binOp BinOp.add 9 (Operand.tmp 59) (Operand.tmp 65) 9, type := 9, pos := _, after := #[{ on := 16, ground := Ground.data }, { on := 22, ground := Ground.data }], guard := none }) (v := .string (((((((((O ++ TA) ++ ⟨#[58]⟩) ++ TC) ++ ⟨#[32]⟩) ++ TD) ++ ⟨#[58]⟩) ++ TE) ++ ⟨#[32]⟩) ++ TW)) rfl (by kernel_rfl) (by kernel_rfl) (by kernel_rfl) (Or.inl ⟨rfl, fun W hW => ?_⟩) ?_
          · refine RunI.of_run ?_ hW; go_simp
          try simp only [Act.put, List.setIfInBounds_toArray, List.set_cons_zero, List.set_cons_succ]
          refine wpAnyI_take (i := 24) (oi := { dst := some 67, op := Op.binOp BinOp.add 9 (Operand.tmp 66) (Operand.const (Value.string { data := #[10] })) 9, type := 9, pos := _, after := #[{ on := 23, ground := Ground.data }], guard := none }) (v := .string ((((((((((O ++ TA) ++ ⟨#[58]⟩) ++ TC) ++ ⟨#[32]⟩) ++ TD) ++ ⟨#[58]⟩) ++ TE) ++ ⟨#[32]⟩) ++ TW) ++ ⟨#[10]⟩)) rfl (by kernel_rfl) (by kernel_rfl) (by kernel_rfl) (Or.inl ⟨rfl, fun W hW => ?_⟩) ?_
          · refine RunI.of_run ?_ hW; go_simp
          try simp only [Act.put, List.setIfInBounds_toArray, List.set_cons_zero, List.set_cons_succ]
          refine wpAnyI_take (i := 25) (oi := { dst := some 5, op := Op.assign (Operand.tmp 67), type := 9, pos := _, after := #[{ on := 24, ground := Ground.data }, { on := 22, ground := Ground.chain }, { on := 0, ground := Ground.phase }, { on := 1, ground := Ground.phase }, { on := 2, ground := Ground.phase }, { on := 3, ground := Ground.phase }, { on := 4, ground := Ground.phase }, { on := 5, ground := Ground.phase }, { on := 6, ground := Ground.phase }, { on := 7, ground := Ground.phase }, { on := 8, ground := Ground.phase }, { on := 9, ground := Ground.phase }, { on := 10, ground := Ground.phase }, { on := 11, ground := Ground.phase }, { on := 12, ground := Ground.phase }, { on := 13, ground := Ground.phase }, { on := 14, ground := Ground.phase }, { on := 15, ground := Ground.phase }, { on := 16, ground := Ground.phase }, { on := 17, ground := Ground.phase }, { on := 18, ground := Ground.phase }, { on := 19, ground := Ground.phase }, { on := 20, ground := Ground.phase }, { on := 21, ground := Ground.phase }, { on := 22, ground := Ground.phase }, { on := 23, ground := Ground.phase }, { on := 24, ground := Ground.phase }], guard := none }) (v := .string ((((((((((O ++ TA) ++ ⟨#[58]⟩) ++ TC) ++ ⟨#[32]⟩) ++ TD) ++ ⟨#[58]⟩) ++ TE) ++ ⟨#[32]⟩) ++ TW) ++ ⟨#[10]⟩)) rfl (by kernel_rfl) (by kernel_rfl) (by kernel_rfl) (Or.inl ⟨rfl, fun W hW => ?_⟩) ?_
          · refine RunI.of_run ?_ hW; go_simp
          try simp only [Act.put, List.setIfInBounds_toArray, List.set_cons_zero, List.set_cons_succ]
          refine wpAnyI_done (by kernel_rfl) (fun wz hz => ?_) _
-- END R8
          have HB3 := Lib.hid (below_from HB2.out hz)
          clear hz z0
          go_wp2_with fail
          go_roundw
          case rel => exact ⟨i + 1, by go_num, by omega, by rw [HR.out], HB3⟩
          case measure => simp [intOf]; omega
    · obtain rfl : i = n := by omega
      have ii : ¬ ((i : Int) < (i : Int)) := by omega
      have HD := Lib.hid (HQ.out wr HB.out)
      clear hlt
      go_wp2_with fail
      try simp only [Exit.jump]
      exact HD.out
end Go.Proofs.YtdngcihjfbmbpaaDoor.Zm
