/- ArenaTwo: trees that grow leave the one that they were made of. -/
import Derived.Test.YthkieidcjakhgaaVar
import Derived.Test.YthkieidcjakhgaaDr
import Derived.Test.YthkieidcjakhgaaR10Ref
import Derived.Test.YthkieidcjakhgaaArg10
import Derived.Test.YthkieidcjakhgaaAqa
import Derived.Test.YthkieidcjakhgaaAq2
namespace Go.Proofs.Ythkieidcjakhgaa
open Go.RowKit
open Go.Proofs.Ythkieidcjakhgaa.Sq
open Go.Proofs.Ythkieidcjakhgaa.Ar
set_option linter.unusedVariables false

namespace Ar
def ta (n : Int) : List Nd := [⟨1, 0, n, -1, [1], false⟩, ⟨2, 0, 1, 0, [], false⟩]
def tb2 (n : Int) : List Nd := [⟨1, 0, n, -1, [1], false⟩, ⟨2, 0, 2, 0, [2], false⟩, ⟨3, 1, 2, 1, [], false⟩]
def tc (n : Int) : List Nd := [⟨1, 0, n, -1, [1], false⟩, ⟨2, 0, 3, 0, [2], false⟩, ⟨5, 1, 3, 1, [], false⟩]
theorem add_ta (n : Int) (h0 : 5 ≤ n) (h1 : n ≤ 32768) : addN (newN n) 0 2 0 1 = (ta n, 1) := by
  have hm : mayAdd (newN n) 0 2 0 1 = true := by
    rw [new_is n (by omega) h1]
    unfold mayAdd
    simp [firstT]
    exact decide_eq_false (by omega)
  unfold addN
  rw [if_pos hm, new_is n (by omega) h1]
  have e : max n 1 = n := by omega
  simp [reachN, reachF, ta, e]
theorem add_tb (n : Int) (h0 : 5 ≤ n) (h1 : n ≤ 32768) : addN (ta n) 1 3 1 2 = (tb2 n, 2) := by
  have hm : mayAdd (ta n) 1 3 1 2 = true := by
    unfold mayAdd
    simp [firstT, ta]
    exact decide_eq_false (by omega)
  unfold addN
  rw [if_pos hm]
  have e : max n 2 = n := by omega
  simp [reachN, reachF, ta, tb2, e]
  decide
theorem add_tc (n : Int) (h0 : 5 ≤ n) (h1 : n ≤ 32768) : addN (ta n) 1 5 1 3 = (tc n, 2) := by
  have hm : mayAdd (ta n) 1 5 1 3 = true := by
    unfold mayAdd
    simp [firstT, ta]
    exact decide_eq_false (by omega)
  unfold addN
  rw [if_pos hm]
  have e : max n 3 = n := by omega
  simp [reachN, reachF, ta, tc, e]
  decide
end Ar
set_option maxHeartbeats 8000000 in
set_option maxRecDepth 100000 in
theorem walk_ArenaTwo (n0 : Int) (v0 : Value) (l0 : List Ac) (w : World) (_ : (Lit.int .i64 n0).wf = true) (h : Acts w v0 l0) :
    Calls Try.prog 7 #[.int .i64 n0, v0] w fun e w' => e = .returned (.bool true) ∧ Below w.heap.size w w' := by
  obtain ⟨a0, cap0, rfl⟩ := h.shape
  have HQ := Lib.hid (fun w' => show Below w.heap.size w w' → (fun e (w' : World) => e = Ending.returned (.bool true) ∧ Below w.heap.size w w') (.returned (.bool true)) w' from fun h => ⟨rfl, h⟩)
  obtain ⟨Q, hQ⟩ : ∃ Q, (fun e (w' : World) => e = Ending.returned (.bool true) ∧ Below w.heap.size w w') = Q := ⟨_, rfl⟩
  rw [hQ] at HQ ⊢
  obtain ⟨kn, hn40, -, hwn⟩ := within_lit n0 40 40 rfl (by decide) (by decide)
  have hmx := h.size_le
  have HX := Lib.hid (fun W (hb : Below w.heap.size w W) j x (hj : l0[j]? = some x) => acts_at (h.below hb) j x hj)
  obtain ⟨M, hM⟩ : ∃ M, l0.length = M := ⟨_, rfl⟩
  rw [hM] at hmx ⊢
  simp only [maxLen] at hmx
  have HMl := Lib.hid hM
  have HWn := Lib.hid hwn
  have HK := Lib.hid (known_true aNew)
  obtain ⟨n, hn⟩ : ∃ n : Nat, 5 + kn = n := ⟨_, rfl⟩
  have hnI : (5 : Int) + (kn : Int) = (n : Int) := by omega
  have hn5 : 5 ≤ n := by omega
  have hn45 : n ≤ 45 := by omega
  clear h hQ hwn hM
  go_enter Try.func7, Try.ntmps7
  go_wp2_with fail
  refine (HK.out _).mono ?_
  rintro e w1 ⟨rfl, hb1⟩
  have HB1 := Lib.hid hb1
  clear hb1
  go_wp2_with fail
  refine (HWn.out _).mono ?_
  rintro e w' ⟨rfl, rfl⟩
  go_wp2_with fail
  refine (aNew (n : Int) w1).mono ?_
  rintro e w2 ⟨u2, rfl, hn2, -, hb2⟩
  have hw0 := well_new (n : Int)
  obtain ⟨a2, c2, rfl⟩ := hn2.shape
  have hl0 : (newN (n : Int)).length = 1 := rfl
  have hcall := aAdd _ _ 0 2 0 1 w2 hn2 hw0.good (by rw [hl0]; decide) (fun x hx => by have := hw0.few x hx; omega)
  have hta := well_add hw0 0 2 0 1
  rw [add_ta n (by omega) (by omega)] at hcall hta
  rw [hl0] at hcall ⊢
  have HCa := Lib.hid hcall
  have HB2 := Lib.hid (below_from HB1.out hb2)
  have HTa := Lib.hid (show Well (ta n) from hta)
  clear hn2 hb2 hw0 hl0 hcall hta
  go_wp2_with fail
  refine HCa.out.mono ?_
  rintro e w3 ⟨u3, rfl, hn3, -, hb3⟩
  dsimp only at hn3 ⊢
  obtain ⟨a3, c3, rfl⟩ : ∃ a c, u3 = .slice a 2 c := hn3.shape
  obtain ⟨w4, hw4⟩ : ∃ w4, w3.alloc (.cells #[.slice a3 2 c3] 27) = w4 := ⟨_, rfl⟩
  obtain ⟨B5, hB5⟩ : ∃ B5, w3.heap.size = B5 := ⟨_, rfl⟩
  have vB5 : Var w4 B5 27 (.slice a3 2 c3) (ta n) := by rw [← hw4, ← hB5]; exact Var.new hn3 _
  have hbw4 : Below w3.heap.size w3 w4 := hw4 ▸ below_alloc w3 _
  have Hw4 := Lib.hid hw4
  have HB5 := Lib.hid hB5
  have HBw4 := Lib.hid (below_from HB2.out (below_from hb3 hbw4))
  have hcall := aGrow _ _ 0 0 w4 vB5.nd HTa.out.good (by show 2 ≤ 200; decide) (fun x hx => by have := HTa.out.few x hx; have e : (ta (n : Int)).length = 2 := rfl; omega)
  rw [(grow_zero HTa.out).1] at hcall
  have HCg := Lib.hid hcall
  have HV5 := Lib.hid vB5
  have c5 := vB5.cell
  clear hcall hn3 hb3 hw4 hB5 hbw4 vB5
  go_upto_region 5 with fail
  rw [Hw4.out, HB5.out]
  clear Hw4 HB5
  go_wp2_with fail
  refine HCg.out.mono ?_
  rintro e w5 ⟨u5, rfl, hn5', -, hb5⟩
  obtain ⟨a5, c5', rfl⟩ : ∃ a c, u5 = .slice a 2 c := hn5'.shape
  obtain ⟨w6, hw6⟩ : ∃ w6, w5.alloc (.cells #[.slice a5 2 c5'] 27) = w6 := ⟨_, rfl⟩
  obtain ⟨B7, hB7⟩ : ∃ B7, w5.heap.size = B7 := ⟨_, rfl⟩
  have vB7 : Var w6 B7 27 (.slice a5 2 c5') (ta n) := by rw [← hw6, ← hB7]; exact Var.new hn5' _
  have hbw6 : Below w5.heap.size w5 w6 := hw6 ▸ below_alloc w5 _
  have Hw6 := Lib.hid hw6
  have HB7 := Lib.hid hB7
  have hb46 : Below w4.heap.size w4 w6 := below_from hb5 hbw6
  have v56 := HV5.out.below hb46
  have HBw6 := Lib.hid (below_from HBw4.out hb46)
  have n57 : B5 ≠ B7 := by have h1 := HV5.out.lt; have h2 := hb5.size; omega
  have hcall := aAdd _ _ 1 3 1 2 w6 v56.nd HTa.out.good (by show 2 ≤ 200; decide) (fun x hx => by have := HTa.out.few x hx; have e : (ta (n : Int)).length = 2 := rfl; omega)
  have htb := well_add HTa.out 1 3 1 2
  rw [add_tb n (by omega) (by omega)] at hcall htb
  have HCb := Lib.hid hcall
  have HTb := Lib.hid (show Well (tb2 n) from htb)
  have HV56 := Lib.hid v56
  have HV76 := Lib.hid vB7
  have c56 := v56.cell
  clear hcall htb hn5' hb5 hw6 hB7 hbw6 vB7 v56 hb46 HV5 c5
  go_upto_region 6 with fail
  rw [Hw6.out, HB7.out]
  clear Hw6 HB7
  go_wp2_with fail
  refine HCb.out.mono ?_
  rintro e w7 ⟨u7, rfl, hn7, -, hb7⟩
  dsimp only at hn7 ⊢
  obtain ⟨a7, c7, rfl⟩ : ∃ a c, u7 = .slice a 3 c := hn7.shape
  obtain ⟨w8, hw8⟩ : ∃ w8, w7.alloc (.cells #[.slice a7 3 c7] 27) = w8 := ⟨_, rfl⟩
  obtain ⟨B8, hB8⟩ : ∃ B8, w7.heap.size = B8 := ⟨_, rfl⟩
  have vB8 : Var w8 B8 27 (.slice a7 3 c7) (tb2 n) := by rw [← hw8, ← hB8]; exact Var.new hn7 _
  have hbw8 : Below w7.heap.size w7 w8 := hw8 ▸ below_alloc w7 _
  have Hw8 := Lib.hid hw8
  have HB8 := Lib.hid hB8
  have hb68 : Below w6.heap.size w6 w8 := below_from hb7 hbw8
  have v58 := HV56.out.below hb68
  have v78 := HV76.out.below hb68
  have HBw8 := Lib.hid (below_from HBw6.out hb68)
  have n78 : B7 ≠ B8 := by have h1 := HV76.out.lt; have h2 := hb7.size; omega
  have n58 : B5 ≠ B8 := by have h1 := HV56.out.lt; have h2 := hb7.size; omega
  have hw8l : w.heap.size ≤ B8 := by have h1 := HBw6.out.size; have h2 := hb7.size; omega
  have hcall := aAdd _ _ 1 5 1 3 w8 v58.nd HTa.out.good (by show 2 ≤ 200; decide) (fun x hx => by have := HTa.out.few x hx; have e : (ta (n : Int)).length = 2 := rfl; omega)
  rw [add_tc n (by omega) (by omega)] at hcall
  have HCc := Lib.hid hcall
  have HV58 := Lib.hid v58
  have HV78 := Lib.hid v78
  have HV88 := Lib.hid vB8
  have c58 := v58.cell
  clear hcall hn7 hb7 hw8 hB8 hbw8 vB8 v58 v78 hb68 HV56 HV76 c56
  go_upto_region 7 with fail
  rw [Hw8.out, HB8.out]
  clear Hw8 HB8
  go_wp2_with fail
  refine HCc.out.mono ?_
  rintro e w9 ⟨u9, rfl, hn9, -, hb9⟩
  dsimp only at hn9 ⊢
  obtain ⟨a9, c9, rfl⟩ : ∃ a c, u9 = .slice a 3 c := hn9.shape
  obtain ⟨w10, hw10⟩ : ∃ w10, w9.alloc (.cells #[.slice a9 3 c9] 27) = w10 := ⟨_, rfl⟩
  obtain ⟨B10, hB10⟩ : ∃ B10, w9.heap.size = B10 := ⟨_, rfl⟩
  have vB10 : Var w10 B10 27 (.slice a9 3 c9) (tc n) := by rw [← hw10, ← hB10]; exact Var.new hn9 _
  have hbw10 : Below w9.heap.size w9 w10 := hw10 ▸ below_alloc w9 _
  have Hw10 := Lib.hid hw10
  have HB10 := Lib.hid hB10
  have hb810 : Below w8.heap.size w8 w10 := below_from hb9 hbw10
  have v510 := HV58.out.below hb810
  have v710 := HV78.out.below hb810
  have v810 := HV88.out.below hb810
  have HBw10 := Lib.hid (below_from HBw8.out hb810)
  have n810 : B10 ≠ B8 := by have h1 := HV88.out.lt; have h2 := hb9.size; omega
  have HV510 := Lib.hid v510
  have HV710 := Lib.hid v710
  have HV810 := Lib.hid v810
  have HV1010 := Lib.hid vB10
  have c810 := v810.cell
  clear hn9 hb9 hw10 hB10 hbw10 vB10 v510 v710 v810 hb810 HV58 HV78 HV88 c58
  go_upto_region 8 with fail
  rw [Hw10.out, HB10.out]
  clear Hw10 HB10
  go_wp2_with fail
  clear c810
  go_loopw [12] (fun jv wr => ∃ (j : Nat) (va : Value) (Y : List Nd), jv = .int .i64 j ∧ j ≤ M ∧ j ≤ 10 ∧ Y.length ≤ 3 + j ∧ Hid (Well Y) ∧ Hid (Var wr B8 27 va Y) ∧ Hid (Var wr B5 27 (.slice a3 2 c3) (ta n)) ∧ Hid (Var wr B7 27 (.slice a5 2 c5') (ta n)) ∧ Hid (Var wr B10 27 (.slice a9 3 c9) (tc n)) ∧ Hid (Below w.heap.size w wr)) (fun jv _ => M - (intOf jv).toNat)
  case atStart => exact ⟨0, _, tb2 n, rfl, Nat.zero_le _, Nat.zero_le _, by show 3 ≤ 3 + 0; decide, HTb, HV810, HV510, HV710, HV1010, HBw10⟩
  case round =>
    clear HV810 HV510 HV710 HV1010 HBw10
    obtain ⟨j, va, Y, rfl, hjM, hj10, hY, HWl, HV8, HV5, HV7, HV10, HBe⟩ := hrel
    obtain ⟨ya, yc, rfl⟩ := HV8.out.shape
    have hpos := HWl.out.good.pos
    obtain ⟨LY, hLY⟩ : ∃ LY, Y.length = LY := ⟨_, rfl⟩
    rw [hLY] at hY hpos HV8
    have c8 := HV8.out.cell
    have HLY := Lib.hid hLY
    have p1 : (0 : Int) < (LY : Int) := by omega
    clear hLY
    by_cases hgo : j < M ∧ j < 10
    · obtain ⟨hlM, hl10⟩ := hgo
      obtain ⟨x, hx⟩ : ∃ x, l0[j]? = some x := ⟨_, List.getElem?_eq_getElem (by rw [HMl.out]; exact hlM)⟩
      obtain ⟨b, off, rfl, -, x1, -, x3, -⟩ := HX.out wr HBe.out j x hx
      have i1 : (j : Int) < (M : Int) := by omega
      have i2 : (j : Int) < 10 := by omega
      obtain ⟨k1, hk1, -, hw1⟩ := within_lit x.a LY (LY : Int) rfl (by omega) (by omega)
      obtain ⟨k2, hk2, -, hw2⟩ := within_lit x.c n (n : Int) rfl (by omega) (by omega)
      have HK1 := Lib.hid hw1
      have HK2 := Lib.hid hw2
      have hcall := aAdd _ Y k1 7 k2 k2 wr.drew (HV8.out.below (Below.refl _ _).drew).nd HWl.out.good (by rw [HLY.out]; omega) (fun z hz => by have h1 := HWl.out.few z hz; rw [HLY.out] at h1; omega)
      have hwl := well_add HWl.out k1 7 k2 k2
      have hle := len_add HWl.out.good k1 7 k2 k2
      obtain ⟨R, hR⟩ : ∃ R, addN Y k1 7 k2 k2 = R := ⟨_, rfl⟩
      rw [hR] at hcall hwl hle
      rw [HLY.out] at hle
      have HAd := Lib.hid hcall
      have HWR := Lib.hid hwl
      clear hx hw1 hw2 hcall hwl hR
      go_wp2_with fail
      -- GEN R13
      refine wp_region_T (fun wx => wx.cell? ⟨B8, 0, none⟩ = some (.slice ya LY yc) ∧ wx.cell? ⟨b, off + j * 5 + 1, none⟩ = some (.int .i64 x.a) ∧ wx.cell? ⟨b, off + j * 5 + 3, none⟩ = some (.int .i64 x.c)) 28 (by kernel_rfl) ?_
      have hH : (fun wx : World => wx.cell? ⟨B8, 0, none⟩ = some (.slice ya LY yc) ∧ wx.cell? ⟨b, off + j * 5 + 1, none⟩ = some (.int .i64 x.a) ∧ wx.cell? ⟨b, off + j * 5 + 3, none⟩ = some (.int .i64 x.c)) wr.drew := ⟨at_drew c8, at_drew x1, at_drew x3⟩
      refine wpAnyT_take (i := 0) (oi := { dst := some 65, op := Op.load 27 (Operand.tmp 8), type := 27, pos := _, after := #[], guard := none }) (v := .agg #[.slice ya LY yc]) rfl (by kernel_rfl) (by kernel_rfl) (by kernel_rfl) (by kernel_rfl) (by kernel_rfl) (fun _ _ _ h => h) (Or.inl ⟨rfl, fun W hW => ?_⟩) hH ?_
      · refine QuietRun.of_run ?_; obtain ⟨z0, z1, z2⟩ := hW; go_simp
      try simp only [Act.put, List.setIfInBounds_toArray, List.set_cons_zero, List.set_cons_succ]
      refine wpAnyT_take (i := 1) (oi := { dst := some 66, op := Op.move (Operand.tmp 1), type := 22, pos := _, after := #[], guard := none }) (v := .slice (some ⟨b, off, none⟩) M cap0) rfl (by kernel_rfl) (by kernel_rfl) (by kernel_rfl) (by kernel_rfl) (by kernel_rfl) (fun _ _ _ h => h) (Or.inl ⟨rfl, fun W hW => ?_⟩) hH ?_
      · refine QuietRun.of_run ?_; go_simp
      try simp only [Act.put, List.setIfInBounds_toArray, List.set_cons_zero, List.set_cons_succ]
      refine wpAnyT_take (i := 2) (oi := { dst := some 67, op := Op.move (Operand.tmp 12), type := 3, pos := _, after := #[], guard := none }) (v := .int .i64 (j : Int)) rfl (by kernel_rfl) (by kernel_rfl) (by kernel_rfl) (by kernel_rfl) (by kernel_rfl) (fun _ _ _ h => h) (Or.inl ⟨rfl, fun W hW => ?_⟩) hH ?_
      · refine QuietRun.of_run ?_; go_simp
      try simp only [Act.put, List.setIfInBounds_toArray, List.set_cons_zero, List.set_cons_succ]
      refine wpAnyT_take (i := 3) (oi := { dst := some 68, op := Op.indexAddr 22 (Operand.tmp 66) (Operand.tmp 67), type := 0, pos := _, after := #[{ on := 1, ground := Ground.data }, { on := 2, ground := Ground.data }], guard := none }) (v := .pointer (some ⟨b, off + j * 5, none⟩)) rfl (by kernel_rfl) (by kernel_rfl) (by kernel_rfl) (by kernel_rfl) (by kernel_rfl) (fun _ _ _ h => h) (Or.inl ⟨rfl, fun W hW => ?_⟩) hH ?_
      · refine QuietRun.of_run ?_; go_simp
      try simp only [Act.put, List.setIfInBounds_toArray, List.set_cons_zero, List.set_cons_succ]
      refine wpAnyT_take (i := 4) (oi := { dst := some 69, op := Op.fieldAddr 32 (Operand.tmp 68) 1, type := 0, pos := _, after := #[{ on := 3, ground := Ground.data }], guard := none }) (v := .pointer (some ⟨b, off + j * 5 + 1, none⟩)) rfl (by kernel_rfl) (by kernel_rfl) (by kernel_rfl) (by kernel_rfl) (by kernel_rfl) (fun _ _ _ h => h) (Or.inl ⟨rfl, fun W hW => ?_⟩) hH ?_
      · refine QuietRun.of_run ?_; go_simp
      try simp only [Act.put, List.setIfInBounds_toArray, List.set_cons_zero, List.set_cons_succ]
      refine wpAnyT_take (i := 5) (oi := { dst := some 70, op := Op.load 3 (Operand.tmp 69), type := 3, pos := _, after := #[{ on := 4, ground := Ground.data }], guard := none }) (v := .int .i64 x.a) rfl (by kernel_rfl) (by kernel_rfl) (by kernel_rfl) (by kernel_rfl) (by kernel_rfl) (fun _ _ _ h => h) (Or.inl ⟨rfl, fun W hW => ?_⟩) hH ?_
      · refine QuietRun.of_run ?_; obtain ⟨z0, z1, z2⟩ := hW; go_simp
      try simp only [Act.put, List.setIfInBounds_toArray, List.set_cons_zero, List.set_cons_succ]
      refine wpAnyT_take (i := 6) (oi := { dst := some 71, op := Op.fieldAddr 27 (Operand.tmp 8) 0, type := 0, pos := _, after := #[], guard := none }) (v := .pointer (some ⟨B8, 0, none⟩)) rfl (by kernel_rfl) (by kernel_rfl) (by kernel_rfl) (by kernel_rfl) (by kernel_rfl) (fun _ _ _ h => h) (Or.inl ⟨rfl, fun W hW => ?_⟩) hH ?_
      · refine QuietRun.of_run ?_; go_simp
      try simp only [Act.put, List.setIfInBounds_toArray, List.set_cons_zero, List.set_cons_succ]
      refine wpAnyT_take (i := 7) (oi := { dst := some 72, op := Op.load 25 (Operand.tmp 71), type := 25, pos := _, after := #[{ on := 6, ground := Ground.data }], guard := none }) (v := .slice ya LY yc) rfl (by kernel_rfl) (by kernel_rfl) (by kernel_rfl) (by kernel_rfl) (by kernel_rfl) (fun _ _ _ h => h) (Or.inl ⟨rfl, fun W hW => ?_⟩) hH ?_
      · refine QuietRun.of_run ?_; obtain ⟨z0, z1, z2⟩ := hW; go_simp
      try simp only [Act.put, List.setIfInBounds_toArray, List.set_cons_zero, List.set_cons_succ]
      refine wpAnyT_take (i := 8) (oi := { dst := some 73, op := Op.call { callee := Callee.builtin Builtin.len, args := #[Operand.tmp 72], argTypes := #[25] }, type := 3, pos := _, after := #[{ on := 7, ground := Ground.data }], guard := none }) (v := .int .i64 (LY : Int)) rfl (by kernel_rfl) (by kernel_rfl) (by kernel_rfl) (by kernel_rfl) (by kernel_rfl) (fun _ _ _ h => h) (Or.inl ⟨rfl, fun W hW => ?_⟩) hH ?_
      · refine QuietRun.of_run ?_; go_simp
      try simp only [Act.put, List.setIfInBounds_toArray, List.set_cons_zero, List.set_cons_succ]
      refine wpAnyT_take (i := 9) (oi := { dst := some 74, op := Op.call { callee := Callee.value (Operand.func 9), args := #[Operand.tmp 70, Operand.tmp 73], argTypes := #[3, 3] }, type := 3, pos := _, after := #[{ on := 5, ground := Ground.data }, { on := 8, ground := Ground.data }], guard := none }) (v := .int .i64 (k1 : Int)) rfl (by kernel_rfl) (by kernel_rfl) (by kernel_rfl) (by kernel_rfl) (by kernel_rfl) (fun _ _ _ h => h) (Or.inl ⟨rfl, fun W hW => ?_⟩) hH ?_
      · refine QuietRun.of_call (f := 9) (args := #[.int .i64 x.a, .int .i64 (LY : Int)]) ?_ ?_
        · go_simp
        · exact HK1.out W
      try simp only [Act.put, List.setIfInBounds_toArray, List.set_cons_zero, List.set_cons_succ]
      refine wpAnyT_take (i := 10) (oi := { dst := some 75, op := Op.move (Operand.tmp 1), type := 22, pos := _, after := #[], guard := none }) (v := .slice (some ⟨b, off, none⟩) M cap0) rfl (by kernel_rfl) (by kernel_rfl) (by kernel_rfl) (by kernel_rfl) (by kernel_rfl) (fun _ _ _ h => h) (Or.inl ⟨rfl, fun W hW => ?_⟩) hH ?_
      · refine QuietRun.of_run ?_; go_simp
      try simp only [Act.put, List.setIfInBounds_toArray, List.set_cons_zero, List.set_cons_succ]
      refine wpAnyT_take (i := 11) (oi := { dst := some 76, op := Op.move (Operand.tmp 12), type := 3, pos := _, after := #[], guard := none }) (v := .int .i64 (j : Int)) rfl (by kernel_rfl) (by kernel_rfl) (by kernel_rfl) (by kernel_rfl) (by kernel_rfl) (fun _ _ _ h => h) (Or.inl ⟨rfl, fun W hW => ?_⟩) hH ?_
      · refine QuietRun.of_run ?_; go_simp
      try simp only [Act.put, List.setIfInBounds_toArray, List.set_cons_zero, List.set_cons_succ]
      refine wpAnyT_take (i := 12) (oi := { dst := some 77, op := Op.indexAddr 22 (Operand.tmp 75) (Operand.tmp 76), type := 0, pos := _, after := #[{ on := 10, ground := Ground.data }, { on := 11, ground := Ground.data }], guard := none }) (v := .pointer (some ⟨b, off + j * 5, none⟩)) rfl (by kernel_rfl) (by kernel_rfl) (by kernel_rfl) (by kernel_rfl) (by kernel_rfl) (fun _ _ _ h => h) (Or.inl ⟨rfl, fun W hW => ?_⟩) hH ?_
      · refine QuietRun.of_run ?_; go_simp
      try simp only [Act.put, List.setIfInBounds_toArray, List.set_cons_zero, List.set_cons_succ]
      refine wpAnyT_take (i := 13) (oi := { dst := some 78, op := Op.fieldAddr 32 (Operand.tmp 77) 3, type := 0, pos := _, after := #[{ on := 12, ground := Ground.data }], guard := none }) (v := .pointer (some ⟨b, off + j * 5 + 3, none⟩)) rfl (by kernel_rfl) (by kernel_rfl) (by kernel_rfl) (by kernel_rfl) (by kernel_rfl) (fun _ _ _ h => h) (Or.inl ⟨rfl, fun W hW => ?_⟩) hH ?_
      · refine QuietRun.of_run ?_; go_simp
      try simp only [Act.put, List.setIfInBounds_toArray, List.set_cons_zero, List.set_cons_succ]
      refine wpAnyT_take (i := 14) (oi := { dst := some 79, op := Op.load 3 (Operand.tmp 78), type := 3, pos := _, after := #[{ on := 13, ground := Ground.data }], guard := none }) (v := .int .i64 x.c) rfl (by kernel_rfl) (by kernel_rfl) (by kernel_rfl) (by kernel_rfl) (by kernel_rfl) (fun _ _ _ h => h) (Or.inl ⟨rfl, fun W hW => ?_⟩) hH ?_
      · refine QuietRun.of_run ?_; obtain ⟨z0, z1, z2⟩ := hW; go_simp
      try simp only [Act.put, List.setIfInBounds_toArray, List.set_cons_zero, List.set_cons_succ]
      refine wpAnyT_take (i := 15) (oi := { dst := some 80, op := Op.move (Operand.tmp 0), type := 3, pos := _, after := #[], guard := none }) (v := .int .i64 (n : Int)) rfl (by kernel_rfl) (by kernel_rfl) (by kernel_rfl) (by kernel_rfl) (by kernel_rfl) (fun _ _ _ h => h) (Or.inl ⟨rfl, fun W hW => ?_⟩) hH ?_
      · refine QuietRun.of_run ?_; go_simp
      try simp only [Act.put, List.setIfInBounds_toArray, List.set_cons_zero, List.set_cons_succ]
      refine wpAnyT_take (i := 16) (oi := { dst := some 81, op := Op.call { callee := Callee.value (Operand.func 9), args := #[Operand.tmp 79, Operand.tmp 80], argTypes := #[3, 3] }, type := 3, pos := _, after := #[{ on := 14, ground := Ground.data }, { on := 15, ground := Ground.data }, { on := 9, ground := Ground.chain }], guard := none }) (v := .int .i64 (k2 : Int)) rfl (by kernel_rfl) (by kernel_rfl) (by kernel_rfl) (by kernel_rfl) (by kernel_rfl) (fun _ _ _ h => h) (Or.inl ⟨rfl, fun W hW => ?_⟩) hH ?_
      · refine QuietRun.of_call (f := 9) (args := #[.int .i64 x.c, .int .i64 (n : Int)]) ?_ ?_
        · go_simp
        · exact HK2.out W
      try simp only [Act.put, List.setIfInBounds_toArray, List.set_cons_zero, List.set_cons_succ]
      refine wpAnyT_take (i := 17) (oi := { dst := some 82, op := Op.move (Operand.tmp 1), type := 22, pos := _, after := #[], guard := none }) (v := .slice (some ⟨b, off, none⟩) M cap0) rfl (by kernel_rfl) (by kernel_rfl) (by kernel_rfl) (by kernel_rfl) (by kernel_rfl) (fun _ _ _ h => h) (Or.inl ⟨rfl, fun W hW => ?_⟩) hH ?_
      · refine QuietRun.of_run ?_; go_simp
      try simp only [Act.put, List.setIfInBounds_toArray, List.set_cons_zero, List.set_cons_succ]
      refine wpAnyT_take (i := 18) (oi := { dst := some 83, op := Op.move (Operand.tmp 12), type := 3, pos := _, after := #[], guard := none }) (v := .int .i64 (j : Int)) rfl (by kernel_rfl) (by kernel_rfl) (by kernel_rfl) (by kernel_rfl) (by kernel_rfl) (fun _ _ _ h => h) (Or.inl ⟨rfl, fun W hW => ?_⟩) hH ?_
      · refine QuietRun.of_run ?_; go_simp
      try simp only [Act.put, List.setIfInBounds_toArray, List.set_cons_zero, List.set_cons_succ]
      refine wpAnyT_take (i := 19) (oi := { dst := some 84, op := Op.indexAddr 22 (Operand.tmp 82) (Operand.tmp 83), type := 0, pos := _, after := #[{ on := 17, ground := Ground.data }, { on := 18, ground := Ground.data }], guard := none }) (v := .pointer (some ⟨b, off + j * 5, none⟩)) rfl (by kernel_rfl) (by kernel_rfl) (by kernel_rfl) (by kernel_rfl) (by kernel_rfl) (fun _ _ _ h => h) (Or.inl ⟨rfl, fun W hW => ?_⟩) hH ?_
      · refine QuietRun.of_run ?_; go_simp
      try simp only [Act.put, List.setIfInBounds_toArray, List.set_cons_zero, List.set_cons_succ]
      refine wpAnyT_take (i := 20) (oi := { dst := some 85, op := Op.fieldAddr 32 (Operand.tmp 84) 3, type := 0, pos := _, after := #[{ on := 19, ground := Ground.data }], guard := none }) (v := .pointer (some ⟨b, off + j * 5 + 3, none⟩)) rfl (by kernel_rfl) (by kernel_rfl) (by kernel_rfl) (by kernel_rfl) (by kernel_rfl) (fun _ _ _ h => h) (Or.inl ⟨rfl, fun W hW => ?_⟩) hH ?_
      · refine QuietRun.of_run ?_; go_simp
      try simp only [Act.put, List.setIfInBounds_toArray, List.set_cons_zero, List.set_cons_succ]
      refine wpAnyT_take (i := 21) (oi := { dst := some 86, op := Op.load 3 (Operand.tmp 85), type := 3, pos := _, after := #[{ on := 20, ground := Ground.data }], guard := none }) (v := .int .i64 x.c) rfl (by kernel_rfl) (by kernel_rfl) (by kernel_rfl) (by kernel_rfl) (by kernel_rfl) (fun _ _ _ h => h) (Or.inl ⟨rfl, fun W hW => ?_⟩) hH ?_
      · refine QuietRun.of_run ?_; obtain ⟨z0, z1, z2⟩ := hW; go_simp
      try simp only [Act.put, List.setIfInBounds_toArray, List.set_cons_zero, List.set_cons_succ]
      refine wpAnyT_take (i := 22) (oi := { dst := some 87, op := Op.move (Operand.tmp 0), type := 3, pos := _, after := #[], guard := none }) (v := .int .i64 (n : Int)) rfl (by kernel_rfl) (by kernel_rfl) (by kernel_rfl) (by kernel_rfl) (by kernel_rfl) (fun _ _ _ h => h) (Or.inl ⟨rfl, fun W hW => ?_⟩) hH ?_
      · refine QuietRun.of_run ?_; go_simp
      try simp only [Act.put, List.setIfInBounds_toArray, List.set_cons_zero, List.set_cons_succ]
      refine wpAnyT_take (i := 23) (oi := { dst := some 88, op := Op.call { callee := Callee.value (Operand.func 9), args := #[Operand.tmp 86, Operand.tmp 87], argTypes := #[3, 3] }, type := 3, pos := _, after := #[{ on := 21, ground := Ground.data }, { on := 22, ground := Ground.data }, { on := 16, ground := Ground.chain }], guard := none }) (v := .int .i64 (k2 : Int)) rfl (by kernel_rfl) (by kernel_rfl) (by kernel_rfl) (by kernel_rfl) (by kernel_rfl) (fun _ _ _ h => h) (Or.inl ⟨rfl, fun W hW => ?_⟩) hH ?_
      · refine QuietRun.of_call (f := 9) (args := #[.int .i64 x.c, .int .i64 (n : Int)]) ?_ ?_
        · go_simp
        · exact HK2.out W
      try simp only [Act.put, List.setIfInBounds_toArray, List.set_cons_zero, List.set_cons_succ]
      refine wpAnyT_ready (rs := [24]) (by kernel_rfl) (by simp) ?_
      refine AllReadyT.cons (o := { dst := some 89, op := Op.call { callee := Callee.value (Operand.func 14), args := #[Operand.tmp 65, Operand.tmp 74, Operand.const (Value.int IntKind.i64 7), Operand.tmp 81, Operand.tmp 88], argTypes := #[27, 3, 3, 3, 3] }, type := 35, pos := _, after := #[{ on := 0, ground := Ground.data }, { on := 9, ground := Ground.data }, { on := 16, ground := Ground.data }, { on := 23, ground := Ground.data }, { on := 23, ground := Ground.chain }], guard := none }) rfl (fun K hK => ?_) (AllReadyT.nil)
      go_simp
      refine HAd.out.mono ?_
      rintro e w7 ⟨u7, rfl, hn7, -, hb7⟩
      obtain ⟨ua, uc, rfl⟩ := hn7.shape
      have hbw := below_from (Below.refl _ wr).drew hb7
      have V8 := HV8.out.below hbw
      have V5 := HV5.out.below hbw
      have V7 := HV7.out.below hbw
      have V10 := HV10.out.below hbw
      have c8' := V8.cell
      have hf8 := V8.free
      have x1' := at_below hbw x1
      have x3' := at_below hbw x3
      have HB7 := below_from HBe.out hbw
      clear hbw hb7
      try go_wp2_with fail
      refine hK.out _ _ (fun _ => ⟨c8', x1', x3'⟩) (fun hH2 => ?_)
      clear hK K
      replace hH := hH2 (by kernel_rfl)
      clear hH2
      try simp only [Act.put, List.setIfInBounds_toArray, List.set_cons_zero, List.set_cons_succ]
      refine wpAnyT_take (i := 25) (oi := { dst := some 64, op := Op.move (Operand.tmp 89), type := 35, pos := _, after := #[{ on := 24, ground := Ground.data }], guard := none }) (v := .tuple #[.agg #[.slice ua R.1.length uc], .int .i64 R.2]) rfl (by kernel_rfl) (by kernel_rfl) (by kernel_rfl) (by kernel_rfl) (by kernel_rfl) (fun _ _ _ h => h) (Or.inl ⟨rfl, fun W hW => ?_⟩) hH ?_
      · refine QuietRun.of_run ?_; go_simp
      try simp only [Act.put, List.setIfInBounds_toArray, List.set_cons_zero, List.set_cons_succ]
      refine wpAnyT_take (i := 26) (oi := { dst := some 90, op := Op.extract (Operand.tmp 64) 0, type := 27, pos := _, after := #[{ on := 25, ground := Ground.data }], guard := none }) (v := .agg #[.slice ua R.1.length uc]) rfl (by kernel_rfl) (by kernel_rfl) (by kernel_rfl) (by kernel_rfl) (by kernel_rfl) (fun _ _ _ h => h) (Or.inl ⟨rfl, fun W hW => ?_⟩) hH ?_
      · refine QuietRun.of_run ?_; go_simp
      try simp only [Act.put, List.setIfInBounds_toArray, List.set_cons_zero, List.set_cons_succ]
      refine wpAnyT_take0 (i := 27) (oi := { dst := some 91, op := Op.extract (Operand.tmp 64) 1, type := 3, pos := _, after := #[{ on := 25, ground := Ground.data }, { on := 28, ground := Ground.gcOnly Departure.lateStores }], guard := none }) (v := .int .i64 R.2) rfl (by kernel_rfl) (by kernel_rfl) (by kernel_rfl) (by kernel_rfl) (fun _ _ _ h => h) (Or.inl ⟨rfl, fun W hW => ?_⟩) (fun _ => hH) ?_
      · refine QuietRun.of_run ?_; go_simp
      try simp only [Act.put, List.setIfInBounds_toArray, List.set_cons_zero, List.set_cons_succ]
      refine wpAnyT_ready (rs := [28]) (by kernel_rfl) (by simp) ?_
      refine AllReadyT.cons (o := { dst := none, op := Op.store 27 (Operand.tmp 8) (Operand.tmp 90), type := 0, pos := _, after := #[{ on := 26, ground := Ground.data }, { on := 24, ground := Ground.chain }, { on := 0, ground := Ground.phase }, { on := 1, ground := Ground.phase }, { on := 2, ground := Ground.phase }, { on := 3, ground := Ground.phase }, { on := 4, ground := Ground.phase }, { on := 5, ground := Ground.phase }, { on := 6, ground := Ground.phase }, { on := 7, ground := Ground.phase }, { on := 8, ground := Ground.phase }, { on := 9, ground := Ground.phase }, { on := 10, ground := Ground.phase }, { on := 11, ground := Ground.phase }, { on := 12, ground := Ground.phase }, { on := 13, ground := Ground.phase }, { on := 14, ground := Ground.phase }, { on := 15, ground := Ground.phase }, { on := 16, ground := Ground.phase }, { on := 17, ground := Ground.phase }, { on := 18, ground := Ground.phase }, { on := 19, ground := Ground.phase }, { on := 20, ground := Ground.phase }, { on := 21, ground := Ground.phase }, { on := 22, ground := Ground.phase }, { on := 23, ground := Ground.phase }, { on := 24, ground := Ground.phase }, { on := 25, ground := Ground.phase }, { on := 26, ground := Ground.phase }, { on := 27, ground := Ground.textOnly Departure.lateStores }], guard := none }) rfl (fun K hK => ?_) (AllReadyT.nil)
      go_simp
      refine hK.out _ _ (fun h => absurd (h.symm.trans (show _ = true from by kernel_rfl)) (by decide)) (fun _ => ?_)
      clear hK K
      try simp only [Act.put, List.setIfInBounds_toArray, List.set_cons_zero, List.set_cons_succ]
      refine wpAnyT_done (by kernel_rfl) ?_ _
      -- END R13
      have HV8n := Lib.hid (V8.set hn7)
      have HV5n := Lib.hid (V5.other V8 n58 (.slice ua R.1.length uc))
      have HV7n := Lib.hid (V7.other V8 n78 (.slice ua R.1.length uc))
      have HV10n := Lib.hid (V10.other V8 n810 (.slice ua R.1.length uc))
      have HBn := Lib.hid (HB7.setCell (p := ⟨B8, 0, none⟩) hw8l (.slice ua R.1.length uc))
      clear V8 V5 V7 V10 hn7 HB7 c8' hf8 x1' x3'
      go_wp2_with fail
      go_roundw
      case rel =>
        first
          | exact ⟨j + 1, _, R.1, by go_num, by omega, by omega, by omega, HWR, HV8n, HV5n, HV7n, HV10n, HBn⟩
          | ((repeat apply Exists.intro); exact ⟨⟨j + 1, _, R.1, by go_num, by omega, by omega, by omega, HWR, HV8n, HV5n, HV7n, HV10n, HBn⟩, rfl⟩)
      case measure => simp [intOf]; omega
    · have hSm := aSame _ _ (ta n) (ta n) wr HV5.out.nd HV7.out.nd (by show 2 ≤ 200; decide) (by show 2 ≤ 200; decide) (fun x hx => by have := HTa.out.few x hx; have e : (ta (n : Int)).length = 2 := rfl; omega) (fun x hx => by have := HTa.out.few x hx; have e : (ta (n : Int)).length = 2 := rfl; omega)
      rw [same_refl] at hSm
      have HSm := Lib.hid hSm
      have c5 := HV5.out.cell
      have c7 := HV7.out.cell
      have hex : (¬ ((j : Int) < (M : Int)) ∧ decide ((j : Int) < (M : Int)) = false ∧ decide (j < M) = false) ∨ ((j : Int) < (M : Int) ∧ ¬ ((j : Int) < 10) ∧ decide (j < M) = true ∧ decide ((j : Int) < 10) = false ∧ decide (j < 10) = false) := by
        by_cases h1 : j < M
        · exact .inr ⟨by omega, by omega, decide_eq_true h1, decide_eq_false (by omega), decide_eq_false (by omega)⟩
        · exact .inl ⟨by omega, decide_eq_false (by omega), decide_eq_false h1⟩
      clear hSm hgo
      rcases hex with ⟨e1, e2, e3⟩ | ⟨e1, e2, e3, e4, e5⟩
      all_goals
        go_wp2_with fail
        refine HSm.out.mono ?_
        rintro e w7 ⟨rfl, hb7⟩
        have V10 := HV10.out.below hb7
        have c10 := V10.cell
        obtain ⟨b9, off9, _, _, he, y0, -, y2, -⟩ := V10.nd.at_ (a := a9) (cap := c9) 2 ⟨5, 1, 3, 1, [], false⟩ rfl
        subst he
        have HD := Lib.hid (HQ.out w7 (below_from HBe.out hb7))
        clear hb7 V10
        go_wp2_with fail
        exact HD.out
end Go.Proofs.Ythkieidcjakhgaa
