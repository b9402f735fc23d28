/- correctorlaw8.Lines: whatever the numbers, some lines, none long. -/
import Derived.Test.YtogiaaiphbamnaaAid8
import Derived.Test.YtogiaaiphbamnaaNumb
namespace Go.Proofs.Ytogiaaiphbamnaa
open Go.RowKit
open Go.Proofs.Ytogiaaiphbamnaa.Sq
open Go.Proofs.Ytogiaaiphbamnaa.Bk
set_option linter.unusedVariables false

abbrev nineV : List Value := [.string ⟨#[]⟩, .string ⟨#[]⟩, .string ⟨#[97]⟩, .string ⟨#[116, 119, 111, 32, 119, 111, 114, 100, 115]⟩, .string ⟨#[9]⟩, .string ⟨#[45, 32, 98]⟩, .string ⟨#[32, 120]⟩, .string ⟨#[195, 169]⟩, .string ⟨#[35, 32, 99]⟩]
abbrev fourV : List Value := [.string ⟨#[10]⟩, .string ⟨#[13, 10]⟩, .string ⟨#[10]⟩, .string ⟨#[13]⟩]
theorem nine_at (k : Nat) (hk : k < 9) : ∃ X : ByteArray, X.size ≤ 9 ∧ nineV[k]? = some (.string X) := by
  have : ∀ k : Fin 9, ∃ X : ByteArray, X.size ≤ 9 ∧ nineV[k.val]? = some (.string X) := by
    intro k
    match k with
    | 0 | 1 | 2 | 3 | 4 | 5 | 6 | 7 | 8 => exact ⟨_, by decide, rfl⟩
  exact this ⟨k, hk⟩
theorem four_at (k : Nat) (hk : k < 4) : ∃ X : ByteArray, X.size ≤ 2 ∧ fourV[k]? = some (.string X) := by
  have : ∀ k : Fin 4, ∃ X : ByteArray, X.size ≤ 2 ∧ fourV[k.val]? = some (.string X) := by
    intro k
    match k with
    | 0 | 1 | 2 | 3 => exact ⟨_, by decide, rfl⟩
  exact this ⟨k, hk⟩
theorem rest_one (x : ByteArray) : rest [x] 0 = x.size := by unfold rest; rw [List.drop_zero, List.map_cons, List.map_nil, List.sum_cons, List.sum_nil, Nat.add_zero]
theorem rest_app8 (a b : List ByteArray) : rest (a ++ b) 0 = rest a 0 + rest b 0 := by
  unfold rest
  rw [List.drop_zero, List.drop_zero, List.drop_zero, List.map_append, List.sum_append]
set_option maxHeartbeats 4000000 in
set_option maxRecDepth 100000 in
theorem bLines (v : Value) (ns : List Int) (w : World) (h : Nums .i64 w v ns) :
    Calls Try.prog 12 #[v] w fun e w' => ∃ v', e = .returned v' ∧ ∃ ls, Strw w' w.heap.size v' ls ∧ ls.length ≤ 20 ∧ rest ls 0 ≤ 400 ∧ Below w.heap.size w w' := by
  have hlm := h.len
  obtain ⟨a0, cap, rfl⟩ := h.shape
  have H := Lib.hid h
  clear h
  go_enter Try.func12, Try.ntmps12
  go_wp2_with fail
  go_loopw [3, 4] (fun ov kv wr => ∃ (k : Nat) (ls : List ByteArray), kv = .int .i64 k ∧ k ≤ ns.length ∧ k ≤ 20 ∧ Hid (Strw wr w.heap.size ov ls) ∧ ls.length = k ∧ Hid (rest ls 0 ≤ 20 * k) ∧ Below w.heap.size w wr) (fun _ kv _ => 20 - (intOf kv).toNat)
  case atStart => exact ⟨0, [], rfl, Nat.zero_le _, Nat.zero_le _, Lib.hid (Strw.nil w _), rfl, Lib.hid (Nat.zero_le _), Below.refl _ w⟩
  case round =>
    obtain ⟨k, ls, rfl, hk, hk20, HO, hls, HR, hbw⟩ := hrel
    by_cases hlt : k < ns.length
    · have hi : (k : Int) < (ns.length : Int) := by omega
      by_cases hlt2 : k < 20
      · have hi2 : (k : Int) < 20 := by omega
        obtain ⟨b, off, rfl, gl, gm, hc0⟩ := H.out.at_ hlt
        have hcell := at_below hbw hc0
        have HC0 := Lib.hid hc0
        obtain ⟨y, hy⟩ : ∃ y, ns.getD k 0 = y := ⟨_, rfl⟩
        rw [hy] at hcell HC0
        obtain ⟨c1, hc1, -, hw1⟩ := within_lit y 7 7 rfl (by decide) (by decide)
        obtain ⟨c2, hc2, -, hw2⟩ := within_lit (IntKind.i64.wrap (y.tdiv 7)) 9 9 rfl (by decide) (by decide)
        have HW1 := Lib.hid hw1
        have HW2 := Lib.hid hw2
        have hcut := cut_sp 10 c1 (by omega)
        rw [show sp 10 = ⟨#[32, 32, 32, 32, 32, 32, 32, 32, 32, 32]⟩ from rfl] at hcut
        obtain ⟨Y, hY9, hY⟩ := nine_at c2 hc2
        have hz1 : (sp c1).size ≤ 6 := by rw [sp_size]; omega
        have hn1 : ¬ (9223372036854775807 < (sp c1).size + Y.size) := by omega
        have hcx : (wr.alloc (.cells #[.string ⟨#[]⟩, .string ⟨#[]⟩, .string ⟨#[97]⟩, .string ⟨#[116, 119, 111, 32, 119, 111, 114, 100, 115]⟩, .string ⟨#[9]⟩, .string ⟨#[45, 32, 98]⟩, .string ⟨#[32, 120]⟩, .string ⟨#[195, 169]⟩, .string ⟨#[35, 32, 99]⟩] 9)).cell? ⟨wr.heap.size, c2, none⟩ = some (.string Y) := by
          rw [World.cell?_alloc_new]; show (nineV.toArray)[c2]? = _; rw [List.getElem?_toArray]; exact hY
        have hcy := at_alloc (o := .cells #[.string ⟨#[]⟩, .string ⟨#[]⟩, .string ⟨#[97]⟩, .string ⟨#[116, 119, 111, 32, 119, 111, 114, 100, 115]⟩, .string ⟨#[9]⟩, .string ⟨#[45, 32, 98]⟩, .string ⟨#[32, 120]⟩, .string ⟨#[195, 169]⟩, .string ⟨#[35, 32, 99]⟩] 9) hcell
        have i9 : (c2 : Int) < 9 := by omega
        have i90 : (0 : Int) ≤ (c2 : Int) := by omega
        have hbA := below_alloc wr (.cells #[.string ⟨#[]⟩, .string ⟨#[]⟩, .string ⟨#[97]⟩, .string ⟨#[116, 119, 111, 32, 119, 111, 114, 100, 115]⟩, .string ⟨#[9]⟩, .string ⟨#[45, 32, 98]⟩, .string ⟨#[32, 120]⟩, .string ⟨#[195, 169]⟩, .string ⟨#[35, 32, 99]⟩] 9)
        have HBA := Lib.hid hbA
        have hsX : ((sp c1) ++ Y).size ≤ 15 := by rw [size_ap]; omega
        obtain ⟨X, hX⟩ : ∃ X, sp c1 ++ Y = X := ⟨_, rfl⟩
        have HX := Lib.hid hX
        rw [hX] at hsX
        generalize sp c1 = C1 at *
        clear hc0 hw1 hw2 hY hX hbA hy
        go_upto_region 5 with fail
        go_cut [5] (fun sv wx => sv = .string X ∧ Below wr.heap.size wr wx)
        case first =>
          go_region_with (go_at_call 10; (first | (with_reducible refine (HW1.out _).mono ?_) | (with_reducible refine (HW2.out _).mono ?_)); rintro e w2 ⟨rfl, rfl⟩)
          all_goals
            go_wp2_with fail
            go_meet
            exact ⟨by rw [HX.out], by first | exact HBA.out | exact below_drewN HBA.out 1 | exact (below_drewN (Below.refl _ wr) 1).alloc (Nat.le_refl _) _ | exact below_drewN ((below_drewN (Below.refl _ wr) 1).alloc (Nat.le_refl _) _) 1⟩
        case rest =>
          obtain ⟨rfl, hbc⟩ := hcut
          have hb6 := hbw.trans (hbc.mono hbw.size)
          have hcell6 := at_below hb6 HC0.out
          have HO6 := Lib.hid (HO.out.below hbc)
          obtain ⟨c3, hc3, -, hw3⟩ := within_lit (wrap64 (y.tdiv 63)) 4 4 rfl (by decide) (by decide)
          have HW3 := Lib.hid hw3
          obtain ⟨Z, hZ2, hZ⟩ := four_at c3 hc3
          have i4 : (c3 : Int) < 4 := by omega
          have i40 : (0 : Int) ≤ (c3 : Int) := by omega
          have hn6 : ¬ (9223372036854775807 < X.size + Z.size) := by omega
          have HZ2 := Lib.hid (show (X ++ Z).size ≤ 17 by rw [size_ap]; omega)
          have HLl := Lib.hid (show ls.length + 1 ≤ 1000000 by omega)
          have hcx6 : (wc.alloc (.cells #[.string ⟨#[10]⟩, .string ⟨#[13, 10]⟩, .string ⟨#[10]⟩, .string ⟨#[13]⟩] 9)).cell? ⟨wc.heap.size, c3, none⟩ = some (.string Z) := by rw [World.cell?_alloc_new]; show (fourV.toArray)[c3]? = _; rw [List.getElem?_toArray]; exact hZ
          have hcy6 := at_alloc (o := (.cells #[.string ⟨#[10]⟩, .string ⟨#[13, 10]⟩, .string ⟨#[10]⟩, .string ⟨#[13]⟩] 9)) hcell6
          have hbA6 := below_alloc wc (.cells #[.string ⟨#[10]⟩, .string ⟨#[13, 10]⟩, .string ⟨#[10]⟩, .string ⟨#[13]⟩] 9)
          have HB7 := Lib.hid (hb6.trans (hbA6.mono hb6.size))
          have HO7 := Lib.hid (HO6.out.below hbA6)
          have HB6 := Lib.hid hb6
          obtain ⟨D, hD⟩ : ∃ D, X ++ Z = D := ⟨_, rfl⟩
          have HD := Lib.hid hD
          rw [hD] at HZ2
          clear hw3 hZ hbc hbw hcell hcx hcy hn1 hcut hb6 hD HO
          go_wp2_with fail
          refine (HW3.out _).mono ?_
          rintro e w2 ⟨rfl, rfl⟩
          go_wp2_with (at_builtin; go_must (rw [HD.out]; refine wpList_strs_new rfl (.tmp 32) (.tmp 44) rfl [D] rfl HO7.out rfl rfl (by rw [size_alloc]; rfl) HLl.out HB7.out.size ?_; intro v3 w3 hO3 hb3))
          go_roundw
          case rel => exact ⟨k + 1, ls ++ [D], by go_num, by omega, by omega, Lib.hid hO3, by rw [List.length_append, hls]; rfl, Lib.hid (by rw [rest_app8, rest_one]; have := HR.out; have := HZ2.out; omega), HB7.out.trans hb3⟩
          case measure => simp [intOf]; omega
      · obtain rfl : k = 20 := by omega
        have hi2 : ¬ ((20 : Int) < 20) := by omega
        have HR2 := Lib.hid HR.out
        go_wp2_with fail
        go_ret
        exact ⟨_, rfl, ls, HO.out, by omega, by have := HR.out; omega, hbw⟩
    · have hi : ¬ (k : Int) < (ns.length : Int) := by omega
      go_wp2_with fail
      go_ret
      exact ⟨_, rfl, ls, HO.out, by omega, by have := HR.out; omega, hbw⟩
end Go.Proofs.Ytogiaaiphbamnaa
