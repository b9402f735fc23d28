/- The walk of correctorlaw8.BlockEmpty: where all lines are empty only + leaves anything. -/
import Derived.Test.YtogiaaiphbamnaaAid8
namespace Go.Proofs.Ytogiaaiphbamnaa
open Go.RowKit
open Go.Proofs.Ytogiaaiphbamnaa.Sq
open Go.Proofs.Ytogiaaiphbamnaa.Bk
set_option linter.unusedVariables false

/-- Lines that are empty, so many; none is long. -/
def Blanks (l : List ByteArray) : Prop := ∀ x ∈ l, emptyL (ownL (tol x)) = true ∧ x.size ≤ 6
theorem Blanks.snoc {l : List ByteArray} (h : Blanks l) (k : Nat) (hk : k < 5) : Blanks (l ++ [sp k ++ ⟨#[10]⟩]) := fun x hx => by
  rcases List.mem_append.1 hx with hx | hx
  · exact h x hx
  · obtain rfl := List.mem_singleton.1 hx
    refine ⟨?_, by rw [size_ap, sp_size]; show k + 1 ≤ 6; omega⟩
    rw [tol_app, tol_sp]
    have := own_in k (tol ⟨#[10]⟩)
    rw [this, empty_in]
    rfl
theorem Blanks.said {l : List ByteArray} (h : Blanks l) (hd : ByteArray) : said hd l = if (tol hd).contains 43 = true then lf l.length else ⟨#[]⟩ := by
  rw [said_none hd l (core_none _ (fun o ho => by
    obtain ⟨t, ht, rfl⟩ := List.mem_map.1 ho
    obtain ⟨x, hx, rfl⟩ := List.mem_map.1 ht
    exact (h x hx).1))]
  rfl
theorem Blanks.rest {l : List ByteArray} (h : Blanks l) : rest l 0 ≤ 6 * l.length := by
  unfold Bk.rest
  rw [List.drop_zero]
  induction l with
  | nil => simp
  | cons x r ih =>
    simp only [List.map_cons, List.sum_cons, List.length_cons]
    have h1 := (h x (by simp)).2
    have h2 := ih (fun y hy => h y (by simp [hy]))
    omega
set_option maxHeartbeats 4000000 in
set_option maxRecDepth 100000 in
theorem walk_BlockEmpty (a b : Int) (w : World) (_ : (Lit.int .i64 a).wf = true) (_ : (Lit.int .i64 b).wf = true) :
    Calls Try.prog 5 #[.int .i64 a, .int .i64 b] w fun e w' => e = .returned (.bool true) ∧ Below w.heap.size w w' := by
  obtain ⟨n, hn, -, hwn⟩ := within_nat a 12 (by decide) (by decide)
  have HW := Lib.hid hwn
  clear hwn
  go_enter Try.func5, Try.ntmps5
  go_wp2_with fail
  refine (known_true w).mono ?_
  rintro e w1 ⟨rfl, hb⟩
  go_wp2_with fail
  refine (HW.out _).mono ?_
  rintro e w2 ⟨rfl, rfl⟩
  go_wp2_with fail
  go_loopw [5, 6, 7] (fun ov sv kv wr => ∃ (k : Nat) (l : List ByteArray), kv = .int .i64 k ∧ sv = .string (lf k) ∧ k ≤ n ∧ l.length = k ∧ Hid (Blanks l) ∧ Hid (Strw wr w1.heap.size ov l) ∧ Below w1.heap.size w1 wr) (fun _ _ kv _ => n - (intOf kv).toNat)
  case atStart => exact ⟨0, [], rfl, rfl, Nat.zero_le _, rfl, Lib.hid (fun x hx => by cases hx), Lib.hid (Strw.nil w1 _), Below.refl _ w1⟩
  case round =>
    obtain ⟨k, l, rfl, rfl, hk, hl, HBl, HO, hbw⟩ := hrel
    by_cases hlt : k < n
    · have hi : (k : Int) < (n : Int) := by omega
      obtain ⟨c, hc, -, hwc⟩ := within_nat (wrap64 (b + (k : Int))) 5 (by decide) (by decide)
      have HC := Lib.hid hwc
      have hcut := cut_sp 7 c (by omega)
      rw [show sp 7 = ⟨#[32, 32, 32, 32, 32, 32, 32]⟩ from rfl] at hcut
      have hcat : (sp c).size + (⟨#[10]⟩ : ByteArray).size ≤ 9223372036854775807 := by rw [sp_size]; show c + 1 ≤ _; omega
      have hcat2 : (lf k).size + (⟨#[10]⟩ : ByteArray).size ≤ 9223372036854775807 := by rw [lf_size]; show k + 1 ≤ _; omega
      have HB2 := Lib.hid (HBl.out.snoc c hc)
      have HL := Lib.hid (show l.length + 1 ≤ 1000000 by omega)
      have hlf : lf k ++ (⟨#[10]⟩ : ByteArray) = lf (k + 1) := by have := lf_next ⟨#[]⟩ k; rw [Sg.ba_nil, Sg.ba_nil] at this; exact this
      have HLf := Lib.hid hlf
      have HBw := Lib.hid hbw
      obtain ⟨x, hx⟩ : ∃ x, sp c ++ ⟨#[10]⟩ = x := ⟨_, rfl⟩
      have HX := Lib.hid hx
      rw [hx] at HB2
      generalize lf k = F at *
      generalize sp c = C at *
      clear hwc HBl hlf hx hbw
      go_wp2_with fail
      refine (HC.out _).mono ?_
      rintro e w2 ⟨rfl, rfl⟩
      go_wp2_with (at_builtin; go_must (rw [HX.out]; refine wpList_strs_new rfl (.tmp 17) (.tmp 24) rfl [x] rfl HO.out rfl rfl rfl HL.out HBw.out.size ?_; intro v3 w3 hO3 hb3))
      go_roundw
      case rel => exact ⟨k + 1, l ++ [x], by go_num, by rw [HLf.out], by omega, by rw [List.length_append, hl]; rfl, HB2, Lib.hid hO3, HBw.out.trans hb3⟩
      case measure => simp [intOf]; omega
    · obtain rfl : k = n := by omega
      have hne : ¬ ((k : Int) < (k : Int)) := by omega
      have hM : 2 * l.length + rest l 0 ≤ 1000000 := by have := HBl.out.rest; omega
      have HT := Lib.hid (fun (hd : ByteArray) (W : World) (hb : Below wr.heap.size wr W) => bText hd u5 l W (HO.out.reads.below hb) hM)
      have e1 := HBl.out.said ⟨#[124]⟩
      have e2 := HBl.out.said ⟨#[62, 45]⟩
      have e3 := HBl.out.said ⟨#[62, 43]⟩
      have e4 := HBl.out.said ⟨#[124, 43]⟩
      rw [if_neg (by decide)] at e1 e2
      rw [if_pos (by decide), hl] at e3 e4
      have E1 := Lib.hid e1
      have E2 := Lib.hid e2
      have E3 := Lib.hid e3
      have E4 := Lib.hid e4
      generalize lf k = F at *
      clear e1 e2 e3 e4 hM hl HBl HO
      go_wp2_with fail
      refine (HT.out _ _ (Below.refl _ _)).mono ?_
      rw [E1.out]
      rintro e w2 ⟨rfl, hb2⟩
      go_wp2_with fail
      refine (HT.out _ _ hb2).mono ?_
      rw [E2.out]
      rintro e w3 ⟨rfl, hb3⟩
      have hb3' := hb2.trans (hb3.mono hb2.size)
      clear hb2 hb3
      go_wp2_with fail
      refine (HT.out _ _ hb3').mono ?_
      rw [E3.out]
      rintro e w4 ⟨rfl, hb4⟩
      have hb4' := hb3'.trans (hb4.mono hb3'.size)
      clear hb3' hb4
      go_wp2_with fail
      refine (HT.out _ _ hb4').mono ?_
      rw [E4.out]
      rintro e w5 ⟨rfl, hb5⟩
      have hb5' := hb4'.trans (hb5.mono hb4'.size)
      have hbx := hbw.trans (hb5'.mono hbw.size)
      go_wp2_with fail
      go_ret
      exact ⟨by simp, hb.trans (hbx.mono hb.size)⟩
end Go.Proofs.Ytogiaaiphbamnaa
