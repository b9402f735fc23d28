/- The walk of correctorlaw8.BlockLiteral: of |- lines stand as they are, without their indent. -/
import Derived.Test.YtogiaaiphbamnaaAid8
namespace Go.Proofs.Ytogiaaiphbamnaa
open Go.RowKit
open Go.Proofs.Ytogiaaiphbamnaa.Sq
open Go.Proofs.Ytogiaaiphbamnaa.Bk
set_option linter.unusedVariables false

theorem joinL_snoc (l : List (List UInt8)) (c : List UInt8) : joinL (l ++ [c]) = if l = [] then c else joinL l ++ 10 :: c := by
  induction l with
  | nil => rfl
  | cons x r ih =>
    rw [if_neg (by simp)]
    cases r with
    | nil => rfl
    | cons y r =>
      rw [List.cons_append, List.cons_append, joinL, ← List.cons_append, ih, if_neg (by simp), joinL]
      simp
/-- Words, one to a line. -/
def wantB (l : List ByteArray) : ByteArray := ⟨(joinL (l.map tol)).toArray⟩
theorem want_zero (l : List ByteArray) : wantB (l.take 0) = ⟨#[]⟩ := rfl
theorem want_next (l : List ByteArray) (k : Nat) (x : ByteArray) (h : l[k]? = some x) : wantB (l.take (k + 1)) = (if k = 0 then wantB (l.take k) else wantB (l.take k) ++ ⟨#[10]⟩) ++ x := by
  have hk := (List.getElem?_eq_some_iff.1 h).1
  refine ba_ext ?_
  rw [tol_app]
  unfold wantB
  rw [tol_mk, List.take_add_one, h, List.map_append]
  show joinL ((l.take k).map tol ++ [tol x]) = _
  rw [joinL_snoc]
  by_cases h0 : k = 0
  · subst h0; rfl
  · rw [if_neg h0, if_neg (by intro e; have := congrArg List.length e; rw [List.length_map, List.length_take] at this; simp only [List.length_nil] at this; omega), tol_app, tol_mk, List.append_assoc]
    rfl
theorem want_size (l : List ByteArray) (h : ∀ x ∈ l, x.size ≤ 30) : (wantB l).size ≤ 31 * l.length := by
  rw [size_tol]
  unfold wantB
  rw [tol_mk]
  have h1 := joinL_len (l.map tol)
  rw [sum_tol, List.length_map] at h1
  have h2 : rest l 0 ≤ 30 * l.length := by
    unfold rest
    rw [List.drop_zero]
    clear h1
    induction l with
    | nil => simp
    | cons x r ih =>
      simp only [List.map_cons, List.sum_cons, List.length_cons]
      have h1 := h x (by simp)
      have h2 := ih (fun y hy => h y (by simp [hy]))
      omega
  omega
def lineB (n : Nat) (x : ByteArray) : ByteArray := sp n ++ x ++ ⟨#[10]⟩
theorem tol_line (n : Nat) (x : ByteArray) : tol (lineB n x) = lineW n (tol x) := by
  unfold lineB lineW
  rw [tol_app, tol_app, tol_sp, List.append_assoc]
  rfl
/-- Words of letters, none long. -/
def Words (l : List ByteArray) : Prop := ∀ x ∈ l, Word (tol x) ∧ x.size ≤ 30
theorem Words.snoc {l : List ByteArray} {k : Nat} {x : ByteArray} (h : Words (l.take k)) (hx : l[k]? = some x) (h1 : Word (tol x)) (h2 : x.size ≤ 30) : Words (l.take (k + 1)) := by
  rw [List.take_add_one, hx]
  intro y hy
  rcases List.mem_append.1 hy with hy | hy
  · exact h y hy
  · obtain rfl : y = x := by simpa using hy
    exact ⟨h1, h2⟩
theorem rest_lines (n : Nat) (l : List ByteArray) (h : Words l) : rest (l.map (lineB n)) 0 ≤ (n + 31) * l.length := by
  unfold rest
  rw [List.drop_zero]
  induction l with
  | nil => simp
  | cons x r ih =>
    simp only [List.map_cons, List.sum_cons, List.length_cons]
    have h1 := (h x (by simp)).2
    have h2 := ih (fun y hy => h y (by simp [hy]))
    have h3 : (lineB n x).size = n + x.size + 1 := by unfold lineB; rw [size_ap, size_ap, sp_size]; rfl
    rw [h3, Nat.mul_add]
    omega
theorem map_line (n : Nat) (l : List ByteArray) : (l.map (lineB n)).map tol = (l.map tol).map (lineW n) := by
  rw [List.map_map, List.map_map]
  exact List.map_congr_left fun x _ => tol_line n x
theorem word_of (x : ByteArray) (h0 : 0 < x.size) (h : letA x = true) : Word (tol x) := ⟨fun e => by rw [size_tol, e] at h0; exact absurd h0 (by decide), let_word x h⟩
theorem said_words (hd : ByteArray) (n : Nat) (l : List ByteArray) (h : Words l) (h0 : l ≠ []) (r : List ByteArray) (hr : ∀ y ∈ r, emptyL (ownL (tol y)) = true) (hf : isF hd = false) (e : ByteArray)
    (he : tol e = if (tol hd).contains 45 = true then [] else if (tol hd).contains 43 = true then feeds (r.length + 1) else [10]) :
    said hd (l.map (lineB n) ++ r) = wantB l ++ e := by
  refine ba_ext ?_
  unfold said wantB
  rw [tol_mk, tol_app, tol_mk (joinL (l.map tol)), hf, List.map_append, map_line, text_words n (l.map tol) (fun w hw => by
    obtain ⟨x, hx, rfl⟩ := List.mem_map.1 hw
    exact (h x hx).1) (by simpa using h0) (r.map tol) (fun y hy => by
    obtain ⟨x, hx, rfl⟩ := List.mem_map.1 hy
    exact hr x hx), he, List.length_map]
set_option maxHeartbeats 4000000 in
set_option maxRecDepth 100000 in
theorem walk_BlockLiteral (v : Value) (l : List ByteArray) (a : Int) (w : World) (h : Reads encS w v l) (hz : ∀ s ∈ l, s.size ≤ maxLen) (_ : (Lit.int .i64 a).wf = true) :
    Calls Try.prog 3 #[v, .int .i64 a] w fun e w' => e = .returned (.bool true) ∧ Below w.heap.size w w' := by
  have hlm := h.size_le
  unfold maxLen at hlm
  obtain ⟨a0, cap, rfl⟩ := h.shape
  have H := Lib.hid h
  have HZ := Lib.hid hz
  clear h hz
  by_cases h0 : l.length = 0
  · have g0 : ((l.length : Int) == 0) = true := by rw [h0]; rfl
    clear h0
    go_enter Try.func3, Try.ntmps3
    go_wp2_with fail
    refine (known_true w).mono ?_
    rintro e w1 ⟨rfl, hb⟩
    go_wp2_with fail
    go_ret
    exact ⟨rfl, hb⟩
  have g0 : ((l.length : Int) == 0) = false := beq_eq_false_iff_ne.2 (by omega)
  by_cases h12 : 12 < l.length
  · have g1 : (12 : Int) < (l.length : Int) := by omega
    clear h0 h12
    go_enter Try.func3, Try.ntmps3
    go_wp2_with fail
    refine (known_true w).mono ?_
    rintro e w1 ⟨rfl, hb⟩
    go_wp2_with fail
    go_ret
    exact ⟨rfl, hb⟩
  have g1 : ¬ (12 : Int) < (l.length : Int) := by omega
  have hl0 : l ≠ [] := fun e => h0 (by rw [e]; rfl)
  obtain ⟨c, hc, -, hwc⟩ := within_lit a 9 9 rfl (by decide) (by decide)
  have HC := Lib.hid hwc
  have HL0 := Lib.hid hl0
  clear hwc h0 hl0
  go_enter Try.func3, Try.ntmps3
  go_wp2_with fail
  refine (known_true w).mono ?_
  rintro e w1 ⟨rfl, hb⟩
  have H1 := Lib.hid (H.out.below hb)
  clear H
  go_wp2_with fail
  clear g0 g1
  go_loopw [5, 6, 7] (fun ov sv kv wr => ∃ (k : Nat), kv = .int .i64 k ∧ sv = .string (wantB (l.take k)) ∧ k ≤ l.length ∧ Hid (Words (l.take k)) ∧ Hid (Strw wr w1.heap.size ov ((l.take k).map (lineB c))) ∧ Below w1.heap.size w1 wr) (fun _ _ kv _ => l.length - (intOf kv).toNat)
  case atStart => exact ⟨0, rfl, by rw [want_zero], Nat.zero_le _, Lib.hid (fun x hx => by cases hx), Lib.hid (Strw.nil w1 _), Below.refl _ w1⟩
  case round =>
    obtain ⟨k, rfl, rfl, hk, HWd, HO, hbw⟩ := hrel
    by_cases hlt : k < l.length
    · have hi : (k : Int) < (l.length : Int) := by omega
      have hx := List.getElem?_eq_getElem hlt
      obtain ⟨x, hxx⟩ : ∃ x, l[k] = x := ⟨_, rfl⟩
      rw [hxx] at hx
      obtain ⟨b, off, rfl, hc1⟩ := strs_at H1.out k x hx
      have hcell := at_below hbw hc1
      have HC1 := Lib.hid hc1
      clear hc1
      have hzx := HZ.out x (List.mem_of_getElem? hx)
      by_cases hx0 : x.size = 0
      · obtain rfl := ba_zero x hx0
        clear hx hxx hx0 hzx
        go_wp2_with fail
        go_ret
        exact ⟨rfl, hb.trans (hbw.mono hb.size)⟩
      have he := str_some x (by omega)
      by_cases hx30 : 30 < x.size
      · have g30 : (30 : Int) < (x.size : Int) := by omega
        clear hx hxx hx0 hzx hx30
        go_wp2_with fail
        go_ret
        exact ⟨rfl, hb.trans (hbw.mono hb.size)⟩
      have g30 : ¬ (30 : Int) < (x.size : Int) := by omega
      have HLt := Lib.hid (letters_any x wr hzx)
      cases hlx : letA x with
      | false =>
        rw [hlx] at HLt
        clear hx hxx hx0 hzx hx30 hlx
        go_wp2_with fail
        refine HLt.out.mono ?_
        rintro e w2 ⟨rfl, rfl⟩
        go_wp2_with fail
        go_ret
        exact ⟨rfl, hb.trans (hbw.mono hb.size)⟩
      | true =>
        rw [hlx] at HLt
        have hwx := word_of x (by omega) hlx
        have HW2 := Lib.hid (HWd.out.snoc hx hwx (by omega))
        have hcut := cut_sp 10 c (by omega)
        rw [show sp 10 = ⟨#[32, 32, 32, 32, 32, 32, 32, 32, 32, 32]⟩ from rfl] at hcut
        have e10 : (⟨#[10]⟩ : ByteArray).size = 1 := rfl
        have hn1 : ¬ (9223372036854775807 < (sp c).size + x.size) := by rw [sp_size]; omega
        have hn2 : ¬ (9223372036854775807 < (sp c ++ x).size + (⟨#[10]⟩ : ByteArray).size) := by rw [size_ap, sp_size, e10]; omega
        have hn3 : ¬ (9223372036854775807 < (sp c).size + x.size + (⟨#[10]⟩ : ByteArray).size) := by rw [sp_size, e10]; omega
        have hn4 : ¬ (9223372036854775807 < (sp c).size + x.size + 1) := by rw [sp_size]; omega
        have hln : sp c ++ x ++ ⟨#[10]⟩ = lineB c x := rfl
        have HTk := Lib.hid (show (l.take k).map (lineB c) ++ [lineB c x] = (l.take (k + 1)).map (lineB c) by rw [List.take_add_one, hx, List.map_append]; rfl)
        have HLl := Lib.hid (show ((l.take k).map (lineB c)).length + [lineB c x].length ≤ 1000000 by rw [List.length_map, List.length_take]; show _ + 1 ≤ _; omega)
        have HWn := Lib.hid (want_next l k x hx)
        have hws := want_size (l.take k) (fun y hy => (HWd.out y hy).2)
        rw [List.length_take] at hws
        have hwz : (wantB (l.take k)).size ≤ 1000 := by omega
        obtain ⟨X, hX⟩ : ∃ X, lineB c x = X := ⟨_, rfl⟩
        rw [hX] at HTk HLl hln
        generalize sp c = C at *
        have HRd := Lib.hid (reads_laid wr [X] (by show 1 ≤ 1000; decide) (cs := #[.string (C ++ x ++ ⟨#[10]⟩)]) (by rw [hln]; rfl) rfl)
        have HO2 := Lib.hid (HO.out.laid (.cells #[.string (C ++ x ++ ⟨#[10]⟩)] 9))
        have HB2 := Lib.hid (below_laid hbw.size (.cells #[.string (C ++ x ++ ⟨#[10]⟩)] 9))
        have HBw := Lib.hid hbw
        clear hx hxx hx0 hzx hx30 hlx hwx hws hbw hX hln
        go_wp2_with fail
        refine HLt.out.mono ?_
        rintro e w2 ⟨rfl, rfl⟩
        go_upto_region 12 with fail
        go_region_held3 (fun wx => wx.cell? ⟨b, off + k, none⟩ = some (.string x)) ((repeat (first | (with_reducible exact hcell) | (with_reducible exact q3) | (with_reducible refine at_drew ?_) | (with_reducible refine at_alloc ?_))))
          (((first | (go_at_call 10; go_must ((with_reducible refine (HC.out _).mono ?_); rintro e w2 ⟨rfl, rfl⟩)) | (refine step_strs rfl (.tmp 45) (.tmp 55) rfl [X] rfl HO2.out rfl HRd.out HLl.out (Nat.le_trans HBw.out.size HB2.out.size) ?_; intro v3 w3 hO3 hb3; have q3 := at_below (HBw.out.trans (HB2.out.trans hb3)) HC1.out))))
        rw [HTk.out] at hO3
        have HO4 := Lib.hid hO3
        have HB4 := Lib.hid (HBw.out.trans (HB2.out.trans hb3))
        clear hO3 hb3 HO2 HB2 HBw HRd HTk HLl HO HC1 hcell hcut hn1 hn2 hn3 hn4 HWd
        by_cases hk0 : k = 0
        · have hwn := HWn.out
          rw [if_pos hk0] at hwn
          have HWm := Lib.hid hwn
          have hkp : ¬ ((0 : Int) < (k : Int)) := by omega
          have hm1 : ¬ (9223372036854775807 < (wantB (l.take k)).size + x.size) := by omega
          generalize wantB (l.take k) = F at *
          clear hwn HWn hk0
          go_wp2_with fail
          go_roundw
          case rel => exact ⟨k + 1, by go_num, by rw [HWm.out], by omega, HW2, HO4, HB4.out⟩
          case measure => simp [intOf]; omega
        · have hwn := HWn.out
          rw [if_neg hk0] at hwn
          have HWm := Lib.hid hwn
          have hkp : (0 : Int) < (k : Int) := by omega
          have hm1 : ¬ (9223372036854775807 < (wantB (l.take k)).size + (⟨#[10]⟩ : ByteArray).size) := by rw [e10]; omega
          have hm2 : ¬ (9223372036854775807 < (wantB (l.take k) ++ ⟨#[10]⟩).size + x.size) := by rw [size_ap, e10]; omega
          have hm3 : ¬ (9223372036854775807 < (wantB (l.take k)).size + 1 + x.size) := by omega
          have hm4 : ¬ (9223372036854775807 < (wantB (l.take k)).size + (⟨#[10]⟩ : ByteArray).size + x.size) := by rw [e10]; omega
          generalize wantB (l.take k) = F at *
          clear hwn HWn hk0
          go_wp2_with fail
          go_roundw
          case rel => exact ⟨k + 1, by go_num, by rw [HWm.out], by omega, HW2, HO4, HB4.out⟩
          case measure => simp [intOf]; omega
    · obtain rfl : k = l.length := by omega
      have hne : ¬ ((l.length : Int) < (l.length : Int)) := by omega
      rw [List.take_length] at HWd HO ⊢
      have hrl := rest_lines c l HWd.out
      have hwz := want_size l (fun y hy => (HWd.out y hy).2)
      have hr0 : ∀ y ∈ ([] : List ByteArray), emptyL (ownL (tol y)) = true := fun y hy => by cases hy
      have hr2 : ∀ y ∈ [(⟨#[10]⟩ : ByteArray), ⟨#[32, 32, 10]⟩], emptyL (ownL (tol y)) = true := fun y hy => by
        rcases List.mem_cons.1 hy with rfl | hy
        · rfl
        · obtain rfl := List.mem_singleton.1 hy; rfl
      have e1 := said_words ⟨#[124, 45]⟩ c l HWd.out HL0.out [] hr0 rfl ⟨#[]⟩ (by decide)
      have e2 := said_words ⟨#[124]⟩ c l HWd.out HL0.out [] hr0 rfl ⟨#[10]⟩ (by decide)
      have e3 := said_words ⟨#[124, 43]⟩ c l HWd.out HL0.out [⟨#[10]⟩, ⟨#[32, 32, 10]⟩] hr2 rfl ⟨#[10, 10, 10]⟩ (by decide)
      rw [List.append_nil] at e1 e2
      rw [Sg.ba_nil_r] at e1
      have hll : (l.map (lineB c)).length = l.length := List.length_map _
      have hM1 : 2 * (l.map (lineB c)).length + rest (l.map (lineB c)) 0 ≤ 1000000 := by
        rw [hll]
        have : (c + 31) * l.length ≤ 39 * 12 := Nat.mul_le_mul (by omega) (by omega)
        omega
      have hM2 : 2 * (l.map (lineB c) ++ [(⟨#[10]⟩ : ByteArray), ⟨#[32, 32, 10]⟩]).length + rest (l.map (lineB c) ++ [(⟨#[10]⟩ : ByteArray), ⟨#[32, 32, 10]⟩]) 0 ≤ 1000000 := by
        have h1 : rest (l.map (lineB c) ++ [(⟨#[10]⟩ : ByteArray), ⟨#[32, 32, 10]⟩]) 0 = rest (l.map (lineB c)) 0 + 4 := by
          unfold rest
          rw [List.drop_zero, List.drop_zero, List.map_append, List.sum_append]
          rfl
        rw [h1, List.length_append, hll]
        have : (c + 31) * l.length ≤ 39 * 12 := Nat.mul_le_mul (by omega) (by omega)
        show 2 * (l.length + 2) + _ ≤ _
        omega
      have HLl := Lib.hid (show (l.map (lineB c)).length + 2 ≤ 1000000 by rw [hll]; omega)
      have HT1 := Lib.hid (fun (hd : ByteArray) (W : World) (hb : Below wr.heap.size wr W) => bText hd u5 (l.map (lineB c)) W (HO.out.reads.below hb) hM1)
      have HT2 := Lib.hid (fun (V : Value) (W : World) (hV : Reads encS W V (l.map (lineB c) ++ [(⟨#[10]⟩ : ByteArray), ⟨#[32, 32, 10]⟩])) => bText ⟨#[124, 43]⟩ V _ W hV hM2)
      rw [e3] at HT2
      have E1 := Lib.hid e1
      have E2 := Lib.hid e2
      have hc1 : ¬ (9223372036854775807 < (wantB l).size + (⟨#[10]⟩ : ByteArray).size) := by show ¬ (_ < _ + 1); omega
      have hc2 : ¬ (9223372036854775807 < (wantB l).size + (⟨#[10, 10, 10]⟩ : ByteArray).size) := by show ¬ (_ < _ + 3); omega
      generalize wantB l = F at *
      clear e1 e2 e3 hM1 hM2 hr0 hr2 hrl hll hwz HWd HC
      go_wp2_with fail
      refine (HT1.out _ _ (Below.refl _ _)).mono ?_
      rw [E1.out]
      rintro e w2 ⟨rfl, hb2⟩
      go_wp2_with fail
      refine (HT1.out _ _ hb2).mono ?_
      rw [E2.out]
      rintro e w3 ⟨rfl, hb3⟩
      have hb3' := hb2.trans (hb3.mono hb2.size)
      have HO3 := Lib.hid (HO.out.below hb3')
      have HB3 := Lib.hid (hbw.trans (hb3'.mono hbw.size))
      clear hb2 hb3 hb3'
      go_wp2_with (at_builtin; go_must (refine wpList_strs_newG rfl (.tmp 79) (.tmp 80) rfl [(⟨#[10]⟩ : ByteArray), ⟨#[32, 32, 10]⟩] rfl HO3.out rfl rfl rfl HLl.out HB3.out.size ?_; intro v4 w4 hO4 hb4))
      have HBx := Lib.hid (hb.trans ((HB3.out.trans hb4).mono hb.size))
      have HR4 := Lib.hid hO4.reads
      have HL4 := Lib.hid (Nat.le_trans (Nat.le_trans hb.size HB3.out.size) (Nat.le_refl _))
      clear hO4
      refine (HT2.out v4 w4 HR4.out).mono ?_
      rintro e w5 ⟨rfl, hb5⟩
      have hfin := HBx.out.trans (hb5.mono HBx.out.size)
      clear hb4
      go_wp2_with fail
      go_ret
      exact ⟨by simp, hfin⟩
end Go.Proofs.Ytogiaaiphbamnaa
