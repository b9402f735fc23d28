/- The walk of correctorlaw8.BlockChomps: of the same lines three heads differ in their ends alone. -/
import Derived.Test.YtogiaaiphbamnaaB8Ln
namespace Go.Proofs.Ytogiaaiphbamnaa
open Go.RowKit
open Go.Proofs.Ytogiaaiphbamnaa.Sq
open Go.Proofs.Ytogiaaiphbamnaa.Bk
set_option linter.unusedVariables false

/-- Three heads. -/
theorem said_chomps (a b c : ByteArray) (ls : List ByteArray) (f : Bool) (ha : isF a = f) (hb : isF b = f) (hc : isF c = f)
    (a1 : (tol a).contains 45 = true) (a2 : (tol a).contains 43 = false) (b1 : (tol b).contains 45 = false) (b2 : (tol b).contains 43 = false) (c1 : (tol c).contains 45 = false) (c2 : (tol c).contains 43 = true) :
    (said a ls = ⟨#[]⟩ ∧ said b ls = ⟨#[]⟩ ∧ (said c ls).size = ls.length) ∨
    (said b ls = said a ls ++ ⟨#[10]⟩ ∧ ∃ r : ByteArray, said c ls = said b ls ++ r) := by
  have h := chomps f (ls.map tol)
  have ea : tol (said a ls) = text f true false (ls.map tol) := by unfold said; rw [tol_mk, ha, a1, a2]
  have eb : tol (said b ls) = text f false false (ls.map tol) := by unfold said; rw [tol_mk, hb, b1, b2]
  have ec : tol (said c ls) = text f false true (ls.map tol) := by unfold said; rw [tol_mk, hc, c1, c2]
  rcases h with ⟨h1, h2, h3⟩ | ⟨h1, r, h2⟩
  · left
    refine ⟨ba_ext (by rw [ea, h1]; rfl), ba_ext (by rw [eb, h2]; rfl), ?_⟩
    rw [size_tol, ec, h3, List.length_map]
  · right
    refine ⟨ba_ext (by rw [eb, h1, tol_app, ea]; rfl), ⟨r.toArray⟩, ba_ext (by rw [ec, h2, tol_app, eb, tol_mk])⟩
/-- What lines say is not much longer than they are. -/
theorem text_len (f m p : Bool) (ls : List (List UInt8)) : (text f m p ls).length ≤ 3 * ls.length + 1 + (ls.map List.length).sum := by
  unfold text
  split
  · split
    · simp only [feeds, List.length_replicate]; omega
    · simp
  · have h1 := core_le (ls.map ownL)
    rw [List.length_map] at h1
    have h2 : ((core (ls.map ownL)).map List.length).sum ≤ (ls.map List.length).sum := by
      rw [← core_take]
      exact Nat.le_trans (sum_take _ _) (sum_own ls)
    have h3 := sum_strip (ind (ls.map ownL)) (core (ls.map ownL))
    have h4 : (bodyL f (ind (ls.map ownL)) (core (ls.map ownL))).length ≤ 2 * (core (ls.map ownL)).length + (ls.map List.length).sum := by
      cases f with
      | true =>
        rw [body_fold]
        have := foldC_len ((core (ls.map ownL)).map (strip (ind (ls.map ownL)))) none 0
        rw [List.length_map] at this
        omega
      | false =>
        rw [body_join]
        have := joinL_len ((core (ls.map ownL)).map (strip (ind (ls.map ownL))))
        rw [List.length_map] at this
        omega
    rw [List.length_append]
    split
    · simp only [List.length_nil]; omega
    · split
      · simp only [feeds, List.length_replicate]; omega
      · simp only [List.length_cons, List.length_nil]; omega
theorem said_size (hd : ByteArray) (ls : List ByteArray) : (said hd ls).size ≤ 3 * ls.length + 1 + rest ls 0 := by
  rw [size_tol]
  unfold said
  rw [tol_mk]
  have := text_len (isF hd) ((tol hd).contains 45) ((tol hd).contains 43) (ls.map tol)
  rw [List.length_map, sum_tol] at this
  exact this
theorem cut_front (s r : ByteArray) : ∀ W : World, (Instr.slice 9 (.string (s ++ r)) none (some (.int .i64 (s.size : Int))) none).run Try.prog W = .ok (.string s) W := by
  intro W
  rw [run_slice_string_h W 9 (s ++ r) Try.underlying9 .i64 s.size (by omega) (by rw [size_ap]; omega)]
  have e : (s ++ r).extract 0 s.size = s := by
    refine ba_ext ?_
    have h1 := Lib.extract_data (s ++ r) 0 s.size
    show ((s ++ r).extract 0 s.size).data.toList = _
    rw [h1, List.drop_zero, Nat.sub_zero]
    show (tol (s ++ r)).take s.size = _
    rw [tol_app, size_tol, List.take_left' rfl]
  simp [e]
set_option maxHeartbeats 4000000 in
set_option maxRecDepth 100000 in
theorem walk_BlockChomps (v : Value) (ns : List Int) (fo : Bool) (w : World) (h : Nums .i64 w v ns) :
    Calls Try.prog 6 #[v, .bool fo] w fun e w' => e = .returned (.bool true) ∧ Below w.heap.size w w' := by
  have H := Lib.hid h
  clear h
  have HX := Lib.hid (fun (ls : List ByteArray) => show (said ((if fo = true then ⟨#[62]⟩ else ⟨#[124]⟩) ++ ⟨#[45]⟩) ls = ⟨#[]⟩ ∧ said (if fo = true then ⟨#[62]⟩ else ⟨#[124]⟩) ls = ⟨#[]⟩ ∧ (said ((if fo = true then ⟨#[62]⟩ else ⟨#[124]⟩) ++ ⟨#[43]⟩) ls).size = ls.length) ∨
      (said (if fo = true then ⟨#[62]⟩ else ⟨#[124]⟩) ls = said ((if fo = true then ⟨#[62]⟩ else ⟨#[124]⟩) ++ ⟨#[45]⟩) ls ++ ⟨#[10]⟩ ∧ ∃ r : ByteArray, said ((if fo = true then ⟨#[62]⟩ else ⟨#[124]⟩) ++ ⟨#[43]⟩) ls = said (if fo = true then ⟨#[62]⟩ else ⟨#[124]⟩) ls ++ r) from by
    cases fo with
    | false => exact said_chomps _ _ _ ls false rfl rfl rfl rfl rfl rfl rfl rfl rfl
    | true => exact said_chomps _ _ _ ls true rfl rfl rfl rfl rfl rfl rfl rfl rfl)
  obtain ⟨hd, hhd⟩ : ∃ hd : ByteArray, (if fo = true then ⟨#[62]⟩ else ⟨#[124]⟩) = hd := ⟨_, rfl⟩
  have hdz : hd.size = 1 := by rw [← hhd]; cases fo <;> rfl
  have n1 : ¬ (9223372036854775807 < hd.size + (⟨#[45]⟩ : ByteArray).size) := by rw [hdz]; decide
  have n2 : ¬ (9223372036854775807 < hd.size + (⟨#[43]⟩ : ByteArray).size) := by rw [hdz]; decide
  rw [hhd] at HX
  have HH := Lib.hid hhd
  clear hdz hhd
  go_enter Try.func6, Try.ntmps6
  go_wp2_with fail
  refine (known_true w).mono ?_
  rintro e w1 ⟨rfl, hb⟩
  have HL := Lib.hid (bLines v ns w1 (H.out.below hb))
  go_wp2_with fail
  refine HL.out.mono ?_
  rintro e w2 ⟨v2, rfl, ls, hO, hn, hr, hb2⟩
  have hM : 2 * ls.length + rest ls 0 ≤ 1000000 := by omega
  obtain ⟨a, cap, rfl⟩ := hO.shape
  have HT := Lib.hid (fun (hd : ByteArray) (W : World) (hb : Below w2.heap.size w2 W) => bText hd _ ls W (hO.reads.below hb) hM)
  have HB2 := Lib.hid (hb.trans (hb2.mono hb.size))
  have HC := Lib.hid (HX.out ls)
  have HZ1 := Lib.hid (fun hd : ByteArray => show (said (hd ++ ⟨#[45]⟩) ls).size ≤ 1000 by have := said_size (hd ++ ⟨#[45]⟩) ls; omega)
  clear HL hO hr hM hb2 hb HX
  go_upto_if 14 with fail
  go_cut [6] (fun hv wx => hv = .string hd ∧ w2 = wx)
  case first =>
    cases fo with
    | false =>
      have hh := HH.out
      rw [if_neg (by decide)] at hh
      subst hh
      go_wp2_with fail
      go_meet
      exact ⟨rfl, rfl⟩
    | true =>
      have hh := HH.out
      rw [if_pos rfl] at hh
      subst hh
      go_wp2_with fail
      go_meet
      exact ⟨rfl, rfl⟩
  case rest =>
    obtain ⟨rfl, rfl⟩ := hcut
    obtain ⟨S1, hS1⟩ : ∃ S1, said (hd ++ ⟨#[45]⟩) ls = S1 := ⟨_, rfl⟩
    obtain ⟨S2, hS2⟩ : ∃ S2, said hd ls = S2 := ⟨_, rfl⟩
    obtain ⟨S3, hS3⟩ : ∃ S3, said (hd ++ ⟨#[43]⟩) ls = S3 := ⟨_, rfl⟩
    have HC2 := HC.out
    rw [hS1, hS2, hS3] at HC2
    have hz1 := HZ1.out hd
    rw [hS1] at hz1
    have HC3 := Lib.hid HC2
    have E1 := Lib.hid hS1
    have E2 := Lib.hid hS2
    have E3 := Lib.hid hS3
    clear HC HC2 hS1 hS2 hS3 HH
    go_upto_region 8 with fail
    refine (HT.out _ _ (Below.refl _ _)).mono ?_
    rw [E1.out]
    rintro e w3 ⟨rfl, hb3⟩
    go_upto_region 8 with fail
    refine (HT.out _ _ hb3).mono ?_
    rw [E2.out]
    rintro e w4 ⟨rfl, hb4⟩
    have hb4' := hb3.trans (hb4.mono hb3.size)
    clear hb3 hb4
    go_upto_region 8 with fail
    refine (HT.out _ _ hb4').mono ?_
    rw [E3.out]
    rintro e w5 ⟨rfl, hb5⟩
    have HB5 := Lib.hid (HB2.out.trans ((hb4'.trans (hb5.mono hb4'.size)).mono HB2.out.size))
    clear hb4' hb5 HT E1 E2 E3 n1 n2 HB2
    rcases HC3.out with ⟨q1, q2, q3⟩ | ⟨q1, r, q2⟩
    · subst q1
      subst q2
      have g : ((S3.size : Int) == (ls.length : Int)) = true := by rw [beq_iff_eq]; omega
      clear q3 HC3
      go_wp2_with fail
      go_ret
      exact ⟨rfl, HB5.out⟩
    · have hz2 : S2.size = S1.size + 1 := by rw [q1, size_ap]; rfl
      have he2 := str_some S2 (by omega)
      have hz3 : S3.size = S2.size + r.size := by rw [q2, size_ap]
      have hge : (S2.size : Int) ≤ (S3.size : Int) := by omega
      have hcat : ¬ (9223372036854775807 < S1.size + (⟨#[10]⟩ : ByteArray).size) := by show ¬ (_ < _ + 1); omega
      have hcut := cut_front S2 r
      rw [← q2] at hcut
      have heq : (S2.toList == (S1 ++ ⟨#[10]⟩).toList) = true := by rw [q1]; exact beq_self_eq_true _
      clear hz2 hz3 q1 q2 HC3
      by_cases h1 : S1.size = 0
      · obtain rfl := ba_zero S1 h1
        clear h1
        go_wp2_with fail
        go_ret
        exact ⟨rfl, HB5.out⟩
      · have he1 := str_some S1 (by omega)
        clear h1
        go_wp2_with fail
        go_ret
        exact ⟨rfl, HB5.out⟩
end Go.Proofs.Ytogiaaiphbamnaa
