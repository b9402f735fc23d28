/- package block: Text: what any lines say, under any head. -/
import Derived.Test.YtogiaaiphbamnaaBq
namespace Go.Proofs.Ytogiaaiphbamnaa
open Go.RowKit
open Go.Proofs.Ytogiaaiphbamnaa.Sq
open Go.Proofs.Ytogiaaiphbamnaa.Bk
set_option linter.unusedVariables false

namespace Bk
/-- What lines say under a head, as a text. -/
def said (hd : ByteArray) (l : List ByteArray) : ByteArray := ⟨(text (isF hd) ((tol hd).contains 45) ((tol hd).contains 43) (l.map tol)).toArray⟩
theorem owns_tol (l : List ByteArray) : (l.map ownB).map tol = (l.map tol).map ownL := by
  rw [List.map_map, List.map_map]
  exact List.map_congr_left fun s _ => tol_own s
theorem strips_tol (n : Nat) (l : List ByteArray) : (l.map (stripB n)).map tol = (l.map tol).map (strip n) := by
  rw [List.map_map, List.map_map]
  exact List.map_congr_left fun s _ => tol_strip n s
theorem tol_endB (m p : Bool) (k : Nat) : tol (endB m p k) = if m = true then [] else if p = true then feeds (k + 1) else [10] := by
  unfold endB
  cases m with
  | true => rfl
  | false =>
    cases p with
    | true => exact tol_lf _
    | false => rfl
theorem said_none (hd : ByteArray) (l : List ByteArray) (h : core ((l.map tol).map ownL) = []) : said hd l = noneB ((tol hd).contains 43) l.length := by
  refine ba_ext ?_
  unfold said
  rw [tol_mk, text, if_pos h, List.length_map]
  unfold noneB
  cases (tol hd).contains 43 with
  | true => exact (tol_lf _).symm
  | false => rfl
theorem said_some (hd : ByteArray) (l : List ByteArray) (n : Nat) (hn : (core ((l.map tol).map ownL)).length = n) (h0 : n ≠ 0) (t : ByteArray)
    (ht : tol t = bodyC (isF hd) ((((l.map ownB).take n).map (stripB (ind (((l.map ownB).take n).map tol)))).map tol)) :
    said hd l = t ++ endB ((tol hd).contains 45) ((tol hd).contains 43) (l.length - n) := by
  have hne : core ((l.map tol).map ownL) ≠ [] := fun e => by rw [e] at hn; exact h0 hn.symm
  have e1 : ((l.map ownB).take n).map tol = core ((l.map tol).map ownL) := by
    rw [List.map_take, owns_tol, ← hn, core_take]
  refine ba_ext ?_
  unfold said
  rw [tol_mk, text, if_neg hne, tol_app, tol_endB, ht, strips_tol, e1, bodyC_is, ind_core _ hne, hn, List.length_map]
end Bk
set_option maxHeartbeats 2000000 in
set_option maxRecDepth 100000 in
theorem bText (hd : ByteArray) (v : Value) (l : List ByteArray) (w : World) (h : Reads encS w v l) (hM : 2 * l.length + rest l 0 ≤ 1000000) :
    Calls Try.prog 11 #[.string hd, v] w fun e w' => e = .returned (.string (said hd l)) ∧ Below w.heap.size w w' := by
  have hz : ∀ s ∈ l, s.size ≤ maxLen := fun s hs => by have := rest_mem l s hs; simp only [maxLen]; omega
  have HO := Lib.hid (bOwns v l w h hz (by omega))
  have hro := rest_map ownB own_size l
  have hzo : ∀ s ∈ l.map ownB, s.size ≤ maxLen := fun s hs => by have := rest_mem _ s hs; simp only [maxLen]; omega
  have HU := Lib.hid (fun V W (hV : Reads encS W V (l.map ownB)) => bUp V (l.map ownB) W hV hzo)
  obtain ⟨a, cap, rfl⟩ := h.shape
  obtain ⟨n, hn⟩ : ∃ n, (core ((l.map tol).map ownL)).length = n := ⟨_, rfl⟩
  rw [owns_tol, hn] at HU
  have hnl : n ≤ l.length := by rw [← hn]; have := core_le ((l.map tol).map ownL); rw [List.length_map, List.length_map] at this; exact this
  by_cases h0 : n = 0
  · subst h0
    have hs := said_none hd l (List.eq_nil_of_length_eq_zero hn)
    have HN := Lib.hid (fun W => bNone hd l.length W (by omega))
    rw [← hs] at HN
    generalize said hd l = S at *
    clear hs hn hzo hro hz h hM
    go_enter Try.func11, Try.ntmps11
    go_wp2_with fail
    refine HO.out.mono ?_
    rintro e w1 ⟨v1, rfl, hR1, hb1⟩
    have HU1 := Lib.hid (HU.out v1 w1 hR1)
    clear HU HO hR1
    go_wp2_with fail
    refine HU1.out.mono ?_
    rintro e w2 ⟨rfl, hb2⟩
    have hb3 := hb1.trans (hb2.mono hb1.size)
    go_wp2_with fail
    refine (HN.out _).mono ?_
    rintro e w3 ⟨rfl, hb4⟩
    go_wp2_with fail
    go_ret
    exact ⟨rfl, hb3.trans (hb4.mono hb3.size)⟩
  · have hS := said_some hd l n hn h0
    have hni : ((n : Int) == 0) = false := beq_eq_false_iff_ne.2 (by omega)
    have hrt := rest_take (l.map ownB) n
    obtain ⟨os, hos⟩ : ∃ os, (l.map ownB).take n = os := ⟨_, rfl⟩
    have hol : os.length = n := by rw [← hos, List.length_take, List.length_map]; omega
    rw [hos] at hS hrt
    have hzs : ∀ s ∈ os, s.size ≤ maxLen := fun s hs => by have := rest_mem _ s hs; simp only [maxLen]; omega
    have HC := Lib.hid (fun V W (hV : Reads encS W V os) => bConts V os W hV hzs (by omega))
    have hrc := rest_map (stripB (ind (os.map tol))) (strip_size _) os
    obtain ⟨cs, hcs⟩ : ∃ cs, os.map (stripB (ind (os.map tol))) = cs := ⟨_, rfl⟩
    have hcl : cs.length = n := by rw [← hcs, List.length_map, hol]
    rw [hcs] at HC hrc hS
    have hc0 : cs ≠ [] := fun e => by rw [e] at hcl; exact h0 hcl.symm
    have HJ := Lib.hid (fun V W (hV : Reads encS W V cs) => bJoined hd V cs W hV hc0 (by omega))
    have hwr : IntKind.i64.wrap ((l.length : Int) - (n : Int)) = ((l.length - n : Nat) : Int) := by rw [IntKind.wrap_i64]; omega
    have HS := Lib.hid hS
    have HOs := Lib.hid hos
    have hll : (l.map ownB).length = l.length := List.length_map _
    have hln : n ≤ (l.map ownB).length := by rw [hll]; exact hnl
    have hKl : l.length ≤ 1000000 := by omega
    generalize said hd l = S at *
    clear hS hrt hrc hcl hc0 hcs hol hzs hos hn hzo hro hz h hM h0
    go_enter Try.func11, Try.ntmps11
    go_wp2_with fail
    refine HO.out.mono ?_
    rintro e w1 ⟨v1, rfl, hR1, hb1⟩
    have HU1 := Lib.hid (HU.out v1 w1 hR1)
    obtain ⟨a1, cap1, rfl⟩ := hR1.shape
    obtain ⟨v2, hcut, hR2⟩ := Sq.cut_h tyS hR1 hln
    rw [HOs.out] at hR2
    rw [hll] at hcut HU1 ⊢
    have HR2 := Lib.hid hR2
    clear HU HO hR1 hR2 HOs hll hln
    go_wp2_with fail
    refine HU1.out.mono ?_
    rintro e w2 ⟨rfl, hb2⟩
    have hb3 := hb1.trans (hb2.mono hb1.size)
    have HC2 := Lib.hid (HC.out v2 w2 (HR2.out.below hb2))
    clear HU1 HC HR2 hb1 hb2
    go_wp2_with fail
    refine HC2.out.mono ?_
    rintro e w3 ⟨v3, rfl, hR3, hb4⟩
    have HJ3 := Lib.hid (HJ.out v3 w3 hR3)
    have hb5 := hb3.trans (hb4.mono hb3.size)
    clear HC2 HJ hR3 hb3 hb4
    go_wp2_with fail
    refine HJ3.out.mono ?_
    rintro e w4 ⟨v4, rfl, t, hO4, hT4, hs4, hb6⟩
    have hb7 := hb5.trans (hb6.mono hb5.size)
    have HE := Lib.hid (bEnd v4 t hd (l.length - n) w4 w3.heap.size hO4 hb6.size (by omega))
    rw [← HS.out t hT4] at HE
    have HB7 := Lib.hid hb7
    have HL := Lib.hid (Nat.le_trans hb5.size (Nat.le_refl _))
    clear HJ3 hO4 hT4 hs4 HS hb6 hb7 hb5
    go_wp2_with fail
    refine HE.out.mono ?_
    rintro e w5 ⟨v5, rfl, hO5, hb8⟩
    have hcv := conv_bys hO5.bys
    clear hO5 HE
    go_wp2_with fail
    go_ret
    exact ⟨rfl, HB7.out.trans (hb8.mono HL.out)⟩
end Go.Proofs.Ytogiaaiphbamnaa
