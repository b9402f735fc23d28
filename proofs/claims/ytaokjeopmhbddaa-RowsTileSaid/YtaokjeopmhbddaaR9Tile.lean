/- The walk of the law RowsTile: rows are all tokens, one behind the other. -/
import Derived.Test.YtaokjeopmhbddaaTfa
namespace Go.Proofs.Ytaokjeopmhbddaa
open Go.RowKit
open Go.Proofs.Ytaokjeopmhbddaa.Sg
open Go.Proofs.Ytaokjeopmhbddaa.Sq
set_option linter.unusedVariables false

namespace Rw
/-- The row at a place of the rows from a place on. -/
theorem tile_at {T : List Tk} {Rs : List R} {i op p : Nat} {z : R} (h : Rs.drop i = rowsAt op p (T.drop p)) (hz : Rs[i]? = some z) :
    p < T.length ∧ z = ⟨kindOf (decide (0 < op)) ((T.drop p).take (rlen (T.drop p))), p, p + rlen (T.drop p), colOf ((T.drop p).take (rlen (T.drop p)))⟩ ∧ 0 < rlen (T.drop p) ∧ p + rlen (T.drop p) ≤ T.length ∧
      Rs.drop (i + 1) = rowsAt (opnL op ((T.drop p).take (rlen (T.drop p)))) (p + rlen (T.drop p)) (T.drop (p + rlen (T.drop p))) := by
  have hi := (List.getElem?_eq_some_iff.1 hz).1
  have e := (List.getElem?_eq_some_iff.1 hz).2
  rw [List.drop_eq_getElem_cons hi, e] at h
  have hp : p < T.length := by
    rcases Nat.lt_or_ge p T.length with hp | hp
    · exact hp
    · rw [rows_done T op p hp] at h; cases h
  rw [rows_from T op p hp] at h
  injection h with h1 h2
  have hne : T.drop p ≠ [] := fun e => by have := congrArg List.length e; rw [List.length_drop] at this; simp at this; omega
  have h3 := rlen_pos _ hne
  have h4 := rlen_le (T.drop p)
  rw [List.length_drop] at h4
  exact ⟨hp, h1, h3, by omega, h2⟩
theorem some_snoc (ts : List Tk) (x : Tk) : (firstC (ts ++ [x])).isSome = ((firstC ts).isSome || Sc.counts x.1) := by
  rw [firstC_snoc]
  cases firstC ts with
  | some y => rfl
  | none =>
    dsimp only
    cases hc : Sc.counts x.1 <;> simp
theorem tile_end {T : List Tk} {Rs : List R} {i op p : Nat} (h : Rs.drop i = rowsAt op p (T.drop p)) (hi : Rs.length ≤ i) : T.length ≤ p := by
  rcases Nat.lt_or_ge p T.length with hp | hp
  · rw [rows_from T op p hp, List.drop_eq_nil_of_le hi] at h; cases h
  · exact hp
/-- Its last token. -/
theorem tile_last {T : List Tk} (p : Nat) (hp : p < T.length) : ∃ x, T[p + rlen (T.drop p) - 1]? = some x ∧ (p + rlen (T.drop p) < T.length → ends x = true) := by
  have hne : T.drop p ≠ [] := fun e => by have := congrArg List.length e; rw [List.length_drop] at this; simp at this; omega
  have h3 := rlen_pos _ hne
  have h4 := rlen_le (T.drop p)
  rw [List.length_drop] at h4
  obtain ⟨x, hx⟩ : ∃ x, T[p + rlen (T.drop p) - 1]? = some x := ⟨_, List.getElem?_eq_getElem (by omega)⟩
  refine ⟨x, hx, fun hlt => ?_⟩
  rcases rlen_end (T.drop p) hne with h | ⟨y, h5, h6⟩
  · rw [List.length_drop] at h; omega
  · rw [List.getElem?_drop, show p + (rlen (T.drop p) - 1) = p + rlen (T.drop p) - 1 by omega, hx] at h5
    injection h5 with h5
    rw [h5]; exact h6
end Rw
set_option maxHeartbeats 8000000 in
set_option maxRecDepth 100000 in
theorem walk_RowsTile (v0 : Value) (l0 : List Int) (v1 : Value) (s : ByteArray) (w : World) (h0 : Nums .i64 w v0 l0) (h1 : Bys w v1 s) :
    Calls Try.prog 5 #[v0, v1] w fun e w' => e = .returned (.bool true) ∧ Below w.heap.size w w' := by
  obtain ⟨a1, cap1, rfl⟩ := h1.shape
  have hmx := h1.size_le
  simp only [maxLen] at hmx
  have HK := Lib.hid (known_true w)
  have HTx := Lib.hid (fun W (hb : Below w.heap.size w W) => text_any v0 l0 (.slice a1 s.size cap1) s W (h0.below hb) (h1.below hb))
  clear h0 h1
  go_enter Try.func5, Try.ntmps5
  go_wp2_with fail
  refine HK.out.mono ?_
  rintro e w1 ⟨rfl, hb1⟩
  have G1 := Lib.hid hb1
  clear hb1 HK
  go_wp2_with fail
  refine (HTx.out w1 G1.out).mono ?_
  rintro e w2 ⟨vt, t, rfl, hBt, ht, hb2⟩
  have G2 := Lib.hid (below_from G1.out hb2)
  obtain ⟨T, hT⟩ : ∃ T, Sc.tokens (Sc.nats t) = T := ⟨_, rfl⟩
  obtain ⟨t1, t2, -, t3⟩ := toks_short t (by omega) T hT
  have htk := rTokens _ t w2 hBt
  have HTk := Lib.hid htk
  have HT := Lib.hid hT
  have HTf := Lib.hid (show T.length ≤ 100000 ∧ (∀ x ∈ T, x.2.1 ≤ 1000000) ∧ Rw.Tile 0 T from ⟨by omega, t2, t3⟩)
  have HRl := Lib.hid (show (Rw.rowsN T).length ≤ 1000 from Nat.le_trans (Rw.rowsF_len _ _ _ _) t1)
  have HTl := Lib.hid t1
  clear htk hT t1 t2 t3 hb2 hBt HTx ht
  go_wp2_with fail
  refine HTk.out.mono ?_
  intro e w3 hg3
  obtain ⟨p1, c1, rfl, R1, hb3⟩ := hg3.read
  rw [HT.out] at R1 ⊢
  have G3 := Lib.hid (below_from G2.out hb3)
  have hrr := fun bv => pRows bv _ T w3 R1 HTf.out.1 HTf.out.2.1
  have HRr := Lib.hid hrr
  have HR1 := Lib.hid R1
  clear hg3 R1 hb3 hrr HTk
  go_wp2_with fail
  refine (HRr.out _).mono ?_
  intro e w4 hg4
  obtain ⟨p2, c2, rfl, R2, hb4⟩ := hg4.read
  have G4 := Lib.hid (below_from G3.out hb4)
  have R1 := HR1.out.below hb4
  have hat : Rw.rowsN T = Rw.rowsAt 0 0 (T.drop 0) := rfl
  obtain ⟨Rs, hRs⟩ : ∃ Rs, Rw.rowsN T = Rs := ⟨_, rfl⟩
  rw [hRs] at R2 HRl hat ⊢
  have HX := Lib.hid (fun j x (hj : Rs[j]? = some x) => rows_at R2 j x hj)
  have HTk := Lib.hid (fun j x (hj : T[j]? = some x) => toks_at R1 j x hj)
  have HAt := Lib.hid hat
  obtain ⟨n, hn⟩ : ∃ n, Rs.length = n := ⟨_, rfl⟩
  obtain ⟨N, hNn⟩ : ∃ N, T.length = N := ⟨_, rfl⟩
  have HN := Lib.hid hn
  have HNt := Lib.hid hNn
  have hn1 := HRl.out
  have hn2 := HTl.out
  rw [hn] at hn1 ⊢
  rw [hNn] at hn2 ⊢
  clear hg4 R1 R2 hb4 hRs hn HRl HRr HR1 G3 G2 G1 HT hat hNn HTl
  go_wp2_with fail
  go_loopw [8, 9] (fun av iv wr => ∃ (i op p : Nat), iv = .int .i64 i ∧ av = .int .i64 p ∧ i ≤ n ∧ p ≤ N ∧ Hid (Rs.drop i = Rw.rowsAt op p (T.drop p)) ∧ w4 = wr) (fun _ iv _ => n - (intOf iv).toNat)
  case atStart => exact ⟨0, 0, 0, rfl, rfl, Nat.zero_le _, Nat.zero_le _, HAt, rfl⟩
  case round =>
    obtain ⟨i, op, p, rfl, rfl, hin, hpn, HE, rfl⟩ := hrel
    by_cases hlt : i < n
    · obtain ⟨z, hz⟩ : ∃ z, Rs[i]? = some z := ⟨_, List.getElem?_eq_getElem (by rw [HN.out]; exact hlt)⟩
      obtain ⟨b, off, rfl, x0, x1, x2, x3⟩ := HX.out i z hz
      obtain ⟨g1, g2, g3, g4, g5⟩ := Rw.tile_at HE.out hz
      obtain ⟨y, hy, hye⟩ := Rw.tile_last p g1
      obtain ⟨q, hq⟩ := HTf.out.2.2.drop p
      have hq2 := Rw.tile_take (Rw.rlen (T.drop p)) q hq
      have hcol := Rw.col_is hq2
      have hbl := Rw.blank_is (decide (0 < op)) ((T.drop p).take (Rw.rlen (T.drop p)))
      have hsn := Rw.seen_next T p
      have hlast : i + 1 < n → p + Rw.rlen (T.drop p) < T.length := fun h => by
        rcases Nat.lt_or_ge (p + Rw.rlen (T.drop p)) T.length with h2 | h2
        · exact h2
        · rw [Rw.rows_done T _ _ h2] at g5
          have := congrArg List.length g5
          rw [List.length_drop, HN.out] at this
          simp at this
          omega
      obtain ⟨ty, toff, rfl, y0, -, -⟩ := HTk.out _ y hy
      subst g2
      dsimp only at x0 x1 x2 x3
      obtain ⟨row, hrow⟩ : ∃ row, (T.drop p).take (Rw.rlen (T.drop p)) = row := ⟨_, rfl⟩
      rw [hrow] at x0 x3 hcol hbl g5
      have HRow := Lib.hid hrow
      obtain ⟨R, hR⟩ : ∃ R, Rw.rlen (T.drop p) = R := ⟨_, rfl⟩
      rw [hR] at x2 g3 g4 g5 y0 hye hlast HRow
      rw [HNt.out] at g4 hye hlast g1
      obtain ⟨op2, hop2⟩ : ∃ op2, Rw.opnL op row = op2 := ⟨_, rfl⟩
      rw [hop2] at g5
      obtain ⟨P2, hP2⟩ : ∃ P2, p + R = P2 := ⟨_, rfl⟩
      rw [hP2] at x2 g4 g5 y0 hye hlast
      have HP2 := Lib.hid hP2
      have hpp : p < P2 := by omega
      obtain ⟨P1, hP1⟩ : ∃ P1, P2 = P1 + 1 := ⟨P2 - 1, by omega⟩
      have HP1 := Lib.hid hP1
      rw [show P2 - 1 = P1 by omega] at y0
      have hp1 : (P2 : Int) - 1 = (P1 : Int) := by omega
      have hp1n : (P1 : Int) < (N : Int) := by omega
      obtain ⟨KD, hKD⟩ : ∃ KD, Rw.kindOf (decide (0 < op)) row = KD := ⟨_, rfl⟩
      obtain ⟨CO, hCO⟩ : ∃ CO, Rw.colOf row = CO := ⟨_, rfl⟩
      obtain ⟨CN, hCN⟩ : ∃ CN, (Rw.firstC row).isSome = CN := ⟨_, rfl⟩
      rw [hKD] at x0 hbl
      rw [hCO] at x3 hcol
      rw [hCN] at hcol
      have hbl2 : KD = 1 → CN = false := fun h => by rw [← hCN, hbl h]; rfl
      have HCol := Lib.hid hcol
      have HBl := Lib.hid hbl2
      have HCN := Lib.hid hCN
      have HG5 := Lib.hid g5
      have HSn := Lib.hid hsn
      obtain ⟨K, hK⟩ : ∃ K, y.1 = K := ⟨_, rfl⟩
      have HEd := Lib.hid (fun (h : i + 1 < n) => show K = 1 ∨ K = 19 by have := hye (hlast h); rw [← hK]; simpa [Rw.ends] using this)
      rw [hK] at y0
      have hii : (i : Int) < (n : Int) := by omega
      have d1 : ((p : Int) != (p : Int)) = false := by simp
      have d2 : ¬ ((P2 : Int) ≤ (p : Int)) := by omega
      have d3 : ¬ ((N : Int) < (P2 : Int)) := by omega
      clear hz g5 hy hye hq hq2 hcol hbl hbl2 hsn hlast hrow hR hop2 hP2 hP1 hKD hCO hCN hK HE
      go_upto_region 13 with fail
      go_cut [77] (fun q wx => q = .bool false ∧ w4 = wx)
      case first =>
        by_cases hl : i + 1 < n
        · have hli : (i : Int) + 1 < (n : Int) := by omega
          rcases HEd.out hl with hk | hk
          · subst hk
            go_wp2_with fail
            go_meet
            exact ⟨rfl, rfl⟩
          · subst hk
            go_wp2_with fail
            go_meet
            exact ⟨rfl, rfl⟩
        · have hli : ¬ ((i : Int) + 1 < (n : Int)) := by omega
          go_wp2_with fail
          go_meet
          exact ⟨rfl, rfl⟩
      case rest =>
      obtain ⟨rfl, rfl⟩ := hcut
      clear hp1 hp1n y0 HEd d1 d2 d3
      go_upto_block 2 with fail
      go_cut [11] (fun cv wx => cv = .bool CN ∧ w4 = wx)
      case first =>
        go_wp2_with fail
        go_loopw [11, 12] (fun cv jv wr => ∃ j : Nat, jv = .int .i64 (p + j : Nat) ∧ cv = .bool (Rw.firstC ((T.drop p).take j)).isSome ∧ p + j ≤ P2 ∧ w4 = wr) (fun _ jv _ => P2 - (intOf jv).toNat)
        case atStart => exact ⟨0, by go_num, rfl, by omega, rfl⟩
        case round =>
          obtain ⟨j, rfl, rfl, hj, rfl⟩ := hrel
          by_cases hjl : p + j < P2
          · obtain ⟨x, hx⟩ : ∃ x, T[p + j]? = some x := ⟨_, List.getElem?_eq_getElem (by rw [HNt.out]; omega)⟩
            obtain ⟨b9, o9, he, t0, -, -⟩ := HTk.out (p + j) x hx
            injection he with he
            injection he with e1 e2
            subst e1 e2
            have hs := Rw.some_snoc ((T.drop p).take j) x
            rw [← HSn.out j x hx] at hs
            obtain ⟨F0, hF0⟩ : ∃ F0, (Rw.firstC ((T.drop p).take j)).isSome = F0 := ⟨_, rfl⟩
            rw [hF0] at hs
            have hji : ((p + j : Nat) : Int) < (P2 : Int) := by omega
            have hjn : ((p + j : Nat) : Int) < (N : Int) := by omega
            have HC := Lib.hid (refCounts x.1 w4)
            have HS := Lib.hid hs
            rw [hF0]
            clear hs hF0 hx
            cases F0 with
            | true =>
              go_wp2_with fail
              go_roundw
              case rel =>
                exact ⟨j + 1, by go_num, by rw [HS.out]; rfl, by omega, trivial⟩
              case measure => simp [intOf]; omega
            | false =>
              go_wp2_with fail
              refine HC.out.mono ?_
              rintro e w8 ⟨rfl, rfl⟩
              go_wp2_with fail
              go_roundw
              case rel =>
                exact ⟨j + 1, by go_num, by rw [HS.out]; rfl, by omega, trivial⟩
              case measure => simp [intOf]; omega
          · obtain rfl : j = R := by have := HP2.out; omega
            have hje : ¬ (((p + j : Nat) : Int) < (P2 : Int)) := by omega
            have HD := Lib.hid (show (Rw.firstC ((T.drop p).take j)).isSome = CN by rw [HRow.out]; exact HCN.out)
            clear hjl
            go_wp2_with fail
            go_meet
            exact ⟨by rw [HD.out], rfl⟩
      case rest =>
      obtain ⟨rfl, rfl⟩ := hcut
      have hcol := HCol.out
      cases CN with
      | true =>
        have hco : (0 : Int) ≤ CO := hcol.2 rfl
        have hkd : KD ≠ 1 := fun h => by have := HBl.out h; cases this
        have g : ((KD : Int) == 1) = false := by simp; omega
        clear hcol hkd
        go_wp2_with fail
        go_roundw
        case rel =>
          first
            | exact ⟨i + 1, op2, P2, by go_num, rfl, by omega, g4, HG5, trivial⟩
            | ((repeat apply Exists.intro); exact ⟨⟨i + 1, op2, P2, by go_num, rfl, by omega, g4, HG5, trivial⟩, rfl⟩)
        case measure => simp [intOf]; omega
      | false =>
        have hco : ¬ ((0 : Int) ≤ CO) := fun h => by have := hcol.1 h; cases this
        clear hcol
        by_cases hkd : KD = 1
        · subst hkd
          go_wp2_with fail
          go_roundw
          case rel =>
            first
              | exact ⟨i + 1, op2, P2, by go_num, rfl, by omega, g4, HG5, trivial⟩
              | ((repeat apply Exists.intro); exact ⟨⟨i + 1, op2, P2, by go_num, rfl, by omega, g4, HG5, trivial⟩, rfl⟩)
          case measure => simp [intOf]; omega
        · have g : ((KD : Int) == 1) = false := by simp; omega
          clear hkd
          go_wp2_with fail
          go_roundw
          case rel =>
            first
              | exact ⟨i + 1, op2, P2, by go_num, rfl, by omega, g4, HG5, trivial⟩
              | ((repeat apply Exists.intro); exact ⟨⟨i + 1, op2, P2, by go_num, rfl, by omega, g4, HG5, trivial⟩, rfl⟩)
          case measure => simp [intOf]; omega
    · obtain rfl : i = n := by omega
      have hpe := Rw.tile_end HE.out (by rw [HN.out]; exact Nat.le_refl _)
      rw [HNt.out] at hpe
      obtain rfl : p = N := by omega
      have hii : ¬ ((i : Int) < (i : Int)) := by omega
      clear hpe HE hlt
      go_wp2
      go_ret
      exact ⟨by simp, G4.out⟩
end Go.Proofs.Ytaokjeopmhbddaa
