/- The walk of the law RowsEntries: the program's entries and the chapter's own, of each row. -/
import Derived.Test.YtaokjeopmhbddaaTfa
import Derived.Test.YtaokjeopmhbddaaErg
namespace Go.Proofs.Ytaokjeopmhbddaa
open Go.RowKit
open Go.Proofs.Ytaokjeopmhbddaa.Sg
open Go.Proofs.Ytaokjeopmhbddaa.Sq
set_option linter.unusedVariables false

set_option maxHeartbeats 8000000 in
set_option maxRecDepth 100000 in
theorem walk_RowsEntries (v0 : Value) (l0 : List Int) (v1 : Value) (s : ByteArray) (w : World) (h0 : Nums .i64 w v0 l0) (h1 : Bys w v1 s) :
    Calls Try.prog 4 #[v0, v1] w fun e w' => e = .returned (.bool true) ∧ Below w.heap.size w w' := by
  obtain ⟨a1, cap1, rfl⟩ := h1.shape
  have hmx := h1.size_le
  simp only [maxLen] at hmx
  have HK := Lib.hid (known_true w)
  have HTx := Lib.hid (fun W (hb : Below w.heap.size w W) => text_any v0 l0 (.slice a1 s.size cap1) s W (h0.below hb) (h1.below hb))
  clear h0 h1
  go_enter Try.func4, Try.ntmps4
  go_wp2_with fail
  refine HK.out.mono ?_
  rintro e w1 ⟨rfl, hb1⟩
  have G1 := Lib.hid hb1
  clear hb1 HK
  go_wp2_with fail
  refine (HTx.out w1 G1.out).mono ?_
  rintro e w2 ⟨vt, t, rfl, hBt, ht, hb2⟩
  have G2 := Lib.hid (below_from G1.out hb2)
  obtain ⟨T, hT⟩ : ∃ T, Sc.tokens (Sc.nats t) = T := ⟨_, rfl⟩
  obtain ⟨t1, t2, -, t3⟩ := toks_short t (by omega) T hT
  have htk := rTokens _ t w2 hBt
  have HTk := Lib.hid htk
  have HT := Lib.hid hT
  have HTf := Lib.hid (show T.length ≤ 100000 ∧ (∀ x ∈ T, x.2.1 ≤ 1000000) ∧ Rw.Tile 0 T from ⟨by omega, t2, t3⟩)
  have HRl := Lib.hid (show (Rw.rowsN T).length ≤ 1000 from Nat.le_trans (Rw.rowsF_len _ _ _ _) t1)
  have HTl := Lib.hid t1
  clear htk hT t1 t2 t3 hb2 hBt HTx ht
  go_wp2_with fail
  refine HTk.out.mono ?_
  intro e w3 hg3
  obtain ⟨p1, c1, rfl, R1, hb3⟩ := hg3.read
  rw [HT.out] at R1 ⊢
  have G3 := Lib.hid (below_from G2.out hb3)
  have hrr := rRows _ T 0 w3 R1 HTf.out.1 HTf.out.2.1 HTf.out.2.2
  have HRr := Lib.hid hrr
  have HR1 := Lib.hid R1
  clear hg3 R1 hb3 hrr HTk
  go_wp2_with fail
  refine HRr.out.mono ?_
  intro e w4 hg4
  obtain ⟨p2, c2, rfl, R2, hb4⟩ := hg4.read
  have G4 := Lib.hid (below_from G3.out hb4)
  have R1 := HR1.out.below hb4
  have HX := Lib.hid (fun W (hb : Below w4.heap.size w4 W) j x (hj : (Rw.rowsN T)[j]? = some x) => rows_at (R2.below hb) j x hj)
  have HRT := Lib.hid (fun W (hb : Below w4.heap.size w4 W) => R1.below hb)
  have HIn := Lib.hid (Rw.rows_in T)
  obtain ⟨Rs, hRs⟩ : ∃ Rs, Rw.rowsN T = Rs := ⟨_, rfl⟩
  rw [hRs] at HX HRl HIn ⊢
  obtain ⟨n, hn⟩ : ∃ n, Rs.length = n := ⟨_, rfl⟩
  have HN := Lib.hid hn
  have hn1 := HRl.out
  rw [hn] at hn1 ⊢
  clear hg4 R1 R2 hb4 hRs hn HRl HRr HR1 G3 G2 G1 HT
  go_wp2_with fail
  go_loopw [8] (fun iv wr => ∃ i : Nat, iv = .int .i64 i ∧ i ≤ n ∧ Below w4.heap.size w4 wr) (fun iv _ => n - (intOf iv).toNat)
  case atStart => exact ⟨0, rfl, Nat.zero_le _, Below.refl _ _⟩
  case round =>
    obtain ⟨i, rfl, hin, hb⟩ := hrel
    rename World => wa
    by_cases hlt : i < n
    · obtain ⟨x, hx⟩ : ∃ x, Rs[i]? = some x := ⟨_, List.getElem?_eq_getElem (by rw [HN.out]; exact hlt)⟩
      obtain ⟨b, off, rfl, x0, x1, x2, x3⟩ := HX.out wa hb i x hx
      have hxi := HIn.out x (List.mem_of_getElem? hx)
      have hii : (i : Int) < (n : Int) := by omega
      have hen := fun bv => pEntries bv _ T x wa (HRT.out wa hb) HTf.out.1 HTf.out.2.1 (Nat.le_of_lt hxi.1) hxi.2
      have HEn := Lib.hid hen
      have HB := Lib.hid hb
      have HXi := Lib.hid hxi
      clear hx hb hxi hen
      go_wp2_with fail
      refine (HEn.out _).mono ?_
      intro e w5 hg5
      obtain ⟨p3, c3, rfl, R3, hb5⟩ := hg5.read
      have HB5 := Lib.hid (below_from HB.out hb5)
      obtain ⟨L, hL⟩ : ∃ L, (Rw.ents T x).1 = L := ⟨_, rfl⟩
      obtain ⟨N1, hN1⟩ : ∃ N1, (Rw.ents T x).2 = N1 := ⟨_, rfl⟩
      rw [hL] at R3 ⊢
      rw [hN1]
      have x0 := at_below hb5 x0
      have x1 := at_below hb5 x1
      have x2 := at_below hb5 x2
      have x3 := at_below hb5 x3
      have hre := rEntries _ T x w5 (HRT.out w5 HB5.out) HTf.out.1 HTf.out.2.1 HXi.out.1 HXi.out.2
      rw [hL, hN1] at hre
      have HRe := Lib.hid hre
      have HR3 := Lib.hid R3
      clear hg5 R3 hb5 hre HEn
      go_wp2_with fail
      refine HRe.out.mono ?_
      intro e w6 hg6
      obtain ⟨p4, c4, rfl, R4, hb6⟩ := hg6.read
      have R3 := HR3.out.below hb6
      have HB6 := Lib.hid (below_from HB5.out hb6)
      have HE := Lib.hid (fun W (hb : Below w6.heap.size w6 W) j z (hj : L[j]? = some z) => ents_at (R3.below hb) j z hj)
      have HY := Lib.hid (fun W (hb : Below w6.heap.size w6 W) j z (hj : L[j]? = some z) => ents_at (R4.below hb) j z hj)
      obtain ⟨m, hm⟩ : ∃ m, L.length = m := ⟨_, rfl⟩
      have hsz := R3.size_le
      have HM := Lib.hid hm
      simp only [maxLen] at hsz
      rw [hm] at hsz ⊢
      have dn : ((m : Int) != (m : Int)) = false := by simp
      have dn1 : ((N1 : Int) != (N1 : Int)) = false := by simp
      clear hg6 R3 R4 hb6 HRe HR3 hL hN1 hm x0 x1 x2 x3
      go_wp2_with fail
      go_loopw [13] (fun kv wr => ∃ k : Nat, kv = .int .i64 k ∧ k ≤ m ∧ Below w6.heap.size w6 wr) (fun kv _ => m - (intOf kv).toNat)
      case atStart => exact ⟨0, rfl, Nat.zero_le _, Below.refl _ _⟩
      case round =>
        obtain ⟨k, rfl, hk, hb⟩ := hrel
        by_cases hkm : k < m
        · obtain ⟨z, hz⟩ : ∃ z, L[k]? = some z := ⟨_, List.getElem?_eq_getElem (by rw [HM.out]; exact hkm)⟩
          obtain ⟨b', off', rfl, y0, y1, y2, y3⟩ := HE.out wr hb k z hz
          obtain ⟨b2, off2, rfl, z0, z1, z2, z3⟩ := HY.out wr hb k z hz
          have hkk : (k : Int) < (m : Int) := by omega
          have e0 : (z.dash != z.dash) = false := by cases z.dash <;> rfl
          have e1 : (z.col != z.col) = false := by simp
          have e2 : ((z.from' : Int) != (z.from' : Int)) = false := by simp
          have e3 : ((z.to : Int) != (z.to : Int)) = false := by simp
          have HBq := Lib.hid hb
          clear hz hb
          go_wp2_with fail
          go_quiet (fail)
          have HBn := Lib.hid (below_drewN HBq.out nq)
          clear y0 y1 y2 y3 z0 z1 z2 z3 e0 e1 e2 e3
          go_wp2
          go_roundw
          case rel => exact ⟨k + 1, by go_num, by omega, HBn.out⟩
          case measure => simp [intOf]; omega
        · obtain rfl : k = m := by omega
          have hkk : ¬ ((k : Int) < (k : Int)) := by omega
          have HBq := Lib.hid (below_from HB6.out hb)
          clear hb hkm
          go_wp2
          go_roundw
          case rel => exact ⟨i + 1, by go_num, by omega, HBq.out⟩
          case measure => simp [intOf]; omega
    · obtain rfl : i = n := by omega
      have HD := Lib.hid (below_from G4.out hb)
      have hii : ¬ ((i : Int) < (i : Int)) := by omega
      clear hb hlt
      go_wp2
      go_ret
      exact ⟨rfl, HD.out⟩
end Go.Proofs.Ytaokjeopmhbddaa
