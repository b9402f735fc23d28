/- The walk of the law RowsAll: the program's rows and the chapter's own, of the text and of the raw bytes. -/
import Derived.Test.YtaokjeopmhbddaaTfa
namespace Go.Proofs.Ytaokjeopmhbddaa
open Go.RowKit
open Go.Proofs.Ytaokjeopmhbddaa.Sg
open Go.Proofs.Ytaokjeopmhbddaa.Sq
set_option linter.unusedVariables false

set_option maxHeartbeats 8000000 in
set_option maxRecDepth 100000 in
theorem walk_RowsAll (v0 : Value) (l0 : List Int) (v1 : Value) (s : ByteArray) (w : World) (h0 : Nums .i64 w v0 l0) (h1 : Bys w v1 s) :
    Calls Try.prog 3 #[v0, v1] w fun e w' => e = .returned (.bool true) ∧ Below w.heap.size w w' := by
  obtain ⟨a1, cap1, rfl⟩ := h1.shape
  have hmx := h1.size_le
  simp only [maxLen] at hmx
  have HK := Lib.hid (known_true w)
  by_cases hlong : 200 < s.size
  · have hI : (200 : Int) < (s.size : Int) := by omega
    clear h0 h1
    go_enter Try.func3, Try.ntmps3
    go_wp2_with fail
    refine HK.out.mono ?_
    rintro e w1 ⟨rfl, hb1⟩
    go_wp2_with fail
    go_ret
    exact ⟨rfl, hb1⟩
  · have hI : ¬ ((200 : Int) < (s.size : Int)) := by omega
    have HTx := Lib.hid (fun W (hb : Below w.heap.size w W) => text_any v0 l0 (.slice a1 s.size cap1) s W (h0.below hb) (h1.below hb))
    have HB1 := Lib.hid (fun W (hb : Below w.heap.size w W) => h1.below hb)
    clear h0 h1
    go_enter Try.func3, Try.ntmps3
    go_wp2_with fail
    refine HK.out.mono ?_
    rintro e w1 ⟨rfl, hb1⟩
    have G1 := Lib.hid hb1
    clear hb1 HK
    go_wp2_with fail
    refine (HTx.out w1 G1.out).mono ?_
    rintro e w2 ⟨vt, t, rfl, hBt, ht, hb2⟩
    obtain ⟨at', ct, rfl⟩ := hBt.shape
    have G2 := Lib.hid (below_from G1.out hb2)
    obtain ⟨W0, hW0⟩ : ∃ W0, w2.alloc (.cells #[.slice at' t.size ct, .slice a1 s.size cap1] 23) = W0 := ⟨_, rfl⟩
    obtain ⟨B, hB⟩ : ∃ B, w2.heap.size = B := ⟨_, rfl⟩
    have hba := below_alloc w2 (.cells #[.slice at' t.size ct, .slice a1 s.size cap1] 23)
    have d0 : (w2.alloc (.cells #[.slice at' t.size ct, .slice a1 s.size cap1] 23)).cell? ⟨w2.heap.size, 0, none⟩ = some (.slice at' t.size ct) := at_new rfl
    have d1 : (w2.alloc (.cells #[.slice at' t.size ct, .slice a1 s.size cap1] 23)).cell? ⟨w2.heap.size, 1, none⟩ = some (.slice a1 s.size cap1) := at_new rfl
    rw [hW0] at hba d0 d1
    rw [hB] at d0 d1
    have HIn := Lib.hid (fun (k : Nat) (hk : k < 2) => show ∃ (a : Option Addr) (c : Nat) (z : ByteArray), W0.cell? ⟨B, k, none⟩ = some (.slice a z.size c) ∧ Bys W0 (.slice a z.size c) z ∧ z.size ≤ 1000 by
      rcases (show k = 0 ∨ k = 1 by omega) with rfl | rfl
      · exact ⟨_, _, t, d0, hBt.below hba, by omega⟩
      · exact ⟨_, _, s, d1, HB1.out W0 (below_from G2.out hba), by omega⟩)
    have G3 := Lib.hid (below_from G2.out hba)
    have HW0 := Lib.hid hW0
    have HB := Lib.hid hB
    clear hb2 hBt HTx hW0 hB hba d0 d1 HB1
    go_upto_region 6 with fail
    rw [HW0.out, HB.out]
    clear HW0 HB G2 G1
    go_wp2_with fail
    go_loopw [6] (fun kv wr => ∃ k : Nat, kv = .int .i64 k ∧ k ≤ 2 ∧ Below W0.heap.size W0 wr) (fun kv _ => 2 - (intOf kv).toNat)
    case atStart => exact ⟨0, rfl, by omega, Below.refl _ _⟩
    case round =>
      obtain ⟨k, rfl, hk, hb⟩ := hrel
      rename World => wa
      by_cases hk2 : k < 2
      · obtain ⟨az, cz, z, c0, hz, hz2⟩ := HIn.out k hk2
        have c0 := at_below hb c0
        have hz := hz.below hb
        have hi : (k : Int) < 2 := by omega
        obtain ⟨T, hT⟩ : ∃ T, Sc.tokens (Sc.nats z) = T := ⟨_, rfl⟩
        obtain ⟨t1, t2, -, t3⟩ := toks_short z hz2 T hT
        have htk := rTokens _ z wa hz
        have HTk := Lib.hid htk
        have HT := Lib.hid hT
        have HTf := Lib.hid (show T.length ≤ 100000 ∧ (∀ x ∈ T, x.2.1 ≤ 1000000) ∧ Rw.Tile 0 T from ⟨by omega, t2, t3⟩)
        have HRl := Lib.hid (show (Rw.rowsN T).length ≤ 1000 from Nat.le_trans (Rw.rowsF_len _ _ _ _) t1)
        have HB := Lib.hid hb
        clear htk hz hT t1 t2 t3 hb HIn
        go_wp2_with fail
        refine HTk.out.mono ?_
        intro e w4 hg4
        obtain ⟨p1, c1, rfl, R1, hb4⟩ := hg4.read
        rw [HT.out] at R1 ⊢
        have c0 := at_below hb4 c0
        have G4 := Lib.hid (below_from HB.out hb4)
        have hrw := fun bv => pRows bv _ T w4 R1 HTf.out.1 HTf.out.2.1
        have HRw := Lib.hid hrw
        have HR1 := Lib.hid R1
        clear hg4 R1 hb4 hrw HTk
        go_wp2_with fail
        refine (HRw.out _).mono ?_
        intro e w5 hg5
        obtain ⟨p2, c2, rfl, R2, hb5⟩ := hg5.read
        have hrr := rRows _ T 0 w5 (HR1.out.below hb5) HTf.out.1 HTf.out.2.1 HTf.out.2.2
        have HRr := Lib.hid hrr
        have HR2 := Lib.hid R2
        have G5 := Lib.hid (below_from G4.out hb5)
        clear hg5 R2 hb5 hrr HRw c0
        go_wp2_with fail
        refine HRr.out.mono ?_
        intro e w6 hg6
        obtain ⟨p3, c3, rfl, R3, hb6⟩ := hg6.read
        have R2 := HR2.out.below hb6
        have G6 := Lib.hid (below_from G5.out hb6)
        have HX := Lib.hid (fun W (hb : Below w6.heap.size w6 W) j x (hj : (Rw.rowsN T)[j]? = some x) => rows_at (R2.below hb) j x hj)
        have HY := Lib.hid (fun W (hb : Below w6.heap.size w6 W) j x (hj : (Rw.rowsN T)[j]? = some x) => rows_at (R3.below hb) j x hj)
        obtain ⟨Rs, hRs⟩ : ∃ Rs, Rw.rowsN T = Rs := ⟨_, rfl⟩
        rw [hRs] at HX HY HRl ⊢
        obtain ⟨n, hn⟩ : ∃ n, Rs.length = n := ⟨_, rfl⟩
        have HN := Lib.hid hn
        have hn1 := HRl.out
        rw [hn] at hn1 ⊢
        have dn : ((n : Int) != (n : Int)) = false := by simp
        have hgr := guard_row
        clear hg6 R2 R3 hb6 hRs hn HRl HRr HR2 HR1 G4 G5 HTf HT
        go_wp2_with fail
        go_loopw [10] (fun iv wr => ∃ i : Nat, iv = .int .i64 i ∧ i ≤ n ∧ Below w6.heap.size w6 wr) (fun iv _ => n - (intOf iv).toNat)
        case atStart => exact ⟨0, rfl, Nat.zero_le _, Below.refl _ _⟩
        case round =>
          obtain ⟨i, rfl, hin, hb⟩ := hrel
          by_cases hlt : i < n
          · obtain ⟨x, hx⟩ : ∃ x, Rs[i]? = some x := ⟨_, List.getElem?_eq_getElem (by rw [HN.out]; exact hlt)⟩
            obtain ⟨b, off, rfl, x0, x1, x2, x3⟩ := HX.out wr hb i x hx
            obtain ⟨b', off', rfl, y0, y1, y2, y3⟩ := HY.out wr hb i x hx
            have hii : (i : Int) < (n : Int) := by omega
            have he := neq_row x.kind x.from' x.to x.col
            have HBq := Lib.hid hb
            clear hx hb
            go_wp2_with fail
            go_quiet (fail)
            have HBn := Lib.hid (below_drewN HBq.out nq)
            clear x0 x1 x2 x3 y0 y1 y2 y3 he
            go_wp2
            go_roundw
            case rel => exact ⟨i + 1, by go_num, by omega, HBn.out⟩
            case measure => simp [intOf]; omega
          · obtain rfl : i = n := by omega
            have hii : ¬ ((i : Int) < (i : Int)) := by omega
            have HBq := Lib.hid (below_from G6.out hb)
            clear hb hlt
            go_wp2
            go_roundw
            case rel => exact ⟨k + 1, by go_num, by omega, HBq.out⟩
            case measure => simp [intOf]; omega
      · obtain rfl : k = 2 := by omega
        have HD := Lib.hid (below_from G3.out hb)
        clear hb hk2
        go_wp2
        go_ret
        exact ⟨rfl, HD.out⟩
end Go.Proofs.Ytaokjeopmhbddaa
