/- The walk of the law RowsOrder: entries stand in order. -/
import Derived.Test.YtaokjeopmhbddaaTfa
namespace Go.Proofs.Ytaokjeopmhbddaa
open Go.RowKit
open Go.Proofs.Ytaokjeopmhbddaa.Sg
open Go.Proofs.Ytaokjeopmhbddaa.Sq
set_option linter.unusedVariables false

namespace Rw
/-- What holds of the entries of a row of a text. -/
theorem ents_good {T : List Tk} (ht : Tile 0 T) (r : R) (h1 : r.from' < r.to) (h2 : r.to ≤ T.length) :
    Ord r.from' (-1) (ents T r).1 ∧ r.from' ≤ (ents T r).2 ∧ (ents T r).2 ≤ r.to ∧ restOf (ents T r).2 (ents T r).1 = (ents T r).2 := by
  unfold ents
  by_cases hk : r.kind = 5
  · rw [if_pos hk]
    obtain ⟨q, hq⟩ := ht.drop r.from'
    have hq2 := tile_take (r.to - r.from') q hq
    have hl : ((T.drop r.from').take (r.to - r.from')).length = r.to - r.from' := by rw [List.length_take, List.length_drop]; omega
    have h3 := rest_in r.from' ((T.drop r.from').take (r.to - r.from'))
    refine ⟨ents_ord hq2 _, rest_ge hq2 _, ?_, ?_⟩
    · have := h3.2.2; rw [hl] at this; show restB _ _ ≤ _; omega
    · show restOf (restB _ _) (entsB _ _) = restB _ _
      unfold restOf
      cases hg : (entsB r.from' ((T.drop r.from').take (r.to - r.from'))).getLast? with
      | none => rfl
      | some e => exact (h3.2.1 e hg).symm
  · rw [if_neg hk]
    exact ⟨trivial, Nat.le_refl _, Nat.le_of_lt h1, rfl⟩
theorem ord_at {p : Nat} {c : Int} {L : List E} {k : Nat} {z : E} (h : Ord p c (L.drop k)) (hz : L[k]? = some z) : p ≤ z.from' ∧ z.from' < z.to ∧ c < z.col ∧ (z.dash = true ∨ k + 1 = L.length) ∧ Ord z.to z.col (L.drop (k + 1)) := by
  have hi := (List.getElem?_eq_some_iff.1 hz).1
  have e := (List.getElem?_eq_some_iff.1 hz).2
  rw [List.drop_eq_getElem_cons hi, e] at h
  obtain ⟨h1, h2, h3, h4, h5⟩ := h
  refine ⟨h1, h2, h3, ?_, h5⟩
  rcases h4 with h4 | h4
  · exact .inl h4
  · right
    have := congrArg List.length h4
    rw [List.length_drop] at this
    simp at this
    omega
theorem restOf_take (A : Nat) (L : List E) (k : Nat) (z : E) (hz : L[k]? = some z) : restOf A (L.take (k + 1)) = z.to := by
  rw [List.take_add_one, hz]
  exact restOf_snoc A _ z
theorem restOf_any (A B : Nat) (L : List E) (h : L ≠ []) : restOf A L = restOf B L := by
  unfold restOf
  cases hg : L.getLast? with
  | none => rw [List.getLast?_eq_none_iff] at hg; exact absurd hg h
  | some e => rfl
end Rw
theorem at_drewN {W : World} {p : Addr} {u : Value} (h : W.cell? p = some u) (n : Nat) : (W.drewN n).cell? p = some u := at_below (below_drewN (Below.refl _ _) n) h
set_option maxHeartbeats 8000000 in
set_option maxRecDepth 100000 in
theorem walk_RowsOrder (v0 : Value) (l0 : List Int) (v1 : Value) (s : ByteArray) (w : World) (h0 : Nums .i64 w v0 l0) (h1 : Bys w v1 s) :
    Calls Try.prog 6 #[v0, v1] w fun e w' => e = .returned (.bool true) ∧ Below w.heap.size w w' := by
  obtain ⟨a1, cap1, rfl⟩ := h1.shape
  have hmx := h1.size_le
  simp only [maxLen] at hmx
  have HK := Lib.hid (known_true w)
  have HTx := Lib.hid (fun W (hb : Below w.heap.size w W) => text_any v0 l0 (.slice a1 s.size cap1) s W (h0.below hb) (h1.below hb))
  clear h0 h1
  go_enter Try.func6, Try.ntmps6
  go_wp2_with fail
  refine HK.out.mono ?_
  rintro e w1 ⟨rfl, hb1⟩
  have G1 := Lib.hid hb1
  clear hb1 HK
  go_wp2_with fail
  refine (HTx.out w1 G1.out).mono ?_
  rintro e w2 ⟨vt, t, rfl, hBt, ht, hb2⟩
  have G2 := Lib.hid (below_from G1.out hb2)
  obtain ⟨T, hT⟩ : ∃ T, Sc.tokens (Sc.nats t) = T := ⟨_, rfl⟩
  obtain ⟨t1, t2, -, t3⟩ := toks_short t (by omega) T hT
  have htk := rTokens _ t w2 hBt
  have HTk := Lib.hid htk
  have HT := Lib.hid hT
  have HTf := Lib.hid (show T.length ≤ 100000 ∧ (∀ x ∈ T, x.2.1 ≤ 1000000) ∧ Rw.Tile 0 T from ⟨by omega, t2, t3⟩)
  have HRl := Lib.hid (show (Rw.rowsN T).length ≤ 1000 from Nat.le_trans (Rw.rowsF_len _ _ _ _) t1)
  have HTl := Lib.hid t1
  clear htk hT t1 t2 t3 hb2 hBt HTx ht
  go_wp2_with fail
  refine HTk.out.mono ?_
  intro e w3 hg3
  obtain ⟨p1, c1, rfl, R1, hb3⟩ := hg3.read
  rw [HT.out] at R1 ⊢
  have G3 := Lib.hid (below_from G2.out hb3)
  have hrr := rRows _ T 0 w3 R1 HTf.out.1 HTf.out.2.1 HTf.out.2.2
  have HRr := Lib.hid hrr
  have HR1 := Lib.hid R1
  clear hg3 R1 hb3 hrr HTk
  go_wp2_with fail
  refine HRr.out.mono ?_
  intro e w4 hg4
  obtain ⟨p2, c2, rfl, R2, hb4⟩ := hg4.read
  have G4 := Lib.hid (below_from G3.out hb4)
  have R1 := HR1.out.below hb4
  have HX := Lib.hid (fun W (hb : Below w4.heap.size w4 W) j x (hj : (Rw.rowsN T)[j]? = some x) => rows_at (R2.below hb) j x hj)
  have HRT := Lib.hid (fun W (hb : Below w4.heap.size w4 W) => R1.below hb)
  have HIn := Lib.hid (Rw.rows_in T)
  obtain ⟨Rs, hRs⟩ : ∃ Rs, Rw.rowsN T = Rs := ⟨_, rfl⟩
  rw [hRs] at HX HRl HIn ⊢
  obtain ⟨n, hn⟩ : ∃ n, Rs.length = n := ⟨_, rfl⟩
  have HN := Lib.hid hn
  have hn1 := HRl.out
  rw [hn] at hn1 ⊢
  clear hg4 R1 R2 hb4 hRs hn HRl HRr HR1 G3 G2 G1 HT
  go_wp2_with fail
  go_loopw [8] (fun iv wr => ∃ i : Nat, iv = .int .i64 i ∧ i ≤ n ∧ Below w4.heap.size w4 wr) (fun iv _ => n - (intOf iv).toNat)
  case atStart => exact ⟨0, rfl, Nat.zero_le _, Below.refl _ _⟩
  case round =>
    obtain ⟨i, rfl, hin, hb⟩ := hrel
    rename World => wa
    by_cases hlt : i < n
    · obtain ⟨x, hx⟩ : ∃ x, Rs[i]? = some x := ⟨_, List.getElem?_eq_getElem (by rw [HN.out]; exact hlt)⟩
      obtain ⟨b, off, rfl, x0, x1, x2, x3⟩ := HX.out wa hb i x hx
      have hxi := HIn.out x (List.mem_of_getElem? hx)
      have hii : (i : Int) < (n : Int) := by omega
      have hen := fun bv => pEntries bv _ T x wa (HRT.out wa hb) HTf.out.1 HTf.out.2.1 (Nat.le_of_lt hxi.1) hxi.2
      have HEn := Lib.hid hen
      have HB := Lib.hid hb
      have HXi := Lib.hid hxi
      clear hx hb hxi hen
      go_wp2_with fail
      refine (HEn.out _).mono ?_
      intro e w5 hg5
      obtain ⟨p3, c3, rfl, R3, hb5⟩ := hg5.read
      have HB5 := Lib.hid (below_from HB.out hb5)
      obtain ⟨L, hL⟩ : ∃ L, (Rw.ents T x).1 = L := ⟨_, rfl⟩
      obtain ⟨N1, hN1⟩ : ∃ N1, (Rw.ents T x).2 = N1 := ⟨_, rfl⟩
      have hgd := Rw.ents_good HTf.out.2.2 x HXi.out.1 HXi.out.2
      rw [hL] at R3 hgd ⊢
      rw [hN1] at hgd ⊢
      obtain ⟨g1, g2, g3, g4⟩ := hgd
      have x0 := at_below hb5 x0
      have x1 := at_below hb5 x1
      have x2 := at_below hb5 x2
      have HE := Lib.hid (fun W (hb : Below w5.heap.size w5 W) j z (hj : L[j]? = some z) => ents_at (R3.below hb) j z hj)
      obtain ⟨m, hm⟩ : ∃ m, L.length = m := ⟨_, rfl⟩
      have hsz := R3.size_le
      have HM := Lib.hid hm
      simp only [maxLen] at hsz
      rw [hm] at hsz ⊢
      obtain ⟨F, hF⟩ : ∃ F, x.from' = F := ⟨_, rfl⟩
      rw [hF] at g1 g2 x1
      have HO0 := Lib.hid g1
      have HG4 := Lib.hid g4
      have hxl := HXi.out.2
      have htl := HTl.out
      have HX2 := Lib.hid (fun W (hb : Below w5.heap.size w5 W) => at_below hb x2)
      clear hg5 R3 hb5 hL hN1 hm g1 g4 hF HEn
      go_wp2_with fail
      go_loopw [11, 12, 13] (fun av cv kv wr => ∃ (k p : Nat) (c : Int), kv = .int .i64 k ∧ av = .int .i64 p ∧ cv = .int .i64 c ∧ k ≤ m ∧ Hid (Rw.Ord p c (L.drop k)) ∧ Hid (p = Rw.restOf F (L.take k)) ∧ Below w5.heap.size w5 wr) (fun _ _ kv _ => m - (intOf kv).toNat)
      case atStart => exact ⟨0, F, -1, rfl, rfl, rfl, Nat.zero_le _, HO0, Lib.hid rfl, Below.refl _ _⟩
      case round =>
        obtain ⟨k, p, c, rfl, rfl, rfl, hk, HO, HP, hb⟩ := hrel
        by_cases hkm : k < m
        · obtain ⟨z, hz⟩ : ∃ z, L[k]? = some z := ⟨_, List.getElem?_eq_getElem (by rw [HM.out]; exact hkm)⟩
          obtain ⟨b', off', rfl, y0, y1, y2, y3⟩ := HE.out wr hb k z hz
          obtain ⟨o1, o2, o3, o4, o5⟩ := Rw.ord_at HO.out hz
          have HP2 := Lib.hid (Rw.restOf_take F L k z hz).symm
          have HO2 := Lib.hid o5
          rw [HM.out] at o4
          have hkk : (k : Int) < (m : Int) := by omega
          have e1 : decide ((z.from' : Int) < (p : Int)) = false := by simp; omega
          have e2 : decide ((z.to : Int) ≤ (z.from' : Int)) = false := by simp; omega
          have e3 : decide (z.col ≤ c) = false := by simp; omega
          have HBq := Lib.hid hb
          obtain ⟨d, hd⟩ : ∃ d, z.dash = d := ⟨_, rfl⟩
          rw [hd] at y0 o4
          clear hz hb o5 hd x0 x1 x2
          cases d with
          | true =>
            clear o4
            go_wp2_with fail
            go_quiet (fail)
            have hq1 := below_drewN HBq.out nq
            have y1 := at_drewN y1 nq
            have y3 := at_drewN y3 nq
            generalize wr.drewN nq = wb at *
            clear y0 y2 e1 e2 e3
            go_wp2_with fail
            go_quiet (fail)
            have HBn := Lib.hid (below_drewN hq1 nq)
            clear y1 y3 hq1
            go_wp2
            go_roundw
            case rel => exact ⟨k + 1, z.to, z.col, by go_num, rfl, rfl, by omega, HO2, HP2, HBn.out⟩
            case measure => simp [intOf]; omega
          | false =>
            have hke : k + 1 = m := o4.resolve_left (by decide)
            have hki : decide ((k : Int) + 1 < (m : Int)) = false := by simp; omega
            have hwk := IntWalk.i64_in ((k : Int) + 1) (by omega)
            clear o4 hke
            go_wp2_with fail
            go_quiet (fail)
            have hq1 := below_drewN HBq.out nq
            have y1 := at_drewN y1 nq
            have y3 := at_drewN y3 nq
            generalize wr.drewN nq = wb at *
            clear y0 y2 e1 e2 e3
            go_wp2_with fail
            go_quiet (fail)
            have HBn := Lib.hid (below_drewN hq1 nq)
            clear y1 y3 hq1
            go_wp2
            go_roundw
            case rel => exact ⟨k + 1, z.to, z.col, by go_num, rfl, rfl, by omega, HO2, HP2, HBn.out⟩
            case measure => simp [intOf]; omega
        · obtain rfl : k = m := by omega
          have hkk : ¬ ((k : Int) < (k : Int)) := by omega
          have hp := HP.out
          rw [List.take_of_length_le (by rw [HM.out]; exact Nat.le_refl _)] at hp
          have x2 := HX2.out wr hb
          have HBq := Lib.hid (below_from HB5.out hb)
          have i2 : ¬ ((x.to : Int) < (N1 : Int)) := by omega
          by_cases hk0 : k = 0
          · have hL0 : L = [] := List.eq_nil_of_length_eq_zero (by rw [HM.out]; exact hk0)
            have hpF : p = F := by rw [hp, hL0]; rfl
            have i1 : ¬ ((N1 : Int) < (p : Int)) := by omega
            subst hk0
            clear hb hkm hp hL0 hpF
            go_wp2_with fail
            go_roundw
            case rel => exact ⟨i + 1, by go_num, by omega, HBq.out⟩
            case measure => simp [intOf]; omega
          · have hL0 : L ≠ [] := fun e => hk0 (by rw [← HM.out, e]; rfl)
            have hpN : p = N1 := by rw [hp, Rw.restOf_any F N1 L hL0]; exact HG4.out
            have i1 : ¬ ((N1 : Int) < (N1 : Int)) := by omega
            have i3 : (0 : Int) < (k : Int) := by omega
            have i4 : ((N1 : Int) != (N1 : Int)) = false := by simp
            subst hpN
            clear hb hkm hp hL0 hk0
            go_wp2_with fail
            go_roundw
            case rel => exact ⟨i + 1, by go_num, by omega, HBq.out⟩
            case measure => simp [intOf]; omega
    · obtain rfl : i = n := by omega
      have HD := Lib.hid (below_from G4.out hb)
      have hii : ¬ ((i : Int) < (i : Int)) := by omega
      clear hb hlt
      go_wp2
      go_ret
      exact ⟨rfl, HD.out⟩
end Go.Proofs.Ytaokjeopmhbddaa
