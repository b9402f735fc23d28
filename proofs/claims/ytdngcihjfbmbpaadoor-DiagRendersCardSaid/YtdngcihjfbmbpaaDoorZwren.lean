/- The walk of correctorlaw14.DiagRenders: any are written as the chapter's own words say, of any text. -/
import Derived.Test.YtdngcihjfbmbpaaDoorZlb
import Derived.Test.YtdngcihjfbmbpaaDoorZrd
import Derived.Test.YtdngcihjfbmbpaaDoorZrr
namespace Go.Proofs.YtdngcihjfbmbpaaDoor.Zm
open Go.RowKit
open Go.Proofs.YtdngcihjfbmbpaaDoor.Sq
open Go.Proofs.YtdngcihjfbmbpaaDoor.Zd
set_option linter.unusedVariables false

theorem wf2 (l : List Dg) (h : ∀ d ∈ l, Wf d) : ∀ d ∈ l, (Lit.int .i64 d.f).wf = true ∧ (Lit.int .i64 d.t).wf = true := fun d hd => (h d hd).2
set_option maxHeartbeats 8000000 in
set_option maxRecDepth 100000 in
theorem walk_DiagRenders (v : Value) (s : ByteArray) (dv : Value) (l : List Dg) (code : Int) (w : World) (hs : Bys w v s) (h : Reads encZ w dv l) (hwf : ∀ d ∈ l, Wf d) (_ : (Lit.int .i64 code).wf = true) (hTP : Tabs w ∧ Pow w) :
    Calls Tryd.prog 3 #[v, dv, .int .i64 code] w fun e w' => e = .returned (.bool true) ∧ Below w.heap.size w w' := by
  obtain ⟨a, cap, rfl⟩ := hs.shape
  obtain ⟨la, lc, rfl⟩ := h.shape
  obtain ⟨n, hn⟩ : ∃ n, l.length = n := ⟨_, rfl⟩
  obtain ⟨z, hz⟩ : ∃ z, s.size = z := ⟨_, rfl⟩
  have hl := h.size_le
  have hsl := hs.cap_le
  rw [hn] at hl
  rw [hz] at hsl
  have hl2 : n ≤ 9223372036854775807 := Nat.le_trans hl (by decide)
  have HZ := Lib.hid hz
  have HN := Lib.hid hn
  have HRp := Lib.hid (fun W v L (hW : Below w.heap.size w W) (hv : Reads encZ W v L) (hw : ∀ d ∈ L, Wf d) (hm : s.size ≤ 1000000) (hL : L.length ≤ 100000) => render s a cap v L W (hs.below hW) hv (hTP.1.below hW) (hTP.2.below hW) (wf2 L hw) hm hL)
  have HRr := Lib.hid (fun W v L (hW : Below w.heap.size w W) (hv : Reads encZ W v L) (hm : s.size ≤ 1000000) (hL : L.length ≤ 100000) => refRender s a cap v L W (hs.below hW) hv hm hL)
  have H := Lib.hid (show Reads encZ w (.slice la l.length lc) l from h)
  have HG := Lib.hid (good_any _ l w h)
  have HW := Lib.hid hwf
  rw [hn] at H HG ⊢
  rw [hz] at HRp HRr ⊢
  obtain ⟨B0, hB0⟩ : ∃ B0, w.heap.size = B0 := ⟨_, rfl⟩
  obtain ⟨Q, hQ⟩ : ∃ Q, (fun e (w' : World) => e = Ending.returned (.bool true) ∧ Below w.heap.size w w') = Q := ⟨_, rfl⟩
  have HQ := Lib.hid (show ∀ w', Below w.heap.size w w' → Q (.returned (.bool true)) w' from fun w' hb => by rw [← hQ]; exact ⟨rfl, hb⟩)
  rw [hQ]
  clear h hn hz hwf hs hTP hl hsl hB0 hQ
  go_enter Tryd.func3, Tryd.ntmps3
  go_wp2_with fail
  refine (known14 w).mono ?_
  rintro e w1 ⟨rfl, rfl⟩
  by_cases hc : 100 < z
  · have ii : (100 : Int) < (z : Int) := by omega
    have HD := Lib.hid (HQ.out w (Below.refl _ _))
    clear hc
    go_wp2_with fail
    first | exact HD.out | (go_ret; exact HD.out)
  · have ii : ¬ ((100 : Int) < (z : Int)) := by omega
    by_cases hd : 40 < n
    · have ij : (40 : Int) < (n : Int) := by omega
      have HD := Lib.hid (HQ.out w (Below.refl _ _))
      clear hc hd
      go_wp2_with fail
      first | exact HD.out | (go_ret; exact HD.out)
    · have ij : ¬ ((40 : Int) < (n : Int)) := by omega
      have hz1 : z ≤ 1000000 := by omega
      have hn1 : n ≤ 100000 := by omega
      go_wp2_with fail
      refine HG.out.mono ?_
      rintro e w1 ⟨gv, rfl, hg, hb1⟩
      have HGv := Lib.hid (show Reads encZ w1 gv (goodL l) from Reads.of_own (E := encZ) hg)
      have HB1 := Lib.hid hb1
      have hgl := goodL_len l
      have HGw := Lib.hid (goodL_wf l)
      clear hg hb1 HG
      generalize goodL l = G at HGv hgl HGw
      go_wp2_with fail
      go_loopw [8] (fun iv wr => ∃ c : Int, iv = .int .i64 c ∧ -1 ≤ c ∧ c ≤ 14 ∧ Hid (Below w1.heap.size w1 wr)) (fun iv _ => (14 - intOf iv).toNat)
      case atStart => exact ⟨-1, rfl, by decide, by decide, Lib.hid (Below.refl _ _)⟩
      case round =>
        obtain ⟨c, rfl, hc1, hc2, HB⟩ := hrel
        by_cases hlt : c < 14
        · have T1 := Lib.hid (fun W => text_any c W)
          have T2 := Lib.hid (fun W => refText c W)
          obtain ⟨X, hX⟩ : ∃ X, word c = X := ⟨_, rfl⟩
          rw [hX] at T1 T2
          clear hX
          go_wp2_with fail
          refine (T1.out wr).mono ?_
          rintro e w2 ⟨rfl, rfl⟩
          go_wp2_with fail
          refine (T2.out wr).mono ?_
          rintro e w2 ⟨rfl, hb2⟩
          have HBn := Lib.hid (HB.out.trans (hb2.mono HB.out.size))
          clear hb2
          go_wp2_with fail
          go_roundw
          case rel => exact ⟨c + 1, by go_num, by omega, by omega, HBn⟩
          case measure => simp [intOf]; omega
        · have ij2 : ¬ (c < 14) := hlt
          clear hlt
          have HBa := Lib.hid (below_from HB1.out HB.out)
          have HGx := Lib.hid (HGv.out.below HB.out)
          have S1 := Lib.hid (HRp.out wr gv G HBa.out HGx.out HGw.out hz1 (by omega))
          have S2 := Lib.hid (fun W (hW : Below w.heap.size w W) (hv : Reads encZ W gv G) => HRr.out W gv G hW hv hz1 (by omega))
          have S3 := Lib.hid (fun W (hW : Below w.heap.size w W) => HRp.out W (.slice la n lc) l hW (H.out.below hW) HW.out hz1 (by rw [HN.out]; exact hn1))
          have S4 := Lib.hid (fun W (hW : Below w.heap.size w W) => HRr.out W (.slice la n lc) l hW (H.out.below hW) hz1 (by rw [HN.out]; exact hn1))
          have T1 := Lib.hid (fun W => text_any code W)
          have T2 := Lib.hid (fun W => refText code W)
          obtain ⟨X, hX⟩ : ∃ X, rlB s G = X := ⟨_, rfl⟩
          obtain ⟨Y, hY⟩ : ∃ Y, rlB s l = Y := ⟨_, rfl⟩
          obtain ⟨Z, hZ⟩ : ∃ Z, word code = Z := ⟨_, rfl⟩
          rw [hX] at S1 S2
          rw [hY] at S3 S4
          rw [hZ] at T1 T2
          clear hX hY hZ HRp HRr H HGv HGw HB1 HB
          go_wp2_with fail
          refine S1.out.mono ?_
          rintro e w3 ⟨rfl, hb3⟩
          have HB3 := Lib.hid (below_from HBa.out hb3)
          have HG3 := Lib.hid (HGx.out.below hb3)
          clear hb3 S1
          go_wp2_with fail
          refine (S2.out w3 HB3.out HG3.out).mono ?_
          rintro e w4 ⟨rfl, hb4⟩
          have HB4 := Lib.hid (below_from HB3.out hb4)
          clear hb4 S2 HBa HG3 HGx HB3
          go_wp2_with fail
          refine (S3.out w4 HB4.out).mono ?_
          rintro e w5 ⟨rfl, hb5⟩
          have HB5 := Lib.hid (below_from HB4.out hb5)
          clear hb5 S3 HB4
          go_wp2_with fail
          refine (S4.out w5 HB5.out).mono ?_
          rintro e w6 ⟨rfl, hb6⟩
          have HB6 := Lib.hid (below_from HB5.out hb6)
          clear hb6 S4 HB5
          go_wp2_with fail
          refine (T1.out w6).mono ?_
          rintro e w7 ⟨rfl, rfl⟩
          go_wp2_with fail
          refine (T2.out w6).mono ?_
          rintro e w8 ⟨rfl, hb8⟩
          have HD := Lib.hid (HQ.out w8 (below_from HB6.out hb8))
          clear hb8 HB6
          go_wp2_with fail
          first | exact HD.out | (go_ret; exact HD.out)
end Go.Proofs.YtdngcihjfbmbpaaDoor.Zm
