/- The chapter's own rows (correctorref9.Rows). -/
import Derived.Test.YtaokjeopmhbddaaRz
import Derived.Test.YtaokjeopmhbddaaMd
import Derived.Lib.SmallJoins
import Derived.Deep.DeepCutAuto
import Derived.Deep.CutBlock
import Derived.BigRegion
namespace Go.Proofs.Ytaokjeopmhbddaa.Rw
/-- So many tokens of the row that begins at a place. -/
abbrev seen (l : List Tk) (fr j : Nat) : List Tk := (l.drop fr).take j
theorem seen_tile {q : Nat} {l : List Tk} (h : Tile q l) (fr j : Nat) : ∃ p, Tile p (seen l fr j) := by
  obtain ⟨p, hp⟩ := h.drop fr
  exact ⟨p, tile_take j p hp⟩
end Go.Proofs.Ytaokjeopmhbddaa.Rw
namespace Go.Proofs.Ytaokjeopmhbddaa
open Go.RowKit
open Go.Proofs.Ytaokjeopmhbddaa.Sg
open Go.Proofs.Ytaokjeopmhbddaa.Sq
set_option linter.unusedVariables false

/-- A row's four cells lie in block b. -/
def RB (w : World) (b : Nat) (k f t c : Int) : Prop := w.heap[b]? = some (.cells #[.int .i64 k, .int .i64 f, .int .i64 t, .int .i64 c] 33 (0, 0))
section
variable {w w' : World} {b : Nat} {k f t c : Int}
theorem RB.cs (h : RB w b k f t c) : w.cell? ⟨b, 0, none⟩ = some (.int .i64 k) ∧ w.cell? ⟨b, 1, none⟩ = some (.int .i64 f) ∧ w.cell? ⟨b, 2, none⟩ = some (.int .i64 t) ∧ w.cell? ⟨b, 3, none⟩ = some (.int .i64 c) :=
  ⟨(Joins.cell_of_block h 0).trans rfl, (Joins.cell_of_block h 1).trans rfl, (Joins.cell_of_block h 2).trans rfl, (Joins.cell_of_block h 3).trans rfl⟩
theorem RB.fz (h : RB w b k f t c) (o : Nat) : w.frozen? ⟨b, o, none⟩ = false := Joins.unfrozen_of_block h o
theorem RB.lt (h : RB w b k f t c) : b < w.heap.size := (Array.getElem?_eq_some_iff.1 h).1
theorem RB.below (h : RB w b k f t c) (hb : Below w.heap.size w w') : RB w' b k f t c := (hb.block b h.lt).trans h
theorem RB.set0 (h : RB w b k f t c) (u : Int) : RB (w.setCell ⟨b, 0, none⟩ (.int .i64 u)) b u f t c := Joins.block_setCell h _
theorem RB.set2 (h : RB w b k f t c) (u : Int) : RB (w.setCell ⟨b, 2, none⟩ (.int .i64 u)) b k f u c := Joins.block_setCell h _
theorem RB.set3 (h : RB w b k f t c) (u : Int) : RB (w.setCell ⟨b, 3, none⟩ (.int .i64 u)) b k f t u := Joins.block_setCell h _
theorem RB.new (w : World) (k f t c : Int) : RB (w.alloc (.cells #[.int .i64 k, .int .i64 f, .int .i64 t, .int .i64 c] 33)) w.heap.size k f t c := heap_alloc_new w _
end
theorem below_set {B b : Nat} {a w : World} (h : Below B a w) (hB : B ≤ b) (o : Nat) (u : Value) : Below B a (w.setCell ⟨b, o, none⟩ u) := h.setCell (p := ⟨b, o, none⟩) hB u

set_option maxHeartbeats 8000000 in
set_option maxRecDepth 100000 in
theorem rRows (v : Value) (l : List Tk) (q : Nat) (w : World) (h : Reads encT w v l) (hs : l.length ≤ 100000) (hf : ∀ x ∈ l, x.2.1 ≤ 1000000) (ht : Rw.Tile q l) :
    Calls Try.prog 13 #[v] w (GivesR (Rw.rowsN l) w) := by
  obtain ⟨a, cap, rfl⟩ := h.shape
  have H := Lib.hid (fun W (hb : Below w.heap.size w W) j x (hj : l[j]? = some x) => toks_at (h.below hb) j x hj)
  have HF := Lib.hid hf
  have HT := Lib.hid ht
  have HSt := Lib.hid (Rw.rows_from l)
  have HEn := Lib.hid (Rw.rows_done l)
  have HRe := Lib.hid (Rw.row_ends l)
  have hat : Rw.rowsAt 0 0 l = Rw.rowsN l := rfl
  obtain ⟨Rs, hRs⟩ : ∃ Rs, Rw.rowsN l = Rs := ⟨_, rfl⟩
  rw [hRs] at hat ⊢
  have HG := Lib.hid (fun e w' => show (∃ u, e = .returned u ∧ w'.ownsRow w.heap.size 33 4 u Rs.length (encR.all Rs) ∧ Below w.heap.size w w') → GivesR Rs w e w' from fun h => h)
  obtain ⟨Q, hQ⟩ : ∃ Q, GivesR Rs w = Q := ⟨_, rfl⟩
  rw [hQ] at HG ⊢
  obtain ⟨N, hN⟩ : ∃ N, l.length = N := ⟨_, rfl⟩
  have HN := Lib.hid hN
  have hcp := h.cap_le
  rw [hN] at hcp hs
  unfold maxLen at hcp
  rw [hN]
  have HAt := Lib.hid hat
  clear h hf hRs hN hQ hat ht
  go_enter Try.func13, Try.ntmps13
  go_wp2_with fail
  go_loopw [3, 4, 5] (fun lv ov fv wr => ∃ (fr op : Nat) (done : List Rw.R), fv = .int .i64 fr ∧ ov = .int .i64 op ∧ fr ≤ N ∧ op ≤ fr ∧ done.length ≤ fr ∧ Hid (done ++ Rw.rowsAt op fr (l.drop fr) = Rs) ∧ wr.ownsRow w.heap.size 33 4 lv done.length (encR.all done) ∧ Below w.heap.size w wr) (fun _ _ fv _ => N - (intOf fv).toNat)
  case atStart =>
    exact ⟨0, 0, [], rfl, rfl, Nat.zero_le _, Nat.le_refl _, Nat.le_refl _, Lib.hid (by rw [List.nil_append, List.drop_zero]; exact HAt.out), own_nil encR _ _, Below.refl _ w⟩
  case round =>
    rename World => w0
    obtain ⟨fr, op, done, rfl, rfl, hfr, hop, hdl, HE, hown, hb⟩ := hrel
    by_cases hlt : fr < N
    · have hi : (fr : Int) < (N : Int) := by omega
      have HO := Lib.hid hown
      have HB := Lib.hid hb
      obtain ⟨y, hy⟩ : ∃ y, l[fr]? = some y := ⟨_, List.getElem?_eq_getElem (by rw [HN.out]; exact hlt)⟩
      have HY := Lib.hid hy
      have hne : l.drop fr ≠ [] := fun e => by have := congrArg List.length e; rw [List.length_drop, HN.out] at this; simp at this; omega
      have hrp := Rw.rlen_pos _ hne
      have hrl := Rw.rlen_le (l.drop fr)
      rw [List.length_drop, HN.out] at hrl
      have hst := HSt.out op fr (by rw [HN.out]; exact hlt)
      obtain ⟨R, hR⟩ : ∃ R, Rw.rlen (l.drop fr) = R := ⟨_, rfl⟩
      rw [hR] at hst hrp hrl
      have HR := Lib.hid hR
      have HSt2 := Lib.hid hst
      obtain ⟨row, hrow⟩ : ∃ row, Rw.seen l fr R = row := ⟨_, rfl⟩
      have HRow := Lib.hid hrow
      have hR1 : fr + R ≤ N := by omega
      obtain ⟨rb, hrb⟩ : ∃ rb, w0.heap.size = rb := ⟨_, rfl⟩
      have HRb := Lib.hid hrb
      have hnew := RB.new w0 1 fr 0 (-1)
      rw [hrb] at hnew
      obtain ⟨wa, hwa⟩ : ∃ wa, w0.alloc (.cells #[.int .i64 1, .int .i64 fr, .int .i64 0, .int .i64 (-1)] 33) = wa := ⟨_, rfl⟩
      have hba := below_alloc w0 (.cells #[.int .i64 1, .int .i64 fr, .int .i64 0, .int .i64 (-1)] 33)
      rw [hwa] at hnew hba
      have HNew := Lib.hid hnew
      have HBa := Lib.hid hba
      have HWa := Lib.hid hwa
      clear hne hst hR hrow hrb hnew hwa hba hy hown hb HEn HSt HG
      go_upto_block 2 with fail
      rw [HWa.out, HRb.out]
      go_cut [4, 5] (fun ov av wx => ov = .int .i64 (Rw.opnL op row : Nat) ∧ av = .int .i64 (fr + R : Nat) ∧ RB wx rb (Rw.kindP row : Nat) fr 0 (Rw.colOf row) ∧ Below w0.heap.size w0 wx)
      case first =>
        go_wp2_with fail
        go_loopw [4, 5] (fun ov av wx => ∃ j : Nat, av = .int .i64 (fr + j : Nat) ∧ ov = .int .i64 (Rw.opnL op (Rw.seen l fr j) : Nat) ∧ fr + j ≤ N ∧ Hid (∀ i x, i < j → l[fr + i]? = some x → Rw.ends x = false) ∧ RB wx rb (Rw.kindP (Rw.seen l fr j) : Nat) fr 0 (Rw.colOf (Rw.seen l fr j)) ∧ Below w0.heap.size w0 wx) (fun _ av _ => N - (intOf av).toNat)
        case atStart => exact ⟨0, rfl, rfl, by omega, Lib.hid (fun i x h => absurd h (Nat.not_lt_zero i)), HNew.out, HBa.out⟩
        case round =>
          obtain ⟨j, rfl, rfl, hj, HA, hrb, hbx⟩ := hrel
          by_cases hjl : fr + j < N
          · obtain ⟨x, hx⟩ : ∃ x, l[fr + j]? = some x := ⟨_, List.getElem?_eq_getElem (by rw [HN.out]; exact hjl)⟩
            have hseen := Rw.seen_next l fr j x hx
            obtain ⟨p, hp⟩ := Rw.seen_tile HT.out fr j
            have hneg := Rw.col_neg hp
            have hks := Rw.kind_step (Rw.seen l fr j) x
            have hcs := Rw.col_step (Rw.seen l fr j) x
            have hos := Rw.opnL_snoc op (Rw.seen l fr j) x
            rw [← hseen] at hks hcs hos
            rw [Rw.headF_seen l fr (j + 1) y HY.out (by omega)] at hcs
            have hole : Rw.opnL op (Rw.seen l fr j) ≤ op + j := by
              have := Rw.opnL_le (Rw.seen l fr j) op
              have : (Rw.seen l fr j).length ≤ j := List.length_take_le j (l.drop fr)
              omega
            have hx1 := HF.out x (List.mem_of_getElem? hx)
            have hy1 := HF.out y (List.mem_of_getElem? HY.out)
            obtain ⟨K0, hK0⟩ : ∃ K0, Rw.kindP (Rw.seen l fr j) = K0 := ⟨_, rfl⟩
            obtain ⟨C0, hC0⟩ : ∃ C0, Rw.colOf (Rw.seen l fr j) = C0 := ⟨_, rfl⟩
            obtain ⟨O0, hO0⟩ : ∃ O0, Rw.opnL op (Rw.seen l fr j) = O0 := ⟨_, rfl⟩
            obtain ⟨K1, hK1⟩ : ∃ K1, Rw.kindP (Rw.seen l fr (j + 1)) = K1 := ⟨_, rfl⟩
            obtain ⟨C1, hC1⟩ : ∃ C1, Rw.colOf (Rw.seen l fr (j + 1)) = C1 := ⟨_, rfl⟩
            obtain ⟨O1, hO1⟩ : ∃ O1, Rw.opnL op (Rw.seen l fr (j + 1)) = O1 := ⟨_, rfl⟩
            obtain ⟨F0, hF0⟩ : ∃ F0, (Rw.firstC (Rw.seen l fr j)).isNone = F0 := ⟨_, rfl⟩
            have hex : ∀ (e : Rw.ends x = true), R = j + 1 := fun e => by
              rw [← HR.out]
              refine HRe.out fr (j + 1) (by omega) (fun i z hi hz => HA.out i z (by omega) hz) (.inr ⟨x, ?_, e⟩)
              rw [show fr + (j + 1) - 1 = fr + j from by omega]; exact hx
            rw [hK0] at hks hrb
            rw [hC0] at hcs hrb hneg
            rw [hO0] at hos hole
            rw [hK1] at hks
            rw [hC1] at hcs
            rw [hO1] at hos
            rw [hF0] at hks hcs hneg
            obtain ⟨b, off, rfl, c0, c1, c2⟩ := H.out wr (HB.out.trans (hbx.mono HB.out.size)) (fr + j) x hx
            obtain ⟨b', off', he, d0, d1, d2⟩ := H.out wr (HB.out.trans (hbx.mono HB.out.size)) fr y HY.out
            injection he with he
            injection he with e1 e2
            subst e1 e2
            have HRb1 := Lib.hid hrb
            have HBx := Lib.hid hbx
            obtain ⟨k0, k1, k2, k3⟩ := hrb.cs
            have z0 := hrb.fz 0
            have z3 := hrb.fz 3
            have hj1 : ((fr + j : Nat) : Int) < (N : Int) := by omega
            have HCo := Lib.hid (fun W => refCounts x.1 W)
            have HEx := Lib.hid hex
            have HA1 := Lib.hid (show Rw.ends x = false → ∀ i z, i < j + 1 → l[fr + i]? = some z → Rw.ends z = false from fun e i z hi hz => by
              rcases Nat.lt_succ_iff_lt_or_eq.1 hi with h | h
              · exact HA.out i z h hz
              · subst h; rw [hx] at hz; injection hz with hz; subst hz; exact e)
            have HSn := Lib.hid hR1
            obtain ⟨CN, hCN⟩ : ∃ CN, Sc.counts x.1 = CN := ⟨_, rfl⟩
            obtain ⟨MK, hMK⟩ : ∃ MK, Rw.isMark x.1 = MK := ⟨_, rfl⟩
            obtain ⟨K, hK⟩ : ∃ K, x.1 = K := ⟨_, rfl⟩
            obtain ⟨EN, hEN⟩ : ∃ EN, Rw.ends x = EN := ⟨_, rfl⟩
            rw [hCN] at HCo hks hcs
            rw [hMK] at hks
            rw [hEN] at HEx HA1
            have hen : EN = (K == 1 || K == 19) := by rw [← hEN, ← hK]; rfl
            have hmk : MK = (K == 20 || K == 21) := by rw [← hMK, ← hK]; rfl
            rw [hK] at c0 hos HCo
            have HK1 := Lib.hid hks
            have HC1 := Lib.hid hcs
            have HO1 := Lib.hid hos
            have HEn2 := Lib.hid hen
            have HMk := Lib.hid hmk
            have HK1e := Lib.hid hK1
            have HC1e := Lib.hid hC1
            have HO1e := Lib.hid hO1
            have HRb0 := Lib.hid HRb.out
            clear hks hcs hos hen hmk hex hEN hMK hCN hK hK0 hC0 hF0 hseen hp hrb hbx hx HA hK1 hC1 hO1 H HF HT HRe HSt2 HNew HBa HWa HRb HE
            obtain ⟨D, hD⟩ : ∃ D, (F0 && CN) = D := ⟨_, rfl⟩
            have HD := Lib.hid hD
            clear hD
            rw [hO0]
            go_upto_region 9 with fail
            go_cut [32] (fun q wy => q = .bool D ∧ wr = wy)
            case first =>
              cases F0 with
              | true =>
                have hn : C0 < 0 := hneg.2 rfl
                clear hneg
                go_wp2_with fail
                refine (HCo.out _).mono ?_
                rintro e w2 ⟨rfl, rfl⟩
                go_wp2_with fail
                go_meet
                exact ⟨by rw [← HD.out]; simp, rfl⟩
              | false =>
                have hn : ¬ C0 < 0 := fun h => by have := hneg.1 h; cases this
                clear hneg
                go_wp2_with fail
                go_meet
                exact ⟨by rw [← HD.out]; simp, rfl⟩
            case rest =>
            obtain ⟨rfl, rfl⟩ := hcut
            go_upto_if 32 with fail
            go_cut [6] (fun q wy => q = .pointer (some ⟨rb, 0, none⟩) ∧ RB wy rb K1 fr 0 C1 ∧ Below w0.heap.size w0 wy)
            case first =>
              cases D with
              | false =>
                have hnd : ¬ (F0 = true ∧ CN = true) := fun h => by have := HD.out; rw [h.1, h.2] at this; cases this
                have hk2 := HK1.out
                have hc2 := HC1.out
                rw [if_neg hnd] at hk2 hc2
                subst hk2 hc2
                clear hneg hnd
                go_wp2_with fail
                go_meet
                exact ⟨rfl, HRb1.out, HBx.out⟩
              | true =>
                  obtain ⟨hf1, hc1⟩ : F0 = true ∧ CN = true := by have := HD.out; simpa using this
                  subst hf1 hc1
                  have hc2 := HC1.out
                  rw [if_pos ⟨rfl, rfl⟩] at hc2
                  have hk2 := HK1.out
                  rw [if_pos ⟨rfl, rfl⟩] at hk2
                  have hw := IntWalk.i64_in ((x.2.1 : Int) - (y.2.1 : Int)) (by omega)
                  have HR5 := Lib.hid (((HRb1.out).set3 ((x.2.1 : Int) - (y.2.1 : Int))).set0 5)
                  have HB5 := Lib.hid (below_set (below_set HBx.out (Nat.le_of_eq HRb0.out) 3 (.int .i64 ((x.2.1 : Int) - (y.2.1 : Int)))) (Nat.le_of_eq HRb0.out) 0 (.int .i64 5))
                  clear hneg
                  go_wp2_with fail
                  go_region
                  cases MK with
                  | false =>
                    have hnk : ¬ K = 20 ∧ ¬ K = 21 := by have := HMk.out; simpa using this.symm
                    have g20 : ((K : Int) == 20) = false := by simp; omega
                    have g21 : ((K : Int) == 21) = false := by simp; omega
                    obtain rfl : K1 = 5 := hk2
                    subst hc2
                    clear hnk
                    go_wp2_with fail
                    go_meet
                    exact ⟨rfl, HR5.out, HB5.out.drew⟩
                  | true =>
                    have hnk : K = 20 ∨ K = 21 := by have := HMk.out; simpa using this.symm
                    obtain rfl : K1 = 4 := hk2
                    subst hc2
                    have HR4 := Lib.hid (HR5.out.set0 4)
                    have HB4 := Lib.hid (below_set HB5.out (Nat.le_of_eq HRb0.out) 0 (.int .i64 4))
                    rcases hnk with q | q
                    · have g20 : ((K : Int) == 20) = true := by simp; omega
                      clear q
                      go_wp2_with fail
                      go_meet
                      exact ⟨rfl, HR4.out, HB4.out.drew⟩
                    · have g20 : ((K : Int) == 20) = false := by simp; omega
                      have g21 : ((K : Int) == 21) = true := by simp; omega
                      clear q
                      go_wp2_with fail
                      go_meet
                      exact ⟨rfl, HR4.out, HB4.out.drew⟩
            case rest =>
            obtain ⟨rfl, hrb2, hbx2⟩ := hcut
            have HR2 := Lib.hid hrb2
            have HB2 := Lib.hid hbx2
            clear hrb2 hbx2 hneg k0 k1 k2 k3 z0 z3 c0 c1 c2 d0 d1 d2 HRb1 HBx HCo HD HK1 HC1
            go_upto_block 4 with fail
            go_cut [4] (fun q wy => q = .int .i64 (O1 : Nat) ∧ wc = wy)
            case first =>
              have hmx : max ((O0 : Int) - 1) 0 = ((O0 - 1 : Nat) : Int) := by omega
              have hos := HO1.out
              unfold Sc.opens at hos
              by_cases q1 : K = 8
              · rw [if_pos (.inl q1)] at hos
                subst q1
                have HX := Lib.hid hos
                clear hos
                go_wp2_with fail
                go_meet
                exact ⟨by rw [HX.out]; go_num, rfl⟩
              have g8 : ((K : Int) == 8) = false := by simp; omega
              by_cases q2 : K = 9
              · rw [if_pos (.inr q2)] at hos
                subst q2
                have HX := Lib.hid hos
                clear hos q1 g8
                go_wp2_with fail
                go_meet
                exact ⟨by rw [HX.out]; go_num, rfl⟩
              have g9 : ((K : Int) == 9) = false := by simp; omega
              rw [if_neg (by omega)] at hos
              by_cases q3 : K = 10
              · rw [if_pos (.inl q3)] at hos
                subst q3
                have HX := Lib.hid hos
                clear hos q1 q2 g8 g9
                go_wp2_with fail
                go_meet
                exact ⟨by rw [HX.out], rfl⟩
              have g10 : ((K : Int) == 10) = false := by simp; omega
              by_cases q4 : K = 11
              · rw [if_pos (.inr q4)] at hos
                subst q4
                have HX := Lib.hid hos
                clear hos q1 q2 q3 g8 g9 g10
                go_wp2_with fail
                go_meet
                exact ⟨by rw [HX.out], rfl⟩
              have g11 : ((K : Int) == 11) = false := by simp; omega
              rw [if_neg (by omega)] at hos
              clear hmx
              by_cases q5 : K = 20
              · rw [if_pos (.inl q5)] at hos
                subst q5
                have HX := Lib.hid hos
                clear hos q1 q2 q3 q4 g8 g9 g10 g11
                go_wp2_with fail
                go_meet
                exact ⟨by rw [HX.out]; rfl, rfl⟩
              have g20 : ((K : Int) == 20) = false := by simp; omega
              by_cases q6 : K = 21
              · rw [if_pos (.inr q6)] at hos
                subst q6
                have HX := Lib.hid hos
                clear hos q1 q2 q3 q4 q5 g8 g9 g10 g11 g20
                go_wp2_with fail
                go_meet
                exact ⟨by rw [HX.out]; rfl, rfl⟩
              have g21 : ((K : Int) == 21) = false := by simp; omega
              rw [if_neg (by omega)] at hos
              have HX := Lib.hid hos
              clear hos q1 q2 q3 q4 q5 q6
              go_wp2_with fail
              go_meet
              exact ⟨by rw [HX.out], rfl⟩
            case rest =>
            obtain ⟨rfl, rfl⟩ := hcut
            have hen := HEn2.out
            cases EN with
            | true =>
              have hRj := HEx.out rfl
              have hk : K = 1 ∨ K = 19 := by simpa using hen.symm
              have HM := Lib.hid (show (O1 = Rw.opnL op row ∧ K1 = Rw.kindP row ∧ C1 = Rw.colOf row) by
                rw [← HRow.out, hRj]; exact ⟨HO1e.out.symm, HK1e.out.symm, HC1e.out.symm⟩)
              have HRj := Lib.hid hRj
              clear hRj hen
              rcases hk with q | q
              · have g1 : ((K : Int) == 1) = true := by simp; omega
                clear q
                go_wp2_with fail
                go_meet
                exact ⟨by rw [HM.out.1], by rw [HRj.out]; go_num, by rw [← HM.out.2.1, ← HM.out.2.2]; exact HR2.out, HB2.out⟩
              · have g1 : ((K : Int) == 1) = false := by simp; omega
                have g19 : ((K : Int) == 19) = true := by simp; omega
                clear q
                go_wp2_with fail
                go_meet
                exact ⟨by rw [HM.out.1], by rw [HRj.out]; go_num, by rw [← HM.out.2.1, ← HM.out.2.2]; exact HR2.out, HB2.out⟩
            | false =>
              have hk : ¬ K = 1 ∧ ¬ K = 19 := by simpa using hen.symm
              have g1 : ((K : Int) == 1) = false := by simp; omega
              have g19 : ((K : Int) == 19) = false := by simp; omega
              have HA3 := Lib.hid (HA1.out rfl)
              clear hen hk
              go_wp2_with fail
              go_roundw
              case rel => exact ⟨j + 1, by go_num, by rw [HO1e.out], by omega, HA3, by rw [HK1e.out, HC1e.out]; exact HR2.out, HB2.out⟩
              case measure => simp [intOf]; omega
          · have hj0 : 0 < j := by omega
            have hRj : R = j := by
              rw [← HR.out]
              exact HRe.out fr j hj0 (fun i z hi hz => HA.out i z (by omega) hz) (.inl (by rw [HN.out]; omega))
            have HM := Lib.hid (show Rw.seen l fr j = row by rw [← HRow.out, hRj])
            have HR2 := Lib.hid hrb
            have HB2 := Lib.hid hbx
            have HRj := Lib.hid hRj
            have hnj : ¬ (((fr + j : Nat) : Int) < (N : Int)) := by omega
            clear hRj hrb hbx HA
            go_wp2_with fail
            go_meet
            exact ⟨by rw [HM.out], by rw [HRj.out]; go_num, by rw [← HM.out]; exact HR2.out, HB2.out⟩
      case rest =>
        obtain ⟨rfl, rfl, hrb, hbx⟩ := hcut
        have hhk := Rw.headK_seen l fr R y HY.out hrp
        have hrw : (l.drop fr).take R = row := HRow.out
        rw [hrw] at hhk
        have hko := Rw.kindOf_P (decide (0 < op)) row
        rw [hhk] at hko
        have hst := HSt2.out
        rw [hrw] at hst
        have hole : Rw.opnL op row ≤ op + R := by
          have := Rw.opnL_le row op
          have : row.length ≤ R := by rw [← HRow.out]; exact List.length_take_le R (l.drop fr)
          omega
        obtain ⟨KO, hKO⟩ : ∃ KO, Rw.kindOf (decide (0 < op)) row = KO := ⟨_, rfl⟩
        obtain ⟨KP, hKP⟩ : ∃ KP, Rw.kindP row = KP := ⟨_, rfl⟩
        obtain ⟨CO, hCO⟩ : ∃ CO, Rw.colOf row = CO := ⟨_, rfl⟩
        obtain ⟨OP, hOP⟩ : ∃ OP, Rw.opnL op row = OP := ⟨_, rfl⟩
        rw [hKO, hCO, hOP] at hst
        rw [hKO, hKP] at hko
        rw [hKP, hCO] at hrb
        rw [hOP] at hole
        rw [hOP]
        have HKO := Lib.hid hko
        have HSt3 := Lib.hid hst
        obtain ⟨b, off, rfl, c0, c1, c2⟩ := H.out wc (HB.out.trans (hbx.mono HB.out.size)) fr y HY.out
        have HRb1 := Lib.hid hrb
        have HBx := Lib.hid hbx
        obtain ⟨k0, k1, k2, k3⟩ := hrb.cs
        have z0 := hrb.fz 0
        have z2 := hrb.fz 2
        have z3 := hrb.fz 3
        have HLt := Lib.hid hrb.lt
        have HRb0 := Lib.hid (Nat.le_of_eq HRb.out)
        have hbb : rb ≠ b := by
          intro e
          obtain ⟨b2, off2, he, e0, -, -⟩ := H.out w (Below.refl _ _) fr y HY.out
          injection he with he
          injection he with e1 e2
          have h5 : b2 < w.heap.size := cell_lt e0
          have := HB.out.size
          have := HRb.out
          omega
        have hr0 := HRb1.out.set2 ((fr : Int) + (R : Int))
        have hb0 := below_set HBx.out HRb0.out 2 (.int .i64 ((fr : Int) + (R : Int)))
        have d0 := at_far (o := 2) (v := .int .i64 ((fr : Int) + (R : Int))) hbb c0
        obtain ⟨W2, hW2⟩ : ∃ W2, wc.setCell ⟨rb, 2, none⟩ (.int .i64 ((fr : Int) + (R : Int))) = W2 := ⟨_, rfl⟩
        rw [hW2] at hr0 hb0 d0
        have HW2 := Lib.hid hW2
        have HR0 := Lib.hid hr0
        have HB0 := Lib.hid hb0
        clear hrw hst hko hKO hKP hCO hOP hhk hrb hbx H HF HT HRe HNew HBa HWa HR HSt2 HRow HAt HN c0 c1 c2 hr0 hb0 hW2 hbb
        obtain ⟨BG, hBG⟩ : ∃ BG, decide (0 < op) = BG := ⟨_, rfl⟩
        rw [hBG] at HKO ⊢
        obtain ⟨T, hT⟩ : ∃ T, y.1 = T := ⟨_, rfl⟩
        rw [hT] at d0 HKO
        clear hBG hT
        go_upto_region 26 with fail
        rw [HW2.out]
        clear k0 k1 k2 k3 z0 z2 z3
        obtain ⟨k0, k1, k2, k3⟩ := HR0.out.cs
        have z0 := HR0.out.fz 0
        go_upto_if 85 with fail
        go_cut [6] (fun q wy => q = .pointer (some ⟨rb, 0, none⟩) ∧ RB wy rb KO fr ((fr : Int) + (R : Int)) CO ∧ Below w0.heap.size w0 wy)
        case first =>
          have hko := HKO.out
          by_cases q1 : T = 19
          · rw [if_pos q1] at hko
            subst q1
            subst hko
            have HR1 := Lib.hid (HR0.out.set0 2)
            have HB1 := Lib.hid (below_set HB0.out HRb0.out 0 (.int .i64 2))
            go_wp2_with fail
            go_meet
            exact ⟨rfl, HR1.out, HB1.out⟩
          · rw [if_neg q1] at hko
            have g19 : ((T : Int) == 19) = false := by simp; omega
            clear q1
            cases BG with
            | false =>
              rw [if_neg (fun h => by cases h.1)] at hko
              subst hko
              go_wp2_with fail
              go_meet
              exact ⟨rfl, HR0.out, HB0.out⟩
            | true =>
              by_cases q2 : KP = 4
              · rw [if_neg (fun h => h.2 q2)] at hko
                subst q2
                subst hko
                go_wp2_with fail
                go_meet
                exact ⟨rfl, HR0.out, HB0.out⟩
              · rw [if_pos ⟨rfl, q2⟩] at hko
                subst hko
                have g4 : ((KP : Int) == 4) = false := by simp; omega
                have HR1 := Lib.hid (HR0.out.set0 3)
                have HB1 := Lib.hid (below_set HB0.out HRb0.out 0 (.int .i64 3))
                clear q2
                go_wp2_with fail
                go_meet
                exact ⟨rfl, HR1.out, HB1.out⟩
        case rest =>
        obtain ⟨rfl, hrb, hbx⟩ := hcut
        rename World => w2
        obtain ⟨k0, k1, k2, k3⟩ := hrb.cs
        have HO2 := Lib.hid (own_below HO.out hbx)
        have HB2 := Lib.hid (HB.out.trans (hbx.mono HB.out.size))
        have HS2 := Lib.hid HB2.out.size
        have HCs := Lib.hid (show encR.cells ⟨KO, fr, fr + R, CO⟩ = [.int .i64 KO, .int .i64 fr, .int .i64 ((fr : Int) + (R : Int)), .int .i64 CO] by simp [encR, rCells])
        clear hrb hbx HRb1 HBx HR0 HB0 d0 HKO z0
        go_wp2_with (at_builtin; go_must (refine append_one tyR rfl (.tmp 94) (.tmp 96) rfl w.heap.size _ done ⟨KO, fr, fr + R, CO⟩ _ HCs.out rfl HO2.out rfl (by simp only [maxLen]; omega) (by omega) HS2.out ?_; intro v7 w7 hown7 hg7))
        have hlen7 : (done ++ [(⟨KO, fr, fr + R, CO⟩ : Rw.R)]).length = done.length + 1 := by simp
        go_roundw
        case rel =>
          refine ⟨fr + R, OP, done ++ [(⟨KO, fr, fr + R, CO⟩ : Rw.R)], by go_num, rfl, hR1, by omega, by omega, Lib.hid ?_, hown7, ?_⟩
          · rw [List.append_assoc, ← HE.out, HSt3.out]; rfl
          · refine (HB2.out.alloc HS2.out _).grown hg7 (by have := HS2.out; simp; omega) (fun k hk => ?_)
            exact (HO2.out.lt k hk).1
        case measure => simp [intOf]; omega
    · obtain rfl : fr = N := by omega
      have hne : ¬ ((fr : Int) < (fr : Int)) := by omega
      have hE := HE.out
      rw [HEn.out op fr (by rw [HN.out]; exact Nat.le_refl _), List.append_nil] at hE
      subst hE
      have HD := Lib.hid (HG.out _ w0 ⟨_, rfl, hown, hb⟩)
      clear HE hown hb hlt H HF HSt HEn HG HN HAt hdl HT HRe
      go_wp2_with fail
      exact HD.out
end Go.Proofs.Ytaokjeopmhbddaa
