/- Package arena: held. -/
import Derived.Test.YtmlpaafclobgcaaAqc
import Derived.Laws.OwnMore
namespace Go.Proofs.Ytmlpaafclobgcaa
open Go.RowKit
open Go.Proofs.Ytmlpaafclobgcaa.Sq
open Go.Proofs.Ytmlpaafclobgcaa.Ar
set_option linter.unusedVariables false

namespace Ar
/-- Which of so many numbers are among some. -/
def marks (N : Nat) (U : List Int) : List Bool := (List.range N).map (fun z : Nat => decide ((z : Int) ∈ U))
theorem marks_len (N : Nat) (U : List Int) : (marks N U).length = N := by simp [marks]
theorem marks_get {N : Nat} (U : List Int) {z : Nat} (h : z < N) : (marks N U)[z]? = some (decide ((z : Int) ∈ U)) := by simp [marks, h]
theorem marks_set {N : Nat} (U : List Int) (z : Nat) : (marks N U).set z true = marks N (U ++ [(z : Int)]) := by
  refine List.ext_getElem? (fun j => ?_)
  rw [List.getElem?_set]
  by_cases hj : j < N
  · rw [marks_get _ hj, marks_get _ hj]
    by_cases e : z = j
    · subst e
      rw [if_pos rfl, marks_len, if_pos hj]
      simp
    · rw [if_neg e]
      congr 1
      have : ¬ ((j : Int) = (z : Int)) := by omega
      simp [this]
  · rw [List.getElem?_eq_none (by rw [marks_len]; omega), List.getElem?_eq_none (by rw [marks_len]; omega)]
    split
    · rw [if_neg (by rw [marks_len]; omega)]
    · rfl
theorem marks_nil (N : Nat) : marks N [] = List.replicate N false := by
  unfold marks
  apply List.ext_getElem?
  intro j
  by_cases h : j < N
  · simp [h]
  · simp [h]
theorem marks_all (N : Nat) (U : List Int) : ((marks N U).drop 1).contains false = false ↔ ∀ z : Nat, 0 < z → z < N → (z : Int) ∈ U := by
  constructor
  · intro h z h0 hz
    by_cases hm : (z : Int) ∈ U
    · exact hm
    · have h1 : ((marks N U).drop 1)[z - 1]? = some false := by
        rw [List.getElem?_drop, show 1 + (z - 1) = z by omega, marks_get _ hz]
        simp [hm]
      have h2 := List.contains_iff_mem.2 (List.mem_of_getElem? h1)
      rw [h] at h2; cases h2
  · intro h
    cases e : ((marks N U).drop 1).contains false with
    | false => rfl
    | true =>
      obtain ⟨j, hj⟩ := List.getElem?_of_mem (List.contains_iff_mem.1 e)
      rw [List.getElem?_drop] at hj
      have hl := (List.getElem?_eq_some_iff.1 hj).1
      rw [marks_len] at hl
      rw [marks_get _ hl] at hj
      have := h (1 + j) (by omega) hl
      simp at hj
      exact absurd this (by simpa using hj)
noncomputable def heldB (l : List Nd) : Bool := @decide (Held l) (Classical.propDecidable _)
theorem held_no {l : List Nd} {i k : Nat} {x : Nd} {z : Int} (hx : l[i]? = some x) (hz : x.ks[k]? = some z) (h : ¬ Pair l i x k z) : heldB l = false := by
  have := Classical.propDecidable (Held l)
  exact @decide_eq_false _ (Classical.propDecidable _) (fun hh => h (hh.1 i x (List.getElem?_eq_some_iff.1 hx).1 hx k z hz))
theorem held_yes {l : List Nd} (h : Pairs l l.length) : heldB l = !((marks l.length (upK l l.length)).drop 1).contains false := by
  cases e : ((marks l.length (upK l l.length)).drop 1).contains false with
  | false => exact @decide_eq_true _ (Classical.propDecidable _) ⟨h, (marks_all _ _).1 e⟩
  | true => exact @decide_eq_false _ (Classical.propDecidable _) (fun hh => by rw [(marks_all _ _).2 hh.2] at e; cases e)
theorem held_iff {l : List Nd} : heldB l = true ↔ Held l := @decide_eq_true_iff _ (Classical.propDecidable _)
end Ar
theorem made_bools (n : Nat) : (madeCells #[.bool false] (n * 1)).toList = encB.all (marks n []) := by
  have e : encB.all (marks n []) = List.replicate n (.bool false) := by
    rw [marks_nil]
    induction n with
    | zero => rfl
    | succ n ih =>
      show (encB.cells false ++ encB.all (List.replicate n false)) = _
      rw [ih]; rfl
  rw [e]
  apply List.ext_getElem?
  intro j
  rw [Nat.mul_one]
  simp only [madeCells, Array.getElem?_toList]
  by_cases h : j < n
  · simp [h, Nat.mod_one]
  · simp [h]
/-- make([]bool, n). -/
theorem make_bools (n B : Nat) (w : World) (hn : n ≤ 1000000) (hB : B ≤ w.heap.size) : ∃ w', (∀ m : Int, m = (n : Int) → (Instr.makeSlice 43 (.int .i64 m) (.int .i64 m)).run Try.prog w = .ok (.slice (some ⟨w.heap.size, 0, none⟩) n n) w') ∧ w'.ownsRow B 4 encB.k (.slice (some ⟨w.heap.size, 0, none⟩) n n) (marks n []).length (encB.all (marks n [])) ∧ w.grownBy w' none := by
  obtain ⟨i0, hi, hz0, hz1, hz2⟩ := info_parts (show (Try.prog.info? 4).map (fun i => (i.zero, i.size, i.bytes)) = some (some (.bool false), 1, 1) by kernel_rfl)
  obtain ⟨w', h1, h2, h3⟩ := run_make_full (P := Try.prog) w B 43 4 i0 (.bool false) 1 Try.underlying43 hi hz0 hz1 .i64 .i64 n (by rw [hz2]; omega) (by simp only [maxLen]; omega) hB
  refine ⟨w', fun m hm => by rw [hm]; exact h1, ?_, h3⟩
  have e : (madeCells (Value.bool false).cells (n * 1)).toList = encB.all (marks n []) := made_bools n
  rw [e] at h2
  rw [marks_len]
  exact h2
set_option maxHeartbeats 8000000 in
set_option maxRecDepth 100000 in
theorem aHeld (v : Value) (l : List Nd) (w : World) (h : NodesW w v l) (hs : l.length ≤ 1000) (hpos : 0 < l.length) (hk : ∀ x ∈ l, x.ks.length ≤ 1000) :
    Calls Try.prog 25 #[.agg #[v]] w (fun e w' => e = .returned (.bool (heldB l)) ∧ Below w.heap.size w w') := by
  obtain ⟨a, cap, rfl⟩ := h.shape
  obtain ⟨R, hR⟩ : ∃ R, heldB l = R := ⟨_, rfl⟩
  have hno := fun i k x z => held_no (l := l) (i := i) (k := k) (x := x) (z := z)
  have hyes := held_yes (l := l)
  rw [hR] at hno hyes ⊢
  have HQ := Lib.hid (fun b w' => show (b = R ∧ Below w.heap.size w w') → (fun e (w' : World) => e = Ending.returned (.bool R) ∧ Below w.heap.size w w') (.returned (.bool b)) w' from fun h => ⟨by rw [h.1], h.2⟩)
  obtain ⟨Q, hQ⟩ : ∃ Q, (fun e (w' : World) => e = Ending.returned (.bool R) ∧ Below w.heap.size w w') = Q := ⟨_, rfl⟩
  rw [hQ] at HQ ⊢
  have HX := Lib.hid (fun W (hb : Below w.heap.size w W) j x (hj : l[j]? = some x) => (h.below hb).at_ j x hj)
  have HKs := Lib.hid hk
  have HPr := Lib.hid (fun i x k z => show Pair l i x k z ↔ _ from Iff.rfl)
  obtain ⟨N, hN⟩ : ∃ N, l.length = N := ⟨_, rfl⟩
  rw [hN] at hs hpos hyes ⊢
  have HN := Lib.hid hN
  have HNo := Lib.hid hno
  have HYes := Lib.hid hyes
  obtain ⟨w1, hw1⟩ : ∃ w1, w.alloc (.cells #[.slice a N cap] 31) = w1 := ⟨_, rfl⟩
  obtain ⟨Bt, hBt⟩ : ∃ Bt, w.heap.size = Bt := ⟨_, rfl⟩
  have hb1 : Below w.heap.size w w1 := hw1 ▸ below_alloc w _
  have ct : w1.cell? ⟨Bt, 0, none⟩ = some (.slice a N cap) := by rw [← hw1, ← hBt]; exact at_new rfl
  obtain ⟨B, hB⟩ : ∃ B, w1.heap.size = B := ⟨_, rfl⟩
  have hlt : Bt < B := by rw [← hB]; exact lt_of_cell ct
  have hwB : w.heap.size ≤ B := by omega
  obtain ⟨w2, hmk, hown, hg⟩ := make_bools N B w1 (by omega) (by omega)
  rw [hB] at hmk hown
  have hmk2 := hmk (N : Int) rfl
  have hb2 : Below B w1 w2 := (Below.refl _ _).grown hg (by omega) (fun q hq => by cases hq)
  have HCt := Lib.hid (fun W (hb : Below B w1 W) => show W.cell? ⟨Bt, 0, none⟩ = some (.slice a N cap) from by rw [hb.cell (p := ⟨Bt, 0, none⟩) hlt]; exact ct)
  have HBlw := Lib.hid (fun W (hb : Below B w1 W) => show Below w.heap.size w W from hb1.trans (hb.mono hwB))
  have ct2 := HCt.out w2 hb2
  have HOw := Lib.hid hown
  have HB2 := Lib.hid hb2
  have HW1 := Lib.hid hw1
  have HBt := Lib.hid hBt
  have HH := Lib.hid (fun z W => has_any a N cap z W (by omega))
  clear h hk hQ hN hR hno hyes hw1 hBt hb1 hmk hown hg hb2 hB
  go_enter Try.func25, Try.ntmps25
  go_upto_region 1 with fail
  rw [HW1.out, HBt.out]
  clear HW1 HBt
  go_wp2_with fail
  clear hmk2
  go_loopw [15] (fun iv wr => ∃ (i : Nat), iv = .int .i64 i ∧ i ≤ N ∧ Hid (Pairs l i) ∧ Hid (wr.ownsRow B 4 encB.k (.slice (some ⟨B, 0, none⟩) N N) (marks N (upK l i)).length (encB.all (marks N (upK l i)))) ∧ Hid (Below B w1 wr)) (fun iv _ => N - (intOf iv).toNat)
  case atStart => exact ⟨0, rfl, Nat.zero_le _, Lib.hid (fun j x hj => absurd hj (Nat.not_lt_zero j)), HOw, HB2⟩
  case round =>
    clear HOw HB2 ct ct2
    obtain ⟨i, rfl, hi, HP, HO, HBe⟩ := hrel
    have ct := HCt.out wr HBe.out
    by_cases hlti : i < N
    · obtain ⟨x, hx⟩ : ∃ x, l[i]? = some x := ⟨_, List.getElem?_eq_getElem (by rw [HN.out]; exact hlti)⟩
      obtain ⟨b, off, ka, kc, rfl, x0, x1, x2, x3, x4, x5, hkr, -⟩ := HX.out w (Below.refl _ _) i x hx
      have hbw := HBlw.out wr HBe.out
      have x0 := at_below hbw x0
      have x1 := at_below hbw x1
      have x2 := at_below hbw x2
      have x3 := at_below hbw x3
      have x4 := at_below hbw x4
      have x5 := at_below hbw x5
      have hii : (i : Int) < (N : Int) := by omega
      have hkl := HKs.out x (List.mem_of_getElem? hx)
      obtain ⟨n, hn⟩ : ∃ n, x.ks.length = n := ⟨_, rfl⟩
      rw [hn] at x4 hkl
      obtain ⟨w3, hw3⟩ : ∃ w3, wr.alloc (.cells #[.int .i64 x.k, .int .i64 x.f, .int .i64 x.t, .int .i64 x.u, .slice ka n kc, .bool x.y] 38) = w3 := ⟨_, rfl⟩
      obtain ⟨xb, hxb⟩ : ∃ xb, wr.heap.size = xb := ⟨_, rfl⟩
      have hb3 : Below wr.heap.size wr w3 := hw3 ▸ below_alloc wr _
      have blk : w3.heap[xb]? = some (.cells #[.int .i64 x.k, .int .i64 x.f, .int .i64 x.t, .int .i64 x.u, .slice ka n kc, .bool x.y] 38 (0, 0)) := by rw [← hw3, ← hxb]; exact heap_alloc_new _ _
      have n4 := Joins.cell_of_block blk 4
      have hBs : B ≤ wr.heap.size := by have := (HO.out.lt B rfl).2; omega
      have HB3 := Lib.hid (HBe.out.trans (hb3.mono hBs))
      have HO3 := Lib.hid (show w3.ownsRow B 4 encB.k (.slice (some ⟨B, 0, none⟩) N N) (marks N (upK l i ++ x.ks.take 0)).length (encB.all (marks N (upK l i ++ x.ks.take 0))) from by rw [List.take_zero, List.append_nil]; exact own_below HO.out hb3)
      have HKr := Lib.hid (fun W (hb : Below B w1 W) => show KidsAt W ka x.ks from fun j z hz => by
        obtain ⟨kb, ko, e, hc⟩ := hkr j z hz
        exact ⟨kb, ko, e, at_below (HBlw.out W hb) hc⟩)
      have HXi := Lib.hid hx
      have Hn := Lib.hid hn
      have HW3 := Lib.hid hw3
      have HXb := Lib.hid hxb
      clear hx hn hw3 hxb hb3 blk hkr hbw
      go_upto_region 5 with fail
      rw [HW3.out, HXb.out]
      clear HW3 HXb x0 x1 x2 x3 x4 x5 ct
      go_wp2_with fail
      clear n4
      obtain ⟨wo, hwo⟩ : ∃ wo : World, wo = wr := ⟨_, rfl⟩
      go_loopw [23] (fun kv wx => ∃ (k : Nat), kv = .int .i64 k ∧ k ≤ n ∧ Hid (∀ (j : Nat) z, j < k → x.ks[j]? = some z → Pair l i x j z) ∧ Hid (wx.ownsRow B 4 encB.k (.slice (some ⟨B, 0, none⟩) N N) (marks N (upK l i ++ x.ks.take k)).length (encB.all (marks N (upK l i ++ x.ks.take k)))) ∧ Hid (Below B w1 wx)) (fun kv _ => n - (intOf kv).toNat)
      case atStart => exact ⟨0, rfl, Nat.zero_le _, Lib.hid (fun j z hj => absurd hj (Nat.not_lt_zero j)), HO3, HB3⟩
      case round =>
        clear HO3 HB3
        obtain ⟨k, rfl, hkn, HPk, HOk, HBk⟩ := hrel
        rename World => w4
        have ct := HCt.out w4 HBk.out
        by_cases hltk : k < n
        · obtain ⟨z, hz⟩ : ∃ z, x.ks[k]? = some z := ⟨_, List.getElem?_eq_getElem (by rw [Hn.out]; exact hltk)⟩
          obtain ⟨kb, ko, rfl, z0⟩ := HKr.out w4 HBk.out k z hz
          have hkk : (k : Int) < (n : Int) := by omega
          have hBs4 : B ≤ w4.heap.size := by have := (HOk.out.lt B rfl).2; omega
          have HZ := Lib.hid hz
          have HNz := Lib.hid (fun (h : ¬ Pair l i x k z) => HNo.out i k x z HXi.out hz h)
          clear hz
          by_cases q1 : z ≤ (i : Int)
          · have hr := HNz.out (fun h => by have := h.1; omega)
            have d1 : decide (z ≤ (i : Int)) = true := decide_eq_true q1
            have HD := Lib.hid (HQ.out false w4 ⟨hr.symm, HBlw.out w4 HBk.out⟩)
            clear hr
            go_wp2_with fail
            exact HD.out
          have d1 : decide (z ≤ (i : Int)) = false := decide_eq_false q1
          have HHz := Lib.hid (HH.out z w4)
          go_wp2_with fail
          refine HHz.out.mono ?_
          rintro e w5 ⟨rfl, hb5⟩
          have ct5 := at_below hb5 ct
          have HB5 := Lib.hid (HBk.out.trans (hb5.mono hBs4))
          have HO5 := Lib.hid (own_below HOk.out hb5)
          clear hb5 z0 ct
          cases hh : hasN N z with
          | false =>
            have hr := HNz.out (fun h => by
              have h1 := h.1
              have h2 := h.2.1
              rw [HN.out] at h2
              unfold hasN at hh
              have e1 : (0 : Int) ≤ z := by omega
              simp [e1, h2] at hh)
            have HD := Lib.hid (HQ.out false w5 ⟨hr.symm, HBlw.out w5 HB5.out⟩)
            clear hr hh
            go_wp2_with fail
            exact HD.out
          | true =>
            obtain ⟨zn, rfl⟩ : ∃ zn : Nat, z = (zn : Int) := ⟨z.toNat, by unfold hasN at hh; simp at hh; omega⟩
            have hzN : zn < N := by unfold hasN at hh; simp at hh; omega
            obtain ⟨c, hc⟩ : ∃ c, l[zn]? = some c := ⟨_, List.getElem?_eq_getElem (by rw [HN.out]; exact hzN)⟩
            obtain ⟨b9, off9, _, _, he, -, -, -, c3, -, -, -, -⟩ := HX.out w5 (HBlw.out w5 HB5.out) zn c hc
            injection he with he
            injection he with e3 e4
            subst e3 e4
            have hzi : (zn : Int) < (N : Int) := by omega
            clear hh
            by_cases q2 : c.u = (i : Int)
            case neg =>
              have hr := HNz.out (fun h => q2 (h.2.2.1 c (by rw [Int.toNat_natCast]; exact hc)))
              have n2 : (c.u == (i : Int)) = false := by simp [q2]
              have m2 : (c.u != (i : Int)) = true := by simp [q2]
              have HD := Lib.hid (HQ.out false w5 ⟨hr.symm, HBlw.out w5 HB5.out⟩)
              clear hr hc q2
              go_wp2_with fail
              exact HD.out
            have n2 : (c.u == (i : Int)) = true := by simp [q2]
            have m2 : (c.u != (i : Int)) = false := by simp [q2]
            obtain ⟨sb, hsb⟩ : ∃ sb, decide ((zn : Int) ∈ upK l i ++ x.ks.take k) = sb := ⟨_, rfl⟩
            have hm := marks_get (N := N) (upK l i ++ x.ks.take k) hzN
            rw [hsb] at hm
            have s0 : w5.cell? ⟨B, zn, none⟩ = some (.bool sb) := by
              have h5 := HO5.out.cells (g := B) rfl _ _ ((all_get encB (marks N (upK l i ++ x.ks.take k)) zn _ hm 0 (by decide)).trans rfl)
              rw [add_addr, Nat.zero_add] at h5
              rw [show zn * encB.k + 0 = zn from by show zn * 1 + 0 = zn; omega] at h5
              exact h5
            cases sb with
            | true =>
              have hmem := of_decide_eq_true hsb
              have hr := HNz.out (fun h => by
                rcases List.mem_append.1 hmem with h1 | h1
                · obtain ⟨j, y, hj, hy, hzy⟩ := upK_mem i h1
                  obtain ⟨k', hk'⟩ := List.getElem?_of_mem hzy
                  have hp := HP.out j y hj hy k' _ hk'
                  have := hp.2.2.1 c (by rw [Int.toNat_natCast]; exact hc)
                  omega
                · exact h.2.2.2 h1)
              have HD := Lib.hid (HQ.out false w5 ⟨hr.symm, HBlw.out w5 HB5.out⟩)
              clear hr hc q2 hsb hm hmem
              go_wp2_with fail
              exact HD.out
            | false =>
              have hnm := of_decide_eq_false hsb
              have hpr : Pair l i x k (zn : Int) := ⟨by omega, by rw [HN.out]; omega, fun d hd => by
                rw [Int.toNat_natCast, hc] at hd
                rw [← Option.some.inj hd]; exact q2, fun h => hnm (List.mem_append.2 (.inr h))⟩
              have HPk2 := Lib.hid (show ∀ (j : Nat) z, j < k + 1 → x.ks[j]? = some z → Pair l i x j z from fun j z hj hz => by
                by_cases e : j = k
                · subst e
                  rw [HZ.out] at hz
                  rw [← Option.some.inj hz]; exact hpr
                · exact HPk.out j z (by omega) hz)
              obtain ⟨gx, cpx, hvx, -, hfx, -, -⟩ := own_at (E := encB) HO5.out (by rw [marks_len]; exact hpos)
              have ex := (Value.slice.inj hvx).1
              injection ex with ex
              injection ex with ex
              have f0 : w5.frozen? ⟨B, zn, none⟩ = false := by rw [ex]; exact hfx _
              have hst := own_set HO5.out zn 0 false true (.bool true) hm rfl (by decide)
              rw [marks_set, show upK l i ++ x.ks.take k ++ [(zn : Int)] = upK l i ++ x.ks.take (k + 1) from by rw [List.take_add_one, HZ.out, List.append_assoc]; rfl, show zn * encB.k + 0 = zn from by show zn * 1 + 0 = zn; omega] at hst
              have HO6 := Lib.hid hst
              have HB6 := Lib.hid (HB5.out.setCell (p := ⟨B, zn, none⟩) (Nat.le_refl B) (.bool true))
              clear hc q2 hsb hm hnm hpr hvx hfx ex hst
              go_wp2_with fail
              go_roundw
              case rel =>
                first
                  | exact ⟨k + 1, by go_num, by omega, HPk2, HO6, HB6⟩
                  | ((repeat apply Exists.intro); exact ⟨⟨k + 1, by go_num, by omega, HPk2, HO6, HB6⟩, rfl⟩)
              case measure => simp [intOf]; omega
        · obtain rfl : k = n := by omega
          have hkk : ¬ ((k : Int) < (k : Int)) := by omega
          have HP2 := Lib.hid (show Pairs l (i + 1) from fun j y hj hy k' z hz => by
            by_cases e : j = i
            · subst e
              rw [HXi.out] at hy
              obtain rfl := Option.some.inj hy
              exact HPk.out k' z (by rw [← Hn.out]; exact (List.getElem?_eq_some_iff.1 hz).1) hz
            · exact HP.out j y (by omega) hy k' z hz)
          have HO7 := Lib.hid (show w4.ownsRow B 4 encB.k (.slice (some ⟨B, 0, none⟩) N N) (marks N (upK l (i + 1))).length (encB.all (marks N (upK l (i + 1)))) from by
            rw [upK_succ HXi.out]
            have h5 := HOk.out
            rw [List.take_of_length_le (by rw [Hn.out]; exact Nat.le_refl _)] at h5
            exact h5)
          clear hltk ct
          go_wp2_with fail
          go_roundw
          case rel =>
            first
              | exact ⟨i + 1, by go_num, by omega, HP2, HO7, HBk⟩
              | ((repeat apply Exists.intro); exact ⟨⟨i + 1, by go_num, by omega, HP2, HO7, HBk⟩, rfl⟩)
          case measure => simp [intOf]; omega
    · obtain rfl : i = N := by omega
      have hii : ¬ ((i : Int) < (i : Int)) := by omega
      have hr := HYes.out HP.out
      have hrd := Reads.of_own (E := encB) HO.out
      obtain ⟨Mk, hMk⟩ : ∃ Mk, marks i (upK l i) = Mk := ⟨_, rfl⟩
      have hml : Mk.length = i := by rw [← hMk, marks_len]
      rw [hMk] at hr hrd
      have hrd2 : Reads encB wr (.slice (some ⟨B, 0, none⟩) Mk.length i) Mk := by rw [hml]; exact hrd
      obtain ⟨v, hsl, hv⟩ := cut_l tyB hrd2 (n := 1) (by omega)
      rw [hml] at hsl
      have hsl1 := fun W => show (Instr.slice 43 (.slice (some ⟨B, 0, none⟩) i i) (some (.int .i64 1)) none none).run Try.prog W = .ok v W from hsl W
      have HCo := Lib.hid (hasFalse v (Mk.drop 1) wr hv (by rw [List.length_drop]; omega))
      obtain ⟨cf, hcf⟩ : ∃ cf, (Mk.drop 1).contains false = cf := ⟨_, rfl⟩
      rw [hcf] at HCo hr
      have HR := Lib.hid hr
      have HBw := Lib.hid (HBlw.out wr HBe.out)
      clear hlti hr hrd hMk hml hrd2 hsl hv hcf
      go_wp2_with fail
      refine HCo.out.mono ?_
      rintro e w9 ⟨rfl, hb9⟩
      have HD := Lib.hid (HQ.out (!cf) w9 ⟨HR.out.symm, below_from HBw.out hb9⟩)
      clear hb9
      go_wp2_with fail
      exact HD.out
end Go.Proofs.Ytmlpaafclobgcaa
