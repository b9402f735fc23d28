/- Package arena: ordered, Check. -/
import Derived.Test.YtmlpaafclobgcaaAqd
namespace Go.Proofs.Ytmlpaafclobgcaa
open Go.RowKit
open Go.Proofs.Ytmlpaafclobgcaa.Sq
open Go.Proofs.Ytmlpaafclobgcaa.Ar
set_option linter.unusedVariables false

namespace Ar
def orddB (l : List Nd) : Bool := l.all (nodeOrd l)
theorem ordd_no {l : List Nd} {i : Nat} {x : Nd} (hx : l[i]? = some x) (h : nodeOrd l x = false) : orddB l = false := by
  unfold orddB
  rw [List.all_eq_false]
  exact ⟨x, List.mem_of_getElem? hx, by rw [h]; decide⟩
theorem ordd_yes {l : List Nd} (h : ∀ (i : Nat) x, l[i]? = some x → nodeOrd l x = true) : orddB l = true := by
  unfold orddB
  rw [List.all_eq_true]
  intro x hx
  obtain ⟨i, hi⟩ := List.getElem?_of_mem hx
  exact h i x hi
theorem ordd_iff {l : List Nd} : orddB l = true ↔ Ordd l := by
  constructor
  · intro h i x hx
    unfold orddB at h
    exact List.all_eq_true.1 h x (List.mem_of_getElem? hx)
  · intro h; exact ordd_yes h
theorem check_eq (l : List Nd) (n : Int) : checkN l n = (beginN l n && heldB l && orddB l) := by
  rw [Bool.eq_iff_iff]
  simp only [Bool.and_eq_true]
  constructor
  · intro h
    obtain ⟨h1, h2, h3⟩ := check_from h
    exact ⟨⟨h1, held_iff.2 h2⟩, ordd_iff.2 h3⟩
  · rintro ⟨⟨h1, h2⟩, h3⟩
    exact check_to h1 (held_iff.1 h2) (ordd_iff.1 h3)
end Ar
set_option maxHeartbeats 8000000 in
set_option maxRecDepth 100000 in
theorem aOrdered (v : Value) (l : List Nd) (w : World) (h : NodesW w v l) (hs : l.length ≤ 1000) (hk : ∀ x ∈ l, x.ks.length ≤ 1000) (hin : ∀ x ∈ l, ∀ z ∈ x.ks, 0 ≤ z ∧ z < l.length) :
    Calls Try.prog 26 #[.agg #[v]] w (fun e w' => e = .returned (.bool (orddB l)) ∧ Below w.heap.size w w') := by
  obtain ⟨a, cap, rfl⟩ := h.shape
  obtain ⟨R, hR⟩ : ∃ R, orddB l = R := ⟨_, rfl⟩
  have hno := fun i x => ordd_no (l := l) (i := i) (x := x)
  have hyes := ordd_yes (l := l)
  rw [hR] at hno hyes ⊢
  have HQ := Lib.hid (fun b w' => show (b = R ∧ Below w.heap.size w w') → (fun e (w' : World) => e = Ending.returned (.bool R) ∧ Below w.heap.size w w') (.returned (.bool b)) w' from fun h => ⟨by rw [h.1], h.2⟩)
  obtain ⟨Q, hQ⟩ : ∃ Q, (fun e (w' : World) => e = Ending.returned (.bool R) ∧ Below w.heap.size w w') = Q := ⟨_, rfl⟩
  rw [hQ] at HQ ⊢
  have HX := Lib.hid (fun W (hb : Below w.heap.size w W) j x (hj : l[j]? = some x) => (h.below hb).at_ j x hj)
  have HKs := Lib.hid hk
  have HIn := Lib.hid hin
  obtain ⟨N, hN⟩ : ∃ N, l.length = N := ⟨_, rfl⟩
  rw [hN] at hs ⊢
  have HN := Lib.hid hN
  have HNo := Lib.hid hno
  have HYes := Lib.hid hyes
  obtain ⟨w1, hw1⟩ : ∃ w1, w.alloc (.cells #[.slice a N cap] 31) = w1 := ⟨_, rfl⟩
  obtain ⟨Bt, hBt⟩ : ∃ Bt, w.heap.size = Bt := ⟨_, rfl⟩
  have hb1 : Below w.heap.size w w1 := hw1 ▸ below_alloc w _
  have ct : w1.cell? ⟨Bt, 0, none⟩ = some (.slice a N cap) := by rw [← hw1, ← hBt]; exact at_new rfl
  have HCt := Lib.hid (fun W (hb : Below w1.heap.size w1 W) => at_below hb ct)
  have HBlw := Lib.hid (fun W (hb : Below w1.heap.size w1 W) => below_from hb1 hb)
  have HW1 := Lib.hid hw1
  have HBt := Lib.hid hBt
  clear h hk hQ hN hR hno hyes hw1 hBt hb1 hin
  go_enter Try.func26, Try.ntmps26
  go_upto_region 1 with fail
  rw [HW1.out, HBt.out]
  clear HW1 HBt
  go_wp2_with fail
  go_loopw [11] (fun iv wr => ∃ (i : Nat), iv = .int .i64 i ∧ i ≤ N ∧ Hid (∀ (j : Nat) x, j < i → l[j]? = some x → nodeOrd l x = true) ∧ Hid (Below w1.heap.size w1 wr)) (fun iv _ => N - (intOf iv).toNat)
  case atStart => exact ⟨0, rfl, Nat.zero_le _, Lib.hid (fun j x hj => absurd hj (Nat.not_lt_zero j)), Lib.hid (Below.refl _ _)⟩
  case round =>
    clear ct
    obtain ⟨i, rfl, hi, HA, HBe⟩ := hrel
    by_cases hlti : i < N
    · obtain ⟨x, hx⟩ : ∃ x, l[i]? = some x := ⟨_, List.getElem?_eq_getElem (by rw [HN.out]; exact hlti)⟩
      obtain ⟨b, off, ka, kc, rfl, x0, x1, x2, x3, x4, x5, hkr, -⟩ := HX.out wr (HBlw.out wr HBe.out) i x hx
      have hii : (i : Int) < (N : Int) := by omega
      have hkl := HKs.out x (List.mem_of_getElem? hx)
      obtain ⟨n, hn⟩ : ∃ n, x.ks.length = n := ⟨_, rfl⟩
      rw [hn] at x4 hkl
      obtain ⟨w3, hw3⟩ : ∃ w3, wr.alloc (.cells #[.int .i64 x.k, .int .i64 x.f, .int .i64 x.t, .int .i64 x.u, .slice ka n kc, .bool x.y] 38) = w3 := ⟨_, rfl⟩
      obtain ⟨xb, hxb⟩ : ∃ xb, wr.heap.size = xb := ⟨_, rfl⟩
      have hb3 : Below wr.heap.size wr w3 := hw3 ▸ below_alloc wr _
      have blk : w3.heap[xb]? = some (.cells #[.int .i64 x.k, .int .i64 x.f, .int .i64 x.t, .int .i64 x.u, .slice ka n kc, .bool x.y] 38 (0, 0)) := by rw [← hw3, ← hxb]; exact heap_alloc_new _ _
      have n1 := Joins.cell_of_block blk 1
      have n2 := Joins.cell_of_block blk 2
      have n4 := Joins.cell_of_block blk 4
      have HB3 := Lib.hid (HBe.out.trans (hb3.mono HBe.out.size))
      have ct3 := HCt.out w3 HB3.out
      have HKr := Lib.hid (show KidsAt w3 ka x.ks from fun j z hz => by
        obtain ⟨kb, ko, e, hc⟩ := hkr j z hz
        exact ⟨kb, ko, e, at_below hb3 hc⟩)
      have HXi := Lib.hid hx
      have Hn := Lib.hid hn
      have HW3 := Lib.hid hw3
      have HXb := Lib.hid hxb
      obtain ⟨O, hO⟩ : ∃ O, ordF l x.f x.ks = O := ⟨_, rfl⟩
      have HO := Lib.hid hO
      have HNx := Lib.hid (HNo.out i x hx)
      clear hx hn hw3 hxb hb3 blk hkr hO
      go_upto_region 4 with fail
      rw [HW3.out, HXb.out]
      clear HW3 HXb x0 x1 x2 x3 x4 x5
      go_wp2_with fail
      clear n1 n4
      go_loopw [5, 20] (fun pv kv wx => ∃ (k : Nat) (p : Int), pv = .int .i64 p ∧ kv = .int .i64 k ∧ k ≤ n ∧ Hid (ordF l p (x.ks.drop k) = O) ∧ w3 = wx) (fun _ kv _ => n - (intOf kv).toNat)
      case atStart => exact ⟨0, x.f, rfl, rfl, Nat.zero_le _, HO, rfl⟩
      case round =>
        obtain ⟨k, p, rfl, rfl, hkn, HF, rfl⟩ := hrel
        by_cases hltk : k < n
        · obtain ⟨z, hz⟩ : ∃ z, x.ks[k]? = some z := ⟨_, List.getElem?_eq_getElem (by rw [Hn.out]; exact hltk)⟩
          have hdr : x.ks.drop k = z :: x.ks.drop (k + 1) := by
            have h1 := (List.getElem?_eq_some_iff.1 hz)
            rw [List.drop_eq_getElem_cons h1.1, h1.2]
          obtain ⟨kb, ko, rfl, z0⟩ := HKr.out k z hz
          have hkk : (k : Int) < (n : Int) := by omega
          have hzin := HIn.out x (List.mem_of_getElem? HXi.out) z (List.mem_of_getElem? hz)
          rw [HN.out] at hzin
          obtain ⟨zn, rfl⟩ : ∃ zn : Nat, z = (zn : Int) := ⟨z.toNat, by omega⟩
          obtain ⟨c, hc⟩ : ∃ c, l[zn]? = some c := ⟨_, List.getElem?_eq_getElem (by rw [HN.out]; omega)⟩
          obtain ⟨b9, off9, _, _, he, -, c1, c2, -, -, -, -, -⟩ := HX.out w3 (HBlw.out w3 HB3.out) zn c hc
          injection he with he
          injection he with e3 e4
          subst e3 e4
          have hzi : (zn : Int) < (N : Int) := by omega
          have hf := HF.out
          rw [hdr, ordF, Int.toNat_natCast, hc] at hf
          dsimp only at hf
          clear hdr hc hz hzin
          by_cases q : c.f < p
          · rw [if_pos q] at hf
            have hr := HNx.out (by unfold nodeOrd; rw [HO.out, ← hf])
            have d1 : decide (c.f < p) = true := decide_eq_true q
            have HD := Lib.hid (HQ.out false w3 ⟨hr.symm, HBlw.out w3 HB3.out⟩)
            clear hr hf
            go_wp2_with fail
            exact HD.out
          · rw [if_neg q] at hf
            have d1 : decide (c.f < p) = false := decide_eq_false q
            have HF2 := Lib.hid hf
            clear hf
            go_wp2_with fail
            go_roundw
            case rel => exact ⟨k + 1, c.t, by first | rfl | trivial, by go_num, by omega, HF2, by first | rfl | trivial⟩
            case measure => simp [intOf]; omega
        · obtain rfl : k = n := by omega
          have hkk : ¬ ((k : Int) < (k : Int)) := by omega
          have hf := HF.out
          rw [List.drop_of_length_le (by rw [Hn.out]; exact Nat.le_refl _), ordF] at hf
          have hnd : nodeOrd l x = decide (p ≤ x.t) := by unfold nodeOrd; rw [HO.out, ← hf]
          clear hltk hf
          by_cases q : x.t < p
          · have hr := HNx.out (by rw [hnd]; exact decide_eq_false (by omega))
            have d1 : decide (x.t < p) = true := decide_eq_true q
            have HD := Lib.hid (HQ.out false w3 ⟨hr.symm, HBlw.out w3 HB3.out⟩)
            clear hr hnd
            go_wp2_with fail
            exact HD.out
          · have d1 : decide (x.t < p) = false := decide_eq_false q
            have HA2 := Lib.hid (show ∀ (j : Nat) y, j < i + 1 → l[j]? = some y → nodeOrd l y = true from fun j y hj hy => by
              by_cases e : j = i
              · rw [e, HXi.out] at hy
                rw [← Option.some.inj hy, hnd]; exact decide_eq_true (by omega)
              · exact HA.out j y (by omega) hy)
            clear hnd
            go_wp2_with fail
            go_roundw
            case rel =>
              first
                | exact ⟨i + 1, by go_num, by omega, HA2, HB3⟩
                | ((repeat apply Exists.intro); exact ⟨⟨i + 1, by go_num, by omega, HA2, HB3⟩, rfl⟩)
            case measure => simp [intOf]; omega
    · obtain rfl : i = N := by omega
      have hii : ¬ ((i : Int) < (i : Int)) := by omega
      have hr := HYes.out (fun j x hx => HA.out j x (by rw [← HN.out]; exact (List.getElem?_eq_some_iff.1 hx).1) hx)
      have HD := Lib.hid (HQ.out true wr ⟨hr.symm, HBlw.out wr HBe.out⟩)
      clear hlti hr
      go_wp2_with fail
      exact HD.out
set_option maxHeartbeats 4000000 in
set_option maxRecDepth 100000 in
theorem aCheckL : ∀ (v : Value) (l : List Nd) (n : Int) (w : World), NodesW w v l → l.length ≤ 1000 → (∀ x ∈ l, x.ks.length ≤ 1000) →
  Calls Try.prog 14 #[.agg #[v], .int .i64 n] w (fun e w' => e = .returned (.bool (checkN l n)) ∧ Below w.heap.size w w') := by
  intro v l n w h hs hk
  obtain ⟨a, cap, rfl⟩ := h.shape
  have hhl := held_iff (l := l)
  have hce := check_eq l n
  obtain ⟨R, hR⟩ : ∃ R, checkN l n = R := ⟨_, rfl⟩
  rw [hR] at hce ⊢
  have hpos : beginN l n = true → 0 < l.length := fun e => by
    cases l with
    | nil => cases e
    | cons _ _ => simp
  have HBg := Lib.hid (fun W (hb : Below w.heap.size w W) => aBegins _ l n W (h.below hb) (by omega))
  have HHe := Lib.hid (fun W (hb : Below w.heap.size w W) (hp : 0 < l.length) => aHeld _ l W (h.below hb) (by omega) hp (fun x hx => Nat.le_trans (hk x hx) (by omega)))
  have HOr := Lib.hid (fun W (hb : Below w.heap.size w W) (hp : Held l) => aOrdered _ l W (h.below hb) (by omega) (fun x hx => Nat.le_trans (hk x hx) (by omega)) (fun x hx z hz => by
    obtain ⟨i, hi⟩ := List.getElem?_of_mem hx
    obtain ⟨k, hkk⟩ := List.getElem?_of_mem hz
    have := hp.1 i x (List.getElem?_eq_some_iff.1 hi).1 hi k z hkk
    exact ⟨by have := this.1; omega, this.2.1⟩))
  obtain ⟨bg, hbg⟩ : ∃ bg, beginN l n = bg := ⟨_, rfl⟩
  obtain ⟨he, hhe⟩ : ∃ he, heldB l = he := ⟨_, rfl⟩
  obtain ⟨od, hod⟩ : ∃ od, orddB l = od := ⟨_, rfl⟩
  rw [hbg, hhe, hod] at hce
  rw [hbg] at HBg hpos
  rw [hhe] at HHe hhl
  rw [hod] at HOr
  obtain ⟨N, hN⟩ : ∃ N, l.length = N := ⟨_, rfl⟩
  rw [hN] at hs HBg HHe HOr hpos ⊢
  obtain ⟨w1, hw1⟩ : ∃ w1, w.alloc (.cells #[.slice a N cap] 31) = w1 := ⟨_, rfl⟩
  obtain ⟨Bt, hBt⟩ : ∃ Bt, w.heap.size = Bt := ⟨_, rfl⟩
  have hb1 : Below w.heap.size w w1 := hw1 ▸ below_alloc w _
  have ct : w1.cell? ⟨Bt, 0, none⟩ = some (.slice a N cap) := by rw [← hw1, ← hBt]; exact at_new rfl
  have HB1 := Lib.hid hb1
  have HW1 := Lib.hid hw1
  have HBt := Lib.hid hBt
  have HPos := Lib.hid hpos
  have HHl := Lib.hid hhl
  have HBg1 := Lib.hid (HBg.out w1 hb1)
  clear h hk hN hR hw1 hBt hb1 hbg hhe hod hpos hhl HBg
  go_enter Try.func14, Try.ntmps14
  go_upto_region 1 with fail
  rw [HW1.out, HBt.out]
  clear HW1 HBt
  go_wp2_with fail
  refine HBg1.out.mono ?_
  rintro e w2 ⟨rfl, hb2⟩
  have ct2 := at_below hb2 ct
  have HB2 := Lib.hid (below_from HB1.out hb2)
  clear hb2 ct
  cases bg with
  | false =>
    obtain rfl : R = false := by rw [hce]; rfl
    clear hce
    go_wp2_with fail
    go_ret
    exact ⟨rfl, HB2.out⟩
  | true =>
    have HHe2 := Lib.hid (HHe.out w2 HB2.out (HPos.out rfl))
    clear HHe
    go_wp2_with fail
    refine HHe2.out.mono ?_
    rintro e w3 ⟨rfl, hb3⟩
    have ct3 := at_below hb3 ct2
    have HB3 := Lib.hid (below_from HB2.out hb3)
    clear hb3 ct2
    cases he with
    | false =>
      obtain rfl : R = false := by rw [hce]; rfl
      clear hce
      go_wp2_with fail
      go_ret
      exact ⟨rfl, HB3.out⟩
    | true =>
      obtain rfl : R = od := by rw [hce]; rfl
      have HOr3 := Lib.hid (HOr.out w3 HB3.out (HHl.out.1 rfl))
      clear hce HOr
      go_wp2_with fail
      refine HOr3.out.mono ?_
      rintro e w4 ⟨rfl, hb4⟩
      have HB4 := Lib.hid (below_from HB3.out hb4)
      clear hb4
      go_wp2_with fail
      go_ret
      exact ⟨rfl, HB4.out⟩
theorem aCheck : ∀ (v : Value) (l : List Nd) (n : Int) (w : World), NodesW w v l → l.length ≤ 200 → (∀ x ∈ l, x.ks.length ≤ 200) →
  Calls Try.prog 14 #[.agg #[v], .int .i64 n] w (fun e w' => e = .returned (.bool (checkN l n)) ∧ Below w.heap.size w w') := fun v l n w h hs hk => aCheckL v l n w h (by omega) (fun x hx => Nat.le_trans (hk x hx) (by omega))
end Go.Proofs.Ytmlpaafclobgcaa
