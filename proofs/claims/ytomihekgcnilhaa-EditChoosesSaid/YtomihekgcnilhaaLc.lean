/- The statements' own small functions: Good. -/
import Derived.Test.YtomihekgcnilhaaLa
namespace Go.Proofs.Ytomihekgcnilhaa
open Go.RowKit
open Go.Proofs.Ytomihekgcnilhaa.Sq

/-- One edit, brought within a text of n bytes. -/
def tame (n : Int) (e : Et) : Et :=
  let f := wit e.f (n + 1)
  ⟨f, f + wit e.t ((if 6 < n - f then 6 else n - f) + 1), e.p.extract 0 (min e.p.size 20)⟩
def tameAll (n : Int) (l : List Et) : List Et := (l.take 30).map (tame n)
theorem tame_ok (n : Int) (e : Et) (h0 : 0 ≤ n) : 0 ≤ (tame n e).f ∧ (tame n e).f ≤ (tame n e).t ∧ (tame n e).t ≤ n ∧ (tame n e).p.size ≤ 20 := by
  have h1 := wit_bd e.f (n + 1) (by omega)
  have h2 := wit_bd e.t ((if 6 < n - wit e.f (n + 1) then 6 else n - wit e.f (n + 1)) + 1) (by split <;> omega)
  have h3 : (tame n e).p.size ≤ 20 := by
    show (e.p.extract 0 (min e.p.size 20)).size ≤ 20
    rw [Sg.ext_size _ _ _ (by omega)]
    omega
  refine ⟨h1.1, ?_, ?_, h3⟩
  · show wit e.f (n + 1) ≤ wit e.f (n + 1) + _; omega
  · show wit e.f (n + 1) + wit e.t ((if 6 < n - wit e.f (n + 1) then 6 else n - wit e.f (n + 1)) + 1) ≤ n
    have : (if 6 < n - wit e.f (n + 1) then (6 : Int) else n - wit e.f (n + 1)) ≤ n - wit e.f (n + 1) := by split <;> omega
    omega
theorem tame_one (n : Int) (e : Et) (h0 : 0 ≤ n) : Ed.one n (tame n e).ed = 0 := by
  obtain ⟨h1, h2, h3, h4⟩ := tame_ok n e h0
  exact Ed.ok_one ⟨h1, h2, h3, by rw [Et.plen]; omega⟩
theorem tameAll_len (n : Int) (l : List Et) : (tameAll n l).length ≤ 30 := by unfold tameAll; rw [List.length_map, List.length_take]; omega
theorem tameAll_mem {n : Int} {l : List Et} {e : Et} (h : e ∈ tameAll n l) : ∃ x, e = tame n x := by
  obtain ⟨x, _, rfl⟩ := List.mem_map.1 h
  exact ⟨x, rfl⟩
theorem tameAll_short {n : Int} {l : List Et} (h0 : 0 ≤ n) : ∀ e ∈ tameAll n l, e.p.size ≤ 20 := fun e h => by
  obtain ⟨x, rfl⟩ := tameAll_mem h
  exact (tame_ok n x h0).2.2.2
/-- What is made of the first k. -/
def tamed (n : Int) (l : List Et) (k : Nat) : List Et := (l.take k).map (tame n)
theorem tamed_next {n : Int} {l : List Et} {k : Nat} {x : Et} (h : l[k]? = some x) : tamed n l (k + 1) = tamed n l k ++ [tame n x] := by
  unfold tamed
  rw [take_snoc h, List.map_append]; rfl
set_option maxHeartbeats 3000000 in
set_option maxRecDepth 100000 in
theorem good_any (n : Int) (v : Value) (l : List Et) (w : World) (h0 : 0 ≤ n) (h1 : n ≤ 100) (h : Edits w v l) (hS : Short l) :
    Calls Try.prog 14 #[.int .i64 n, v] w fun e w' => ∃ v', e = .returned v' ∧ w'.ownsRow w.heap.size 41 3 v' (tameAll n l).length (encE.all (tameAll n l)) ∧ Below w.heap.size w w' := by
  have hsz := h.size_le
  unfold maxLen at hsz
  obtain ⟨a, cap, rfl⟩ := h.shape
  obtain ⟨N, hN⟩ : ∃ N, l.length = N := ⟨_, rfl⟩
  have HA := Lib.hid (fun k x hk => edits_at h k x hk)
  have HN := Lib.hid hN
  have HS := Lib.hid hS
  rw [hN] at hsz
  rw [hN]
  obtain ⟨R, hR⟩ : ∃ R, tameAll n l = R := ⟨_, rfl⟩
  have HR := Lib.hid hR
  rw [hR]
  clear hN h hS hR
  go_enter Try.func14, Try.ntmps14
  go_wp2_with fail
  go_loopw [5, 6] (fun ov is wr => ∃ (k : Nat) (V : Value), V = ov ∧ is = .int .i64 k ∧ k ≤ N ∧ k ≤ 30 ∧ Hid (wr.ownsRow w.heap.size 41 3 V (tamed n l k).length (encE.all (tamed n l k))) ∧ Below w.heap.size w wr) (fun _ is _ => N - (intOf is).toNat)
  case atStart => exact ⟨0, _, rfl, rfl, Nat.zero_le _, Nat.zero_le _, Lib.hid (own_nil encE _ _), Below.refl _ _⟩
  case round =>
    obtain ⟨k, V, rfl, rfl, hk, hk30, HO, hb⟩ := hrel
    by_cases hlt : k < N
    · have hj2 : (k : Int) < (N : Int) := by omega
      by_cases hlt30 : k < 30
      · have hj3 : (k : Int) < 30 := by omega
        have hkl : k < l.length := by rw [HN.out]; exact hlt
        obtain ⟨x, hx⟩ : ∃ x, l[k]? = some x := ⟨_, List.getElem?_eq_getElem hkl⟩
        obtain ⟨b, off, rfl, c0, c1, c2⟩ := HA.out k x hx
        have hlb : b < w.heap.size := cell_lt c0
        have c0 := cell_keep c0 hb
        have c1 := cell_keep c1 hb
        have c2 := cell_keep c2 hb
        have hps := HS.out x (List.mem_of_getElem? hx)
        unfold maxLen at hps
        obtain ⟨xf, xt, p⟩ := x
        simp only at c0 c1 c2 hps
        have HX := Lib.hid hx
        have HB := Lib.hid hb
        have HNe := Lib.hid (show some b ≠ V.ownBlock from fun e => by have := (HO.out.lt b e.symm).1; omega)
        have hlk : (tamed n l k).length ≤ 30 := by unfold tamed; rw [List.length_map, List.length_take]; omega
        have m1 := Lib.hid (show (tamed n l k).length + 1 ≤ maxLen by simp only [maxLen]; omega)
        have m2 := Lib.hid (show ((tamed n l k).length + 1) * 32 ≤ 140737488355328 by omega)
        have hw1 := wit_bd xf (n + 1) (by omega)
        have HW1 := Lib.hid (fun W => within_any xf (n + 1) W (by omega) (by omega))
        obtain ⟨f, hf⟩ : ∃ f, wit xf (n + 1) = f := ⟨_, rfl⟩
        rw [hf] at hw1 HW1
        clear hx hb hlk
        by_cases h6 : 6 < n - f
        · by_cases h20 : 20 < p.size
          · have h20' : (20 : Int) < (p.size : Int) := by omega
            obtain ⟨t2, ht2⟩ : ∃ t2, wit xt 7 = t2 := ⟨_, rfl⟩
            have hw2 := wit_bd xt 7 (by omega)
            have HW2 := Lib.hid (fun W => within_any xt 7 W (by omega) (by omega))
            rw [ht2] at hw2 HW2
            obtain ⟨pp, hpp⟩ : ∃ pp, p.extract 0 20 = pp := ⟨_, rfl⟩
            have HT := Lib.hid (show tame n ⟨xf, xt, p⟩ = ⟨f, f + t2, pp⟩ by
              simp only [tame, hf, if_pos h6]
              rw [show min p.size 20 = 20 from by omega, hpp, show (6 : Int) + 1 = 7 from rfl, ht2])
            have hsl : ∀ W : World, (Instr.slice 9 (.string p) none (some (.int .i64 (20))) none).run Try.prog W = .ok (.string pp) W := fun W => by
              rw [← hpp, run_slice_string_h W 9 p Try.underlying9 .i64 _ (by omega) (by omega)]
              rfl
            have HTn := Lib.hid (show tamed n l (k + 1) = tamed n l k ++ [⟨f, f + t2, pp⟩] by rw [tamed_next HX.out, HT.out])
            clear ht2 hpp hf
            have hf0 := hw1.1
            have hf1 : f ≤ n := by omega
            have ht0 := hw2.1
            have ht1 : t2 ≤ 7 := by omega
            clear hw1 hw2
            go_wp2_with fail
            refine (HW1.out _).mono ?_
            rintro e w1 ⟨rfl, rfl⟩
            go_wp2_with fail
            refine (HW2.out _).mono ?_
            rintro e w2 ⟨rfl, rfl⟩
            go_wp2_with fail
            have HB1 := Lib.hid (show Below wr.heap.size wr (wr.alloc (.cells #[.int .i64 f, .int .i64 (f + t2), .string pp] 41)).drew from (below_new _ _).drew)
            have HNew := Lib.hid (laid_one wr ⟨f, f + t2, pp⟩ 41)
            have HO2 := Lib.hid (own_below HO.out HB1.out)
            have HD2 := Lib.hid (cell_keep c2 HB1.out)
            go_region_held3 (fun wx => wx.cell? ⟨b, off + k * 3 + 2, none⟩ = some (.string p)) ((repeat (first | (with_reducible exact c2) | (with_reducible exact q2) | (with_reducible refine drew_cell ?_) | (with_reducible refine at_alloc ?_))))
              (((refine step_append_laid tyE rfl (.tmp 40) (.tmp 57) rfl w.heap.size V (tamed n l k) rfl HO2.out wr.heap.size 1 ([⟨f, f + t2, pp⟩] : List Et) rfl rfl HNew.out m1.out m2.out (Nat.le_trans HB.out.size HB1.out.size) ?_; intro v2 w3 hown2 hg2; have q2 := hg2.cell HD2.out HNe.out; have HO3 := Lib.hid (show w3.ownsRow w.heap.size 41 3 v2 (tamed n l (k + 1)).length (encE.all (tamed n l (k + 1))) from by rw [HTn.out]; exact hown2); have HB3 := Lib.hid (own_grown (HB.out.trans (HB1.out.mono HB.out.size)) hg2 (fun j hj => (HO2.out.lt j hj).1) (Nat.le_trans HB.out.size HB1.out.size)); clear hg2 hown2)))
            clear c2 q2 HD2 hsl
            go_wp2
            go_roundw
            case rel => exact ⟨k + 1, v2, rfl, by go_num, by omega, by omega, HO3, HB3.out⟩
            case measure => simp [intOf]; omega
          · have h20' : ¬ (20 : Int) < (p.size : Int) := by omega
            obtain ⟨t2, ht2⟩ : ∃ t2, wit xt 7 = t2 := ⟨_, rfl⟩
            have hw2 := wit_bd xt 7 (by omega)
            have HW2 := Lib.hid (fun W => within_any xt 7 W (by omega) (by omega))
            rw [ht2] at hw2 HW2
            obtain ⟨pp, hpp⟩ : ∃ pp, p.extract 0 p.size = pp := ⟨_, rfl⟩
            have HT := Lib.hid (show tame n ⟨xf, xt, p⟩ = ⟨f, f + t2, pp⟩ by
              simp only [tame, hf, if_pos h6]
              rw [show min p.size 20 = p.size from by omega, hpp, show (6 : Int) + 1 = 7 from rfl, ht2])
            have hsl : ∀ W : World, (Instr.slice 9 (.string p) none (some (.int .i64 ((p.size : Int)))) none).run Try.prog W = .ok (.string pp) W := fun W => by
              rw [← hpp, run_slice_string_h W 9 p Try.underlying9 .i64 _ (by omega) (by omega)]
              simp
            have HTn := Lib.hid (show tamed n l (k + 1) = tamed n l k ++ [⟨f, f + t2, pp⟩] by rw [tamed_next HX.out, HT.out])
            clear ht2 hpp hf
            have hf0 := hw1.1
            have hf1 : f ≤ n := by omega
            have ht0 := hw2.1
            have ht1 : t2 ≤ 7 := by omega
            clear hw1 hw2
            go_wp2_with fail
            refine (HW1.out _).mono ?_
            rintro e w1 ⟨rfl, rfl⟩
            go_wp2_with fail
            refine (HW2.out _).mono ?_
            rintro e w2 ⟨rfl, rfl⟩
            go_wp2_with fail
            have HB1 := Lib.hid (show Below wr.heap.size wr (wr.alloc (.cells #[.int .i64 f, .int .i64 (f + t2), .string pp] 41)).drew from (below_new _ _).drew)
            have HNew := Lib.hid (laid_one wr ⟨f, f + t2, pp⟩ 41)
            have HO2 := Lib.hid (own_below HO.out HB1.out)
            have HD2 := Lib.hid (cell_keep c2 HB1.out)
            have h20n : ¬ (20 : Int) < (p.size : Int) := by omega
            go_region_held3 (fun wx => wx.cell? ⟨b, off + k * 3 + 2, none⟩ = some (.string p)) ((repeat (first | (with_reducible exact c2) | (with_reducible exact q2) | (with_reducible refine drew_cell ?_) | (with_reducible refine at_alloc ?_))))
              (((refine step_append_laid tyE rfl (.tmp 40) (.tmp 57) rfl w.heap.size V (tamed n l k) rfl HO2.out wr.heap.size 1 ([⟨f, f + t2, pp⟩] : List Et) rfl rfl HNew.out m1.out m2.out (Nat.le_trans HB.out.size HB1.out.size) ?_; intro v2 w3 hown2 hg2; have q2 := hg2.cell HD2.out HNe.out; have HO3 := Lib.hid (show w3.ownsRow w.heap.size 41 3 v2 (tamed n l (k + 1)).length (encE.all (tamed n l (k + 1))) from by rw [HTn.out]; exact hown2); have HB3 := Lib.hid (own_grown (HB.out.trans (HB1.out.mono HB.out.size)) hg2 (fun j hj => (HO2.out.lt j hj).1) (Nat.le_trans HB.out.size HB1.out.size)); clear hg2 hown2)))
            clear c2 q2 HD2 hsl
            go_wp2
            go_roundw
            case rel => exact ⟨k + 1, v2, rfl, by go_num, by omega, by omega, HO3, HB3.out⟩
            case measure => simp [intOf]; omega
        · by_cases h20 : 20 < p.size
          · have h20' : (20 : Int) < (p.size : Int) := by omega
            obtain ⟨t2, ht2⟩ : ∃ t2, wit xt (n - f + 1) = t2 := ⟨_, rfl⟩
            have hw2 := wit_bd xt (n - f + 1) (by omega)
            have HW2 := Lib.hid (fun W => within_any xt (n - f + 1) W (by omega) (by omega))
            rw [ht2] at hw2 HW2
            obtain ⟨pp, hpp⟩ : ∃ pp, p.extract 0 20 = pp := ⟨_, rfl⟩
            have HT := Lib.hid (show tame n ⟨xf, xt, p⟩ = ⟨f, f + t2, pp⟩ by
              simp only [tame, hf, if_neg h6]
              rw [show min p.size 20 = 20 from by omega, hpp, ht2])
            have hsl : ∀ W : World, (Instr.slice 9 (.string p) none (some (.int .i64 (20))) none).run Try.prog W = .ok (.string pp) W := fun W => by
              rw [← hpp, run_slice_string_h W 9 p Try.underlying9 .i64 _ (by omega) (by omega)]
              rfl
            have HTn := Lib.hid (show tamed n l (k + 1) = tamed n l k ++ [⟨f, f + t2, pp⟩] by rw [tamed_next HX.out, HT.out])
            clear ht2 hpp hf
            have hf0 := hw1.1
            have hf1 : f ≤ n := by omega
            have ht0 := hw2.1
            have ht1 : t2 ≤ 7 := by omega
            clear hw1 hw2
            go_wp2_with fail
            refine (HW1.out _).mono ?_
            rintro e w1 ⟨rfl, rfl⟩
            go_wp2_with fail
            refine (HW2.out _).mono ?_
            rintro e w2 ⟨rfl, rfl⟩
            go_wp2_with fail
            have HB1 := Lib.hid (show Below wr.heap.size wr (wr.alloc (.cells #[.int .i64 f, .int .i64 (f + t2), .string pp] 41)).drew from (below_new _ _).drew)
            have HNew := Lib.hid (laid_one wr ⟨f, f + t2, pp⟩ 41)
            have HO2 := Lib.hid (own_below HO.out HB1.out)
            have HD2 := Lib.hid (cell_keep c2 HB1.out)
            go_region_held3 (fun wx => wx.cell? ⟨b, off + k * 3 + 2, none⟩ = some (.string p)) ((repeat (first | (with_reducible exact c2) | (with_reducible exact q2) | (with_reducible refine drew_cell ?_) | (with_reducible refine at_alloc ?_))))
              (((refine step_append_laid tyE rfl (.tmp 40) (.tmp 57) rfl w.heap.size V (tamed n l k) rfl HO2.out wr.heap.size 1 ([⟨f, f + t2, pp⟩] : List Et) rfl rfl HNew.out m1.out m2.out (Nat.le_trans HB.out.size HB1.out.size) ?_; intro v2 w3 hown2 hg2; have q2 := hg2.cell HD2.out HNe.out; have HO3 := Lib.hid (show w3.ownsRow w.heap.size 41 3 v2 (tamed n l (k + 1)).length (encE.all (tamed n l (k + 1))) from by rw [HTn.out]; exact hown2); have HB3 := Lib.hid (own_grown (HB.out.trans (HB1.out.mono HB.out.size)) hg2 (fun j hj => (HO2.out.lt j hj).1) (Nat.le_trans HB.out.size HB1.out.size)); clear hg2 hown2)))
            clear c2 q2 HD2 hsl
            go_wp2
            go_roundw
            case rel => exact ⟨k + 1, v2, rfl, by go_num, by omega, by omega, HO3, HB3.out⟩
            case measure => simp [intOf]; omega
          · have h20' : ¬ (20 : Int) < (p.size : Int) := by omega
            obtain ⟨t2, ht2⟩ : ∃ t2, wit xt (n - f + 1) = t2 := ⟨_, rfl⟩
            have hw2 := wit_bd xt (n - f + 1) (by omega)
            have HW2 := Lib.hid (fun W => within_any xt (n - f + 1) W (by omega) (by omega))
            rw [ht2] at hw2 HW2
            obtain ⟨pp, hpp⟩ : ∃ pp, p.extract 0 p.size = pp := ⟨_, rfl⟩
            have HT := Lib.hid (show tame n ⟨xf, xt, p⟩ = ⟨f, f + t2, pp⟩ by
              simp only [tame, hf, if_neg h6]
              rw [show min p.size 20 = p.size from by omega, hpp, ht2])
            have hsl : ∀ W : World, (Instr.slice 9 (.string p) none (some (.int .i64 ((p.size : Int)))) none).run Try.prog W = .ok (.string pp) W := fun W => by
              rw [← hpp, run_slice_string_h W 9 p Try.underlying9 .i64 _ (by omega) (by omega)]
              simp
            have HTn := Lib.hid (show tamed n l (k + 1) = tamed n l k ++ [⟨f, f + t2, pp⟩] by rw [tamed_next HX.out, HT.out])
            clear ht2 hpp hf
            have hf0 := hw1.1
            have hf1 : f ≤ n := by omega
            have ht0 := hw2.1
            have ht1 : t2 ≤ 7 := by omega
            clear hw1 hw2
            go_wp2_with fail
            refine (HW1.out _).mono ?_
            rintro e w1 ⟨rfl, rfl⟩
            go_wp2_with fail
            refine (HW2.out _).mono ?_
            rintro e w2 ⟨rfl, rfl⟩
            go_wp2_with fail
            have HB1 := Lib.hid (show Below wr.heap.size wr (wr.alloc (.cells #[.int .i64 f, .int .i64 (f + t2), .string pp] 41)).drew from (below_new _ _).drew)
            have HNew := Lib.hid (laid_one wr ⟨f, f + t2, pp⟩ 41)
            have HO2 := Lib.hid (own_below HO.out HB1.out)
            have HD2 := Lib.hid (cell_keep c2 HB1.out)
            have h20n : ¬ (20 : Int) < (p.size : Int) := by omega
            go_region_held3 (fun wx => wx.cell? ⟨b, off + k * 3 + 2, none⟩ = some (.string p)) ((repeat (first | (with_reducible exact c2) | (with_reducible exact q2) | (with_reducible refine drew_cell ?_) | (with_reducible refine at_alloc ?_))))
              (((refine step_append_laid tyE rfl (.tmp 40) (.tmp 57) rfl w.heap.size V (tamed n l k) rfl HO2.out wr.heap.size 1 ([⟨f, f + t2, pp⟩] : List Et) rfl rfl HNew.out m1.out m2.out (Nat.le_trans HB.out.size HB1.out.size) ?_; intro v2 w3 hown2 hg2; have q2 := hg2.cell HD2.out HNe.out; have HO3 := Lib.hid (show w3.ownsRow w.heap.size 41 3 v2 (tamed n l (k + 1)).length (encE.all (tamed n l (k + 1))) from by rw [HTn.out]; exact hown2); have HB3 := Lib.hid (own_grown (HB.out.trans (HB1.out.mono HB.out.size)) hg2 (fun j hj => (HO2.out.lt j hj).1) (Nat.le_trans HB.out.size HB1.out.size)); clear hg2 hown2)))
            clear c2 q2 HD2 hsl
            go_wp2
            go_roundw
            case rel => exact ⟨k + 1, v2, rfl, by go_num, by omega, by omega, HO3, HB3.out⟩
            case measure => simp [intOf]; omega
      · obtain rfl : k = 30 := by omega
        have HF := Lib.hid (show wr.ownsRow w.heap.size 41 3 V R.length (encE.all R) from by rw [← HR.out]; exact HO.out)
        have hj3 : ¬ ((30 : Nat) : Int) < 30 := by omega
        go_wp2
        go_ret
        exact ⟨_, rfl, HF.out, hb⟩
    · obtain rfl : k = N := by omega
      have HF := Lib.hid (show wr.ownsRow w.heap.size 41 3 V R.length (encE.all R) from by
        have e : tameAll n l = tamed n l k := by
          unfold tameAll tamed
          rw [List.take_of_length_le (by rw [HN.out]; exact hk30), List.take_of_length_le (by rw [HN.out]; exact Nat.le_refl _)]
        rw [← HR.out, e]; exact HO.out)
      go_wp2
      go_ret
      exact ⟨_, rfl, HF.out, hb⟩
end Go.Proofs.Ytomihekgcnilhaa
