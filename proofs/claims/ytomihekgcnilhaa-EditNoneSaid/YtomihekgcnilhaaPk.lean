/- package edit: pieces. -/
import Derived.Test.YtomihekgcnilhaaPj
import Derived.Test.YtomihekgcnilhaaPg
namespace Go.Proofs.Ytomihekgcnilhaa
open Go.RowKit
open Go.Proofs.Ytomihekgcnilhaa.Sq

/-- What pieces yields: of w, what comes out is R. -/
def Pieced (w : World) (m : Nat) (R : List UInt8) (r : Ending) (w' : World) : Prop :=
  ∃ v its, r = .returned v ∧ w'.ownsRow w.heap.size 20 1 v its.length (encI.all its) ∧ its.length ≤ m ∧ (∀ it ∈ its, it.Ok w) ∧ cat its = R ∧ Below w.heap.size w w'
theorem cat_two {s p : ByteArray} {its : List It} {A F T : Nat} {v : Value} {e : Ed.E} {r : List Ed.E} {R : List UInt8} (hf : e.f = F) (ht : e.t = T) (hp : e.p = p.data.toList) (h : cat its ++ Ed.applyFrom s.data.toList A (e :: r) = R) :
    cat (its ++ [It.stays v (s.extract A F), It.put p]) ++ Ed.applyFrom s.data.toList T r = R := by
  rw [← h, apply_next hf ht, cat_app, hp]
  simp [cat, It.text, List.append_assoc, List.extract_eq_take_drop]
theorem cat_end {s : ByteArray} {its : List It} {A : Nat} {v : Value} {R : List UInt8} (h : cat its ++ Ed.applyFrom s.data.toList A [] = R) : cat (its ++ [It.stays v (s.extract A s.size)]) = R := by
  rw [← h, cat_app, Ed.applyFrom]
  congr 1
  simp only [cat, It.text, List.flatMap_cons, List.flatMap_nil, List.append_nil]
  rw [tol_ext]
  exact List.take_of_length_le (by rw [List.length_drop, ← Lib.size_eq]; exact Nat.le_refl _)
set_option maxHeartbeats 3000000 in
set_option maxRecDepth 100000 in
theorem pieces_any (bv lv : Value) (s : ByteArray) (l : List Et) (w : World) (hB : Bys w bv s) (hE : Edits w lv l) (hl : l.length ≤ 200) (hL : Left s.size 0 (l.map Et.ed)) :
    Calls Try.prog 30 #[bv, lv] w (Pieced w (2 * l.length + 1) (Ed.apply s.data.toList (l.map Et.ed))) := by
  obtain ⟨sa, sc, rfl⟩ := hB.shape
  obtain ⟨a, cap, rfl⟩ := hE.shape
  obtain ⟨N, hN⟩ : ∃ N, l.length = N := ⟨_, rfl⟩
  have HA := Lib.hid (fun k y hk => edits_at hE k y hk)
  have HN := Lib.hid hN
  have HB := Lib.hid hB
  have HL := Lib.hid (show Left s.size 0 ((l.map Et.ed).drop 0) from hL)
  rw [hN] at hl
  rw [hN]
  obtain ⟨R, hR⟩ : ∃ R, Ed.apply s.data.toList (l.map Et.ed) = R := ⟨_, rfl⟩
  have HR0 := Lib.hid (show cat [] ++ Ed.applyFrom s.data.toList 0 ((l.map Et.ed).drop 0) = R from hR)
  rw [hR]
  clear hR hN hE hB hL
  have hcb := concrete_bys
  have hcs := concrete_str
  go_enter Try.func30, Try.ntmps30
  go_wp2_with fail
  go_loopw [5, 6, 11] (fun rv at' is wr => ∃ (A k : Nat) (its : List It) (V : Value), V = rv ∧ at' = .int .i64 A ∧ is = .int .i64 k ∧ k ≤ N ∧ its.length ≤ 2 * k ∧ A ≤ s.size ∧ Hid (wr.ownsRow w.heap.size 20 1 V its.length (encI.all its)) ∧ Hid (∀ it ∈ its, it.Ok w) ∧ Hid (Left s.size A ((l.map Et.ed).drop k)) ∧ Hid (cat its ++ Ed.applyFrom s.data.toList A ((l.map Et.ed).drop k) = R) ∧ Below w.heap.size w wr) (fun _ _ is _ => N - (intOf is).toNat)
  case atStart => exact ⟨0, 0, [], _, rfl, rfl, rfl, Nat.zero_le _, Nat.zero_le _, Nat.zero_le _, Lib.hid (own_nil encI _ _), Lib.hid (fun it h => by cases h), HL, HR0, Below.refl _ _⟩
  case round =>
    obtain ⟨A, k, its, V, rfl, rfl, rfl, hk, hi, hA, HO, HOk, HLk, HRk, hb⟩ := hrel
    by_cases hlt : k < N
    · have hkl : k < l.length := by rw [HN.out]; exact hlt
      obtain ⟨y, hy⟩ : ∃ y, l[k]? = some y := ⟨_, List.getElem?_eq_getElem hkl⟩
      obtain ⟨b, off, rfl, c0, c1, c2⟩ := HA.out k y hy
      have hL := HLk.out
      have hR := HRk.out
      rw [drop_at hy] at hL hR
      obtain ⟨F, T, hf, ht, g1, g2, g3, g4, g5⟩ := left_next hL
      obtain ⟨vp, hsl, hvp⟩ := bcut_lhm HB.out g1 (Nat.le_trans g2 g3)
      have hstep := cat_two (v := vp) (p := y.p) hf ht rfl hR
      rw [Et.plen] at g4
      have c0 := cell_keep c0 hb
      have c1 := cell_keep c1 hb
      have c2 := cell_keep c2 hb
      obtain ⟨f, t, p⟩ := y
      obtain rfl : f = (F : Int) := hf
      obtain rfl : t = (T : Int) := ht
      simp only at c0 c1 c2 g4 hstep
      have H5 := Lib.hid g5
      have HSt := Lib.hid hstep
      have HOk2 := Lib.hid (show ∀ it ∈ its ++ [It.stays vp (s.extract A F), It.put p], it.Ok w from fun it h => by
        rcases List.mem_append.1 h with h | h
        · exact HOk.out it h
        · rcases List.mem_cons.1 h with rfl | h
          · exact hvp
          · rw [List.mem_singleton.1 h]; exact trivial)
      obtain ⟨t1, ht1⟩ : ∃ t1, s.extract A F = t1 := ⟨_, rfl⟩
      rw [ht1] at HOk2 HSt
      have hj2 : (k : Int) < (N : Int) := by omega
      have HBox := Lib.hid (below_new wr (.cells #[.int .i64 (F : Int), .int .i64 (T : Int), .string p] 41))
      have HBw := Lib.hid (hb.trans (HBox.out.mono hb.size))
      have HZ0 := Lib.hid (edit_new0 wr ⟨F, T, p⟩ 41)
      have HZ1 := Lib.hid (edit_new1 wr ⟨F, T, p⟩ 41)
      have HZ2 := Lib.hid (edit_new2 wr ⟨F, T, p⟩ 41)
      have HO1 := Lib.hid (own_below HO.out HBox.out)
      have HLt := Lib.hid (fun g (h : V.ownBlock = some g) => (HO.out.lt g h).2)
      clear hL hR hy g5 hstep HLk HRk hvp ht1 hb HO HOk HBox
      go_wp2_with fail
      have z0 := HZ0.out
      have z1 := HZ1.out
      have z2 := HZ2.out
      have hbw := HBw.out
      have ho1 := HO1.out
      have hlt1 := HLt.out
      clear c0 c1 c2 HZ0 HZ1 HZ2 HBw HO1 HLt
      obtain ⟨xb, hxb⟩ : ∃ xb, wr.heap.size = xb := ⟨_, rfl⟩
      rw [hxb] at z0 z1 z2 hlt1 ⊢
      obtain ⟨W1, hW1⟩ : ∃ W1, wr.alloc (.cells #[.int .i64 (F : Int), .int .i64 (T : Int), .string p] 41) = W1 := ⟨_, rfl⟩
      rw [hW1] at z0 z1 z2 hbw ho1 ⊢
      have hxw : xb < W1.heap.size := cell_lt z0
      have HBw := Lib.hid hbw
      have HO1 := Lib.hid ho1
      have HNe := Lib.hid (show some xb ≠ V.ownBlock from fun e => by have := hlt1 xb e.symm; omega)
      have HB1 := Lib.hid (show Below W1.heap.size W1 (W1.alloc (.cells #[.iface 22 vp, .iface 9 (.string p)] 20)).drew from (below_new _ _).drew)
      have HNew := Lib.hid (laid_two W1 (It.stays vp t1) (It.put p) 20)
      have HO2 := Lib.hid (own_below HO1.out HB1.out)
      have HD0 := Lib.hid (cell_keep z0 HB1.out)
      have HD1 := Lib.hid (cell_keep z1 HB1.out)
      have HD2 := Lib.hid (cell_keep z2 HB1.out)
      have HBs := Lib.hid (show w.heap.size ≤ W1.heap.size from HBw.out.size)
      have m1 := Lib.hid (show its.length + 2 ≤ maxLen by simp only [maxLen]; omega)
      have m2 := Lib.hid (show (its.length + 2) * 16 ≤ 140737488355328 by omega)
      have Hi := Lib.hid hi
      clear hW1 hxb hlt1 hbw ho1 hi
      go_region_held3 (fun wx => wx.cell? ⟨xb, 0, none⟩ = some (.int .i64 (F : Int)) ∧ wx.cell? ⟨xb, 1, none⟩ = some (.int .i64 (T : Int)) ∧ wx.cell? ⟨xb, 2, none⟩ = some (.string p)) (((refine ⟨?_, ?_, ?_⟩); all_goals (repeat (first | (with_reducible exact z0) | (with_reducible exact z1) | (with_reducible exact z2) | (with_reducible exact q0) | (with_reducible exact q1) | (with_reducible exact q2) | (with_reducible refine drew_cell ?_) | (with_reducible refine at_alloc ?_)))))
        (((refine step_append_laid tyI rfl (.tmp 15) (.tmp 27) rfl w.heap.size V its rfl HO2.out W1.heap.size 2 ([It.stays vp t1, It.put p] : List It) rfl rfl HNew.out m1.out m2.out (Nat.le_trans HBs.out HB1.out.size) ?_; intro v2 w2 hown2 hg2; have q0 := hg2.cell HD0.out HNe.out; have q1 := hg2.cell HD1.out HNe.out; have q2 := hg2.cell HD2.out HNe.out; have HO3 := Lib.hid hown2; have HB3 := Lib.hid (own_grown (HBw.out.trans (HB1.out.mono HBs.out)) hg2 (fun j hj => (HO2.out.lt j hj).1) (Nat.le_trans HBs.out HB1.out.size)); clear hg2 hown2)))
      clear z0 z1 z2 q0 q2 HD0 HD1 HD2 hsl
      go_wp2
      go_roundw
      case rel => exact ⟨T, k + 1, its ++ [It.stays vp t1, It.put p], v2, rfl, rfl, by go_num, by omega, by have := Hi.out; simp; omega, g3, HO3, HOk2, H5, HSt, HB3.out⟩
      case measure => simp [intOf]; omega
    · obtain rfl : k = N := by omega
      have hR1 := HRk.out
      rw [List.drop_of_length_le (by rw [List.length_map, HN.out]; exact Nat.le_refl _)] at hR1
      obtain ⟨vp, hsl, hvp⟩ := bcut_lhm HB.out hA (Nat.le_refl _)
      have hend := cat_end (v := vp) hR1
      have HOk2 := Lib.hid (show ∀ it ∈ its ++ [It.stays vp (s.extract A s.size)], it.Ok w from fun it h => by
        rcases List.mem_append.1 h with h | h
        · exact HOk.out it h
        · rw [List.mem_singleton.1 h]; exact hvp)
      obtain ⟨t1, ht1⟩ : ∃ t1, s.extract A s.size = t1 := ⟨_, rfl⟩
      rw [ht1] at HOk2 hend
      have HEnd := Lib.hid hend
      have m1 := Lib.hid (show its.length + 1 ≤ maxLen by simp only [maxLen]; omega)
      have m2 := Lib.hid (show (its.length + 1) * 16 ≤ 140737488355328 by omega)
      have HBw := Lib.hid hb
      have HBx := Lib.hid (hb.alloc hb.size (.cells #[.iface 22 vp] 20))
      have Hi := Lib.hid hi
      clear hR1 HRk HLk hend hvp ht1 hb hi
      go_wp2_with (at_builtin; go_must (refine append_one tyI rfl (.tmp 32) (.tmp 41) rfl w.heap.size V its (It.stays vp t1) [.iface 22 vp] rfl rfl HO.out rfl m1.out m2.out HBw.out.size ?_; intro v2 w2 hown2 hg2; have HO2 := Lib.hid hown2; have HB2 := Lib.hid (own_grown HBx.out hg2 (fun j hj => (HO.out.lt j hj).1) HBx.out.size); clear hg2 hown2))
      go_ret
      exact ⟨v2, its ++ [It.stays vp t1], rfl, HO2.out, by have := Hi.out; simp; omega, HOk2.out, HEnd.out, HB2.out⟩
end Go.Proofs.Ytomihekgcnilhaa
