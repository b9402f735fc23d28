/- package edit: uponOne. -/
import Derived.Test.YtomihekgcnilhaaPe
namespace Go.Proofs.Ytomihekgcnilhaa
open Go.RowKit
open Go.Proofs.Ytomihekgcnilhaa.Sq

/-- Does e lie upon one of them? -/
def uponT (e : Et) (l : List Et) : Bool := l.any fun x => Ed.upon e.ed x.ed
theorem drop_cons {l : List Et} {k : Nat} {x : Et} (h : l[k]? = some x) : l.drop k = x :: l.drop (k + 1) := by
  obtain ⟨hk, rfl⟩ := List.getElem?_eq_some_iff.1 h
  exact List.drop_eq_getElem_cons hk
theorem below_from {B : Nat} {a w w' : World} (h : Below B a w) (hB : B ≤ w.heap.size) (hb : Below w.heap.size w w') : Below B a w' := h.trans (hb.mono hB)
theorem edit_new0 (W : World) (x : Et) (t : TypeId) : (W.alloc (.cells #[.int .i64 x.f, .int .i64 x.t, .string x.p] t)).cell? ⟨W.heap.size, 0, none⟩ = some (.int .i64 x.f) := by rw [World.cell?_alloc_mark]; rfl
theorem edit_new1 (W : World) (x : Et) (t : TypeId) : (W.alloc (.cells #[.int .i64 x.f, .int .i64 x.t, .string x.p] t)).cell? ⟨W.heap.size, 1, none⟩ = some (.int .i64 x.t) := by rw [World.cell?_alloc_mark]; rfl
theorem edit_new2 (W : World) (x : Et) (t : TypeId) : (W.alloc (.cells #[.int .i64 x.f, .int .i64 x.t, .string x.p] t)).cell? ⟨W.heap.size, 2, none⟩ = some (.string x.p) := by rw [World.cell?_alloc_mark]; rfl
theorem below_new (W : World) (o : Obj) : Below W.heap.size W (W.alloc o) := (Below.refl _ W).alloc (Nat.le_refl _) o
set_option maxHeartbeats 3000000 in
set_option maxRecDepth 100000 in
theorem uponOne_any (v : Value) (l : List Et) (e : Et) (w : World) (hE : Edits w v l) (hl : l.length ≤ 100000) :
    Calls Try.prog 32 #[e.val, v] w fun r w' => r = .returned (.bool (uponT e l)) ∧ Below w.heap.size w w' := by
  obtain ⟨a, cap, rfl⟩ := hE.shape
  obtain ⟨N, hN⟩ : ∃ N, l.length = N := ⟨_, rfl⟩
  have HA := Lib.hid (fun k y hk => edits_at hE k y hk)
  have HN := Lib.hid hN
  rw [hN] at hl
  rw [hN]
  obtain ⟨R, hR⟩ : ∃ R, uponT e l = R := ⟨_, rfl⟩
  have HR := Lib.hid (show uponT e (l.drop 0) = R from hR)
  rw [hR]
  have HPe := Lib.hid (fun W => place_any e W)
  have HUp := Lib.hid (fun x W => upon_any e x W)
  clear hN hE hR
  obtain ⟨f, t, p⟩ := e
  go_enter Try.func32, Try.ntmps32
  go_wp2_with fail
  go_loopw [9] (fun is wr => ∃ i : Nat, is = .int .i64 i ∧ i ≤ N ∧ Hid (uponT ⟨f, t, p⟩ (l.drop i) = R) ∧ wr.cell? ⟨w.heap.size, 0, none⟩ = some (.int .i64 f) ∧ wr.cell? ⟨w.heap.size, 1, none⟩ = some (.int .i64 t) ∧ wr.cell? ⟨w.heap.size, 2, none⟩ = some (.string p) ∧ Below w.heap.size w wr) (fun is _ => N - (intOf is).toNat)
  case atStart => exact ⟨0, rfl, Nat.zero_le _, HR, edit_new0 w ⟨f, t, p⟩ _, edit_new1 w ⟨f, t, p⟩ _, edit_new2 w ⟨f, t, p⟩ _, below_new _ _⟩
  case round =>
    obtain ⟨i, rfl, hiN, HK, d0, d1, d2, hb⟩ := hrel
    by_cases hlt : i < N
    · have hkl : i < l.length := by rw [HN.out]; omega
      have hlt' : (i : Int) < (N : Int) := by omega
      obtain ⟨x, hx⟩ : ∃ x, l[i]? = some x := ⟨_, List.getElem?_eq_getElem hkl⟩
      obtain ⟨b, off, rfl, c0, c1, c2⟩ := HA.out i x hx
      have c0 := cell_keep c0 hb
      have c1 := cell_keep c1 hb
      have c2 := cell_keep c2 hb
      have hK := HK.out
      rw [drop_cons hx] at hK
      have HPx := Lib.hid (fun W => place_any x W)
      have HU := Lib.hid (fun W => HUp.out x W)
      obtain ⟨u, hu⟩ : ∃ u, Ed.upon (Et.ed ⟨f, t, p⟩) x.ed = u := ⟨_, rfl⟩
      rw [hu] at HU
      have hK2 : (u || uponT ⟨f, t, p⟩ (l.drop (i + 1))) = R := by rw [← hK, uponT, uponT, List.any_cons, hu]
      have HK2 := Lib.hid hK2
      have HB := Lib.hid hb
      have e0 := cell_keep d0 (below_new wr (.cells #[.int .i64 x.f, .int .i64 x.t, .string x.p] 41))
      have e1 := cell_keep d1 (below_new wr (.cells #[.int .i64 x.f, .int .i64 x.t, .string x.p] 41))
      have e2 := cell_keep d2 (below_new wr (.cells #[.int .i64 x.f, .int .i64 x.t, .string x.p] 41))
      have z0 := edit_new0 wr x 41
      have z1 := edit_new1 wr x 41
      have z2 := edit_new2 wr x 41
      have hbn := hb.trans ((below_new wr (.cells #[.int .i64 x.f, .int .i64 x.t, .string x.p] 41)).mono hb.size)
      have HE0 := Lib.hid e0
      have HE1 := Lib.hid e1
      have HE2 := Lib.hid e2
      have HZ0 := Lib.hid z0
      have HZ1 := Lib.hid z1
      have HZ2 := Lib.hid z2
      have HBn := Lib.hid hbn
      clear hK hK2 hu hx hb hbn e0 e1 e2 z0 z1 z2 d0 d1 d2 HK HUp HPe
      have HPe := Lib.hid (fun W => place_any ⟨f, t, p⟩ W)
      go_wp2_with fail
      have d0 := HE0.out
      have d1 := HE1.out
      have d2 := HE2.out
      have z0 := HZ0.out
      have z1 := HZ1.out
      have z2 := HZ2.out
      have hbn := HBn.out
      clear c0 c1 c2 HE0 HE1 HE2 HZ0 HZ1 HZ2 HBn
      obtain ⟨xb, hxb⟩ : ∃ xb, wr.heap.size = xb := ⟨_, rfl⟩
      rw [hxb] at z0 z1 z2 ⊢
      obtain ⟨W1, hW1⟩ : ∃ W1, wr.alloc (.cells #[.int .i64 x.f, .int .i64 x.t, .string x.p] 41) = W1 := ⟨_, rfl⟩
      rw [hW1] at d0 d1 d2 z0 z1 z2 hbn ⊢
      clear hW1 hxb
      cases u with
      | true =>
        go_region_held3 (fun wx => wx.cell? ⟨w.heap.size, 0, none⟩ = some (.int .i64 f) ∧ wx.cell? ⟨w.heap.size, 1, none⟩ = some (.int .i64 t) ∧ wx.cell? ⟨w.heap.size, 2, none⟩ = some (.string p) ∧ wx.cell? ⟨xb, 0, none⟩ = some (.int .i64 x.f) ∧ wx.cell? ⟨xb, 1, none⟩ = some (.int .i64 x.t) ∧ wx.cell? ⟨xb, 2, none⟩ = some (.string x.p)) (((refine ⟨?_, ?_, ?_, ?_, ?_, ?_⟩); all_goals (repeat (first | (with_reducible exact d0) | (with_reducible exact d1) | (with_reducible exact d2) | (with_reducible exact z0) | (with_reducible exact z1) | (with_reducible exact z2) | (with_reducible exact q0) | (with_reducible exact q1) | (with_reducible exact q2) | (with_reducible exact q3) | (with_reducible exact q4) | (with_reducible exact q5) | (with_reducible exact r0) | (with_reducible exact r1) | (with_reducible exact r2) | (with_reducible exact r3) | (with_reducible exact r4) | (with_reducible exact r5) | (with_reducible exact s0) | (with_reducible exact s1) | (with_reducible exact s2) | (with_reducible exact s3) | (with_reducible exact s4) | (with_reducible exact s5) | (with_reducible refine drew_cell ?_)))))
          (first | ((with_reducible refine (HPe.out _).mono ?_); rintro e w2 ⟨rfl, hb2⟩; have q0 := cell_keep (w := W1.drew) d0 hb2; have q1 := cell_keep (w := W1.drew) d1 hb2; have q2 := cell_keep (w := W1.drew) d2 hb2; have q3 := cell_keep (w := W1.drew) z0 hb2; have q4 := cell_keep (w := W1.drew) z1 hb2; have q5 := cell_keep (w := W1.drew) z2 hb2; have hbn2 := below_from (w := W1.drew) ⟨hbn.os, hbn.tape, hbn.output, hbn.size, hbn.block⟩ hbn.size hb2) | ((with_reducible refine (HPx.out _).mono ?_); rintro e w3 ⟨rfl, hb3⟩; have r0 := cell_keep q0 hb3; have r1 := cell_keep q1 hb3; have r2 := cell_keep q2 hb3; have r3 := cell_keep q3 hb3; have r4 := cell_keep q4 hb3; have r5 := cell_keep q5 hb3; have hbn3 := below_from hbn2 hbn2.size hb3) | ((with_reducible refine (HU.out _).mono ?_); rintro e w4 ⟨rfl, hb4⟩; have s0 := cell_keep r0 hb4; have s1 := cell_keep r1 hb4; have s2 := cell_keep r2 hb4; have s3 := cell_keep r3 hb4; have s4 := cell_keep r4 hb4; have s5 := cell_keep r5 hb4; have hbn4 := below_from hbn3 hbn3.size hb4))
        clear d0 d1 d2 z0 z1 z2 q0 q1 q2 q3 q4 q5 r0 r1 r2 r3 r4 r5 s0 s1 s2 s3 s4 s5 hb2 hb3 hb4
        go_wp2
        go_ret
        exact ⟨by rw [← HK2.out]; rfl, hbn4⟩
      | false =>
        go_region_held3 (fun wx => wx.cell? ⟨w.heap.size, 0, none⟩ = some (.int .i64 f) ∧ wx.cell? ⟨w.heap.size, 1, none⟩ = some (.int .i64 t) ∧ wx.cell? ⟨w.heap.size, 2, none⟩ = some (.string p) ∧ wx.cell? ⟨xb, 0, none⟩ = some (.int .i64 x.f) ∧ wx.cell? ⟨xb, 1, none⟩ = some (.int .i64 x.t) ∧ wx.cell? ⟨xb, 2, none⟩ = some (.string x.p)) (((refine ⟨?_, ?_, ?_, ?_, ?_, ?_⟩); all_goals (repeat (first | (with_reducible exact d0) | (with_reducible exact d1) | (with_reducible exact d2) | (with_reducible exact z0) | (with_reducible exact z1) | (with_reducible exact z2) | (with_reducible exact q0) | (with_reducible exact q1) | (with_reducible exact q2) | (with_reducible exact q3) | (with_reducible exact q4) | (with_reducible exact q5) | (with_reducible exact r0) | (with_reducible exact r1) | (with_reducible exact r2) | (with_reducible exact r3) | (with_reducible exact r4) | (with_reducible exact r5) | (with_reducible exact s0) | (with_reducible exact s1) | (with_reducible exact s2) | (with_reducible exact s3) | (with_reducible exact s4) | (with_reducible exact s5) | (with_reducible refine drew_cell ?_)))))
          (first | ((with_reducible refine (HPe.out _).mono ?_); rintro e w2 ⟨rfl, hb2⟩; have q0 := cell_keep (w := W1.drew) d0 hb2; have q1 := cell_keep (w := W1.drew) d1 hb2; have q2 := cell_keep (w := W1.drew) d2 hb2; have q3 := cell_keep (w := W1.drew) z0 hb2; have q4 := cell_keep (w := W1.drew) z1 hb2; have q5 := cell_keep (w := W1.drew) z2 hb2; have hbn2 := below_from (w := W1.drew) ⟨hbn.os, hbn.tape, hbn.output, hbn.size, hbn.block⟩ hbn.size hb2) | ((with_reducible refine (HPx.out _).mono ?_); rintro e w3 ⟨rfl, hb3⟩; have r0 := cell_keep q0 hb3; have r1 := cell_keep q1 hb3; have r2 := cell_keep q2 hb3; have r3 := cell_keep q3 hb3; have r4 := cell_keep q4 hb3; have r5 := cell_keep q5 hb3; have hbn3 := below_from hbn2 hbn2.size hb3) | ((with_reducible refine (HU.out _).mono ?_); rintro e w4 ⟨rfl, hb4⟩; have s0 := cell_keep r0 hb4; have s1 := cell_keep r1 hb4; have s2 := cell_keep r2 hb4; have s3 := cell_keep r3 hb4; have s4 := cell_keep r4 hb4; have s5 := cell_keep r5 hb4; have hbn4 := below_from hbn3 hbn3.size hb4))
        have HK3 := Lib.hid (show uponT ⟨f, t, p⟩ (l.drop (i + 1)) = R by rw [← HK2.out, Bool.false_or])
        clear d0 d1 d2 z0 z1 z2 q0 q1 q2 q3 q4 q5 r0 r1 r2 r3 r4 r5 hb2 hb3 hb4 s3 s4 s5
        go_wp2
        go_roundw
        case rel => exact ⟨i + 1, by go_num, by omega, HK3, s0, s1, s2, hbn4⟩
        case measure => simp [intOf]; omega
    · obtain rfl : i = N := by omega
      have hK := HK.out
      rw [List.drop_of_length_le (by rw [HN.out]; exact Nat.le_refl _)] at hK
      have HRz := Lib.hid (show false = R from hK)
      clear hK HK
      go_wp2
      go_ret
      exact ⟨by rw [← HRz.out]; rfl, hb⟩
end Go.Proofs.Ytomihekgcnilhaa
