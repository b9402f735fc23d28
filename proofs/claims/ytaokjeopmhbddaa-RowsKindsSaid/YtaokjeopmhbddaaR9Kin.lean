/- The walk of the law RowsKinds: each of such texts has rows of just such kinds. -/
import Derived.Test.YtaokjeopmhbddaaTfa
namespace Go.Proofs.Ytaokjeopmhbddaa
open Go.RowKit
open Go.Proofs.Ytaokjeopmhbddaa.Sg
open Go.Proofs.Ytaokjeopmhbddaa.Sq
set_option linter.unusedVariables false

/-- Blocks laid one behind the other. -/
def layAll (w : World) : List Obj → World
  | [] => w
  | o :: r => layAll (w.alloc o) r
theorem lay_below : ∀ (os : List Obj) (w : World), Below w.heap.size w (layAll w os)
  | [], w => Below.refl _ _
  | o :: r, w => below_from (below_alloc w o) (lay_below r (w.alloc o))
theorem lay_cell : ∀ (w : World) (os : List Obj) (i : Nat) (C : Array Value) (t : TypeId) (fr : Nat × Nat), os[i]? = some (.cells C t fr) → ∀ j, (layAll w os).cell? ⟨w.heap.size + i, j, none⟩ = C[j]?
  | w, [], i, C, t, fr => fun h => by simp at h
  | w, o :: r, 0, C, t, fr => fun h j => by
    obtain rfl : o = .cells C t fr := by simpa using h
    show (layAll (w.alloc (.cells C t fr)) r).cell? ⟨w.heap.size, j, none⟩ = _
    rw [(lay_below r (w.alloc (.cells C t fr))).cell (p := ⟨w.heap.size, j, none⟩) (by simp), World.cell?_alloc_mark]
  | w, o :: r, i + 1, C, t, fr => fun h j => by
    have ih := lay_cell (w.alloc o) r i C t fr (by simpa using h) j
    rw [size_alloc] at ih
    rw [show w.heap.size + (i + 1) = w.heap.size + 1 + i from by omega]
    exact ih
abbrev kinO (w : World) : List Obj := [
  .cells #[.string ⟨#[97, 10]⟩, .string ⟨#[10, 10]⟩, .string ⟨#[35, 32, 99, 10, 45, 32, 98]⟩, .string ⟨#[45, 45, 45, 10, 97]⟩, .string ⟨#[91, 10, 49, 10, 93, 10, 98]⟩, .string ⟨#[97, 58, 32, 124, 10, 32, 32, 120, 10, 32, 32, 121, 10, 122]⟩, .string ⟨#[46, 46, 46]⟩, .string ⟨#[32, 32, 9, 10]⟩, .string ⟨#[91, 10, 45, 45, 45, 10, 93]⟩, .string ⟨#[]⟩] 9,
  .cells #[.int .i64 5] 3,
  .cells #[.int .i64 1, .int .i64 1] 3,
  .cells #[.int .i64 1, .int .i64 5] 3,
  .cells #[.int .i64 4, .int .i64 5] 3,
  .cells #[.int .i64 5, .int .i64 3, .int .i64 3, .int .i64 5] 3,
  .cells #[.int .i64 5, .int .i64 2, .int .i64 2, .int .i64 5] 3,
  .cells #[.int .i64 4] 3,
  .cells #[.int .i64 1] 3,
  .cells #[.int .i64 5, .int .i64 4, .int .i64 5] 3,
  .cells #[.slice (some ⟨w.heap.size + 1, 0, none⟩) 1 1, .slice (some ⟨w.heap.size + 2, 0, none⟩) 2 2, .slice (some ⟨w.heap.size + 3, 0, none⟩) 2 2, .slice (some ⟨w.heap.size + 4, 0, none⟩) 2 2, .slice (some ⟨w.heap.size + 5, 0, none⟩) 4 4, .slice (some ⟨w.heap.size + 6, 0, none⟩) 4 4, .slice (some ⟨w.heap.size + 7, 0, none⟩) 1 1, .slice (some ⟨w.heap.size + 8, 0, none⟩) 1 1, .slice (some ⟨w.heap.size + 9, 0, none⟩) 3 3, .slice none 0 0] 22]
theorem kin_tab (w W : World) (hW : layAll w (kinO w) = W) (k : Nat) (hk : k < 10) : ∃ (X : ByteArray) (kl : List Nat) (ao : Option Addr) (kc : Nat), W.cell? ⟨w.heap.size, k, none⟩ = some (.string X) ∧ W.cell? ⟨w.heap.size + 10, k, none⟩ = some (.slice ao kl.length kc) ∧
    (∀ j x, kl[j]? = some x → ∃ b, ao = some ⟨b, 0, none⟩ ∧ W.cell? ⟨b, j, none⟩ = some (.int .i64 (x : Nat))) ∧ (Rw.rowsN (Sc.tokens (Sc.nats X))).map Rw.R.kind = kl ∧ X.size ≤ 100 := by
  rcases (by omega : k = 0 ∨ k = 1 ∨ k = 2 ∨ k = 3 ∨ k = 4 ∨ k = 5 ∨ k = 6 ∨ k = 7 ∨ k = 8 ∨ k = 9) with rfl | rfl | rfl | rfl | rfl | rfl | rfl | rfl | rfl | rfl
  · exact ⟨⟨#[97, 10]⟩, [5], some ⟨w.heap.size + 1, 0, none⟩, 1, by rw [← hW]; exact (lay_cell w (kinO w) 0 _ _ _ rfl 0).trans rfl, by rw [← hW]; exact (lay_cell w (kinO w) 10 _ _ _ rfl 0).trans rfl, fun j x hj => ⟨w.heap.size + 1, rfl, by
      rw [← hW, lay_cell w (kinO w) 1 _ _ _ rfl j]
      show ((List.map (fun (x : Nat) => Value.int .i64 (x : Int)) [5]).toArray)[j]? = _
      rw [List.getElem?_toArray, List.getElem?_map, hj]; rfl⟩, Rw.kinds_ok ([97, 10], [5]) (by simp [Rw.kindsT]), by decide⟩
  · exact ⟨⟨#[10, 10]⟩, [1, 1], some ⟨w.heap.size + 2, 0, none⟩, 2, by rw [← hW]; exact (lay_cell w (kinO w) 0 _ _ _ rfl 1).trans rfl, by rw [← hW]; exact (lay_cell w (kinO w) 10 _ _ _ rfl 1).trans rfl, fun j x hj => ⟨w.heap.size + 2, rfl, by
      rw [← hW, lay_cell w (kinO w) 2 _ _ _ rfl j]
      show ((List.map (fun (x : Nat) => Value.int .i64 (x : Int)) [1, 1]).toArray)[j]? = _
      rw [List.getElem?_toArray, List.getElem?_map, hj]; rfl⟩, Rw.kinds_ok ([10, 10], [1, 1]) (by simp [Rw.kindsT]), by decide⟩
  · exact ⟨⟨#[35, 32, 99, 10, 45, 32, 98]⟩, [1, 5], some ⟨w.heap.size + 3, 0, none⟩, 2, by rw [← hW]; exact (lay_cell w (kinO w) 0 _ _ _ rfl 2).trans rfl, by rw [← hW]; exact (lay_cell w (kinO w) 10 _ _ _ rfl 2).trans rfl, fun j x hj => ⟨w.heap.size + 3, rfl, by
      rw [← hW, lay_cell w (kinO w) 3 _ _ _ rfl j]
      show ((List.map (fun (x : Nat) => Value.int .i64 (x : Int)) [1, 5]).toArray)[j]? = _
      rw [List.getElem?_toArray, List.getElem?_map, hj]; rfl⟩, Rw.kinds_ok ([35, 32, 99, 10, 45, 32, 98], [1, 5]) (by simp [Rw.kindsT]), by decide⟩
  · exact ⟨⟨#[45, 45, 45, 10, 97]⟩, [4, 5], some ⟨w.heap.size + 4, 0, none⟩, 2, by rw [← hW]; exact (lay_cell w (kinO w) 0 _ _ _ rfl 3).trans rfl, by rw [← hW]; exact (lay_cell w (kinO w) 10 _ _ _ rfl 3).trans rfl, fun j x hj => ⟨w.heap.size + 4, rfl, by
      rw [← hW, lay_cell w (kinO w) 4 _ _ _ rfl j]
      show ((List.map (fun (x : Nat) => Value.int .i64 (x : Int)) [4, 5]).toArray)[j]? = _
      rw [List.getElem?_toArray, List.getElem?_map, hj]; rfl⟩, Rw.kinds_ok ([45, 45, 45, 10, 97], [4, 5]) (by simp [Rw.kindsT]), by decide⟩
  · exact ⟨⟨#[91, 10, 49, 10, 93, 10, 98]⟩, [5, 3, 3, 5], some ⟨w.heap.size + 5, 0, none⟩, 4, by rw [← hW]; exact (lay_cell w (kinO w) 0 _ _ _ rfl 4).trans rfl, by rw [← hW]; exact (lay_cell w (kinO w) 10 _ _ _ rfl 4).trans rfl, fun j x hj => ⟨w.heap.size + 5, rfl, by
      rw [← hW, lay_cell w (kinO w) 5 _ _ _ rfl j]
      show ((List.map (fun (x : Nat) => Value.int .i64 (x : Int)) [5, 3, 3, 5]).toArray)[j]? = _
      rw [List.getElem?_toArray, List.getElem?_map, hj]; rfl⟩, Rw.kinds_ok ([91, 10, 49, 10, 93, 10, 98], [5, 3, 3, 5]) (by simp [Rw.kindsT]), by decide⟩
  · exact ⟨⟨#[97, 58, 32, 124, 10, 32, 32, 120, 10, 32, 32, 121, 10, 122]⟩, [5, 2, 2, 5], some ⟨w.heap.size + 6, 0, none⟩, 4, by rw [← hW]; exact (lay_cell w (kinO w) 0 _ _ _ rfl 5).trans rfl, by rw [← hW]; exact (lay_cell w (kinO w) 10 _ _ _ rfl 5).trans rfl, fun j x hj => ⟨w.heap.size + 6, rfl, by
      rw [← hW, lay_cell w (kinO w) 6 _ _ _ rfl j]
      show ((List.map (fun (x : Nat) => Value.int .i64 (x : Int)) [5, 2, 2, 5]).toArray)[j]? = _
      rw [List.getElem?_toArray, List.getElem?_map, hj]; rfl⟩, Rw.kinds_ok ([97, 58, 32, 124, 10, 32, 32, 120, 10, 32, 32, 121, 10, 122], [5, 2, 2, 5]) (by simp [Rw.kindsT]), by decide⟩
  · exact ⟨⟨#[46, 46, 46]⟩, [4], some ⟨w.heap.size + 7, 0, none⟩, 1, by rw [← hW]; exact (lay_cell w (kinO w) 0 _ _ _ rfl 6).trans rfl, by rw [← hW]; exact (lay_cell w (kinO w) 10 _ _ _ rfl 6).trans rfl, fun j x hj => ⟨w.heap.size + 7, rfl, by
      rw [← hW, lay_cell w (kinO w) 7 _ _ _ rfl j]
      show ((List.map (fun (x : Nat) => Value.int .i64 (x : Int)) [4]).toArray)[j]? = _
      rw [List.getElem?_toArray, List.getElem?_map, hj]; rfl⟩, Rw.kinds_ok ([46, 46, 46], [4]) (by simp [Rw.kindsT]), by decide⟩
  · exact ⟨⟨#[32, 32, 9, 10]⟩, [1], some ⟨w.heap.size + 8, 0, none⟩, 1, by rw [← hW]; exact (lay_cell w (kinO w) 0 _ _ _ rfl 7).trans rfl, by rw [← hW]; exact (lay_cell w (kinO w) 10 _ _ _ rfl 7).trans rfl, fun j x hj => ⟨w.heap.size + 8, rfl, by
      rw [← hW, lay_cell w (kinO w) 8 _ _ _ rfl j]
      show ((List.map (fun (x : Nat) => Value.int .i64 (x : Int)) [1]).toArray)[j]? = _
      rw [List.getElem?_toArray, List.getElem?_map, hj]; rfl⟩, Rw.kinds_ok ([32, 32, 9, 10], [1]) (by simp [Rw.kindsT]), by decide⟩
  · exact ⟨⟨#[91, 10, 45, 45, 45, 10, 93]⟩, [5, 4, 5], some ⟨w.heap.size + 9, 0, none⟩, 3, by rw [← hW]; exact (lay_cell w (kinO w) 0 _ _ _ rfl 8).trans rfl, by rw [← hW]; exact (lay_cell w (kinO w) 10 _ _ _ rfl 8).trans rfl, fun j x hj => ⟨w.heap.size + 9, rfl, by
      rw [← hW, lay_cell w (kinO w) 9 _ _ _ rfl j]
      show ((List.map (fun (x : Nat) => Value.int .i64 (x : Int)) [5, 4, 5]).toArray)[j]? = _
      rw [List.getElem?_toArray, List.getElem?_map, hj]; rfl⟩, Rw.kinds_ok ([91, 10, 45, 45, 45, 10, 93], [5, 4, 5]) (by simp [Rw.kindsT]), by decide⟩
  · exact ⟨⟨#[]⟩, [], none, 0, by rw [← hW]; exact (lay_cell w (kinO w) 0 _ _ _ rfl 9).trans rfl, by rw [← hW]; exact (lay_cell w (kinO w) 10 _ _ _ rfl 9).trans rfl, fun j x hj => by simp at hj, Rw.kinds_ok ([], []) (by simp [Rw.kindsT]), by decide⟩
set_option maxHeartbeats 8000000 in
set_option maxRecDepth 100000 in
theorem walk_RowsKinds (a : Int) (w : World) (_ : (Lit.int .i64 a).wf = true) :
    Calls Try.prog 7 #[.int .i64 a] w fun e w' => e = .returned (.bool true) ∧ Below w.heap.size w w' := by
  have HK := Lib.hid (known_true w)
  obtain ⟨k, hk, -, hwi⟩ := within_lit a 10 10 rfl (by decide) (by decide)
  have HW := Lib.hid hwi
  clear hwi
  go_enter Try.func7, Try.ntmps7
  go_wp2_with fail
  refine HK.out.mono ?_
  rintro e w1 ⟨rfl, hb1⟩
  go_upto_region 5 with fail
  obtain ⟨W, hW⟩ : ∃ W, layAll w1 (kinO w1) = W := ⟨_, rfl⟩
  obtain ⟨X, kl, ao, kc, q0, q1, q2, q3, q4⟩ := kin_tab w1 W hW k hk
  have hbl := lay_below (kinO w1) w1
  obtain ⟨OB, hOB⟩ : ∃ OB, w1.heap.size + 1 + 1 + 1 + 1 + 1 + 1 + 1 + 1 + 1 + 1 = OB := ⟨_, rfl⟩
  rw [show w1.heap.size + 10 = OB from hOB] at q1
  rw [hOB]
  change Code.wp _ _ _ _ (layAll w1 (kinO w1))
  rw [hW] at hbl ⊢
  obtain ⟨n, hn⟩ : ∃ n, kl.length = n := ⟨_, rfl⟩
  have HN := Lib.hid hn
  rw [hn] at q1
  have HQ2 := Lib.hid q2
  have HQ3 := Lib.hid q3
  have HX := Lib.hid q4
  have HB := Lib.hid (below_from hb1 hbl)
  have hki : (k : Int) < 10 := by omega
  clear hn hW hOB hbl hb1 q2 q3 q4 HK
  go_wp2_with fail
  refine (HW.out _).mono ?_
  rintro e w2 ⟨rfl, rfl⟩
  obtain ⟨cap, w3, hcv, hrow, hb3⟩ := conv_str X W (by have := HX.out; unfold maxLen; omega)
  have htk := rTokens _ _ _ hrow.bys
  have HTk := Lib.hid htk
  have q1 := at_below hb3 q1
  have HB3 := Lib.hid (below_from HB.out hb3)
  have HQ2 := Lib.hid (fun j x (hj : kl[j]? = some x) => show ∃ b, ao = some ⟨b, 0, none⟩ ∧ w3.cell? ⟨b, j, none⟩ = some (.int .i64 (x : Nat)) from by
    obtain ⟨b, h1, h2⟩ := HQ2.out j x hj
    exact ⟨b, h1, at_below hb3 h2⟩)
  obtain ⟨T, hT⟩ : ∃ T, Sc.tokens (Sc.nats X) = T := ⟨_, rfl⟩
  obtain ⟨t1, t2, -, t3⟩ := toks_short X (by have := HX.out; omega) T hT
  have hk3 := HQ3.out
  rw [hT] at hk3
  have HT := Lib.hid hT
  have HTf := Lib.hid (show T.length ≤ 100000 ∧ (∀ x ∈ T, x.2.1 ≤ 1000000) from ⟨by omega, t2⟩)
  have HK3 := Lib.hid hk3
  have HRl := Lib.hid (show (Rw.rowsN T).length ≤ 1000 from Nat.le_trans (Rw.rowsF_len _ _ _ _) t1)
  clear htk hrow hb3 hT t1 t2 t3 hk3
  go_wp2_with fail
  refine HTk.out.mono ?_
  intro e w4 hg4
  obtain ⟨p1, c1, rfl, R1, hb4⟩ := hg4.read
  rw [HT.out] at R1 ⊢
  have hrw := fun bv => pRows bv _ T w4 R1 HTf.out.1 HTf.out.2
  have HRw := Lib.hid hrw
  have q1 := at_below hb4 q1
  have HB4 := Lib.hid (below_from HB3.out hb4)
  have HQ2 := Lib.hid (fun j x (hj : kl[j]? = some x) => show ∃ b, ao = some ⟨b, 0, none⟩ ∧ w4.cell? ⟨b, j, none⟩ = some (.int .i64 (x : Nat)) from by
    obtain ⟨b, h1, h2⟩ := HQ2.out j x hj
    exact ⟨b, h1, at_below hb4 h2⟩)
  clear hg4 R1 hb4 hrw hcv HTk
  go_wp2_with fail
  refine (HRw.out _).mono ?_
  intro e w5 hg5
  obtain ⟨p2, c2, rfl, R2, hb5⟩ := hg5.read
  have q1 := at_below hb5 q1
  have HB5 := Lib.hid (below_from HB4.out hb5)
  have HQ2 := Lib.hid (fun j x (hj : kl[j]? = some x) => show ∃ b, ao = some ⟨b, 0, none⟩ ∧ w5.cell? ⟨b, j, none⟩ = some (.int .i64 (x : Nat)) from by
    obtain ⟨b, h1, h2⟩ := HQ2.out j x hj
    exact ⟨b, h1, at_below hb5 h2⟩)
  obtain ⟨Rs, hRs⟩ : ∃ Rs, Rw.rowsN T = Rs := ⟨_, rfl⟩
  have hk4 := HK3.out
  rw [hRs] at R2 hk4 ⊢
  have hln : Rs.length = n := by rw [← HN.out, ← hk4, List.length_map]
  have hln1 := HRl.out
  rw [hRs, hln] at hln1
  have HXr := Lib.hid (fun W (hb : Below w5.heap.size w5 W) j x (hj : Rs[j]? = some x) => rows_at (R2.below hb) j x hj)
  have HKk := Lib.hid (fun j (x : Rw.R) (hj : Rs[j]? = some x) => show kl[j]? = some x.kind by rw [← hk4, List.getElem?_map, hj]; rfl)
  have HLn := Lib.hid hln
  rw [hln]
  have dn : ((n : Int) != (n : Int)) = false := by simp
  clear hg5 R2 hb5 hk4 hln hRs HRl HRw HB4 HB3
  go_wp2_with fail
  go_loopw [8] (fun iv wr => ∃ i : Nat, iv = .int .i64 i ∧ i ≤ n ∧ Below w5.heap.size w5 wr) (fun iv _ => n - (intOf iv).toNat)
  case atStart => exact ⟨0, rfl, Nat.zero_le _, Below.refl _ _⟩
  case round =>
    obtain ⟨i, rfl, hin, hb⟩ := hrel
    by_cases hlt : i < n
    · obtain ⟨x, hx⟩ : ∃ x, Rs[i]? = some x := ⟨_, List.getElem?_eq_getElem (by rw [HLn.out]; exact hlt)⟩
      obtain ⟨b, off, rfl, x0, x1, x2, x3⟩ := HXr.out wr hb i x hx
      obtain ⟨b2, rfl, y0⟩ := HQ2.out i _ (HKk.out i x hx)
      have y0 := at_below hb y0
      have q1 := at_below hb q1
      have hii : (i : Int) < (n : Int) := by omega
      have e1 : ((x.kind : Int) != (x.kind : Int)) = false := by simp
      have HBq := Lib.hid hb
      clear hx hb x1 x2 x3
      go_wp2_with fail
      go_quiet (fail)
      have HBn := Lib.hid (below_drewN HBq.out nq)
      clear x0 y0 e1
      go_wp2
      go_roundw
      case rel => exact ⟨i + 1, by go_num, by omega, HBn.out⟩
      case measure => simp [intOf]; omega
    · obtain rfl : i = n := by omega
      have hii : ¬ ((i : Int) < (i : Int)) := by omega
      have HBq := Lib.hid (below_from HB5.out hb)
      clear hb hlt
      go_wp2
      go_ret
      exact ⟨rfl, HBq.out⟩
end Go.Proofs.Ytaokjeopmhbddaa
