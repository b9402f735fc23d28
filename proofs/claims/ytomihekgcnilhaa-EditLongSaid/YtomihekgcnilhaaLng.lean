/- The walk of correctorlaw4.EditLong. -/
import Derived.Test.YtomihekgcnilhaaNon
import Derived.Test.YtomihekgcnilhaaRws
import Derived.Deep.RegionWith
namespace Go.Proofs.Ytomihekgcnilhaa
open Go.RowKit
open Go.Proofs.Ytomihekgcnilhaa.Sq

/-- The cells of so many bytes 0. -/
def mz (n : Nat) : Array Value := madeCells (Value.int .u8 0).cells (n * 1)
theorem mz_get (n j : Nat) (h : j < n) : (mz n)[j]? = some (.int .u8 0) := by
  simp [mz, madeCells, h, Nat.mod_one, Value.cells]
theorem zeros_get (n j : Nat) (h : j < n) : ((zeros n).get! j).toNat = 0 := by
  have h1 : (cellsOf (zeros n))[j]? = some (.int .u8 ((zeros n).get! j).toNat) := cells_get (zeros n) j (by rw [zeros_size]; exact h)
  rw [← made_zeros n] at h1
  have h2 : (madeCells #[Value.int .u8 0] (n * 1)).toList[j]? = some (.int .u8 0) := by
    rw [Array.getElem?_toList]; exact mz_get n j h
  rw [h2] at h1
  have h3 := Option.some.inj h1
  injection h3 with _ h4
  omega
theorem make_mz (n : Nat) (W : World) (hn : n ≤ 1000000) (m : Int) (hm : m = (n : Int)) : (Instr.makeSlice 22 (.int .i64 m) (.int .i64 m)).run Try.prog W = .ok (.slice (some ⟨W.heap.size, 0, none⟩) n n) (W.alloc (.cells (mz n) 5)) := by
  obtain ⟨i0, hi, hz0, hz1, hz2⟩ := info_parts infoByte
  have h := run_make (P := Try.prog) W 22 5 i0 (.int .u8 0) Try.underlying22 hi hz0 .i64 .i64 (n : Int) (n : Int) (by omega) (Int.le_refl _) (by rw [hz2]; omega) (by omega)
  rw [hm, h, hz1]
  simp only [Int.toNat_natCast]
  rfl
theorem bys_mz (n : Nat) (W : World) (hn : n ≤ 1000000) : Bys (W.alloc (.cells (mz n) 5)) (.slice (some ⟨W.heap.size, 0, none⟩) n n) (zeros n) := by
  refine .inr ⟨W.heap.size, 0, n, by rw [zeros_size], by rw [zeros_size]; exact Nat.le_refl _, by simp only [maxLen]; omega, fun j hj => ?_⟩
  rw [zeros_size] at hj
  rw [World.cell?_alloc_mark, Nat.zero_add, mz_get n j hj, zeros_get n j hj]
  rfl
/-- What Apply yields of so many bytes, and some more behind them. -/
def LongDone (N M : Nat) (w : World) (r : Ending) (w' : World) : Prop :=
  (16384 < N + M → r = .returned (.tuple #[.slice none 0 0, .int .i64 4])) ∧ (¬ 16384 < N + M → ∃ a c, r = .returned (.tuple #[.slice a (N + M) c, .int .i64 0])) ∧ Below w.heap.size w w'
theorem long_at (N M : Nat) (W : World) (av ev : Value) (hN : N ≤ 16384) (hM : M ≤ 30) (hA : Bys W av (zeros N)) (hE : Edits W ev [⟨N, N, zeros M⟩]) :
    Calls Try.prog 16 #[av, ev] W (LongDone N M W) := by
  have hz := zeros_size N
  have hzm := zeros_size M
  have hone : Ed.one ((zeros N).size : Int) (Et.ed ⟨N, N, zeros M⟩) = 0 := Ed.ok_one ⟨show (0 : Int) ≤ N by omega, show (N : Int) ≤ N by omega, show (N : Int) ≤ (zeros N).size by rw [hz]; omega, by rw [Et.plen]; show (zeros M).size ≤ 1000; rw [hzm]; omega⟩
  have hlen : (Ed.apply (zeros N).data.toList ([(⟨N, N, zeros M⟩ : Et)].map Et.ed)).length = N + M := by
    show (Ed.applyFrom (zeros N).data.toList 0 [Et.ed ⟨N, N, zeros M⟩]).length = N + M
    rw [apply_next (F := N) (T := N) rfl rfl]
    simp only [Ed.applyFrom, List.length_append, List.length_take, List.length_drop, Et.plen, ← Lib.size_eq, hz, hzm]
    omega
  have hchk : Ed.check (zeros N).size ([(⟨N, N, zeros M⟩ : Et)].map Et.ed) = 0 := (check_one _ _).trans hone
  refine (editApply av ev (zeros N) [⟨N, N, zeros M⟩] W hA hE (fun e he => by rw [List.mem_singleton.1 he]; show (zeros M).size ≤ maxLen; rw [hzm]; simp only [maxLen]; omega) (by rw [hz]; omega)).mono ?_
  rintro r w' ⟨hY, hb⟩
  rcases hY with ⟨h, _⟩ | ⟨_, h, hr⟩ | ⟨_, h, v, t, hr, ht, ho⟩
  · exact absurd hchk h
  · rw [hlen] at h
    exact ⟨fun _ => hr, fun h2 => absurd h h2, hb⟩
  · rw [hlen] at h
    have hts : t.size = N + M := by rw [Lib.size_eq, ht, hlen]
    obtain ⟨a, c, rfl⟩ := own_shape ho
    rw [hts] at hr
    exact ⟨fun h2 => by omega, fun _ => ⟨a, c, hr⟩, hb⟩
theorem long_big (N M : Nat) (n : Int) (hn : n = (N : Int)) (W : World) (av ev : Value) (hN : N ≤ 16384) (hM : M ≤ 30) (hb : 16384 < N + M) (hA : Bys W av (zeros N)) (hE : Edits W ev [⟨n, n, zeros M⟩]) :
    Calls Try.prog 16 #[av, ev] W fun r w' => r = .returned (.tuple #[.slice none 0 0, .int .i64 4]) ∧ Below W.heap.size W w' := by
  subst hn
  exact (long_at N M W av ev hN hM hA hE).mono fun r w' h => ⟨h.1 hb, h.2.2⟩
theorem long_fits (N M L : Nat) (n : Int) (hn : n = (N : Int)) (hL : L = N + M) (W : World) (av ev : Value) (hN : N ≤ 16384) (hM : M ≤ 30) (hb : ¬ 16384 < N + M) (hA : Bys W av (zeros N)) (hE : Edits W ev [⟨n, n, zeros M⟩]) :
    Calls Try.prog 16 #[av, ev] W fun r w' => ∃ a c, r = .returned (.tuple #[.slice a L c, .int .i64 0]) ∧ Below W.heap.size W w' := by
  subst hn
  subst hL
  exact (long_at N M W av ev hN hM hA hE).mono fun r w' h => by
    obtain ⟨a, c, h1⟩ := h.2.1 hb
    exact ⟨a, c, h1, h.2.2⟩
theorem drew_below (W : World) : Below W.heap.size W W.drew := ⟨rfl, rfl, rfl, Nat.le_refl _, fun _ _ => rfl⟩
theorem new_at (W : World) (o : Obj) : (W.alloc o).heap.size = W.heap.size + 1 := by simp
set_option maxHeartbeats 3000000 in
set_option maxRecDepth 100000 in
theorem walk_EditLong (n0 m0 : Int) (w : World) (_ : (Lit.int .i64 n0).wf = true) (_ : (Lit.int .i64 m0).wf = true) :
    Calls Try.prog 9 #[.int .i64 n0, .int .i64 m0] w fun e w' => e = .returned (.bool true) ∧ Below w.heap.size w w' := by
  have hn := wit_bd n0 20 (by decide)
  have hm := wit_bd m0 30 (by decide)
  have H1 := Lib.hid (fun W => within_any n0 20 W (by decide) (by decide))
  have H2 := Lib.hid (fun W => within_any m0 30 W (by decide) (by decide))
  obtain ⟨a, ha⟩ : ∃ a, wit n0 20 = a := ⟨_, rfl⟩
  obtain ⟨b, hb⟩ : ∃ b, wit m0 30 = b := ⟨_, rfl⟩
  rw [ha] at hn H1
  rw [hb] at hm H2
  clear ha hb
  obtain ⟨hn0, hn1⟩ := hn
  obtain ⟨hm0, hm1⟩ := hm
  obtain ⟨N, hN⟩ : ∃ N : Nat, (N : Int) = 16384 - a := ⟨(16384 - a).toNat, by omega⟩
  obtain ⟨M, hM⟩ : ∃ M : Nat, (M : Int) = b := ⟨b.toNat, by omega⟩
  subst hM
  have hk1 := fun W => make_mz N W (by omega) (16384 - a) hN.symm
  have hk2 := fun W => make_mz M W (by omega) (M : Int) rfl
  have HNs := Lib.hid (show N ≤ 16384 by omega)
  have HMs := Lib.hid (show M ≤ 30 by omega)
  have hNm : N ≤ 1000000 := by omega
  have hMm : M ≤ 1000000 := by omega
  have HBM := Lib.hid (fun W => bys_mz M W hMm)
  have HBN := Lib.hid (fun W => bys_mz N W hNm)
  obtain ⟨L, hL⟩ : ∃ L, L = N + M := ⟨_, rfl⟩
  have hq : ((L : Int) == 16384 - a + (M : Int)) = true := by rw [hL]; simp; omega
  have HN := Lib.hid hN
  have HL := Lib.hid hL
  have HEd := Lib.hid (fun W => edits_one W ⟨16384 - a, 16384 - a, zeros M⟩)
  have hcvAM := fun w1 : World => conv_bys (w := ((w1.alloc (.cells (mz N) 5)).alloc (.cells (mz M) 5)).drew) ((HBM.out (w1.alloc (.cells (mz N) 5))).below (drew_below _))
  have hcvM := fun w1 : World => conv_bys (w := (w1.alloc (.cells (mz M) 5)).drew) ((HBM.out w1).below (drew_below _))
  have hcvMA := fun w1 : World => conv_bys (w := ((w1.alloc (.cells (mz M) 5)).alloc (.cells (mz N) 5)).drew) (((HBM.out w1).below (below_new _ (.cells (mz N) 5))).below (drew_below _))
  simp only [new_at] at hcvAM
  by_cases hbig : 16384 < N + M
  · skip
    have HBig := Lib.hid hbig
    have hbig' : 16384 < 16384 - a + (M : Int) := by omega
    clear hN hL hbig hNm hMm
    go_enter Try.func9, Try.ntmps9
    go_wp2_with fail
    refine (known_true _).mono ?_
    rintro e w1 ⟨rfl, hbw⟩
    have HBw := Lib.hid hbw
    clear hbw
    go_wp2_with fail
    refine (H1.out _).mono ?_
    rintro e w2 ⟨rfl, rfl⟩
    go_wp2_with fail
    refine (H2.out _).mono ?_
    rintro e w2 ⟨rfl, rfl⟩
    go_wp2_with fail
    have BA1 := Lib.hid (show Bys (((w1.alloc (.cells (mz N) 5)).alloc (.cells (mz M) 5)).alloc (.cells #[.int .i64 (16384 - a), .int .i64 (16384 - a), .string (zeros M)] 41)).drew (.slice (some ⟨w1.heap.size, 0, none⟩) N N) (zeros N) from (((HBN.out w1).below (below_new _ (.cells (mz M) 5))).below (below_new _ (.cells #[.int .i64 (16384 - a), .int .i64 (16384 - a), .string (zeros M)] 41))).below (drew_below _))
    have BE1 := Lib.hid (show Edits (((w1.alloc (.cells (mz N) 5)).alloc (.cells (mz M) 5)).alloc (.cells #[.int .i64 (16384 - a), .int .i64 (16384 - a), .string (zeros M)] 41)).drew (.slice (some ⟨w1.heap.size + 1 + 1, 0, none⟩) 1 1) [⟨16384 - a, 16384 - a, zeros M⟩] from by have h := Reads.below (HEd.out ((w1.alloc (.cells (mz N) 5)).alloc (.cells (mz M) 5))) (drew_below _); simp only [new_at] at h; exact h)
    have HW1 := Lib.hid (show Below w.heap.size w (((w1.alloc (.cells (mz N) 5)).alloc (.cells (mz M) 5)).alloc (.cells #[.int .i64 (16384 - a), .int .i64 (16384 - a), .string (zeros M)] 41)).drew from HBw.out.trans (((((Below.refl w1.heap.size w1).alloc (Nat.le_refl _) _).alloc (by simp) _).alloc (by simp; omega) _).drew.mono HBw.out.size))
    have BA2 := Lib.hid (show Bys (((w1.alloc (.cells (mz M) 5)).alloc (.cells (mz N) 5)).alloc (.cells #[.int .i64 (16384 - a), .int .i64 (16384 - a), .string (zeros M)] 41)).drew (.slice (some ⟨w1.heap.size + 1, 0, none⟩) N N) (zeros N) from by have h := ((HBN.out (w1.alloc (.cells (mz M) 5))).below (below_new _ (.cells #[.int .i64 (16384 - a), .int .i64 (16384 - a), .string (zeros M)] 41))).below (drew_below _); simp only [new_at] at h; exact h)
    have BE2 := Lib.hid (show Edits (((w1.alloc (.cells (mz M) 5)).alloc (.cells (mz N) 5)).alloc (.cells #[.int .i64 (16384 - a), .int .i64 (16384 - a), .string (zeros M)] 41)).drew (.slice (some ⟨w1.heap.size + 1 + 1, 0, none⟩) 1 1) [⟨16384 - a, 16384 - a, zeros M⟩] from by have h := Reads.below (HEd.out ((w1.alloc (.cells (mz M) 5)).alloc (.cells (mz N) 5))) (drew_below _); simp only [new_at] at h; exact h)
    have HW2 := Lib.hid (show Below w.heap.size w (((w1.alloc (.cells (mz M) 5)).alloc (.cells (mz N) 5)).alloc (.cells #[.int .i64 (16384 - a), .int .i64 (16384 - a), .string (zeros M)] 41)).drew from HBw.out.trans (((((Below.refl w1.heap.size w1).alloc (Nat.le_refl _) _).alloc (by simp) _).alloc (by simp; omega) _).drew.mono HBw.out.size))
    have BA3 := Lib.hid (show Bys (((w1.alloc (.cells (mz M) 5)).alloc (.cells #[.int .i64 (16384 - a), .int .i64 (16384 - a), .string (zeros M)] 41)).alloc (.cells (mz N) 5)).drew (.slice (some ⟨w1.heap.size + 1 + 1, 0, none⟩) N N) (zeros N) from by have h := (HBN.out ((w1.alloc (.cells (mz M) 5)).alloc (.cells #[.int .i64 (16384 - a), .int .i64 (16384 - a), .string (zeros M)] 41))).below (drew_below _); simp only [new_at] at h; exact h)
    have BE3 := Lib.hid (show Edits (((w1.alloc (.cells (mz M) 5)).alloc (.cells #[.int .i64 (16384 - a), .int .i64 (16384 - a), .string (zeros M)] 41)).alloc (.cells (mz N) 5)).drew (.slice (some ⟨w1.heap.size + 1, 0, none⟩) 1 1) [⟨16384 - a, 16384 - a, zeros M⟩] from by have h := Reads.below (Reads.below (HEd.out (w1.alloc (.cells (mz M) 5))) (below_new _ (.cells (mz N) 5))) (drew_below _); simp only [new_at] at h; exact h)
    have HW3 := Lib.hid (show Below w.heap.size w (((w1.alloc (.cells (mz M) 5)).alloc (.cells #[.int .i64 (16384 - a), .int .i64 (16384 - a), .string (zeros M)] 41)).alloc (.cells (mz N) 5)).drew from HBw.out.trans (((((Below.refl w1.heap.size w1).alloc (Nat.le_refl _) _).alloc (by simp) _).alloc (by simp; omega) _).drew.mono HBw.out.size))
    have hcv1 := hcvAM w1
    have hcv2 := hcvM w1
    have hcv3 := hcvMA w1
    clear hcvAM hcvM hcvMA
    go_region_with (first | ((with_reducible refine (long_big N M (16384 - a) HN.out.symm _ _ _ HNs.out HMs.out HBig.out BA1.out BE1.out).mono ?_); rintro e w2 ⟨rfl, hb2⟩; have HB2 := Lib.hid (HW1.out.trans (hb2.mono HW1.out.size)); clear hb2) | ((with_reducible refine (long_big N M (16384 - a) HN.out.symm _ _ _ HNs.out HMs.out HBig.out BA2.out BE2.out).mono ?_); rintro e w2 ⟨rfl, hb2⟩; have HB2 := Lib.hid (HW2.out.trans (hb2.mono HW2.out.size)); clear hb2) | ((with_reducible refine (long_big N M (16384 - a) HN.out.symm _ _ _ HNs.out HMs.out HBig.out BA3.out BE3.out).mono ?_); rintro e w2 ⟨rfl, hb2⟩; have HB2 := Lib.hid (HW3.out.trans (hb2.mono HW3.out.size)); clear hb2))
    all_goals clear hcv1 hcv2 hcv3 hk1 hk2
    all_goals go_wp2
    all_goals go_ret
    all_goals exact ⟨rfl, HB2.out⟩
  · skip
    have HBig := Lib.hid hbig
    have hbig' : ¬ 16384 < 16384 - a + (M : Int) := by omega
    clear hN hL hbig hNm hMm
    go_enter Try.func9, Try.ntmps9
    go_wp2_with fail
    refine (known_true _).mono ?_
    rintro e w1 ⟨rfl, hbw⟩
    have HBw := Lib.hid hbw
    clear hbw
    go_wp2_with fail
    refine (H1.out _).mono ?_
    rintro e w2 ⟨rfl, rfl⟩
    go_wp2_with fail
    refine (H2.out _).mono ?_
    rintro e w2 ⟨rfl, rfl⟩
    go_wp2_with fail
    have BA1 := Lib.hid (show Bys (((w1.alloc (.cells (mz N) 5)).alloc (.cells (mz M) 5)).alloc (.cells #[.int .i64 (16384 - a), .int .i64 (16384 - a), .string (zeros M)] 41)).drew (.slice (some ⟨w1.heap.size, 0, none⟩) N N) (zeros N) from (((HBN.out w1).below (below_new _ (.cells (mz M) 5))).below (below_new _ (.cells #[.int .i64 (16384 - a), .int .i64 (16384 - a), .string (zeros M)] 41))).below (drew_below _))
    have BE1 := Lib.hid (show Edits (((w1.alloc (.cells (mz N) 5)).alloc (.cells (mz M) 5)).alloc (.cells #[.int .i64 (16384 - a), .int .i64 (16384 - a), .string (zeros M)] 41)).drew (.slice (some ⟨w1.heap.size + 1 + 1, 0, none⟩) 1 1) [⟨16384 - a, 16384 - a, zeros M⟩] from by have h := Reads.below (HEd.out ((w1.alloc (.cells (mz N) 5)).alloc (.cells (mz M) 5))) (drew_below _); simp only [new_at] at h; exact h)
    have HW1 := Lib.hid (show Below w.heap.size w (((w1.alloc (.cells (mz N) 5)).alloc (.cells (mz M) 5)).alloc (.cells #[.int .i64 (16384 - a), .int .i64 (16384 - a), .string (zeros M)] 41)).drew from HBw.out.trans (((((Below.refl w1.heap.size w1).alloc (Nat.le_refl _) _).alloc (by simp) _).alloc (by simp; omega) _).drew.mono HBw.out.size))
    have BA2 := Lib.hid (show Bys (((w1.alloc (.cells (mz M) 5)).alloc (.cells (mz N) 5)).alloc (.cells #[.int .i64 (16384 - a), .int .i64 (16384 - a), .string (zeros M)] 41)).drew (.slice (some ⟨w1.heap.size + 1, 0, none⟩) N N) (zeros N) from by have h := ((HBN.out (w1.alloc (.cells (mz M) 5))).below (below_new _ (.cells #[.int .i64 (16384 - a), .int .i64 (16384 - a), .string (zeros M)] 41))).below (drew_below _); simp only [new_at] at h; exact h)
    have BE2 := Lib.hid (show Edits (((w1.alloc (.cells (mz M) 5)).alloc (.cells (mz N) 5)).alloc (.cells #[.int .i64 (16384 - a), .int .i64 (16384 - a), .string (zeros M)] 41)).drew (.slice (some ⟨w1.heap.size + 1 + 1, 0, none⟩) 1 1) [⟨16384 - a, 16384 - a, zeros M⟩] from by have h := Reads.below (HEd.out ((w1.alloc (.cells (mz M) 5)).alloc (.cells (mz N) 5))) (drew_below _); simp only [new_at] at h; exact h)
    have HW2 := Lib.hid (show Below w.heap.size w (((w1.alloc (.cells (mz M) 5)).alloc (.cells (mz N) 5)).alloc (.cells #[.int .i64 (16384 - a), .int .i64 (16384 - a), .string (zeros M)] 41)).drew from HBw.out.trans (((((Below.refl w1.heap.size w1).alloc (Nat.le_refl _) _).alloc (by simp) _).alloc (by simp; omega) _).drew.mono HBw.out.size))
    have BA3 := Lib.hid (show Bys (((w1.alloc (.cells (mz M) 5)).alloc (.cells #[.int .i64 (16384 - a), .int .i64 (16384 - a), .string (zeros M)] 41)).alloc (.cells (mz N) 5)).drew (.slice (some ⟨w1.heap.size + 1 + 1, 0, none⟩) N N) (zeros N) from by have h := (HBN.out ((w1.alloc (.cells (mz M) 5)).alloc (.cells #[.int .i64 (16384 - a), .int .i64 (16384 - a), .string (zeros M)] 41))).below (drew_below _); simp only [new_at] at h; exact h)
    have BE3 := Lib.hid (show Edits (((w1.alloc (.cells (mz M) 5)).alloc (.cells #[.int .i64 (16384 - a), .int .i64 (16384 - a), .string (zeros M)] 41)).alloc (.cells (mz N) 5)).drew (.slice (some ⟨w1.heap.size + 1, 0, none⟩) 1 1) [⟨16384 - a, 16384 - a, zeros M⟩] from by have h := Reads.below (Reads.below (HEd.out (w1.alloc (.cells (mz M) 5))) (below_new _ (.cells (mz N) 5))) (drew_below _); simp only [new_at] at h; exact h)
    have HW3 := Lib.hid (show Below w.heap.size w (((w1.alloc (.cells (mz M) 5)).alloc (.cells #[.int .i64 (16384 - a), .int .i64 (16384 - a), .string (zeros M)] 41)).alloc (.cells (mz N) 5)).drew from HBw.out.trans (((((Below.refl w1.heap.size w1).alloc (Nat.le_refl _) _).alloc (by simp) _).alloc (by simp; omega) _).drew.mono HBw.out.size))
    have hcv1 := hcvAM w1
    have hcv2 := hcvM w1
    have hcv3 := hcvMA w1
    clear hcvAM hcvM hcvMA
    go_region_with (first | ((with_reducible refine (long_fits N M L (16384 - a) HN.out.symm HL.out _ _ _ HNs.out HMs.out HBig.out BA1.out BE1.out).mono ?_); rintro e w2 ⟨a2, c2, rfl, hb2⟩; have HB2 := Lib.hid (HW1.out.trans (hb2.mono HW1.out.size)); clear hb2) | ((with_reducible refine (long_fits N M L (16384 - a) HN.out.symm HL.out _ _ _ HNs.out HMs.out HBig.out BA2.out BE2.out).mono ?_); rintro e w2 ⟨a2, c2, rfl, hb2⟩; have HB2 := Lib.hid (HW2.out.trans (hb2.mono HW2.out.size)); clear hb2) | ((with_reducible refine (long_fits N M L (16384 - a) HN.out.symm HL.out _ _ _ HNs.out HMs.out HBig.out BA3.out BE3.out).mono ?_); rintro e w2 ⟨a2, c2, rfl, hb2⟩; have HB2 := Lib.hid (HW3.out.trans (hb2.mono HW3.out.size)); clear hb2))
    all_goals clear hcv1 hcv2 hcv3 hk1 hk2
    all_goals go_wp2
    all_goals go_ret
    all_goals exact ⟨rfl, HB2.out⟩
end Go.Proofs.Ytomihekgcnilhaa
