/- The walk of correctorlaw4.EditRows. -/
import Derived.Test.YtomihekgcnilhaaLb
import Derived.Laws.OwnMore
namespace Go.Proofs.Ytomihekgcnilhaa
open Go.RowKit
open Go.Proofs.Ytomihekgcnilhaa.Sq

theorem chk_neg (n b : Int) (h : 0 < b) (p : List UInt8) (e : Ed.E) : Ed.check n [⟨-b, 3, p⟩, e] = 1 := by
  have h1 : Ed.one n ⟨-b, 3, p⟩ = 1 := is_out (.inl (by show -b < 0; omega))
  unfold Ed.check
  rw [if_neg (by simp), from_bad (by rw [h1]; decide), h1]
theorem chk_two (n : Int) (h : 5 ≤ n) (p : List UInt8) (hp : p.length ≤ 1000) (e : Ed.E) : Ed.check n [⟨1, 3, p⟩, e] = if Ed.one n e ≠ 0 then Ed.one n e else if e.f < 3 then 6 else 0 := by
  have h1 : Ed.one n ⟨1, 3, p⟩ = 0 := Ed.ok_one ⟨show (0 : Int) ≤ 1 by omega, show (1 : Int) ≤ 3 by omega, show (3 : Int) ≤ n by omega, hp⟩
  unfold Ed.check
  rw [if_neg (by simp), from_on h1 rfl]
  by_cases h2 : Ed.one n e = 0
  · rw [if_neg (by simp [h2])]
    by_cases h3 : e.f < 3
    · rw [from_low (q := some 3) h2 (show decide (e.f < 3) = true from decide_eq_true h3), if_pos h3]
    · rw [from_on (q := some 3) h2 (show decide (e.f < 3) = false from decide_eq_false h3), if_neg h3]; rfl
  · rw [if_pos h2, from_bad h2]
theorem chk_many (n : Int) (l : List Ed.E) (h : 200 < l.length) : Ed.check n l = 3 := by unfold Ed.check; rw [if_pos h]
set_option maxHeartbeats 400000 in
theorem check_many (n : Int) (a : Option Addr) (cap N : Nat) (w : World) (h : 200 < N) (hm : N ≤ maxLen) :
    Calls Try.prog 18 #[.int .i64 n, .slice a N cap] w fun r w' => r = .returned (.int .i64 3) ∧ Below w.heap.size w w' := by
  unfold maxLen at hm
  have h200' : (200 : Int) < (N : Int) := by omega
  go_enter Try.func18, Try.ntmps18
  go_wp2
  go_ret
  exact ⟨rfl, Below.refl _ _⟩
theorem edits_cells {W : World} {b : Nat} (x y : Et) (h0 : W.cell? ⟨b, 0, none⟩ = some (.int .i64 x.f)) (h1 : W.cell? ⟨b, 1, none⟩ = some (.int .i64 x.t)) (h2 : W.cell? ⟨b, 2, none⟩ = some (.string x.p))
    (h3 : W.cell? ⟨b, 3, none⟩ = some (.int .i64 y.f)) (h4 : W.cell? ⟨b, 4, none⟩ = some (.int .i64 y.t)) (h5 : W.cell? ⟨b, 5, none⟩ = some (.string y.p)) : Edits W (.slice (some ⟨b, 0, none⟩) 2 2) [x, y] := by
  refine .inr ⟨b, 0, 2, rfl, Nat.le_refl _, by simp [maxLen], fun j z hj i u hu => ?_⟩
  match j, hj with
  | 0, hj =>
    obtain rfl := Option.some.inj hj
    match i, hu with
    | 0, hu => rw [← Option.some.inj hu]; exact h0
    | 1, hu => rw [← Option.some.inj hu]; exact h1
    | 2, hu => rw [← Option.some.inj hu]; exact h2
  | 1, hj =>
    obtain rfl := Option.some.inj hj
    match i, hu with
    | 0, hu => rw [← Option.some.inj hu]; exact h3
    | 1, hu => rw [← Option.some.inj hu]; exact h4
    | 2, hu => rw [← Option.some.inj hu]; exact h5
/-- So many bytes 0. -/
def zeros (n : Nat) : ByteArray := ⟨Array.replicate n 0⟩
theorem zeros_size (n : Nat) : (zeros n).size = n := by simp [zeros, ByteArray.size]
theorem made_zeros (n : Nat) : (madeCells #[.int .u8 0] (n * 1)).toList = cellsOf (zeros n) := by
  apply List.ext_getElem?
  intro j
  rw [Nat.mul_one]
  simp only [madeCells, cellsOf, zeros, Array.getElem?_toList, Array.getElem?_map, List.getElem?_map]
  by_cases h : j < n
  · simp [h, Nat.mod_one]
  · simp [h]
/-- make([]byte, n): so many bytes 0. -/
theorem make_bytes (n : Nat) (w : World) (hn : n ≤ 1000000) : ∃ w', (∀ m : Int, m = (n : Int) → (Instr.makeSlice 22 (.int .i64 m) (.int .i64 m)).run Try.prog w = .ok (.slice (some ⟨w.heap.size, 0, none⟩) n n) w') ∧ Bys w' (.slice (some ⟨w.heap.size, 0, none⟩) n n) (zeros n) ∧ w.grownBy w' none := by
  obtain ⟨i0, hi, hz0, hz1, hz2⟩ := info_parts infoByte
  obtain ⟨w', h1, h2, h3⟩ := run_make_full (P := Try.prog) w w.heap.size 22 5 i0 (.int .u8 0) 1 Try.underlying22 hi hz0 hz1 .i64 .i64 n (by rw [hz2]; omega) (by simp only [maxLen]; omega) (Nat.le_refl _)
  refine ⟨w', fun m hm => by rw [hm]; exact h1, ?_, h3⟩
  refine Bys.of_own (base := w.heap.size) ?_
  rw [zeros_size]
  have e : (madeCells (Value.int .u8 0).cells (n * 1)).toList = cellsOf (zeros n) := made_zeros n
  rw [e] at h2
  exact h2
set_option maxHeartbeats 3000000 in
set_option maxRecDepth 100000 in
theorem walk_EditRows (n0 which by0 : Int) (w : World) (_ : (Lit.int .i64 n0).wf = true) (_ : (Lit.int .i64 which).wf = true) (_ : (Lit.int .i64 by0).wf = true) :
    Calls Try.prog 7 #[.int .i64 n0, .int .i64 which, .int .i64 by0] w fun e w' => e = .returned (.bool true) ∧ Below w.heap.size w w' := by
  have hn := wit_bd n0 50 (by decide)
  have hb := wit_bd by0 9 (by decide)
  have hs := wit_bd which 7 (by decide)
  have H1 := Lib.hid (fun W => within_any n0 50 W (by decide) (by decide))
  have H2 := Lib.hid (fun W => within_any by0 9 W (by decide) (by decide))
  have H3 := Lib.hid (fun W => within_any which 7 W (by decide) (by decide))
  obtain ⟨a, ha⟩ : ∃ a, wit n0 50 = a := ⟨_, rfl⟩
  obtain ⟨b, hbb⟩ : ∃ b, wit by0 9 = b := ⟨_, rfl⟩
  obtain ⟨s, hss⟩ : ∃ s, wit which 7 = s := ⟨_, rfl⟩
  rw [ha] at hn H1
  rw [hbb] at hb H2
  rw [hss] at hs H3
  clear ha hbb hss
  obtain ⟨hn0, hn1⟩ := hn
  obtain ⟨hb0, hb1⟩ := hb
  have hcase : s = 0 ∨ s = 1 ∨ s = 2 ∨ s = 3 ∨ s = 4 ∨ s = 5 ∨ s = 6 := by omega
  clear hs
  go_enter Try.func7, Try.ntmps7
  go_wp2_with fail
  refine (known_true _).mono ?_
  rintro e w1 ⟨rfl, hbw⟩
  go_wp2_with fail
  refine (H1.out _).mono ?_
  rintro e w2 ⟨rfl, rfl⟩
  go_wp2_with fail
  refine (H2.out _).mono ?_
  rintro e w2 ⟨rfl, rfl⟩
  go_wp2_with fail
  refine (H3.out _).mono ?_
  rintro e w2 ⟨rfl, rfl⟩
  have HBw := Lib.hid hbw
  have hb2 : 0 < 1 + b := by omega
  have e1 : ∀ (r : Int) (v : Value) (l : List Et) (W : World), Edits W v l → Short l → Ed.check (5 + a) (l.map Et.ed) = r → Calls Try.prog 18 #[.int .i64 (5 + a), v] W fun q w' => q = .returned (.int .i64 r) ∧ Below W.heap.size W w' := fun r v l W h1 h2 h3 => by
    have h := editCheck (5 + a) v l W h1 h2
    rw [h3] at h
    exact h
  have HE := Lib.hid e1
  have hsh : ∀ x y : Et, x.p.size ≤ maxLen → y.p.size ≤ maxLen → Short [x, y] := fun x y h1 h2 e he => by
    rcases List.mem_cons.1 he with rfl | he
    · exact h1
    · rw [List.mem_singleton.1 he]; exact h2
  have HSh := Lib.hid hsh
  have HMk := Lib.hid (fun n W hn => make_bytes n W hn)
  clear e1 hsh hbw
  have hx1 : (⟨#[120]⟩ : ByteArray).size ≤ maxLen := by decide
  have hx0 : (⟨#[]⟩ : ByteArray).size ≤ maxLen := by decide
  have HX1 := Lib.hid hx1
  have HX0 := Lib.hid hx0
  clear hx1 hx0
  rcases hcase with rfl | rfl | rfl | rfl | rfl | rfl | rfl
  · have HC := Lib.hid (HE.out 1 _ [⟨-(1 + b), 3, ⟨#[120]⟩⟩, ⟨3, 4, ⟨#[]⟩⟩] _ (edits_two w1 ⟨-(1 + b), 3, ⟨#[120]⟩⟩ ⟨3, 4, ⟨#[]⟩⟩) (HSh.out _ _ HX1.out HX0.out) (by
      exact chk_neg _ _ hb2 _ _))
    go_wp2_with fail
    refine HC.out.mono ?_
    rintro e w2 ⟨rfl, hb3⟩
    have HB3 := Lib.hid (HBw.out.trans ((below_new w1 _).mono HBw.out.size |>.trans (hb3.mono (by have := HBw.out.size; simp; omega))))
    clear hb3
    go_wp2
    go_ret
    exact ⟨rfl, HB3.out⟩
  · have HC := Lib.hid (HE.out 1 _ [⟨1, 3, ⟨#[120]⟩⟩, ⟨3, 5 + a + (1 + b), ⟨#[]⟩⟩] _ (edits_two w1 ⟨1, 3, ⟨#[120]⟩⟩ ⟨3, 5 + a + (1 + b), ⟨#[]⟩⟩) (HSh.out _ _ HX1.out HX0.out) (by
      have h := chk_two (5 + a) (by omega) (Et.ed ⟨1, 3, ⟨#[120]⟩⟩).p (by decide) (Et.ed ⟨3, 5 + a + (1 + b), ⟨#[]⟩⟩)
      refine h.trans ?_
      have h1 : Ed.one (5 + a) (Et.ed ⟨3, 5 + a + (1 + b), ⟨#[]⟩⟩) = 1 := is_out (.inr (.inr (show 5 + a < 5 + a + (1 + b) by omega)))
      rw [h1]; rfl))
    go_wp2_with fail
    refine HC.out.mono ?_
    rintro e w2 ⟨rfl, hb3⟩
    have HB3 := Lib.hid (HBw.out.trans ((below_new w1 _).mono HBw.out.size |>.trans (hb3.mono (by have := HBw.out.size; simp; omega))))
    clear hb3
    go_wp2
    go_ret
    exact ⟨rfl, HB3.out⟩
  · have HC := Lib.hid (HE.out 1 _ [⟨1, 3, ⟨#[120]⟩⟩, ⟨3, 2, ⟨#[]⟩⟩] _ (edits_two w1 ⟨1, 3, ⟨#[120]⟩⟩ ⟨3, 2, ⟨#[]⟩⟩) (HSh.out _ _ HX1.out HX0.out) (by
      have h := chk_two (5 + a) (by omega) (Et.ed ⟨1, 3, ⟨#[120]⟩⟩).p (by decide) (Et.ed ⟨3, 2, ⟨#[]⟩⟩)
      refine h.trans ?_
      have h1 : Ed.one (5 + a) (Et.ed ⟨3, 2, ⟨#[]⟩⟩) = 1 := is_out (.inr (.inl (show (2 : Int) < 3 by omega)))
      rw [h1]; rfl))
    go_wp2_with fail
    refine HC.out.mono ?_
    rintro e w2 ⟨rfl, hb3⟩
    have HB3 := Lib.hid (HBw.out.trans ((below_new w1 _).mono HBw.out.size |>.trans (hb3.mono (by have := HBw.out.size; simp; omega))))
    clear hb3
    go_wp2
    go_ret
    exact ⟨rfl, HB3.out⟩
  · obtain ⟨m, hm⟩ : ∃ m : Nat, (m : Int) = 1000 + (1 + b) := ⟨(1000 + (1 + b)).toNat, by omega⟩
    obtain ⟨w3, hmk, hbz, hg⟩ := HMk.out m (w1.alloc (.cells #[.int .i64 1, .int .i64 3, .string ⟨#[120]⟩, .int .i64 3, .int .i64 4, .string ⟨#[]⟩] 41)) (by omega)
    have hmk2 := hmk _ hm.symm
    have hcv := conv_bys hbz
    rw [show (w1.alloc (.cells #[.int .i64 1, .int .i64 3, .string ⟨#[120]⟩, .int .i64 3, .int .i64 4, .string ⟨#[]⟩] 41)).heap.size = w1.heap.size + 1 from by simp] at hcv
    have hb0c := own_grown (B := (w1.alloc (.cells #[.int .i64 1, .int .i64 3, .string ⟨#[120]⟩, .int .i64 3, .int .i64 4, .string ⟨#[]⟩] 41)).heap.size) (Below.refl _ _) hg (fun k hk => by cases hk) (Nat.le_refl _)
    have hlt0 : w1.heap.size < (w1.alloc (.cells #[.int .i64 1, .int .i64 3, .string ⟨#[120]⟩, .int .i64 3, .int .i64 4, .string ⟨#[]⟩] 41)).heap.size := by simp
    have hcc : ∀ (o : Nat) (v : Value), (#[Value.int .i64 1, .int .i64 3, .string ⟨#[120]⟩, .int .i64 3, .int .i64 4, .string ⟨#[]⟩] : Array Value)[o]? = some v → w3.cell? ⟨w1.heap.size, o, none⟩ = some v := fun o v h => by
      rw [hb0c.cell (p := ⟨w1.heap.size, o, none⟩) hlt0, World.cell?_alloc_mark]; exact h
    have d5 := hcc 5 _ rfl
    have f5 : w3.frozen? ⟨w1.heap.size, 5, none⟩ = false := by
      rw [hb0c.frozen (p := ⟨w1.heap.size, 5, none⟩) hlt0]; exact World.frozen?_alloc_new w1 _ _ _
    have hset : ∀ (o : Nat) (v : Value), o ≠ 5 → (#[Value.int .i64 1, .int .i64 3, .string ⟨#[120]⟩, .int .i64 3, .int .i64 4, .string ⟨#[]⟩] : Array Value)[o]? = some v → (w3.setCell ⟨w1.heap.size, 5, none⟩ (.string (zeros m))).cell? ⟨w1.heap.size, o, none⟩ = some v := fun o v ho h => by
      rw [World.cell?_setCell_other w3 _ _ _ (fun e => ho (by injection e with _ e2; exact e2.symm))]; exact hcc o v h
    have hset5 : (w3.setCell ⟨w1.heap.size, 5, none⟩ (.string (zeros m))).cell? ⟨w1.heap.size, 5, none⟩ = some (.string (zeros m)) := World.cell?_setCell_same w3 _ _ d5
    have hz : (zeros m).size = m := zeros_size m
    have HC := Lib.hid (HE.out 4 _ [⟨1, 3, ⟨#[120]⟩⟩, ⟨3, 4, zeros m⟩] _ (edits_cells ⟨1, 3, ⟨#[120]⟩⟩ ⟨3, 4, zeros m⟩ (hset 0 _ (by decide) rfl) (hset 1 _ (by decide) rfl) (hset 2 _ (by decide) rfl) (hset 3 _ (by decide) rfl) (hset 4 _ (by decide) rfl) hset5) (HSh.out _ _ HX1.out (by show (zeros m).size ≤ maxLen; rw [hz]; simp only [maxLen]; omega)) (by
      have h := chk_two (5 + a) (by omega) (Et.ed ⟨1, 3, ⟨#[120]⟩⟩).p (by decide) (Et.ed ⟨3, 4, zeros m⟩)
      refine h.trans ?_
      have h1 : Ed.one (5 + a) (Et.ed ⟨3, 4, zeros m⟩) = 4 := is_long (fun h => by have h2 : (3 : Int) < 0 ∨ (4 : Int) < 3 ∨ 5 + a < 4 := h; omega) (by rw [Et.plen]; show 1000 < (zeros m).size; rw [hz]; omega)
      rw [h1]; rfl))
    have HB3 := Lib.hid (show Below w.heap.size w (w3.setCell ⟨w1.heap.size, 5, none⟩ (.string (zeros m))) from ((HBw.out.trans ((below_new w1 _).mono HBw.out.size)).trans (hb0c.mono (by have := HBw.out.size; simp; omega))).setCell HBw.out.size _)
    have HM := Lib.hid hm
    clear hm hcc hset hset5 hz hbz hg hb0c hlt0 hmk
    go_wp2_with fail
    refine HC.out.mono ?_
    rintro e w4 ⟨rfl, hb4⟩
    have HB4 := Lib.hid (HB3.out.trans (hb4.mono HB3.out.size))
    clear hb4 d5 f5 hcv hmk2
    go_wp2
    go_ret
    exact ⟨rfl, HB4.out⟩
  · have HC := Lib.hid (HE.out 6 _ [⟨1, 3, ⟨#[120]⟩⟩, ⟨2, 4, ⟨#[]⟩⟩] _ (edits_two w1 ⟨1, 3, ⟨#[120]⟩⟩ ⟨2, 4, ⟨#[]⟩⟩) (HSh.out _ _ HX1.out HX0.out) (by
      have h := chk_two (5 + a) (by omega) (Et.ed ⟨1, 3, ⟨#[120]⟩⟩).p (by decide) (Et.ed ⟨2, 4, ⟨#[]⟩⟩)
      refine h.trans ?_
      have h1 : Ed.one (5 + a) (Et.ed ⟨2, 4, ⟨#[]⟩⟩) = 0 := Ed.ok_one ⟨show (0 : Int) ≤ 2 by omega, show (2 : Int) ≤ 4 by omega, show (4 : Int) ≤ 5 + a by omega, by decide⟩
      rw [h1]; rfl))
    go_wp2_with fail
    refine HC.out.mono ?_
    rintro e w2 ⟨rfl, hb3⟩
    have HB3 := Lib.hid (HBw.out.trans ((below_new w1 _).mono HBw.out.size |>.trans (hb3.mono (by have := HBw.out.size; simp; omega))))
    clear hb3
    go_wp2
    go_ret
    exact ⟨rfl, HB3.out⟩
  · obtain ⟨m, hm⟩ : ∃ m : Nat, (m : Int) = 200 + (1 + b) := ⟨(200 + (1 + b)).toNat, by omega⟩
    obtain ⟨i, z, hi, hz, hsz, hby, hzs⟩ := tyE.parts
    obtain ⟨w3, hmk, _, hg⟩ := run_make_full (P := Try.prog) (w1.alloc (.cells #[.int .i64 1, .int .i64 3, .string ⟨#[120]⟩, .int .i64 3, .int .i64 4, .string ⟨#[]⟩] 41)) (w1.alloc (.cells #[.int .i64 1, .int .i64 3, .string ⟨#[120]⟩, .int .i64 3, .int .i64 4, .string ⟨#[]⟩] 41)).heap.size 23 41 i z 3 tyE.ht hi hz hsz .i64 .i64 m (by rw [hby]; omega) (by simp only [maxLen]; omega) (Nat.le_refl _)
    rw [hm] at hmk
    have hb0c := own_grown (B := (w1.alloc (.cells #[.int .i64 1, .int .i64 3, .string ⟨#[120]⟩, .int .i64 3, .int .i64 4, .string ⟨#[]⟩] 41)).heap.size) (Below.refl _ _) hg (fun k hk => by cases hk) (Nat.le_refl _)
    have HB3 := Lib.hid (show Below w.heap.size w w3 from (HBw.out.trans ((below_new w1 _).mono HBw.out.size)).trans (hb0c.mono (by have := HBw.out.size; simp; omega)))
    have HC := Lib.hid (fun (q : Option Addr) => check_many (5 + a) q m m w3 (by omega) (by simp only [maxLen]; omega))
    clear hm hi hz hsz hby hzs hg hb0c
    go_wp2_with fail
    refine (HC.out _).mono ?_
    rintro e w4 ⟨rfl, hb4⟩
    have HB4 := Lib.hid (HB3.out.trans (hb4.mono HB3.out.size))
    clear hb4 hmk
    go_wp2
    go_ret
    exact ⟨rfl, HB4.out⟩
  · have HC := Lib.hid (HE.out 0 _ [⟨1, 3, ⟨#[120]⟩⟩, ⟨3, 4, ⟨#[]⟩⟩] _ (edits_two w1 ⟨1, 3, ⟨#[120]⟩⟩ ⟨3, 4, ⟨#[]⟩⟩) (HSh.out _ _ HX1.out HX0.out) (by
      have h := chk_two (5 + a) (by omega) (Et.ed ⟨1, 3, ⟨#[120]⟩⟩).p (by decide) (Et.ed ⟨3, 4, ⟨#[]⟩⟩)
      refine h.trans ?_
      have h1 : Ed.one (5 + a) (Et.ed ⟨3, 4, ⟨#[]⟩⟩) = 0 := Ed.ok_one ⟨show (0 : Int) ≤ 3 by omega, show (3 : Int) ≤ 4 by omega, show (4 : Int) ≤ 5 + a by omega, by decide⟩
      rw [h1]; rfl))
    go_wp2_with fail
    refine HC.out.mono ?_
    rintro e w2 ⟨rfl, hb3⟩
    have HB3 := Lib.hid (HBw.out.trans ((below_new w1 _).mono HBw.out.size |>.trans (hb3.mono (by have := HBw.out.size; simp; omega))))
    clear hb3
    go_wp2
    go_ret
    exact ⟨rfl, HB3.out⟩
end Go.Proofs.Ytomihekgcnilhaa
