/- The walk of correctorlaw1.RunesShort: a sign that lacks bytes, and bytes that are no sign, are bad. -/
import Derived.Test.YtnjbdafjhhjfoaaDoorLNext
namespace Go.Proofs.YtnjbdafjhhjfoaaDoor
open Go.RowKit
open Go.Proofs.YtnjbdafjhhjfoaaDoor.Sg

theorem ret_i64 {a b : Int} (h : a = b) : Ending.returned (.int .i64 a) = .returned (.int .i64 b) := by rw [h]
set_option maxHeartbeats 1000000 in
set_option maxRecDepth 100000 in
theorem within_any (at' n : Int) (w : World) (h1 : 1 ≤ n) (h2 : n ≤ 1000000) :
    Calls Tryd.prog 18 #[.int .i64 at', .int .i64 n] w fun e w' => ∃ m : Nat, e = .returned (.int .i64 m) ∧ (m : Int) < n ∧ w = w' := by
  have hnz : ((n : Int) == 0) = false := by simp; omega
  have b1 : -n < at'.tmod n := Int.lt_tmod_of_pos _ (by omega)
  have b2 : at'.tmod n < n := Int.tmod_lt_of_pos _ (by omega)
  by_cases hneg : at'.tmod n < 0
  · go_enter Tryd.func18, Tryd.ntmps18
    go_wp2
    go_ret
    exact ⟨(at'.tmod n + n).toNat, ret_i64 (Int.toNat_of_nonneg (by omega)).symm, by omega, rfl⟩
  · go_enter Tryd.func18, Tryd.ntmps18
    go_wp2
    go_ret
    exact ⟨(at'.tmod n).toNat, ret_i64 (Int.toNat_of_nonneg (by omega)).symm, by omega, rfl⟩

/-- A sign of at least two bytes that lacks some: none begins there. -/
theorem nx_cut (c k : Nat) (s : ByteArray) (h : 128 ≤ c) (hb : c < 55296 ∨ (57344 ≤ c ∧ c ≤ 1114111)) (h1 : 1 ≤ k) (h2 : k < (encL c).length) (hs : s.size = k) (hg : ∀ j, j < k → s.get! j = (encL c).getD j 0) : nx s 0 = (-1, 1) := by
  unfold nx
  rw [hs, Nat.sub_zero, Nat.zero_add, Nat.zero_add, Nat.zero_add, hg 0 (by omega)]
  have l1 := (s.get! 1).toNat_lt
  have l2 := (s.get! 2).toNat_lt
  have l3 := (s.get! 3).toNat_lt
  by_cases c2 : c < 2048
  · have e : encL c = enc2 c := by unfold encL; rw [if_neg (by omega), if_pos c2]
    rw [e] at h2 ⊢
    have hk : k = 1 := by simp [enc2] at h2; omega
    show nxN _ (UInt8.ofNat (192 + c / 64)).toNat _ _ _ = _
    rw [byte_of _ (by omega), nx_two _ _ _ _ _ (by omega) (by omega) (by omega) (by omega)]
    unfold sg2
    rw [if_pos (by omega)]
  by_cases c3 : c < 65536
  · have e : encL c = enc3 c := by unfold encL; rw [if_neg (by omega), if_neg c2, if_pos c3]
    rw [e] at h2 ⊢
    have hk : k < 3 := by simpa [enc3] using h2
    show nxN _ (UInt8.ofNat (224 + c / 4096)).toNat _ _ _ = _
    rw [byte_of _ (by omega), nx_three _ _ _ _ _ (by omega) (by omega) (by omega) (by omega) (by omega)]
    unfold sg3
    rw [if_pos (by omega)]
  · have e : encL c = enc4 c := by unfold encL; rw [if_neg (by omega), if_neg c2, if_neg c3]
    rw [e] at h2 ⊢
    have hk : k < 4 := by simpa [enc4] using h2
    show nxN _ (UInt8.ofNat (240 + c / 262144)).toNat _ _ _ = _
    rw [byte_of _ (by omega), nx_four _ _ _ _ _ (by omega) (by omega) (by omega) (by omega) (by omega) (by omega)]
    unfold sg4
    rw [if_pos (by omega)]

theorem short_bys {w : World} {r : Int} {b n : Nat} (h128 : 128 ≤ r) (hv : Utf8.valid r = true) (hn : (encL (sgn r)).length = n) (h : Bys w (.slice (some ⟨b, 0, none⟩) n n) (Utf8.encode r)) (k : Nat) (h1 : 1 ≤ k) (h2 : k < n) :
    ∃ s, Bys w (.slice (some ⟨b, 0, none⟩) k n) s ∧ nx s 0 = (-1, 1) := by
  have hsv := sgn_valid hv
  rcases h with ⟨h, _⟩ | ⟨b', off, cap, hs, h3, h4, h5⟩
  · cases h
  · have hi := Value.slice.inj hs
    have hi1 := Option.some.inj hi.1
    have hi2 : b = b' ∧ 0 = off := ⟨congrArg Addr.block hi1, congrArg Addr.off hi1⟩
    obtain ⟨rfl, rfl⟩ := hi2
    have hcap := hi.2.2
    subst hcap
    have hlen : ((encL (sgn r)).take k).length = k := by rw [List.length_take]; omega
    have hsz : (⟨((encL (sgn r)).take k).toArray⟩ : ByteArray).size = k := by rw [size_at, hlen]
    have hget : ∀ j, j < k → (⟨((encL (sgn r)).take k).toArray⟩ : ByteArray).get! j = (encL (sgn r)).getD j 0 := fun j hj => by
      rw [Sg.get_at, List.getD_eq_getElem?_getD, List.getD_eq_getElem?_getD, List.getElem?_take_of_lt hj]
    refine ⟨⟨((encL (sgn r)).take k).toArray⟩, .inr ⟨b, 0, n, by rw [hsz], by rw [hsz]; omega, h4, fun j hj => ?_⟩, nx_cut (sgn r) k _ (by omega) (sgn_bd r) h1 (by omega) hsz hget⟩
    rw [hsz] at hj
    rw [h5 j (by rw [encode_size]; omega), hget j hj, encode_eq, Sg.get_at]

/-- The world in which the eight rows of no sign lie, and the row of them. -/
abbrev badWorld (w : World) : World := (((((((((w.alloc (.cells #[.int .u8 192, .int .u8 128] 5)).alloc (.cells #[.int .u8 224, .int .u8 128, .int .u8 128] 5)).alloc (.cells #[.int .u8 240, .int .u8 128, .int .u8 128, .int .u8 128] 5)).alloc (.cells #[.int .u8 237, .int .u8 160, .int .u8 128] 5)).alloc (.cells #[.int .u8 244, .int .u8 144, .int .u8 128, .int .u8 128] 5)).alloc (.cells #[.int .u8 255] 5)).alloc (.cells #[.int .u8 128] 5)).alloc (.cells #[.int .u8 248, .int .u8 136, .int .u8 128, .int .u8 128, .int .u8 128] 5)).alloc (.cells #[.slice (some ⟨w.heap.size, 0, none⟩) 2 2, .slice (some ⟨w.heap.size + 1, 0, none⟩) 3 3, .slice (some ⟨w.heap.size + 2, 0, none⟩) 4 4, .slice (some ⟨w.heap.size + 3, 0, none⟩) 3 3, .slice (some ⟨w.heap.size + 4, 0, none⟩) 4 4, .slice (some ⟨w.heap.size + 5, 0, none⟩) 1 1, .slice (some ⟨w.heap.size + 6, 0, none⟩) 1 1, .slice (some ⟨w.heap.size + 7, 0, none⟩) 5 5] 22))
theorem badWorld_below (w : World) : Below w.heap.size w (badWorld w) :=
  (((((((((Below.refl _ w).alloc (Nat.le_refl _) _).alloc (by simp) _).alloc (by simp; omega) _).alloc (by simp; omega) _).alloc (by simp; omega) _).alloc (by simp; omega) _).alloc (by simp; omega) _).alloc (by simp; omega) _).alloc (by simp; omega) _
theorem cell_skip (w : World) (o : Obj) (b j : Nat) (h : b < w.heap.size) : (w.alloc o).cell? ⟨b, j, none⟩ = w.cell? ⟨b, j, none⟩ :=
  ((Below.refl _ w).alloc (Nat.le_refl _) o).cell (p := ⟨b, j, none⟩) h
theorem cell_new (w : World) (C : Array Value) (t : TypeId) (fr : Nat × Nat) (b j : Nat) (h : b = w.heap.size) : (w.alloc (.cells C t fr)).cell? ⟨b, j, none⟩ = C[j]? := by
  subst h
  exact World.cell?_alloc_mark w C t fr j
theorem row_bys (w : World) (b n : Nat) (l : List UInt8) (hl : l.length = n) (hn : n ≤ 5) (hc : ∀ j (hj : j < l.length), w.cell? ⟨b, j, none⟩ = some (.int .u8 (l[j].toNat : Int))) : Bys w (.slice (some ⟨b, 0, none⟩) n n) ⟨l.toArray⟩ := by
  refine .inr ⟨b, 0, n, by rw [size_at, hl], by rw [size_at, hl]; exact Nat.le_refl _, by simp only [maxLen]; omega, fun j hj => ?_⟩
  rw [size_at] at hj
  rw [Nat.zero_add, hc j hj, Sg.get_at, List.getD_eq_getElem?_getD, List.getElem?_eq_getElem hj]
  rfl
set_option maxRecDepth 100000 in
theorem bad0 (w : World) : Bys (badWorld w) (.slice (some ⟨w.heap.size, 0, none⟩) 2 2) ⟨([192, 128] : List UInt8).toArray⟩ :=
  row_bys _ _ 2 [192, 128] rfl (by decide) (fun j hj => by
    rw [cell_skip _ _ _ _ (by first | (simp; done) | (simp; omega)), cell_skip _ _ _ _ (by first | (simp; done) | (simp; omega)), cell_skip _ _ _ _ (by first | (simp; done) | (simp; omega)), cell_skip _ _ _ _ (by first | (simp; done) | (simp; omega)), cell_skip _ _ _ _ (by first | (simp; done) | (simp; omega)), cell_skip _ _ _ _ (by first | (simp; done) | (simp; omega)), cell_skip _ _ _ _ (by first | (simp; done) | (simp; omega)), cell_skip _ _ _ _ (by first | (simp; done) | (simp; omega)), cell_new _ _ _ _ _ _ (by first | rfl | (simp; done) | (simp; omega))]
    match j, hj with
    | 0, _ => rfl
    | 1, _ => rfl
    | j + 2, hj => first | (simp at hj; done) | (simp at hj; omega))
theorem badx0 : nx ⟨([192, 128] : List UInt8).toArray⟩ 0 = (-1, 1) := by decide +kernel
set_option maxRecDepth 100000 in
theorem bad1 (w : World) : Bys (badWorld w) (.slice (some ⟨w.heap.size + 1, 0, none⟩) 3 3) ⟨([224, 128, 128] : List UInt8).toArray⟩ :=
  row_bys _ _ 3 [224, 128, 128] rfl (by decide) (fun j hj => by
    rw [cell_skip _ _ _ _ (by first | (simp; done) | (simp; omega)), cell_skip _ _ _ _ (by first | (simp; done) | (simp; omega)), cell_skip _ _ _ _ (by first | (simp; done) | (simp; omega)), cell_skip _ _ _ _ (by first | (simp; done) | (simp; omega)), cell_skip _ _ _ _ (by first | (simp; done) | (simp; omega)), cell_skip _ _ _ _ (by first | (simp; done) | (simp; omega)), cell_skip _ _ _ _ (by first | (simp; done) | (simp; omega)), cell_new _ _ _ _ _ _ (by first | rfl | (simp; done) | (simp; omega))]
    match j, hj with
    | 0, _ => rfl
    | 1, _ => rfl
    | 2, _ => rfl
    | j + 3, hj => first | (simp at hj; done) | (simp at hj; omega))
theorem badx1 : nx ⟨([224, 128, 128] : List UInt8).toArray⟩ 0 = (-1, 1) := by decide +kernel
set_option maxRecDepth 100000 in
theorem bad2 (w : World) : Bys (badWorld w) (.slice (some ⟨w.heap.size + 2, 0, none⟩) 4 4) ⟨([240, 128, 128, 128] : List UInt8).toArray⟩ :=
  row_bys _ _ 4 [240, 128, 128, 128] rfl (by decide) (fun j hj => by
    rw [cell_skip _ _ _ _ (by first | (simp; done) | (simp; omega)), cell_skip _ _ _ _ (by first | (simp; done) | (simp; omega)), cell_skip _ _ _ _ (by first | (simp; done) | (simp; omega)), cell_skip _ _ _ _ (by first | (simp; done) | (simp; omega)), cell_skip _ _ _ _ (by first | (simp; done) | (simp; omega)), cell_skip _ _ _ _ (by first | (simp; done) | (simp; omega)), cell_new _ _ _ _ _ _ (by first | rfl | (simp; done) | (simp; omega))]
    match j, hj with
    | 0, _ => rfl
    | 1, _ => rfl
    | 2, _ => rfl
    | 3, _ => rfl
    | j + 4, hj => first | (simp at hj; done) | (simp at hj; omega))
theorem badx2 : nx ⟨([240, 128, 128, 128] : List UInt8).toArray⟩ 0 = (-1, 1) := by decide +kernel
set_option maxRecDepth 100000 in
theorem bad3 (w : World) : Bys (badWorld w) (.slice (some ⟨w.heap.size + 3, 0, none⟩) 3 3) ⟨([237, 160, 128] : List UInt8).toArray⟩ :=
  row_bys _ _ 3 [237, 160, 128] rfl (by decide) (fun j hj => by
    rw [cell_skip _ _ _ _ (by first | (simp; done) | (simp; omega)), cell_skip _ _ _ _ (by first | (simp; done) | (simp; omega)), cell_skip _ _ _ _ (by first | (simp; done) | (simp; omega)), cell_skip _ _ _ _ (by first | (simp; done) | (simp; omega)), cell_skip _ _ _ _ (by first | (simp; done) | (simp; omega)), cell_new _ _ _ _ _ _ (by first | rfl | (simp; done) | (simp; omega))]
    match j, hj with
    | 0, _ => rfl
    | 1, _ => rfl
    | 2, _ => rfl
    | j + 3, hj => first | (simp at hj; done) | (simp at hj; omega))
theorem badx3 : nx ⟨([237, 160, 128] : List UInt8).toArray⟩ 0 = (-1, 1) := by decide +kernel
set_option maxRecDepth 100000 in
theorem bad4 (w : World) : Bys (badWorld w) (.slice (some ⟨w.heap.size + 4, 0, none⟩) 4 4) ⟨([244, 144, 128, 128] : List UInt8).toArray⟩ :=
  row_bys _ _ 4 [244, 144, 128, 128] rfl (by decide) (fun j hj => by
    rw [cell_skip _ _ _ _ (by first | (simp; done) | (simp; omega)), cell_skip _ _ _ _ (by first | (simp; done) | (simp; omega)), cell_skip _ _ _ _ (by first | (simp; done) | (simp; omega)), cell_skip _ _ _ _ (by first | (simp; done) | (simp; omega)), cell_new _ _ _ _ _ _ (by first | rfl | (simp; done) | (simp; omega))]
    match j, hj with
    | 0, _ => rfl
    | 1, _ => rfl
    | 2, _ => rfl
    | 3, _ => rfl
    | j + 4, hj => first | (simp at hj; done) | (simp at hj; omega))
theorem badx4 : nx ⟨([244, 144, 128, 128] : List UInt8).toArray⟩ 0 = (-1, 1) := by decide +kernel
set_option maxRecDepth 100000 in
theorem bad5 (w : World) : Bys (badWorld w) (.slice (some ⟨w.heap.size + 5, 0, none⟩) 1 1) ⟨([255] : List UInt8).toArray⟩ :=
  row_bys _ _ 1 [255] rfl (by decide) (fun j hj => by
    rw [cell_skip _ _ _ _ (by first | (simp; done) | (simp; omega)), cell_skip _ _ _ _ (by first | (simp; done) | (simp; omega)), cell_skip _ _ _ _ (by first | (simp; done) | (simp; omega)), cell_new _ _ _ _ _ _ (by first | rfl | (simp; done) | (simp; omega))]
    match j, hj with
    | 0, _ => rfl
    | j + 1, hj => first | (simp at hj; done) | (simp at hj; omega))
theorem badx5 : nx ⟨([255] : List UInt8).toArray⟩ 0 = (-1, 1) := by decide +kernel
set_option maxRecDepth 100000 in
theorem bad6 (w : World) : Bys (badWorld w) (.slice (some ⟨w.heap.size + 6, 0, none⟩) 1 1) ⟨([128] : List UInt8).toArray⟩ :=
  row_bys _ _ 1 [128] rfl (by decide) (fun j hj => by
    rw [cell_skip _ _ _ _ (by first | (simp; done) | (simp; omega)), cell_skip _ _ _ _ (by first | (simp; done) | (simp; omega)), cell_new _ _ _ _ _ _ (by first | rfl | (simp; done) | (simp; omega))]
    match j, hj with
    | 0, _ => rfl
    | j + 1, hj => first | (simp at hj; done) | (simp at hj; omega))
theorem badx6 : nx ⟨([128] : List UInt8).toArray⟩ 0 = (-1, 1) := by decide +kernel
set_option maxRecDepth 100000 in
theorem bad7 (w : World) : Bys (badWorld w) (.slice (some ⟨w.heap.size + 7, 0, none⟩) 5 5) ⟨([248, 136, 128, 128, 128] : List UInt8).toArray⟩ :=
  row_bys _ _ 5 [248, 136, 128, 128, 128] rfl (by decide) (fun j hj => by
    rw [cell_skip _ _ _ _ (by first | (simp; done) | (simp; omega)), cell_new _ _ _ _ _ _ (by first | rfl | (simp; done) | (simp; omega))]
    match j, hj with
    | 0, _ => rfl
    | 1, _ => rfl
    | 2, _ => rfl
    | 3, _ => rfl
    | 4, _ => rfl
    | j + 5, hj => first | (simp at hj; done) | (simp at hj; omega))
theorem badx7 : nx ⟨([248, 136, 128, 128, 128] : List UInt8).toArray⟩ 0 = (-1, 1) := by decide +kernel

set_option maxHeartbeats 4000000 in
set_option maxRecDepth 100000 in
theorem walk_RunesShort (r cut which : Int) (w : World) (_hr : (Lit.int .i32 r).wf = true) (_hc : (Lit.int .i64 cut).wf = true) (_hw : (Lit.int .i64 which).wf = true) (hT : Tabs w) :
    Calls Tryd.prog 7 #[.int .i32 r, .int .i64 cut, .int .i64 which] w fun e w' => e = .returned (.bool true) ∧ Below w.heap.size w w' := by
  have HK := Lib.hid (known_true w hT)
  by_cases hv : Utf8.valid r = true
  · by_cases q0 : r < 128
    · go_enter Tryd.func7, Tryd.ntmps7
      go_wp2_with fail
      refine HK.out.mono ?_
      rintro e w1 ⟨rfl, hb⟩
      clear hT hv HK
      go_wp2
      go_ret
      exact ⟨rfl, hb⟩
    · have hv' := hv
      simp only [Utf8.valid, Bool.or_eq_true, Bool.and_eq_true, decide_eq_true_eq] at hv'
      have q1 : r ≤ 1114111 := by omega
      have q : r < 55296 ∨ 57343 < r := by omega
      have hsv := sgn_valid hv
      have hsb := sgn_bd r
      have hl := encL_len (sgn r)
      have hl2 : 2 ≤ (encL (sgn r)).length := by
        unfold encL
        rw [if_neg (by omega)]
        (repeat' split) <;> simp [enc2, enc3, enc4]
      have hes := encode_size r
      clear hv'
      rcases q with q | q
      all_goals
        go_enter Tryd.func7, Tryd.ntmps7
        go_wp2_with fail
        refine HK.out.mono ?_
        rintro e w1 ⟨rfl, hb⟩
        have hT1 := hT.below hb
        go_wp2_with fail
        refine (refWrite r w1 hv).mono ?_
        rw [hes]
        rintro e w2 ⟨rfl, k2, hb2⟩
        have hsh := fun k h1 h2 => short_bys (by omega) hv rfl k2 k h1 h2
        have hT2 := hT1.below hb2
        have hB2 := hb.trans (hb2.mono hb.size)
        generalize (encL (sgn r)).length = n at hsh hl hl2
        clear hes hsb hsv hT1 hb2 hb hT HK k2 hv
        go_wp2_with fail
        refine (within_any cut ((n : Int) - 1) w2 (by omega) (by omega)).mono ?_
        rintro e w3 ⟨m, rfl, hm, rfl⟩
        obtain ⟨s1, hs1, hx1⟩ := hsh (1 + m) (by omega) (by omega)
        have h1m : (1 : Int) + (m : Int) ≤ (n : Int) := by omega
        go_wp2_with fail
        refine (runesNextB _ s1 w2 hs1 hT2).mono ?_
        rw [hx1]
        rintro e w3 ⟨rfl, hb3⟩
        have hT3 := hT2.below hb3
        have hB3 := hB2.trans (hb3.mono hB2.size)
        clear hsh hs1 hx1 hT2 hb3 hB2 _hr _hc _hw
        go_wp2_with fail
        refine (within_any which 8 _ (by omega) (by omega)).mono ?_
        rintro e w4 ⟨m2, rfl, hm2, rfl⟩
        have hTb : Tabs (badWorld w3) := hT3.below (badWorld_below w3)
        have hBb : Below w.heap.size w (badWorld w3) := hB3.trans ((badWorld_below w3).mono hB3.size)
        have hcase : m2 = 0 ∨ m2 = 1 ∨ m2 = 2 ∨ m2 = 3 ∨ m2 = 4 ∨ m2 = 5 ∨ m2 = 6 ∨ m2 = 7 := by omega
        clear hT3 hB3 hm2
        rcases hcase with rfl | rfl | rfl | rfl | rfl | rfl | rfl | rfl
        · go_wp2_with fail
          refine (runesNextB _ _ (badWorld w3) (bad0 w3) hTb).mono ?_
          rw [badx0]
          rintro e w4 ⟨rfl, hb4⟩
          have hB4 := hBb.trans (hb4.mono hBb.size)
          clear hb4 hTb hBb
          go_wp2
          go_ret
          exact ⟨by simp, hB4⟩
        · go_wp2_with fail
          refine (runesNextB _ _ (badWorld w3) (bad1 w3) hTb).mono ?_
          rw [badx1]
          rintro e w4 ⟨rfl, hb4⟩
          have hB4 := hBb.trans (hb4.mono hBb.size)
          clear hb4 hTb hBb
          go_wp2
          go_ret
          exact ⟨by simp, hB4⟩
        · go_wp2_with fail
          refine (runesNextB _ _ (badWorld w3) (bad2 w3) hTb).mono ?_
          rw [badx2]
          rintro e w4 ⟨rfl, hb4⟩
          have hB4 := hBb.trans (hb4.mono hBb.size)
          clear hb4 hTb hBb
          go_wp2
          go_ret
          exact ⟨by simp, hB4⟩
        · go_wp2_with fail
          refine (runesNextB _ _ (badWorld w3) (bad3 w3) hTb).mono ?_
          rw [badx3]
          rintro e w4 ⟨rfl, hb4⟩
          have hB4 := hBb.trans (hb4.mono hBb.size)
          clear hb4 hTb hBb
          go_wp2
          go_ret
          exact ⟨by simp, hB4⟩
        · go_wp2_with fail
          refine (runesNextB _ _ (badWorld w3) (bad4 w3) hTb).mono ?_
          rw [badx4]
          rintro e w4 ⟨rfl, hb4⟩
          have hB4 := hBb.trans (hb4.mono hBb.size)
          clear hb4 hTb hBb
          go_wp2
          go_ret
          exact ⟨by simp, hB4⟩
        · go_wp2_with fail
          refine (runesNextB _ _ (badWorld w3) (bad5 w3) hTb).mono ?_
          rw [badx5]
          rintro e w4 ⟨rfl, hb4⟩
          have hB4 := hBb.trans (hb4.mono hBb.size)
          clear hb4 hTb hBb
          go_wp2
          go_ret
          exact ⟨by simp, hB4⟩
        · go_wp2_with fail
          refine (runesNextB _ _ (badWorld w3) (bad6 w3) hTb).mono ?_
          rw [badx6]
          rintro e w4 ⟨rfl, hb4⟩
          have hB4 := hBb.trans (hb4.mono hBb.size)
          clear hb4 hTb hBb
          go_wp2
          go_ret
          exact ⟨by simp, hB4⟩
        · go_wp2_with fail
          refine (runesNextB _ _ (badWorld w3) (bad7 w3) hTb).mono ?_
          rw [badx7]
          rintro e w4 ⟨rfl, hb4⟩
          have hB4 := hBb.trans (hb4.mono hBb.size)
          clear hb4 hTb hBb
          go_wp2
          go_ret
          exact ⟨by simp, hB4⟩
  · have hv' : r < 128 ∨ 1114111 < r ∨ (55296 ≤ r ∧ r ≤ 57343) := by
      simp only [Utf8.valid, Bool.or_eq_true, Bool.and_eq_true, decide_eq_true_eq] at hv
      omega
    by_cases q1 : r < 128
    · clear hv' hv hT
      go_enter Tryd.func7, Tryd.ntmps7
      go_wp2_with fail
      refine HK.out.mono ?_
      rintro e w1 ⟨rfl, hb⟩
      go_wp2
      go_ret
      exact ⟨rfl, hb⟩
    · by_cases q2 : 1114111 < r
      · clear hv' hv hT
        go_enter Tryd.func7, Tryd.ntmps7
        go_wp2_with fail
        refine HK.out.mono ?_
        rintro e w1 ⟨rfl, hb⟩
        go_wp2
        go_ret
        exact ⟨rfl, hb⟩
      · have q3 : 55296 ≤ r := by omega
        have q4 : r ≤ 57343 := by omega
        clear hv' hv hT
        go_enter Tryd.func7, Tryd.ntmps7
        go_wp2_with fail
        refine HK.out.mono ?_
        rintro e w1 ⟨rfl, hb⟩
        go_wp2
        go_ret
        exact ⟨rfl, hb⟩
end Go.Proofs.YtnjbdafjhhjfoaaDoor
