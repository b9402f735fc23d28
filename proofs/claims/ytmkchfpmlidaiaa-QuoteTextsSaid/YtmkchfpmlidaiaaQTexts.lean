/- The walk of correctorlaw7.QuoteTexts: what any token's bytes say, which escapes are none, and whether they end, is the document's. -/
import Derived.Test.YtmkchfpmlidaiaaQf
import Derived.Test.YtmkchfpmlidaiaaAid7
import Derived.Test.YtmkchfpmlidaiaaRowArg
import Derived.Test.YtmkchfpmlidaiaaCel
import Derived.Deep.RegionHeld3
import Derived.Deep.DeepMust
namespace Go.Proofs.Ytmkchfpmlidaiaa
open Go.RowKit
open Go.Proofs.Ytmkchfpmlidaiaa.Sg
open Go.Proofs.Ytmkchfpmlidaiaa.Qo
set_option linter.unusedVariables false

/-- The bits of which a text is made. -/
def bits7 : List (List UInt8) := [[39], [34], [92], [97], [39, 39], [92, 110], [92, 120, 52, 49], [92, 117, 48, 48, 101, 57], [32], [92, 113], [195, 169]]
abbrev bitsV : List Value := [.string ⟨#[39]⟩, .string ⟨#[34]⟩, .string ⟨#[92]⟩, .string ⟨#[97]⟩, .string ⟨#[39, 39]⟩, .string ⟨#[92, 110]⟩, .string ⟨#[92, 120, 52, 49]⟩, .string ⟨#[92, 117, 48, 48, 101, 57]⟩, .string ⟨#[32]⟩, .string ⟨#[92, 113]⟩, .string ⟨#[195, 169]⟩]
theorem bitsV_eq : bitsV = bits7.map fun p => .string ⟨p.toArray⟩ := rfl
theorem bits_small : ∀ k : Fin 11, ((bits7[k.val]?).map fun p => decide (p.length ≤ 6)) = some true := by decide
theorem bit_at (k : Nat) (hk : k < 11) : ∃ X : ByteArray, X.size ≤ 6 ∧ bitsV[k]? = some (.string X) := by
  have h := bits_small ⟨k, hk⟩
  simp only at h
  cases hp : bits7[k]? with
  | none => rw [hp] at h; cases h
  | some p =>
    rw [hp, Option.map_some] at h
    injection h with h
    refine ⟨⟨p.toArray⟩, by have := of_decide_eq_true h; show p.toArray.size ≤ 6; simpa using this, ?_⟩
    rw [bitsV_eq, List.getElem?_map, hp]; rfl
theorem Nums.at' {k : IntKind} {w : World} {v : Value} {l : List Int} (h : Nums k w v l) (j : Nat) (hj : j < l.length) : ∃ b off cap, v = .slice (some ⟨b, off, none⟩) l.length cap ∧ w.cell? ⟨b, off + j, none⟩ = some (.int k (l.getD j 0)) := by
  rcases h.1 with ⟨-, rfl⟩ | ⟨b, off, cap, h1, h2, h3, h4⟩
  · cases hj
  · exact ⟨b, off, cap, h1, h4 j hj⟩
theorem Nums.shape' {k : IntKind} {w : World} {v : Value} {l : List Int} (h : Nums k w v l) : ∃ a cap, v = .slice a l.length cap ∧ l.length ≤ maxLen := by
  rcases h.1 with ⟨rfl, rfl⟩ | ⟨b, off, cap, rfl, h2, h3, -⟩
  · exact ⟨_, _, rfl, Nat.zero_le _⟩
  · exact ⟨_, _, rfl, Nat.le_trans h2 h3⟩
theorem rows_cells (W : World) (R : List ByteArray) (C : Array Value) (t : TypeId) (o : Obj) (hC : C = (R.map fun r => Value.string r).toArray) : ∀ (j : Nat) X, R[j]? = some X → ((W.alloc (.cells C t)).alloc o).cell? ⟨W.heap.size, j, none⟩ = some (.string X) := by
  intro j X h
  subst hC
  refine at_alloc (at_new ?_)
  rw [List.getElem?_toArray, List.getElem?_map, h]
  rfl
theorem kinds_cells (W : World) (R : List Int) (C : Array Value) (t : TypeId) (hC : C = (R.map fun r => Value.int .i64 r).toArray) : ∀ (j : Nat) X, R[j]? = some X → (W.alloc (.cells C t)).cell? ⟨W.heap.size, j, none⟩ = some (.int .i64 X) := by
  intro j X h
  subst hC
  refine at_new ?_
  rw [List.getElem?_toArray, List.getElem?_map, h]
  rfl
theorem Told.opens2 {l : List UInt8} {ps : List Nat} {b : Bool} {w w' : World} {e : Ending} (h : Told (l, ps, b) w e w') : ∃ a cap, e = .returned (.tuple #[.string (ba l), .slice a ps.length cap, .bool b]) ∧ w'.ownsRow w.heap.size 3 1 (.slice a ps.length cap) ps.length (places ps) ∧ Below w.heap.size w w' := h.open'
theorem drew_below {W W' : World} (h : Below W.drew.heap.size W.drew W') : Below W.heap.size W W' := ⟨h.1, h.2, h.3, h.4, h.5⟩
theorem below_drew {A W W' : World} (h : Below A.heap.size A W) (h2 : Below W.drew.heap.size W.drew W') : Below A.heap.size A W' := h.trans ((drew_below h2).mono h.size)
theorem drew_at {W : World} {p : Addr} {u : Value} (h : W.cell? p = some u) : W.drew.cell? p = some u := h
set_option maxHeartbeats 4000000 in
set_option maxRecDepth 100000 in
theorem walk_QuoteTexts (n : Int) (s : ByteArray) (v : Value) (l : List Int) (w : World) (_ : (Lit.int .i64 n).wf = true) (_ : s.size ≤ maxLen) (hv : Nums .i64 w v l) :
    Calls Try.prog 3 #[.int .i64 n, .string s, v] w fun e w' => e = .returned (.bool true) ∧ Below w.heap.size w w' := by
  obtain ⟨a, cap, rfl, hmx⟩ := hv.shape'
  simp only [maxLen] at hmx
  have HV := Lib.hid hv
  clear hv
  by_cases hbig : 100 < s.size
  · have hgt : (100 : Int) < (s.size : Int) := by omega
    clear hbig
    go_enter Try.func3, Try.ntmps3
    go_wp2_with fail
    refine (known_true w).mono ?_
    rintro e w1 ⟨rfl, hb⟩
    go_wp2
    go_ret
    exact ⟨rfl, hb⟩
  · have hgt : ¬ (100 : Int) < (s.size : Int) := by omega
    have hle : s.size ≤ 100 := by omega
    clear hbig
    obtain ⟨N, hN⟩ : ∃ N, l.length = N := ⟨_, rfl⟩
    have HN := Lib.hid hN
    rw [hN] at hmx HV ⊢
    clear hN
    go_enter Try.func3, Try.ntmps3
    go_wp2_with fail
    refine (known_true w).mono ?_
    rintro e w1 ⟨rfl, hb⟩
    go_wp2_with fail
    go_loopw [7, 8] (fun tv iv wx => ∃ (k : Nat) (t : ByteArray), .string t = tv ∧ iv = .int .i64 k ∧ k ≤ N ∧ k ≤ 20 ∧ t.size ≤ 6 * k ∧ Below w.heap.size w wx) (fun _ iv _ => N - (intOf iv).toNat)
    case atStart => exact ⟨0, ⟨#[]⟩, rfl, rfl, Nat.zero_le _, by decide, by decide, hb⟩
    case round =>
      obtain ⟨k, t, rfl, rfl, hk, hk20, htz, hbk⟩ := hrel
      by_cases hin : k < N ∧ k < 20
      · obtain ⟨hlt, hlt2⟩ := hin
        have hki : (k : Int) < (N : Int) := by omega
        have hk20i : (k : Int) < 20 := by omega
        have hkl : k < l.length := by rw [HN.out]; exact hlt
        have hVk : Nums .i64 w (.slice a l.length cap) l := by rw [HN.out]; exact HV.out
        obtain ⟨b, off, cap', he, c0⟩ := hVk.at' k hkl
        obtain ⟨rfl, -, rfl⟩ := Value.slice.inj he
        have hbl : b < w.heap.size := lt_of_cell c0
        have c1 : wr.cell? ⟨b, off + k, none⟩ = some (.int .i64 (l.getD k 0)) := by rw [hbk.cell (p := ⟨b, off + k, none⟩) hbl]; exact c0
        obtain ⟨i, hi, hwi⟩ := within_nat (l.getD k 0) 11 (by decide) (by decide)
        obtain ⟨X, hXz, hX⟩ := bit_at i hi
        obtain ⟨m, hm⟩ : ∃ m, l.getD k 0 = m := ⟨_, rfl⟩
        rw [hm] at c1 hwi
        have HW := Lib.hid hwi
        have c2 : (wr.alloc (.cells #[.string ⟨#[39]⟩, .string ⟨#[34]⟩, .string ⟨#[92]⟩, .string ⟨#[97]⟩, .string ⟨#[39, 39]⟩, .string ⟨#[92, 110]⟩, .string ⟨#[92, 120, 52, 49]⟩, .string ⟨#[92, 117, 48, 48, 101, 57]⟩, .string ⟨#[32]⟩, .string ⟨#[92, 113]⟩, .string ⟨#[195, 169]⟩] 9)).cell? ⟨b, off + k, none⟩ = some (.int .i64 m) := at_alloc c1
        have c3 : (wr.alloc (.cells #[.string ⟨#[39]⟩, .string ⟨#[34]⟩, .string ⟨#[92]⟩, .string ⟨#[97]⟩, .string ⟨#[39, 39]⟩, .string ⟨#[92, 110]⟩, .string ⟨#[92, 120, 52, 49]⟩, .string ⟨#[92, 117, 48, 48, 101, 57]⟩, .string ⟨#[32]⟩, .string ⟨#[92, 113]⟩, .string ⟨#[195, 169]⟩] 9)).cell? ⟨wr.heap.size, i, none⟩ = some (.string X) := at_new (by show (bitsV.toArray)[i]? = _; rw [List.getElem?_toArray]; exact hX)
        have C3 := Lib.hid c3
        have HBk := Lib.hid (hbk.alloc hbk.size (.cells #[.string ⟨#[39]⟩, .string ⟨#[34]⟩, .string ⟨#[92]⟩, .string ⟨#[97]⟩, .string ⟨#[39, 39]⟩, .string ⟨#[92, 110]⟩, .string ⟨#[92, 120, 52, 49]⟩, .string ⟨#[92, 117, 48, 48, 101, 57]⟩, .string ⟨#[32]⟩, .string ⟨#[92, 113]⟩, .string ⟨#[195, 169]⟩] 9))
        have hii : (i : Int) < 11 := by omega
        have hi0 : (0 : Int) ≤ (i : Int) := by omega
        have ncat : ¬ (9223372036854775807 < t.size + X.size) := by omega
        clear hm hX hwi c0 hVk hkl c3 hbk
        go_wp2_with fail
        obtain ⟨tc, htc⟩ : ∃ tc, tc = wr.heap.size := ⟨_, rfl⟩
        obtain ⟨V, hV⟩ : ∃ V, V = wr.alloc (.cells #[.string ⟨#[39]⟩, .string ⟨#[34]⟩, .string ⟨#[92]⟩, .string ⟨#[97]⟩, .string ⟨#[39, 39]⟩, .string ⟨#[92, 110]⟩, .string ⟨#[92, 120, 52, 49]⟩, .string ⟨#[92, 117, 48, 48, 101, 57]⟩, .string ⟨#[32]⟩, .string ⟨#[92, 113]⟩, .string ⟨#[195, 169]⟩] 9) := ⟨_, rfl⟩
        have c4 := C3.out
        have hbV := HBk.out
        rw [← hV, ← htc] at c4
        rw [← hV] at hbV
        rw [← hV, ← htc]
        clear c2 hV htc C3 HBk
        refine (HW.out _).mono ?_
        rintro e w2 ⟨rfl, rfl⟩
        go_wp2_with fail
        go_roundw
        case rel => exact ⟨k + 1, t ++ X, rfl, by go_num, by omega, by omega, by rw [Sg.app_size]; omega, hbV⟩
        case measure => simp [intOf]; omega
      · have hex : (¬ (k : Int) < (N : Int)) ∨ ((k : Int) < (N : Int) ∧ ¬ (k : Int) < 20) := by omega
        have htz2 : t.size ≤ 120 := by omega
        have e1 : (⟨#[39]⟩ : ByteArray).size = 1 := rfl
        have e2 : (⟨#[34]⟩ : ByteArray).size = 1 := rfl
        obtain ⟨r1, hr1⟩ : ∃ r1, (⟨#[39]⟩ ++ s : ByteArray) = r1 := ⟨_, rfl⟩
        obtain ⟨r2, hr2⟩ : ∃ r2, (⟨#[34]⟩ ++ s : ByteArray) = r2 := ⟨_, rfl⟩
        obtain ⟨r3, hr3⟩ : ∃ r3, (⟨#[39]⟩ ++ t : ByteArray) = r3 := ⟨_, rfl⟩
        obtain ⟨r4, hr4⟩ : ∃ r4, (⟨#[34]⟩ ++ t : ByteArray) = r4 := ⟨_, rfl⟩
        obtain ⟨r5, hr5⟩ : ∃ r5, (r3 ++ ⟨#[39]⟩ : ByteArray) = r5 := ⟨_, rfl⟩
        obtain ⟨r6, hr6⟩ : ∃ r6, (r4 ++ ⟨#[34]⟩ : ByteArray) = r6 := ⟨_, rfl⟩
        have z1 : r1.size ≤ 101 := by rw [← hr1, Sg.app_size, e1]; omega
        have z2 : r2.size ≤ 101 := by rw [← hr2, Sg.app_size, e2]; omega
        have z3 : r3.size ≤ 121 := by rw [← hr3, Sg.app_size, e1]; omega
        have z4 : r4.size ≤ 121 := by rw [← hr4, Sg.app_size, e2]; omega
        have z5 : r5.size ≤ 122 := by rw [← hr5, Sg.app_size, e1]; omega
        have z6 : r6.size ≤ 122 := by rw [← hr6, Sg.app_size, e2]; omega
        have n1 : ¬ (9223372036854775807 < (⟨#[39]⟩ : ByteArray).size + s.size) := by rw [e1]; omega
        have n2 : ¬ (9223372036854775807 < (⟨#[34]⟩ : ByteArray).size + s.size) := by rw [e2]; omega
        have n3 : ¬ (9223372036854775807 < (⟨#[39]⟩ : ByteArray).size + t.size) := by rw [e1]; omega
        have n4 : ¬ (9223372036854775807 < (⟨#[34]⟩ : ByteArray).size + t.size) := by rw [e2]; omega
        have n5 : ¬ (9223372036854775807 < r3.size + (⟨#[39]⟩ : ByteArray).size) := by rw [e1]; omega
        have n6 : ¬ (9223372036854775807 < r4.size + (⟨#[34]⟩ : ByteArray).size) := by rw [e2]; omega
        have HR := Lib.hid (fun (j : Nat) (X : ByteArray) (h : [s, r1, r2, r3, r4, r5, r6][j]? = some X) => (show X.size ≤ 130 from by
          have := List.mem_of_getElem? h
          simp only [List.mem_cons, List.not_mem_nil, or_false] at this
          rcases this with rfl | rfl | rfl | rfl | rfl | rfl | rfl <;> omega))
        have HC := Lib.hid (rows_cells wr [s, r1, r2, r3, r4, r5, r6] #[.string s, .string r1, .string r2, .string r3, .string r4, .string r5, .string r6] 9 (.cells #[.int .i64 15, .int .i64 16, .int .i64 17, .int .i64 n] 3) rfl)
        have HD := Lib.hid (kinds_cells (wr.alloc (.cells #[.string s, .string r1, .string r2, .string r3, .string r4, .string r5, .string r6] 9)) [15, 16, 17, n] #[.int .i64 15, .int .i64 16, .int .i64 17, .int .i64 n] 3 rfl)
        have HBk := Lib.hid ((hbk.alloc hbk.size (.cells #[.string s, .string r1, .string r2, .string r3, .string r4, .string r5, .string r6] 9)).alloc (by have := hbk.size; rw [size_alloc]; omega) (.cells #[.int .i64 15, .int .i64 16, .int .i64 17, .int .i64 n] 3))
        clear hbk hin z1 z2 z3 z4 z5 z6
        rcases hex with hki | ⟨hki, hk20i⟩
        all_goals
          go_wp2_with fail
          obtain ⟨g1, hg1⟩ : ∃ g1, g1 = wr.heap.size := ⟨_, rfl⟩
          obtain ⟨W, hW⟩ : ∃ W, W = (wr.alloc (.cells #[.string s, .string r1, .string r2, .string r3, .string r4, .string r5, .string r6] 9)).alloc (.cells #[.int .i64 15, .int .i64 16, .int .i64 17, .int .i64 n] 3) := ⟨_, rfl⟩
          have hc := HC.out
          have hd := HD.out
          have hbW := HBk.out
          rw [size_alloc] at hd
          rw [← hW, ← hg1] at hc hd
          rw [← hW] at hbW
          rw [← hW, ← hg1]
          have HC2 := Lib.hid hc
          have HD2 := Lib.hid hd
          have HBW := Lib.hid hbW
          clear hc hd hbW HC HD HBk hW hg1 n1 n2 n3 n4 n5 n6 hr1 hr2 hr3 hr4 hr5 hr6 e1 e2 htz2
          go_loopw [11] (fun iv wx => ∃ (i : Nat), iv = .int .i64 i ∧ i ≤ 7 ∧ Below W.heap.size W wx) (fun iv _ => 7 - (intOf iv).toNat)
          case atStart => exact ⟨0, rfl, by decide, Below.refl _ W⟩
          case round =>
            obtain ⟨i, rfl, hi7, hbi⟩ := hrel
            by_cases hil : i < 7
            · have hii : (i : Int) < 7 := by omega
              obtain ⟨X, hX⟩ : ∃ X, [s, r1, r2, r3, r4, r5, r6][i]? = some X := ⟨_, List.getElem?_eq_getElem hil⟩
              have hXz := HR.out i X hX
              have HX := Lib.hid (HC2.out i X hX)
              clear hX
              go_wp2_with fail
              go_loopw [12] (fun kv wx => ∃ (j : Nat), kv = .int .i64 j ∧ j ≤ 4 ∧ Below W.heap.size W wx) (fun kv _ => 4 - (intOf kv).toNat)
              case atStart => exact ⟨0, rfl, by decide, hbi⟩
              case round =>
                obtain ⟨j, rfl, hj4, hbj⟩ := hrel
                by_cases hjl : j < 4
                · have hjj : (j : Int) < 4 := by omega
                  obtain ⟨K, hK⟩ : ∃ K, [15, 16, 17, n][j]? = some K := ⟨_, List.getElem?_eq_getElem hjl⟩
                  have c0 := at_below hbj (HD2.out j K hK)
                  have c1 := at_below hbj HX.out
                  obtain ⟨x, hx⟩ : ∃ x, textT K X.data.toList = x := ⟨_, rfl⟩
                  obtain ⟨lx, ps, en⟩ := x
                  have h1 := fun W => pText K X W (by omega)
                  have h2 := fun W => rText K X W (by omega)
                  rw [hx] at h1 h2
                  have H1 := Lib.hid h1
                  have H2 := Lib.hid h2
                  obtain ⟨tx, htx⟩ : ∃ tx, ba lx = tx := ⟨_, rfl⟩
                  have HTx := Lib.hid htx
                  have hen : (en != en) = false := by cases en <;> rfl
                  clear hK hx h1 h2 htx
                  go_wp2_with fail
                  have HBj := Lib.hid hbj
                  clear hbj
                  go_region_held3 (fun wx => wx.cell? ⟨g1 + 1, j, none⟩ = some (.int .i64 K) ∧ wx.cell? ⟨g1, i, none⟩ = some (.string X)) (((refine ⟨?_, ?_⟩); all_goals (repeat (first | (with_reducible exact c0) | (with_reducible exact c1) | (with_reducible exact q0) | (with_reducible exact q1) | (with_reducible refine drew_at ?_)))))
                    ((go_at_call 11; go_must ((with_reducible refine (H1.out _).mono ?_); intro e w2 hg; obtain ⟨a2, cc2, rfl, hO, hb2⟩ := Told.opens2 (l := lx) (ps := ps) (b := en) hg; have q0 := at_below (drew_below hb2) c0; have q1 := at_below (drew_below hb2) c1; have HO1 := Lib.hid hO; have HB2 := Lib.hid (below_drew HBj.out hb2); clear hg hO hb2)))
                  all_goals
                    clear c0 c1
                    go_wp2_with fail
                    go_region_held3 (fun wx => wx.cell? ⟨g1 + 1, j, none⟩ = some (.int .i64 K) ∧ wx.cell? ⟨g1, i, none⟩ = some (.string X)) (((refine ⟨?_, ?_⟩); all_goals (repeat (first | (with_reducible exact q0) | (with_reducible exact q1) | (with_reducible exact r0) | (with_reducible exact r1) | (with_reducible refine drew_at ?_)))))
                      ((go_at_call 12; go_must ((with_reducible refine (H2.out _).mono ?_); intro e w3 hg; obtain ⟨a3, cc3, rfl, hO, hb2⟩ := Told.opens2 (l := lx) (ps := ps) (b := en) hg; have r0 := at_below (drew_below hb2) q0; have r1 := at_below (drew_below hb2) q1; have HI2 := Lib.hid (Ints.of_own hO); have HI1 := Lib.hid (Ints.below (Ints.of_own HO1.out) (drew_below hb2)); have HB3 := Lib.hid (below_drew HB2.out hb2); clear hg hO hb2)))
                    all_goals
                      clear q0 q1 r0 r1
                      rw [HTx.out] at *
                      go_wp2_with fail
                      refine (ints_same _ _ _ _ HI1.out HI2.out).mono ?_
                      rintro e w4 ⟨rfl, hb4⟩
                      have hb5 := HB3.out.trans (hb4.mono HB3.out.size)
                      go_wp2_with fail
                      go_roundw
                      case rel => exact ⟨j + 1, by go_num, by omega, hb5⟩
                      case measure => simp [intOf]; omega
                · obtain rfl : j = 4 := by omega
                  go_wp2_with fail
                  go_roundw
                  case rel => exact ⟨i + 1, by go_num, by omega, hbj⟩
                  case measure => simp [intOf]; omega
            · obtain rfl : i = 7 := by omega
              go_wp2_with fail
              go_ret
              exact ⟨rfl, HBW.out.trans (hbi.mono HBW.out.size)⟩
end Go.Proofs.Ytmkchfpmlidaiaa
