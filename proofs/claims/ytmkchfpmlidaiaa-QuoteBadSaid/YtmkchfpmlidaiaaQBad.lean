/- The walk of correctorlaw7.QuoteBad: an escape that is none leaves its backslash, and its place is told. -/
import Derived.Test.YtmkchfpmlidaiaaAid7
import Derived.Test.YtmkchfpmlidaiaaBoolArg
import Derived.Test.YtmkchfpmlidaiaaQg
namespace Go.Proofs.Ytmkchfpmlidaiaa
open Go.RowKit
open Go.Proofs.Ytmkchfpmlidaiaa.Sg
open Go.Proofs.Ytmkchfpmlidaiaa.Qo
set_option linter.unusedVariables false

theorem Told.opens {l : List UInt8} {ps : List Nat} {b : Bool} {w w' : World} {e : Ending} (h : Told (l, ps, b) w e w') : ∃ a cap, e = .returned (.tuple #[.string (ba l), .slice a ps.length cap, .bool b]) ∧ w'.ownsRow w.heap.size 3 1 (.slice a ps.length cap) ps.length (places ps) ∧ Below w.heap.size w w' := h.open'
theorem badL_snoc (l : List Bool) (b : Bool) : badL (l ++ [b]) = badL l ++ (if b = true then [92, 113] else [92, 110]) := by simp [badL]
theorem badW_snoc (l : List Bool) (b : Bool) : badW (l ++ [b]) = badW l ++ (if b = true then [92, 113] else [10]) := by simp [badW]
theorem take_one (l : List Bool) (k : Nat) (h : k < l.length) : l.take (k + 1) = l.take k ++ [l.getD k false] := by
  rw [List.take_add_one, List.getElem?_eq_getElem h, Option.toList_some, List.getD_eq_getElem?_getD, List.getElem?_eq_getElem h]
  rfl
theorem take_count (l : List Bool) (k : Nat) (h : k < l.length) : (l.take (k + 1)).countP (· == true) = (l.take k).countP (· == true) + (if l.getD k false = true then 1 else 0) := by
  rw [take_one l k h, List.countP_append]
  cases l.getD k false <;> rfl
/-- What has been written of the first k, what is wanted of it, and how many escapes of it are none. -/
def Bd (l : List Bool) (k : Nat) (s t : ByteArray) (n : Nat) : Prop := s.data.toList = 34 :: badL (l.take k) ∧ t.data.toList = badW (l.take k) ∧ n = (l.take k).countP (· == true) ∧ s.size = 2 * k + 1 ∧ t.size ≤ 2 * k ∧ n ≤ k
theorem Bd.yes {l : List Bool} {k : Nat} {s t : ByteArray} {n : Nat} (h : Bd l k s t n) (hk : k < l.length) (e : l.getD k false = true) : Bd l (k + 1) (s ++ ⟨#[92, 113]⟩) (t ++ ⟨#[92, 113]⟩) (n + 1) := by
  obtain ⟨h1, h2, h3, h4, h5, h6⟩ := h
  refine ⟨?_, ?_, ?_, ?_, ?_, by omega⟩
  · rw [tol_app', h1, take_one l k hk, badL_snoc, e]; rfl
  · rw [tol_app', h2, take_one l k hk, badW_snoc, e]; rfl
  · rw [take_count l k hk, if_pos e, h3]
  · rw [Sg.app_size, h4]; show 2 * k + 1 + 2 = _; omega
  · rw [Sg.app_size]; show t.size + 2 ≤ _; omega
theorem Bd.no {l : List Bool} {k : Nat} {s t : ByteArray} {n : Nat} (h : Bd l k s t n) (hk : k < l.length) (e : l.getD k false = false) : Bd l (k + 1) (s ++ ⟨#[92, 110]⟩) (t ++ ⟨#[10]⟩) n := by
  obtain ⟨h1, h2, h3, h4, h5, h6⟩ := h
  refine ⟨?_, ?_, ?_, ?_, ?_, by omega⟩
  · rw [tol_app', h1, take_one l k hk, badL_snoc, e]; rfl
  · rw [tol_app', h2, take_one l k hk, badW_snoc, e]; rfl
  · rw [take_count l k hk, e, h3]; rfl
  · rw [Sg.app_size, h4]; show 2 * k + 1 + 2 = _; omega
  · rw [Sg.app_size]; show t.size + 1 ≤ _; omega
theorem Bd.ends {l : List Bool} {k : Nat} {s t : ByteArray} {n : Nat} (h : Bd l k s t n) (hk : k ≤ l.length) :
    textT 17 (s ++ ⟨#[34]⟩).data.toList = (badW (l.take k), badP 1 (l.take k), true) ∧ ba (badW (l.take k)) = t ∧ (badP 1 (l.take k)).length = n := by
  obtain ⟨h1, h2, h3, -⟩ := h
  refine ⟨?_, ba_of h2, by rw [badP_len, h3]⟩
  rw [tol_app', h1, textT_17 _ (by simp)]
  exact dbT_bads (l.take k) 1
/-- What is asked of a place. -/
theorem Bd.at_ {l : List Bool} {k : Nat} {s t : ByteArray} {n j : Nat} (h : Bd l k s t n) (hk : k ≤ l.length) (hj : j < (badP 1 (l.take k)).length) :
    ∃ x, (badP 1 (l.take k))[j]? = some x ∧ 1 ≤ x ∧ ∃ hx : x < s.size, (s[x]'hx).toNat = 92 := by
  obtain ⟨h1, h2, h3, h4, -⟩ := h
  refine ⟨(badP 1 (l.take k))[j], List.getElem?_eq_getElem hj, ?_⟩
  have hm := badP_at (l.take k) 1 [34] rfl _ (List.getElem_mem hj)
  have hl : (l.take k).length = k := by rw [List.length_take]; omega
  rw [hl] at hm
  obtain ⟨m1, m2, m3⟩ := hm
  have hx : (badP 1 (l.take k))[j] < s.size := by omega
  refine ⟨m1, hx, ?_⟩
  have e : s.data.toList[(badP 1 (l.take k))[j]]? = some 92 := by rw [h1]; exact m3
  have hlt : (badP 1 (l.take k))[j] < s.data.toList.length := by rw [← Lib.size_eq]; exact hx
  rw [List.getElem?_eq_getElem hlt] at e
  injection e with e
  rw [show (s[(badP 1 (l.take k))[j]]'hx) = s.data.toList[(badP 1 (l.take k))[j]] from rfl, e]
  rfl
theorem badP_next (l : List Bool) (j : Nat) (hj : j + 1 < (badP 1 l).length) (x y : Nat) (hx : (badP 1 l)[j]? = some x) (hy : (badP 1 l)[j + 1]? = some y) : x < y := by
  have h := List.pairwise_iff_getElem.1 (badP_up l 1) j (j + 1) (by omega) hj (by omega)
  rw [List.getElem?_eq_getElem (by omega)] at hx
  rw [List.getElem?_eq_getElem hj] at hy
  injection hx with hx
  injection hy with hy
  omega
/-- The cells of a row of places. -/
theorem places_at {w : World} {B : Nat} {a : Option Addr} {cap : Nat} {l : List Nat} (h : w.ownsRow B 3 1 (.slice a l.length cap) l.length (places l)) (h0 : l ≠ []) :
    ∃ g, a = some ⟨g, 0, none⟩ ∧ ∀ (j x : Nat), l[j]? = some x → w.cell? ⟨g, j, none⟩ = some (.int .i64 (x : Int)) := by
  rcases h.2 with ⟨-, h2⟩ | ⟨g, cap', cur, hv, -⟩
  · exact absurd (List.eq_nil_of_length_eq_zero h2) h0
  · injection hv with hv
    refine ⟨g, hv, fun j x hj => ?_⟩
    have := World.ownsRow.cells h (g := g) (by rw [hv]; rfl) j (.int .i64 (x : Int)) (by rw [places, List.getElem?_map, hj]; rfl)
    rw [addr_add, Nat.zero_add] at this
    exact this
set_option maxHeartbeats 4000000 in
set_option maxRecDepth 100000 in
theorem walk_QuoteBad (v : Value) (l : List Bool) (w : World) (hv : Bools w v l) :
    Calls Try.prog 7 #[v] w fun e w' => e = .returned (.bool true) ∧ Below w.heap.size w w' := by
  obtain ⟨a, cap, rfl, hmx⟩ := hv.shape
  simp only [maxLen] at hmx
  obtain ⟨N, hN⟩ : ∃ N, l.length = N := ⟨_, rfl⟩
  have HN := Lib.hid hN
  rw [hN] at hmx ⊢
  rw [hN] at hv
  clear hN
  have HV := Lib.hid hv
  clear hv
  have e34 : (⟨#[34]⟩ : ByteArray).size = 1 := rfl
  go_enter Try.func7, Try.ntmps7
  go_wp2_with fail
  refine (known_true w).mono ?_
  rintro e w1 ⟨rfl, hb⟩
  have HV1 := Lib.hid (HV.out.below hb)
  go_wp2_with fail
  go_loopw [3, 4, 5, 6] (fun sv tv nv kv wx => ∃ (k n : Nat) (s t : ByteArray), .string s = sv ∧ .string t = tv ∧ nv = .int .i64 n ∧ kv = .int .i64 k ∧ k ≤ N ∧ k ≤ 20 ∧ Hid (Bd l k s t n) ∧ wx = w1) (fun _ _ _ kv _ => N - (intOf kv).toNat)
  case atStart => exact ⟨0, 0, ⟨#[34]⟩, ⟨#[]⟩, rfl, rfl, rfl, rfl, Nat.zero_le _, by decide, Lib.hid ⟨rfl, rfl, rfl, rfl, by decide, by decide⟩, rfl⟩
  case round =>
    obtain ⟨k, n, s, t, rfl, rfl, rfl, rfl, hk, hk20, HB, rfl⟩ := hrel
    by_cases hlt : k < N
    · have hki : (k : Int) < (N : Int) := by omega
      have hkl : k < l.length := by rw [HN.out]; exact hlt
      by_cases hlt2 : k < 20
      · have hk20i : (k : Int) < 20 := by omega
        obtain ⟨b, off, rfl, c0⟩ := (show Bools wr (.slice a l.length cap) l from by rw [HN.out]; exact HV1.out).at_ k hkl
        have hz : s.size = 2 * k + 1 := HB.out.2.2.2.1
        have hz2 : t.size ≤ 2 * k := HB.out.2.2.2.2.1
        have hn20 : n ≤ k := HB.out.2.2.2.2.2
        cases hg : l.getD k false with
        | true =>
          have HB2 := Lib.hid (HB.out.yes hkl hg)
          rw [hg] at c0
          have n1 : ¬ (9223372036854775807 < s.size + (⟨#[92, 113]⟩ : ByteArray).size) := by show ¬ (_ < s.size + 2); omega
          have n2 : ¬ (9223372036854775807 < t.size + (⟨#[92, 113]⟩ : ByteArray).size) := by show ¬ (_ < t.size + 2); omega
          clear hg HB
          go_wp2_with fail
          go_roundw
          case rel => exact ⟨k + 1, n + 1, s ++ ⟨#[92, 113]⟩, t ++ ⟨#[92, 113]⟩, rfl, rfl, by go_num, by go_num, by omega, by omega, HB2, trivial⟩
          case measure => simp [intOf]; omega
        | false =>
          have HB2 := Lib.hid (HB.out.no hkl hg)
          rw [hg] at c0
          have n1 : ¬ (9223372036854775807 < s.size + (⟨#[92, 110]⟩ : ByteArray).size) := by show ¬ (_ < s.size + 2); omega
          have n2 : ¬ (9223372036854775807 < t.size + (⟨#[10]⟩ : ByteArray).size) := by show ¬ (_ < t.size + 1); omega
          clear hg HB
          go_wp2_with fail
          go_roundw
          case rel => exact ⟨k + 1, n, s ++ ⟨#[92, 110]⟩, t ++ ⟨#[10]⟩, rfl, rfl, rfl, by go_num, by omega, by omega, HB2, trivial⟩
          case measure => simp [intOf]; omega
      · have hk20i : ¬ (k : Int) < 20 := by omega
        clear hkl
        have hkl : k ≤ l.length := by rw [HN.out]; exact hk
        obtain ⟨t1, t2, t3⟩ := HB.out.ends hkl
        have hz : s.size = 2 * k + 1 := HB.out.2.2.2.1
        have hat := fun j hj => HB.out.at_ (j := j) hkl hj
        have hup := badP_next (l.take k)
        obtain ⟨W0, hW0⟩ : ∃ W0, badW (l.take k) = W0 := ⟨_, rfl⟩
        obtain ⟨ps, hps⟩ : ∃ ps, badP 1 (l.take k) = ps := ⟨_, rfl⟩
        rw [hW0, hps] at t1
        rw [hW0] at t2
        rw [hps] at t3 hat hup
        have h1 := fun W => pText 17 (s ++ ⟨#[34]⟩) W (by rw [Sg.app_size, e34]; omega)
        rw [t1] at h1
        have H1 := Lib.hid h1
        have n1 : ¬ (9223372036854775807 < s.size + (⟨#[34]⟩ : ByteArray).size) := by rw [e34]; omega
        have HAt := Lib.hid hat
        have HUp := Lib.hid hup
        have hn20 : n ≤ 20 := by have := HB.out.2.2.2.2.2; omega
        clear h1 t1 hat hup hW0 hps HB HV1 HV hkl hz
        go_wp2_with fail
        refine (H1.out _).mono ?_
        intro e w2 hg
        obtain ⟨a2, c2, rfl, hO, hb2⟩ := hg.opens
        have hb2 := hb.trans (hb2.mono hb.size)
        clear hg
        rw [t2]
        by_cases hn0 : n = 0
        · subst hn0
          rw [t3] at hO ⊢
          clear hO HAt HUp t3 t2
          go_wp2_with fail
          refine wp_loop_rounds 1 ?_
          rw [rounds_succ]
          go_wp2_with fail
          go_ret
          exact ⟨rfl, hb2⟩
        · obtain ⟨g, rfl, hcell⟩ := places_at hO (fun e => hn0 (by rw [← t3, e]; rfl))
          have HC := Lib.hid hcell
          have HT3 := Lib.hid t3
          rw [t3] at hO ⊢
          have dn : ((n : Int) != (n : Int)) = false := by simp
          clear hO hcell t3 t2 hn0
          go_wp2_with fail
          go_loopw [10] (fun jv wx => ∃ (j q : Nat), jv = .int .i64 j ∧ j ≤ n ∧ wx = w2.drewN q) (fun jv _ => n - (intOf jv).toNat)
          case atStart => exact ⟨0, 0, rfl, Nat.zero_le _, rfl⟩
          case round =>
            obtain ⟨j, q, rfl, hj, rfl⟩ := hrel
            by_cases hjl : j < n
            · have hji : (j : Int) < (n : Int) := by omega
              obtain ⟨x, hx, hx1, hxs, hx92⟩ := HAt.out j (by rw [HT3.out]; exact hjl)
              have c0 := HC.out j x hx
              have d1 : decide ((x : Int) < 1) = false := decide_eq_false (by omega)
              have d2 : decide ((s.size : Int) ≤ (x : Int)) = false := decide_eq_false (by omega)
              have d2n : decide (s.size ≤ x) = false := decide_eq_false (by omega)
              have d3 : (((s[x]'hxs).toNat : Int) != 92) = false := by rw [hx92]; rfl
              by_cases hj0 : j = 0
              · subst hj0
                clear hx hx92
                go_wp2_with fail
                go_big_quiet (fail)
                go_wp2_with fail
                go_roundw
                case rel => exact ⟨1, q + _, rfl, by omega, rfl⟩
                case measure => simp [intOf]; omega
              · obtain ⟨i, rfl⟩ : ∃ i, j = i + 1 := ⟨j - 1, by omega⟩
                obtain ⟨y, hy, -⟩ := HAt.out i (by rw [HT3.out]; omega)
                have hlt := HUp.out i (by rw [HT3.out]; exact hjl) y x hy hx
                have c1 := HC.out i y hy
                have d4 : decide ((0 : Int) < ((i + 1 : Nat) : Int)) = true := decide_eq_true (by omega)
                have d5 : decide ((x : Int) ≤ (y : Int)) = false := decide_eq_false (by omega)
                have d5n : decide (x ≤ y) = false := decide_eq_false (by omega)
                have d4n : decide (0 < (i : Int) + 1) = true := decide_eq_true (by omega)
                clear hx hx92 hy hlt
                go_wp2_with fail
                go_big_quiet (fail)
                go_wp2_with fail
                go_roundw
                case rel => exact ⟨i + 2, q + _, rfl, by omega, rfl⟩
                case measure => simp [intOf]; omega
            · obtain rfl : j = n := by omega
              have hne : ¬ ((j : Int) < (j : Int)) := by omega
              go_wp2_with fail
              go_ret
              exact ⟨rfl, below_drewN hb2 _⟩
    · have hki : ¬ (k : Int) < (N : Int) := by omega
      have hkl : k ≤ l.length := by rw [HN.out]; exact hk
      obtain ⟨t1, t2, t3⟩ := HB.out.ends hkl
      have hz : s.size = 2 * k + 1 := HB.out.2.2.2.1
      have hat := fun j hj => HB.out.at_ (j := j) hkl hj
      have hup := badP_next (l.take k)
      obtain ⟨W0, hW0⟩ : ∃ W0, badW (l.take k) = W0 := ⟨_, rfl⟩
      obtain ⟨ps, hps⟩ : ∃ ps, badP 1 (l.take k) = ps := ⟨_, rfl⟩
      rw [hW0, hps] at t1
      rw [hW0] at t2
      rw [hps] at t3 hat hup
      have h1 := fun W => pText 17 (s ++ ⟨#[34]⟩) W (by rw [Sg.app_size, e34]; omega)
      rw [t1] at h1
      have H1 := Lib.hid h1
      have n1 : ¬ (9223372036854775807 < s.size + (⟨#[34]⟩ : ByteArray).size) := by rw [e34]; omega
      have HAt := Lib.hid hat
      have HUp := Lib.hid hup
      have hn20 : n ≤ 20 := by have := HB.out.2.2.2.2.2; omega
      clear h1 t1 hat hup hW0 hps HB HV1 HV hkl hz
      go_wp2_with fail
      refine (H1.out _).mono ?_
      intro e w2 hg
      obtain ⟨a2, c2, rfl, hO, hb2⟩ := hg.opens
      have hb2 := hb.trans (hb2.mono hb.size)
      clear hg
      rw [t2]
      by_cases hn0 : n = 0
      · subst hn0
        rw [t3] at hO ⊢
        clear hO HAt HUp t3 t2
        go_wp2_with fail
        refine wp_loop_rounds 1 ?_
        rw [rounds_succ]
        go_wp2_with fail
        go_ret
        exact ⟨rfl, hb2⟩
      · obtain ⟨g, rfl, hcell⟩ := places_at hO (fun e => hn0 (by rw [← t3, e]; rfl))
        have HC := Lib.hid hcell
        have HT3 := Lib.hid t3
        rw [t3] at hO ⊢
        have dn : ((n : Int) != (n : Int)) = false := by simp
        clear hO hcell t3 t2 hn0
        go_wp2_with fail
        go_loopw [10] (fun jv wx => ∃ (j q : Nat), jv = .int .i64 j ∧ j ≤ n ∧ wx = w2.drewN q) (fun jv _ => n - (intOf jv).toNat)
        case atStart => exact ⟨0, 0, rfl, Nat.zero_le _, rfl⟩
        case round =>
          obtain ⟨j, q, rfl, hj, rfl⟩ := hrel
          by_cases hjl : j < n
          · have hji : (j : Int) < (n : Int) := by omega
            obtain ⟨x, hx, hx1, hxs, hx92⟩ := HAt.out j (by rw [HT3.out]; exact hjl)
            have c0 := HC.out j x hx
            have d1 : decide ((x : Int) < 1) = false := decide_eq_false (by omega)
            have d2 : decide ((s.size : Int) ≤ (x : Int)) = false := decide_eq_false (by omega)
            have d2n : decide (s.size ≤ x) = false := decide_eq_false (by omega)
            have d3 : (((s[x]'hxs).toNat : Int) != 92) = false := by rw [hx92]; rfl
            by_cases hj0 : j = 0
            · subst hj0
              clear hx hx92
              go_wp2_with fail
              go_big_quiet (fail)
              go_wp2_with fail
              go_roundw
              case rel => exact ⟨1, q + _, rfl, by omega, rfl⟩
              case measure => simp [intOf]; omega
            · obtain ⟨i, rfl⟩ : ∃ i, j = i + 1 := ⟨j - 1, by omega⟩
              obtain ⟨y, hy, -⟩ := HAt.out i (by rw [HT3.out]; omega)
              have hlt := HUp.out i (by rw [HT3.out]; exact hjl) y x hy hx
              have c1 := HC.out i y hy
              have d4 : decide ((0 : Int) < ((i + 1 : Nat) : Int)) = true := decide_eq_true (by omega)
              have d5 : decide ((x : Int) ≤ (y : Int)) = false := decide_eq_false (by omega)
              have d5n : decide (x ≤ y) = false := decide_eq_false (by omega)
              have d4n : decide (0 < (i : Int) + 1) = true := decide_eq_true (by omega)
              clear hx hx92 hy hlt
              go_wp2_with fail
              go_big_quiet (fail)
              go_wp2_with fail
              go_roundw
              case rel => exact ⟨i + 2, q + _, rfl, by omega, rfl⟩
              case measure => simp [intOf]; omega
          · obtain rfl : j = n := by omega
            have hne : ¬ ((j : Int) < (j : Int)) := by omega
            go_wp2_with fail
            go_ret
            exact ⟨rfl, below_drewN hb2 _⟩
end Go.Proofs.Ytmkchfpmlidaiaa
