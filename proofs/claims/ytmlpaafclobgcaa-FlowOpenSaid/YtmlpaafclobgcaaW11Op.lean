/- The walk of the law FlowOpen. -/
import Derived.Test.YtmlpaafclobgcaaAidx
namespace Go.Proofs.Ytmlpaafclobgcaa
open Go.RowKit
open Go.Proofs.Ytmlpaafclobgcaa.Sg
open Go.Proofs.Ytmlpaafclobgcaa.Sq
open Go.Proofs.Ytmlpaafclobgcaa.Ar
set_option linter.unusedVariables false

theorem open_tame (n : Nat) (m : Bool) : Tame (Fl.openB n m) := fun x hx => by
  unfold Fl.openB at hx
  rw [List.mem_append] at hx
  rcases hx with h | h
  · rw [List.mem_flatten] at h
    obtain ⟨y, hy, hx⟩ := h
    rw [List.mem_replicate] at hy
    rw [hy.2] at hx
    simp at hx
    omega
  · split at h
    · simp at h; omega
    · cases h
theorem flat_put (i : Nat) : (List.replicate (i + 1) [91, 97, 44, 32]).flatten = (List.replicate i [91, 97, 44, 32]).flatten ++ [91, 97, 44, 32] := by
  rw [List.replicate_succ']; simp
theorem flat_len (i : Nat) : ((List.replicate i [91, 97, 44, 32]).flatten : List Nat).length = 4 * i := by
  induction i with
  | zero => rfl
  | succ i ih => rw [flat_put, List.length_append, ih]; simp; omega
theorem openD_f (n : Nat) : ∀ m, ∀ x ∈ Fl.openD n m, x.f ≤ 4 * n
  | 0 => fun x hx => by cases hx
  | m + 1 => fun x hx => by
    rw [Fl.openD, List.mem_append] at hx
    rcases hx with hx | hx
    · exact openD_f n m x hx
    · rw [List.mem_singleton] at hx; subst hx; show 4 * (n - (m + 1)) ≤ 4 * n; omega
set_option maxHeartbeats 1000000 in
set_option maxRecDepth 100000 in
theorem walk_FlowOpen (n0 : Int) (m : Bool) (w : World) (_ : (Lit.int .i64 n0).wf = true) :
    Calls Try.prog 6 #[.int .i64 n0, .bool m] w fun e w' => e = .returned (.bool true) ∧ Below w.heap.size w w' := by
  have HQ := Lib.hid (fun w' => show Below w.heap.size w w' → (fun e (w' : World) => e = Ending.returned (.bool true) ∧ Below w.heap.size w w') (.returned (.bool true)) w' from fun h => ⟨rfl, h⟩)
  obtain ⟨Q, hQ⟩ : ∃ Q, (fun e (w' : World) => e = Ending.returned (.bool true) ∧ Below w.heap.size w w') = Q := ⟨_, rfl⟩
  rw [hQ] at HQ ⊢
  have HK := Lib.hid (known_true w)
  obtain ⟨k, hk, hw1⟩ := within_lit n0 8 8 rfl (by decide) (by decide)
  have HW1 := Lib.hid hw1
  obtain ⟨n, hn⟩ : ∃ n, k + 1 = n := ⟨_, rfl⟩
  have e1 : IntKind.i64.wrap ((1 : Int) + (k : Int)) = (n : Int) := by rw [IntWalk.i64_in _ (by omega)]; omega
  clear hw1 hQ
  go_enter Try.func6, Try.ntmps6
  go_wp2_with fail
  refine HK.out.mono ?_
  rintro e w1 ⟨rfl, hb1⟩
  have HB1 := Lib.hid hb1
  clear hb1 HK
  go_wp2_with fail
  refine (HW1.out _).mono ?_
  rintro e w2 ⟨rfl, rfl⟩
  have hn8 : n ≤ 8 := by omega
  have hn0 : 0 < n := by omega
  go_upto_region 6 with fail
  clear e1 hn hk HW1
  go_loopw [5, 6] (fun sv iv wr => ∃ (i : Nat) (S : ByteArray), iv = .int .i64 (i : Int) ∧ i ≤ n ∧ sv = .string S ∧ Hid (Sc.nats S = (List.replicate i [91, 97, 44, 32]).flatten) ∧ wr = w1) (fun _ iv _ => n - (intOf iv).toNat)
  case atStart => exact ⟨0, ⟨#[]⟩, rfl, by omega, rfl, Lib.hid rfl, rfl⟩
  case round =>
    obtain ⟨i, S, rfl, hi, rfl, HS, rfl⟩ := hrel
    have hsz := size_of_nats HS.out
    rw [flat_len] at hsz
    by_cases hlt : i < n
    · have g1 : (i : Int) < (n : Int) := by omega
      have y1 : ¬ (9223372036854775807 < S.size + 4) := by omega
      have HS2 := Lib.hid (show Sc.nats (S ++ ⟨#[91, 97, 44, 32]⟩) = (List.replicate (i + 1) [91, 97, 44, 32]).flatten by rw [Sc.nats_app, HS.out, flat_put]; rfl)
      clear hsz
      go_wp2_with fail
      go_roundw
      case rel => exact ⟨i + 1, S ++ ⟨#[91, 97, 44, 32]⟩, by go_num, by omega, rfl, HS2, trivial⟩
      case measure => simp [intOf]; omega
    · obtain rfl : i = n := by omega
      have g1 : ¬ ((i : Int) < (i : Int)) := by omega
      have y1 : ¬ (9223372036854775807 < S.size + 8) := by omega
      clear hsz
      go_upto_if 27 with fail
      go_cut [5] (fun sv wx => ∃ S2 : ByteArray, sv = .string S2 ∧ Hid (Sc.nats S2 = Fl.openB i m) ∧ wx = wr)
      case first =>
        cases m with
        | true =>
          go_wp2_with fail
          go_meet
          exact ⟨_, rfl, Lib.hid (by rw [Sc.nats_app, HS.out]; rfl), rfl⟩
        | false =>
          go_wp2_with fail
          go_meet
          exact ⟨_, rfl, Lib.hid (by rw [HS.out]; unfold Fl.openB; simp), rfl⟩
      case rest =>
      obtain ⟨S2, rfl, HS2, rfl⟩ := hcut
      obtain ⟨hO, hTl⟩ := Fl.open_toks i hn0 hn8 m
      have hsz2 : S2.size ≤ 40 := by
        rw [size_of_nats HS2.out]; unfold Fl.openB; rw [List.length_append, flat_len]; split <;> simp <;> omega
      obtain ⟨T, hT⟩ : ∃ T, Sc.tokens (Fl.openB i m) = T := ⟨_, rfl⟩
      rw [hT] at hO hTl
      obtain ⟨s', hv, hsig, hds, -⟩ := Fl.open_all hO hn0 9 (by omega) (by omega)
      have hT2 : Sc.tokens (Sc.nats S2) = T := by rw [HS2.out]; exact hT
      have HVal := Lib.hid (value_at S2 wc (by omega) (by rw [HS2.out]; exact open_tame i m) hT2 rfl hv)
      obtain ⟨N, hN⟩ : ∃ N, T.length = N := ⟨_, rfl⟩
      rw [hN] at HVal
      obtain ⟨B4, hB4⟩ : ∃ B4, 4 * i - 1 = B4 := ⟨_, rfl⟩
      rw [hB4] at HVal
      obtain ⟨hDl, hDc⟩ := Fl.openD_len i i
      have hDf := openD_f i i
      rw [← hds] at hDl hDc hDf
      have HDf := Lib.hid hDf
      have hnk : nk 7 (Fl.sig s'.t) = i := by rw [hsig, nk_cons, openS_7]; simp
      have htl : s'.t.length ≤ 100 ∧ 0 < s'.t.length := by
        have h := congrArg List.length hsig
        unfold Fl.sig at h
        rw [List.length_map, List.length_cons] at h
        have h2 : ∀ m, (Fl.openS m).length = 2 * m := fun m => by
          induction m with
          | zero => rfl
          | succ m ih => show (Fl.openS m).length + 1 + 1 = _; omega
        rw [h2] at h; omega
      have HDl := Lib.hid hDl
      have HDc := Lib.hid hDc
      have HNk := Lib.hid hnk
      have hNb : N ≤ 100 := by omega
      clear hT hT2 hv hsig hds hN hB4 hDl hDc hDf hnk hO hTl HS2 HS hsz2
      go_wp2_with fail
      refine HVal.out.mono ?_
      rintro e w3 ⟨z, dv, rfl, hn3, hd3, hb3⟩
      obtain ⟨za, zc, rfl⟩ := hn3.shape
      obtain ⟨da, dc, rfl⟩ := hd3.shape
      obtain ⟨b, off, rfl, hat⟩ := nodes_all hn3 htl.2
      obtain ⟨b2, off2, rfl, hat2⟩ := told_all hd3 (by rw [HDl.out]; exact hn0)
      rw [HDl.out]
      obtain ⟨TL, hTL⟩ : ∃ TL, s'.t.length = TL := ⟨_, rfl⟩
      rw [hTL]
      rw [hTL] at htl
      obtain ⟨htl1, htl2⟩ := htl
      have HTL := Lib.hid hTL
      have HD := Lib.hid (fun W' (hb : Below (w3.alloc (.cells #[.slice (some ⟨b, off, none⟩) TL zc] 31)).heap.size (w3.alloc (.cells #[.slice (some ⟨b, off, none⟩) TL zc] 31)) W') => HQ.out _ (below_from (below_from (below_from HB1.out hb3) (below_alloc w3 (.cells #[.slice (some ⟨b, off, none⟩) TL zc] 31))) hb))
      have HAt := Lib.hid (fun j x hx => at_alloc (o := .cells #[.slice (some ⟨b, off, none⟩) TL zc] 31) (hat j x hx).1)
      have HAt2 := Lib.hid (fun j (x : Fl.Dg) hx => (⟨at_alloc (o := .cells #[.slice (some ⟨b, off, none⟩) TL zc] 31) (hat2 j x hx).1, at_alloc (o := .cells #[.slice (some ⟨b, off, none⟩) TL zc] 31) (hat2 j x hx).2.1, at_alloc (o := .cells #[.slice (some ⟨b, off, none⟩) TL zc] 31) (hat2 j x hx).2.2⟩ : _ ∧ _ ∧ _))
      have m1 : (w3.alloc (.cells #[.slice (some ⟨b, off, none⟩) TL zc] 31)).cell? ⟨w3.heap.size, 0, none⟩ = some (.slice (some ⟨b, off, none⟩) TL zc) := at_new rfl
      clear hn3 hd3 hb3 hat hat2 hTL HVal
      go_upto_region 12 with fail
      generalize w3.alloc (.cells #[.slice (some ⟨b, off, none⟩) TL zc] 31) = W at *
      go_upto_region 16 with fail
      go_loopw [12, 13] (fun cv iv wr => ∃ j : Nat, iv = .int .i64 (j : Int) ∧ j ≤ TL ∧ cv = .int .i64 (nk 7 ((Fl.sig s'.t).take j) : Int) ∧ wr = W) (fun _ iv _ => TL - (intOf iv).toNat)
      case atStart => exact ⟨0, rfl, by omega, rfl, rfl⟩
      case round =>
        obtain ⟨j, rfl, hj, rfl, rfl⟩ := hrel
        have hC := nk_le 7 (Fl.sig s'.t) j
        by_cases hlt : j < TL
        · have g1 : (j : Int) < (TL : Int) := by omega
          obtain ⟨x, hx⟩ : ∃ x, s'.t[j]? = some x := ⟨_, List.getElem?_eq_getElem (by rw [HTL.out]; exact hlt)⟩
          have c1 := HAt.out j x hx
          have hs := nk_step (c := 7) hx
          obtain ⟨C, hCn⟩ : ∃ C, nk 7 ((Fl.sig s'.t).take j) = C := ⟨_, rfl⟩
          rw [hCn] at hs hC ⊢
          have HS := Lib.hid hs
          clear hs hx hCn
          by_cases e : x.k = 7
          · have g2 : (x.k == 7) = true := by simp [e]
            go_wp2_with fail
            go_roundw
            case rel => exact ⟨j + 1, by go_num, by omega, by rw [HS.out, if_pos e]; go_num, trivial⟩
            case measure => simp [intOf]; omega
          · have g2 : (x.k == 7) = false := by simp [e]
            go_wp2_with fail
            go_roundw
            case rel => exact ⟨j + 1, by go_num, by omega, by rw [HS.out, if_neg e]; go_num, trivial⟩
            case measure => simp [intOf]; omega
        · obtain rfl : j = TL := by omega
          have g1 : ¬ ((j : Int) < (j : Int)) := by omega
          have hfin : nk 7 ((Fl.sig s'.t).take j) = i := by rw [← HTL.out, nk_all]; exact HNk.out
          rw [hfin]
          clear hfin hC
          go_upto_region 21 with fail
          go_loopw [14] (fun iv wy => ∃ q : Nat, iv = .int .i64 (q : Int) ∧ q ≤ i ∧ Below wr.heap.size wr wy) (fun iv _ => i - (intOf iv).toNat)
          case atStart => exact ⟨0, rfl, by omega, Below.refl _ _⟩
          case round =>
            obtain ⟨q, rfl, hq, hbw⟩ := hrel
            have HBw := Lib.hid hbw
            by_cases hlt2 : q < i
            · have g2 : (q : Int) < (i : Int) := by omega
              obtain ⟨x, hx⟩ : ∃ x, s'.d[q]? = some x := ⟨_, List.getElem?_eq_getElem (by rw [HDl.out]; exact hlt2)⟩
              obtain ⟨c0, c1, c2⟩ := HAt2.out q x hx
              have hm := List.mem_of_getElem? hx
              obtain ⟨e1, e2⟩ := HDc.out x hm
              have e3 := HDf.out x hm
              rw [e1] at c0
              rw [e2] at c2
              have c0 := at_below hbw c0
              have c1 := at_below hbw c1
              have c2 := at_below hbw c2
              obtain ⟨xf, hxf⟩ : ∃ xf, x.f = xf := ⟨_, rfl⟩
              rw [hxf] at c1 c2 e3
              have c2 : _ = some (Value.int .i64 ((xf : Int) + 1)) := c2
              clear hx hm e1 e2 hxf hbw
              go_wp2_with fail
              go_big_quiet (fail)
              have HB2 := Lib.hid (below_drewN HBw.out nq)
              generalize World.drewN _ nq = Wn at *
              go_wp2_with fail
              go_roundw
              case rel => exact ⟨q + 1, by go_num, by omega, HB2.out⟩
              case measure => simp [intOf]; omega
            · obtain rfl : q = i := by omega
              have g2 : ¬ ((q : Int) < (q : Int)) := by omega
              have HDn := Lib.hid (HD.out _ hbw)
              clear hbw
              go_wp2_with fail
              try simp only [Exit.jump]
              exact HDn.out
end Go.Proofs.Ytmlpaafclobgcaa
