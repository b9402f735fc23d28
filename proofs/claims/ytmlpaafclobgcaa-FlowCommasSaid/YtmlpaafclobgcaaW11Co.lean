/- The walk of the law FlowCommas. -/
import Derived.Test.YtmlpaafclobgcaaAidx
import Derived.Test.YtmlpaafclobgcaaBoolArg
namespace Go.Proofs.Ytmlpaafclobgcaa
open Go.RowKit
open Go.Proofs.Ytmlpaafclobgcaa.Sg
open Go.Proofs.Ytmlpaafclobgcaa.Sq
open Go.Proofs.Ytmlpaafclobgcaa.Ar
set_option linter.unusedVariables false

/-- What is so behind some letters and commas. -/
structure Cm (S : ByteArray) (r : List Nat) (i : Nat) (h : Bool) (wn it : Nat) : Prop where
  text : Sc.nats S = 91 :: r.map Fl.comB
  len : r.length = i
  ok : Fl.comOk false r
  hv : comE false r = h
  ewn : (Fl.comD false 1 r).length = wn
  eit : nk 7 (Fl.comK false r) = it
  le : wn ≤ i ∧ it ≤ i
theorem Cm.size {S : ByteArray} {r : List Nat} {i wn it : Nat} {h : Bool} (c : Cm S r i h wn it) : S.size = i + 1 := by
  rw [size_of_nats c.text, List.length_cons, List.length_map, c.len]
theorem Cm.put {S : ByteArray} {r : List Nat} {i wn it : Nat} {h : Bool} (c : Cm S r i h wn it) (k : Nat) (x : UInt8) (hx : x.toNat = Fl.comB k) (hk : (k = 15 ∧ h = false) ∨ k = 7) {wn' it' : Nat} (h1 : wn' = wn + (if k = 15 then 0 else if h = true then 0 else 1)) (h2 : it' = it + (if k = 15 then 1 else 0)) :
    Cm (S ++ ⟨#[x]⟩) (r ++ [k]) (i + 1) (k == 15) wn' it' := by
  refine ⟨?_, by rw [List.length_append, c.len]; rfl, comOk_put false r k c.ok (by rw [c.hv]; exact hk), comE_put false r k, by rw [comD_put false 1 r k c.ok, c.ewn, c.hv, h1], by rw [comK_put false r k c.ok, c.eit, h2], ?_⟩
  · rw [nats_put S x _ c.text, hx, List.map_append]; rfl
  · have := c.le
    subst h1 h2
    constructor
    · split
      · omega
      · split <;> omega
    · split <;> omega
theorem Cm.letter {S : ByteArray} {r : List Nat} {i wn it : Nat} (c : Cm S r i false wn it) : Cm (S ++ ⟨#[97]⟩) (r ++ [15]) (i + 1) true wn (it + 1) := c.put 15 97 rfl (.inl ⟨rfl, rfl⟩) rfl rfl
theorem Cm.comma {S : ByteArray} {r : List Nat} {i wn it : Nat} (c : Cm S r i true wn it) : Cm (S ++ ⟨#[44]⟩) (r ++ [7]) (i + 1) false wn it := c.put 7 44 rfl (.inr rfl) rfl rfl
theorem Cm.stray {S : ByteArray} {r : List Nat} {i wn it : Nat} (c : Cm S r i false wn it) : Cm (S ++ ⟨#[44]⟩) (r ++ [7]) (i + 1) false (wn + 1) it := c.put 7 44 rfl (.inr rfl) rfl rfl
set_option maxHeartbeats 1000000 in
set_option maxRecDepth 100000 in
theorem walk_FlowCommas (v : Value) (l : List Bool) (w : World) (hl : Bools w v l) :
    Calls Try.prog 5 #[v] w fun e w' => e = .returned (.bool true) ∧ Below w.heap.size w w' := by
  obtain ⟨a, cap, rfl, hmx⟩ := hl.shape
  simp only [maxLen] at hmx
  have HQ := Lib.hid (fun w' => show Below w.heap.size w w' → (fun e (w' : World) => e = Ending.returned (.bool true) ∧ Below w.heap.size w w') (.returned (.bool true)) w' from fun h => ⟨rfl, h⟩)
  obtain ⟨Q, hQ⟩ : ∃ Q, (fun e (w' : World) => e = Ending.returned (.bool true) ∧ Below w.heap.size w w') = Q := ⟨_, rfl⟩
  rw [hQ] at HQ ⊢
  have HK := Lib.hid (known_true w)
  have HL := Lib.hid hl
  obtain ⟨M, hM⟩ : ∃ M, l.length = M := ⟨_, rfl⟩
  rw [hM] at hmx ⊢
  have HM := Lib.hid hM
  clear hl hQ hM
  go_enter Try.func5, Try.ntmps5
  go_wp2_with fail
  refine HK.out.mono ?_
  rintro e w1 ⟨rfl, hb1⟩
  have HB1 := Lib.hid hb1
  have HL1 := Lib.hid (show ∀ j, j < M → ∃ b off, a = some ⟨b, off, none⟩ ∧ w1.cell? ⟨b, off + j, none⟩ = some (.bool (l.getD j false)) from fun j hj => by
    have h := HL.out.below hb1
    exact h.at_ j (by rw [HM.out]; exact hj))
  clear hb1 HK HL HM
  go_upto_region 7 with fail
  go_loopw [3, 4, 5, 6, 7] (fun sv wv iv hv nv wr => ∃ (i wn it : Nat) (S : ByteArray) (h : Bool), nv = .int .i64 (i : Int) ∧ i ≤ 20 ∧ i ≤ M ∧ sv = .string S ∧ wv = .int .i64 (wn : Int) ∧ iv = .int .i64 (it : Int) ∧ hv = .bool h ∧ Hid (∃ r, Cm S r i h wn it) ∧ wr = w1) (fun _ _ _ _ nv _ => 20 - (intOf nv).toNat)
  case atStart => exact ⟨0, 0, 0, ⟨#[91]⟩, false, rfl, by omega, by omega, rfl, rfl, rfl, rfl, Lib.hid ⟨[], rfl, rfl, trivial, rfl, rfl, rfl, by omega⟩, rfl⟩
  case round =>
    obtain ⟨i, wn, it, S, h, rfl, hi, hiM, rfl, rfl, rfl, rfl, HC, rfl⟩ := hrel
    obtain ⟨r, hc⟩ := HC.out
    have hsz := hc.size
    obtain ⟨hle1, hle2⟩ := hc.le
    have y1 : ¬ (9223372036854775807 < S.size + 1) := by omega
    have HCm := Lib.hid hc
    clear HC
    by_cases hlt : i < M ∧ i < 20
    · obtain ⟨hlt1, hlt2⟩ := hlt
      have g1 : (i : Int) < (M : Int) := by omega
      have g2 : (i : Int) < 20 := by omega
      obtain ⟨b, off, rfl, q⟩ := HL1.out i hlt1
      obtain ⟨x, hx⟩ : ∃ x, l.getD i false = x := ⟨_, rfl⟩
      rw [hx] at q
      clear hx hsz hc
      cases x with
      | true =>
        cases h with
        | false =>
          have HN := Lib.hid (⟨_, HCm.out.letter⟩ : ∃ r, Cm (S ++ ⟨#[97]⟩) r (i + 1) true wn (it + 1))
          go_wp2_with fail
          go_roundw
          case rel => exact ⟨i + 1, wn, it + 1, S ++ ⟨#[97]⟩, true, by go_num, by omega, by omega, rfl, rfl, by go_num, rfl, HN, trivial⟩
          case measure => simp [intOf]; omega
        | true =>
          have HN := Lib.hid (⟨_, HCm.out.comma⟩ : ∃ r, Cm (S ++ ⟨#[44]⟩) r (i + 1) false wn it)
          go_wp2_with fail
          go_roundw
          case rel => exact ⟨i + 1, wn, it, S ++ ⟨#[44]⟩, false, by go_num, by omega, by omega, rfl, rfl, rfl, rfl, HN, trivial⟩
          case measure => simp [intOf]; omega
      | false =>
        cases h with
        | false =>
          have HN := Lib.hid (⟨_, HCm.out.stray⟩ : ∃ r, Cm (S ++ ⟨#[44]⟩) r (i + 1) false (wn + 1) it)
          go_wp2_with fail
          go_roundw
          case rel => exact ⟨i + 1, wn + 1, it, S ++ ⟨#[44]⟩, false, by go_num, by omega, by omega, rfl, by go_num, rfl, rfl, HN, trivial⟩
          case measure => simp [intOf]; omega
        | true =>
          have HN := Lib.hid (⟨_, HCm.out.comma⟩ : ∃ r, Cm (S ++ ⟨#[44]⟩) r (i + 1) false wn it)
          go_wp2_with fail
          go_roundw
          case rel => exact ⟨i + 1, wn, it, S ++ ⟨#[44]⟩, false, by go_num, by omega, by omega, rfl, rfl, rfl, rfl, HN, trivial⟩
          case measure => simp [intOf]; omega
    · have htl : (Fl.lets (8 :: r ++ [10])).length = r.length + 2 := by unfold Fl.lets; simp
      obtain ⟨s', hv, hsig, hds, -⟩ := Fl.com_all r 8 (by rw [hc.len]; omega) hc.ok
      have hn2 : Sc.nats (S ++ ⟨#[93]⟩) = 91 :: (r.map Fl.comB ++ [93]) := by rw [nats_put S 93 _ hc.text]; rfl
      have hT2 : Sc.tokens (Sc.nats (S ++ ⟨#[93]⟩)) = Fl.lets (8 :: r ++ [10]) := by rw [hn2]; exact Fl.com_toks r (by rw [hc.len]; omega) hc.ok
      have HVal := Lib.hid (value_at (S ++ ⟨#[93]⟩) wr (by rw [Sg.app_size]; show S.size + 1 ≤ 10000; omega) (by rw [hn2]; exact com_tame r) hT2 htl hv)
      obtain ⟨N, hN⟩ : ∃ N, r.length + 2 = N := ⟨_, rfl⟩
      rw [hN] at HVal
      have hNb : N ≤ 22 := by have := hc.len; omega
      have hnk : nk 7 (Fl.sig s'.t) = it := by rw [hsig, nk_cons, nk_cons, hc.eit]; simp
      have hdl : s'.d.length = wn := by rw [hds, hc.ewn]
      have hkl : ∀ (h : Bool) (r : List Nat), (Fl.comK h r).length ≤ r.length := fun h r => by
        induction r generalizing h with
        | nil => exact Nat.le_refl _
        | cons k r ih =>
          unfold Fl.comK
          split
          · have := ih true; simp; omega
          · split
            · have := ih false; simp; omega
            · have := ih false; simp; omega
      have hlen : s'.t.length ≤ 100 ∧ 0 < s'.t.length := by
        have h := congrArg List.length hsig
        unfold Fl.sig at h
        rw [List.length_map, List.length_cons, List.length_cons] at h
        have := hkl false r
        have := hc.len
        omega
      have HNk := Lib.hid hnk
      have HDl := Lib.hid hdl
      clear hkl hnk hdl hsig hds hv hn2 hT2 hN htl hc HCm hsz
      have hout : (¬ ((i : Int) < (M : Int))) ∨ ((i : Int) < (M : Int) ∧ ¬ ((i : Int) < 20)) := by omega
      clear hlt
      rcases hout with g1 | ⟨g1, g2⟩
      all_goals (
        go_wp2_with fail
        refine HVal.out.mono ?_
        rintro e w3 ⟨z, dv, rfl, hn3, hd3, hb3⟩
        obtain ⟨za, zc, rfl⟩ := hn3.shape
        obtain ⟨da, dc, rfl⟩ := hd3.shape
        obtain ⟨b, off, rfl, hat⟩ := nodes_all hn3 hlen.2
        rw [HDl.out]
        obtain ⟨TL, hTL⟩ : ∃ TL, s'.t.length = TL := ⟨_, rfl⟩
        rw [hTL]
        rw [hTL] at hlen
        obtain ⟨htl1, htl2⟩ := hlen
        have HTL := Lib.hid hTL
        have HD := Lib.hid (HQ.out _ (below_from (below_from HB1.out hb3) (below_alloc w3 (.cells #[.slice (some ⟨b, off, none⟩) TL zc] 31))))
        have HAt := Lib.hid (fun j x hx => at_alloc (o := .cells #[.slice (some ⟨b, off, none⟩) TL zc] 31) (hat j x hx).1)
        have m1 : (w3.alloc (.cells #[.slice (some ⟨b, off, none⟩) TL zc] 31)).cell? ⟨w3.heap.size, 0, none⟩ = some (.slice (some ⟨b, off, none⟩) TL zc) := at_new rfl
        clear hn3 hd3 hb3 hat hTL HVal
        go_upto_region 18 with fail
        generalize w3.alloc (.cells #[.slice (some ⟨b, off, none⟩) TL zc] 31) = W at *
        go_upto_region 22 with fail
        go_loopw [13, 14] (fun cv iv wx => ∃ j : Nat, iv = .int .i64 (j : Int) ∧ j ≤ TL ∧ cv = .int .i64 (nk 7 ((Fl.sig s'.t).take j) : Int) ∧ wx = W) (fun _ iv _ => TL - (intOf iv).toNat)
        case atStart => exact ⟨0, rfl, by omega, rfl, rfl⟩
        case round =>
          obtain ⟨j, rfl, hj, rfl, rfl⟩ := hrel
          have hC := nk_le 7 (Fl.sig s'.t) j
          by_cases hlt : j < TL
          · have g1 : (j : Int) < (TL : Int) := by omega
            obtain ⟨x, hx⟩ : ∃ x, s'.t[j]? = some x := ⟨_, List.getElem?_eq_getElem (by rw [HTL.out]; exact hlt)⟩
            have c1 := HAt.out j x hx
            have hs := nk_step (c := 7) hx
            obtain ⟨C, hCn⟩ : ∃ C, nk 7 ((Fl.sig s'.t).take j) = C := ⟨_, rfl⟩
            rw [hCn] at hs hC ⊢
            have HS := Lib.hid hs
            clear hs hx hCn
            by_cases e : x.k = 7
            · have g2 : (x.k == 7) = true := by simp [e]
              go_wp2_with fail
              go_roundw
              case rel => exact ⟨j + 1, by go_num, by omega, by rw [HS.out, if_pos e]; go_num, trivial⟩
              case measure => simp [intOf]; omega
            · have g2 : (x.k == 7) = false := by simp [e]
              go_wp2_with fail
              go_roundw
              case rel => exact ⟨j + 1, by go_num, by omega, by rw [HS.out, if_neg e]; go_num, trivial⟩
              case measure => simp [intOf]; omega
          · obtain rfl : j = TL := by omega
            have g1 : ¬ ((j : Int) < (j : Int)) := by omega
            have hfin : nk 7 ((Fl.sig s'.t).take j) = it := by rw [← HTL.out, nk_all]; exact HNk.out
            rw [hfin]
            clear hfin hC
            go_wp2_with fail
            try simp only [Exit.jump]
            exact HD.out)
end Go.Proofs.Ytmlpaafclobgcaa
