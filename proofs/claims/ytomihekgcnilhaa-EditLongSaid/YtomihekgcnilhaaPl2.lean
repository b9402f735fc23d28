/- package edit: Apply. -/
import Derived.Test.YtomihekgcnilhaaPk
import Derived.Test.YtomihekgcnilhaaPb
namespace Go.Proofs.Ytomihekgcnilhaa
open Go.RowKit
open Go.Proofs.Ytomihekgcnilhaa.Sq

theorem left_len {b : List UInt8} (l : List Ed.E) : ∀ A : Nat, Left b.length A l → A ≤ b.length → ((Ed.applyFrom b A l).length : Int) = b.length - A + Ed.more l := by
  induction l with
  | nil => intro A _ hA; simp only [Ed.applyFrom, Ed.more, List.length_drop]; omega
  | cons e r ih =>
    intro A h hA
    obtain ⟨F, T, hf, ht, g1, g2, g3, g4, g5⟩ := left_next h
    have h3 := ih T g5 g3
    rw [apply_next hf ht]
    simp only [Ed.more, List.length_append, List.length_take, List.length_drop]
    omega
theorem It.Ok.below {w w' : World} {it : It} (h : it.Ok w) (hb : Below w.heap.size w w') : it.Ok w' := by
  cases it with
  | stays v t => exact Bys.below (show Bys w v t from h) hb
  | put t => exact trivial
set_option maxHeartbeats 3000000 in
set_option maxRecDepth 100000 in
theorem editApply (bv lv : Value) (s : ByteArray) (l : List Et) (w : World) (hB : Bys w bv s) (hE : Edits w lv l) (hS : Short l) (hm : s.size ≤ 100000) :
    Calls Try.prog 16 #[bv, lv] w fun r w' => Yields w w' s (l.map Et.ed) r ∧ Below w.heap.size w w' := by
  obtain ⟨sa, sc, rfl⟩ := hB.shape
  obtain ⟨a, cap, rfl⟩ := hE.shape
  obtain ⟨N, hN⟩ : ∃ N, l.length = N := ⟨_, rfl⟩
  have hsz := hE.size_le
  unfold maxLen at hsz
  have HC := Lib.hid (fun w' (hb : Below w.heap.size w w') => editCheck (s.size : Int) _ l w' (hE.below hb) hS)
  have HA := Lib.hid (fun k y hk => edits_at hE k y hk)
  have HN := Lib.hid hN
  have HE := Lib.hid hE
  have HB := Lib.hid hB
  rw [hN] at hsz HC
  rw [hN]
  obtain ⟨c, hc⟩ : ∃ c, Ed.check (s.size : Int) (l.map Et.ed) = c := ⟨_, rfl⟩
  rw [hc] at HC
  have Hc := Lib.hid hc
  clear hc hN hE hB hS
  by_cases hc0 : c = 0
  · subst hc0
    have h200 : l.length ≤ 200 := by
      have h := Hc.out
      unfold Ed.check at h
      split at h
      · omega
      · rename_i h1; rw [List.length_map] at h1; omega
    have HPc := Lib.hid (fun w' (hb : Below w.heap.size w w') => pieces_any _ _ s l w' (HB.out.below hb) (HE.out.below hb) h200 (left_start Hc.out))
    rw [HN.out] at h200 HPc
    have HL := Lib.hid (show Left s.size 0 ((l.map Et.ed).drop 0) from left_start Hc.out)
    obtain ⟨R, hR⟩ : ∃ R, Ed.apply s.data.toList (l.map Et.ed) = R := ⟨_, rfl⟩
    have HR := Lib.hid hR
    have hlen := left_len (b := s.data.toList) (l.map Et.ed) 0 (by rw [← Lib.size_eq]; exact left_start Hc.out) (Nat.zero_le _)
    rw [show Ed.applyFrom s.data.toList 0 (l.map Et.ed) = R from hR, ← Lib.size_eq] at hlen
    have HT := Lib.hid (show (s.size : Int) + Ed.more ((l.map Et.ed).drop 0) = (R.length : Int) by rw [List.drop_zero]; omega)
    rw [hR] at HPc
    clear hR hsz hlen
    go_enter Try.func16, Try.ntmps16
    go_wp2_with fail
    refine (HC.out _ (Below.refl _ _)).mono ?_
    rintro e w1 ⟨rfl, hb1⟩
    go_wp2_with fail
    go_loopw [7, 21] (fun ds is wr => ∃ (d : Int) (k A : Nat), ds = .int .i64 d ∧ is = .int .i64 k ∧ k ≤ N ∧ -((k : Int) * 1001000) ≤ d ∧ d ≤ 1000000 + (k : Int) * 1001000 ∧ Hid (Left s.size A ((l.map Et.ed).drop k)) ∧ Hid (d + Ed.more ((l.map Et.ed).drop k) = (R.length : Int)) ∧ Below w.heap.size w wr) (fun _ is _ => N - (intOf is).toNat)
    case atStart => exact ⟨(s.size : Int), 0, 0, rfl, rfl, Nat.zero_le _, by omega, by omega, HL, HT, hb1⟩
    case round =>
      obtain ⟨d, k, A, rfl, rfl, hk, hd1, hd2, HLk, HTk, hb⟩ := hrel
      have hd3 : d ≤ 202000000 := by omega
      have hd4 : -202000000 ≤ d := by omega
      by_cases hlt : k < N
      · have hkl : k < l.length := by rw [HN.out]; exact hlt
        obtain ⟨y, hy⟩ : ∃ y, l[k]? = some y := ⟨_, List.getElem?_eq_getElem hkl⟩
        obtain ⟨b, off, rfl, c0, c1, c2⟩ := HA.out k y hy
        have c0 := cell_keep c0 hb
        have c1 := cell_keep c1 hb
        have c2 := cell_keep c2 hb
        have hL := HLk.out
        have hT := HTk.out
        rw [drop_at hy] at hL hT
        obtain ⟨F, T, hf, ht, g1, g2, g3, g4, g5⟩ := left_next hL
        rw [Et.plen] at g4
        have hyf : y.f = (F : Int) := hf
        have hyt : y.t = (T : Int) := ht
        have HG := Lib.hid (fun W => growth_any y W (by omega) (by omega) (by omega) g4)
        have hgr : grow y = y.p.size - (y.t - y.f) := rfl
        have hmo : Ed.more (y.ed :: (l.map Et.ed).drop (k + 1)) = grow y + Ed.more ((l.map Et.ed).drop (k + 1)) := by
          rw [Ed.more, Et.plen, hgr]; rfl
        rw [hmo] at hT
        obtain ⟨g, hg⟩ : ∃ g, grow y = g := ⟨_, rfl⟩
        rw [hg] at HG hgr hT
        have hgb1 : g ≤ 1000 := by omega
        have hgb2 : -1000000 ≤ g := by omega
        have H5 := Lib.hid g5
        have HT2 := Lib.hid (show d + g + Ed.more ((l.map Et.ed).drop (k + 1)) = (R.length : Int) by rw [← hT]; omega)
        have hj2 : (k : Int) < (N : Int) := by omega
        have HB1 := Lib.hid (hb.alloc hb.size (.cells #[.int .i64 y.f, .int .i64 y.t, .string y.p] 41))
        clear hL hT hf ht hy g5 hgr hmo hg hyf hyt HLk HTk hb g4
        go_wp2_with fail
        refine (HG.out _).mono ?_
        rintro e w2 ⟨rfl, hb2⟩
        have HB2 := Lib.hid (HB1.out.trans (hb2.mono HB1.out.size))
        clear hb2 c0 c1 c2
        go_wp2
        go_roundw
        case rel => exact ⟨d + g, k + 1, T, rfl, by go_num, by omega, by omega, by omega, H5, HT2, HB2.out⟩
        case measure => simp [intOf]; omega
      · obtain rfl : k = N := by omega
        have hT := HTk.out
        rw [List.drop_of_length_le (by rw [List.length_map, HN.out]; exact Nat.le_refl _)] at hT
        simp only [Ed.more, Int.add_zero] at hT
        obtain ⟨M, hM⟩ : ∃ M, R.length = M := ⟨_, rfl⟩
        rw [hM] at hT
        have HM := Lib.hid hM
        subst hT
        clear HLk HTk hM hd1 hd2 hd4
        by_cases hbig : 16384 < M
        · have hbig' : (16384 : Int) < (M : Int) := by omega
          go_wp2
          go_ret2
          refine ⟨.inr (.inl ⟨Hc.out, ?_, rfl⟩), hb⟩
          rw [HR.out, HM.out]; exact hbig
        · have hbig' : ¬ (16384 : Int) < (M : Int) := by omega
          have HBr := Lib.hid hb
          clear hb hd3
          go_wp2_with fail
          refine (HPc.out _ HBr.out).mono ?_
          rintro e w2 ⟨v2, its, rfl, hown2, hlen2, hok2, hcat2, hb2⟩
          have HJ := Lib.hid (join_any v2 its M w2 (Reads.of_own hown2) (fun it h => (hok2 it h).below hb2) (by omega) (by omega) (by rw [hcat2, HM.out]; omega))
          have HB2 := Lib.hid (HBr.out.trans (hb2.mono HBr.out.size))
          have HCat := Lib.hid hcat2
          clear hown2 hlen2 hok2 hcat2 hb2
          go_wp2_with fail
          refine HJ.out.mono ?_
          rintro e w3 ⟨v3, t, rfl, ht3, hown3, hb3⟩
          have HOwn := Lib.hid (own_base hown3 HB2.out.size)
          have HB3 := Lib.hid (HB2.out.trans (hb3.mono HB2.out.size))
          have HT3 := Lib.hid ht3
          clear hown3 hb3 ht3
          go_wp2
          go_ret2
          refine ⟨.inr (.inr ⟨Hc.out, ?_, v3, t, rfl, ?_, HOwn.out⟩), HB3.out⟩
          · rw [HR.out, HM.out]; omega
          · rw [HR.out, HT3.out, HCat.out]
  · have hcb : (c != 0) = true := by simp [hc0]
    clear hsz
    go_enter Try.func16, Try.ntmps16
    go_wp2_with fail
    refine (HC.out _ (Below.refl _ _)).mono ?_
    rintro e w1 ⟨rfl, hb1⟩
    go_wp2
    go_ret2
    refine ⟨.inl ⟨?_, ?_⟩, hb1⟩
    · rw [Hc.out]; exact hc0
    · rw [Hc.out]; rfl
end Go.Proofs.Ytomihekgcnilhaa
