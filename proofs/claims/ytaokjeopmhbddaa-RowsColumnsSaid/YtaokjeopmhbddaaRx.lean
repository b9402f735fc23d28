/- Package rows: the row at the front, a row's column, its kind. -/
import Derived.Test.YtaokjeopmhbddaaRo
namespace Go.Proofs.Ytaokjeopmhbddaa.Rw
theorem lead_first (ts : List Tk) : (leadN ts = ts.length ∧ firstC ts = none) ∨ ∃ x, ts[leadN ts]? = some x ∧ firstC ts = some x := by
  induction ts with
  | nil => exact .inl ⟨rfl, rfl⟩
  | cons y r ih =>
    by_cases hc : Sc.counts y.1 = true
    · right
      refine ⟨y, ?_, ?_⟩
      · rw [leadN, if_pos hc]; rfl
      · rw [firstC, if_pos hc]
    · rcases ih with ⟨h1, h2⟩ | ⟨x, h1, h2⟩
      · left
        refine ⟨?_, ?_⟩
        · rw [leadN, if_neg hc, h1]; rfl
        · rw [firstC, if_neg hc, h2]
      · right
        refine ⟨x, ?_, ?_⟩
        · rw [leadN, if_neg hc, List.getElem?_cons_succ]; exact h1
        · rw [firstC, if_neg hc, h2]
theorem headF_get (ts : List Tk) (x : Tk) (h : ts[0]? = some x) : headF ts = x.2.1 := by
  cases ts with
  | nil => simp at h
  | cons y r => obtain rfl : y = x := by simpa using h
                rfl
theorem headK_get (ts : List Tk) (x : Tk) (h : ts[0]? = some x) : headK ts = x.1 := by
  cases ts with
  | nil => simp at h
  | cons y r => obtain rfl : y = x := by simpa using h
                rfl
theorem headK_drop (ts : List Tk) (i : Nat) (x : Tk) (h : ts[i]? = some x) : headK (ts.drop i) = x.1 := by
  refine headK_get _ x ?_
  rw [List.getElem?_drop]; exact h
/-- The column of the token at a place of a row. -/
def colA (ts : List Tk) (a : Nat) : Int := if a = ts.length then -1 else (fromAt ts a : Int) - (headF ts : Int)
theorem colA_lead (ts : List Tk) : colA ts (leadN ts) = colOf ts := by
  unfold colA colOf
  rcases lead_first ts with ⟨h1, h2⟩ | ⟨x, h1, h2⟩
  · rw [if_pos h1, h2]
  · have := (List.getElem?_eq_some_iff.1 h1).1
    rw [if_neg (by omega), h2, fromAt_get _ _ _ h1]
end Go.Proofs.Ytaokjeopmhbddaa.Rw
namespace Go.Proofs.Ytaokjeopmhbddaa
open Go.RowKit
open Go.Proofs.Ytaokjeopmhbddaa.Sg
open Go.Proofs.Ytaokjeopmhbddaa.Sq
set_option linter.unusedVariables false

set_option maxHeartbeats 2000000 in
set_option maxRecDepth 100000 in
theorem pFirstRow (v : Value) (ts : List Tk) (w : World) (h : Reads encT w v ts) (hs : ts.length ≤ 1000000) :
    Calls Try.prog 26 #[v] w fun e w' => ∃ u, e = .returned u ∧ Reads encT w u (ts.take (Rw.rlen ts)) ∧ Below w.heap.size w w' := by
  obtain ⟨a, cap, rfl⟩ := h.shape
  have H := Lib.hid h
  have HL := Lib.hid (Rw.rlen_is ts)
  have h0 : ts = [] → Rw.rlen ts = 0 := fun e => by rw [e]; rfl
  have HL0 := Lib.hid h0
  obtain ⟨R, hR⟩ : ∃ R, Rw.rlen ts = R := ⟨_, rfl⟩
  rw [hR] at HL HL0 ⊢
  have HC := Lib.hid (fun n (hn : n ≤ ts.length) => cut_h (P := Try.prog) tyT h hn)
  obtain ⟨N, hN⟩ : ∃ N, ts.length = N := ⟨_, rfl⟩
  rw [hN] at HC
  have HN := Lib.hid hN
  have hcp := h.cap_le
  rw [hN] at hcp hs
  unfold maxLen at hcp
  have HR := Lib.hid (show Reads encT w (.slice a N cap) ts by rw [← hN]; exact h)
  rw [hN]
  clear h hN hR h0
  go_enter Try.func26, Try.ntmps26
  go_wp2_with fail
  go_loopw [7] (fun iv wr => ∃ k : Nat, iv = .int .i64 k ∧ k ≤ N ∧ Hid (∀ j x, j < k → ts[j]? = some x → Rw.ends x = false) ∧ Below w.heap.size w wr) (fun iv _ => N - (intOf iv).toNat)
  case atStart => exact ⟨0, rfl, Nat.zero_le _, Lib.hid (fun j x h => absurd h (Nat.not_lt_zero j)), Below.refl _ w⟩
  case round =>
    obtain ⟨k, rfl, hk, HA, hb⟩ := hrel
    by_cases hlt : k < N
    · obtain ⟨x, hx⟩ : ∃ x, ts[k]? = some x := ⟨_, List.getElem?_eq_getElem (by rw [HN.out]; exact hlt)⟩
      obtain ⟨b, off, rfl, c0, c1, c2⟩ := toks_at (H.out.below hb) k x hx
      have hi : (k : Int) < (N : Int) := by omega
      have HB := Lib.hid hb
      cases hq : Rw.ends x with
      | true =>
        have hres := HL.out (k + 1) (by omega) (fun j y hj hy => HA.out j y (by omega) hy) (.inr ⟨x, by simpa using hx, hq⟩)
        subst hres
        obtain ⟨u, hu, hru⟩ := HC.out (k + 1) (by omega)
        rw [show ((k + 1 : Nat) : Int) = (k : Int) + 1 from by omega] at hu
        have HRu := Lib.hid hru
        have hk1 : x.1 = 1 ∨ x.1 = 19 := by simpa [Rw.ends] using hq
        rcases hk1 with q | q
        · have g : ((x.1 : Int) == 1) = true := by simp; omega
          clear hq HA hx HL hb H HN HC HL0 HR hru q hcp
          go_wp2_with fail
          go_ret
          exact ⟨_, rfl, HRu.out, below_from HB.out (below_alloc _ _)⟩
        · have g : ((x.1 : Int) == 1) = false := by simp; omega
          have g2 : ((x.1 : Int) == 19) = true := by simp; omega
          clear hq HA hx HL hb H HN HC HL0 HR hru q hcp
          go_wp2_with fail
          go_ret
          exact ⟨_, rfl, HRu.out, below_from HB.out (below_alloc _ _)⟩
      | false =>
        have hk1 : ¬ x.1 = 1 ∧ ¬ x.1 = 19 := by simpa [Rw.ends] using hq
        have HA2 := Lib.hid (fun j y (hj : j < k + 1) (hy : ts[j]? = some y) => show Rw.ends y = false by
          rcases Nat.lt_succ_iff_lt_or_eq.1 hj with h | h
          · exact HA.out j y h hy
          · subst h; rw [hx] at hy; injection hy with hy; subst hy; exact hq)
        have g : ((x.1 : Int) == 1) = false := by simp; omega
        have g2 : ((x.1 : Int) == 19) = false := by simp; omega
        clear hq HA hx HL hb H HN HC HL0 HR hk1 hcp
        go_wp2_with fail
        go_roundw
        case rel => exact ⟨k + 1, by go_num, by omega, HA2, below_from HB.out (below_alloc _ _)⟩
        case measure => simp [intOf]; omega
    · obtain rfl : k = N := by omega
      have hne : ¬ ((k : Int) < (k : Int)) := by omega
      have hres : R = k := by
        rcases Nat.eq_zero_or_pos k with h | h
        · rw [h]; exact HL0.out (List.eq_nil_of_length_eq_zero (by rw [HN.out]; exact h))
        · exact HL.out k h (fun j y hj hy => HA.out j y (by omega) hy) (.inl HN.out.symm)
      subst hres
      have HRu := Lib.hid (show Reads encT w (.slice a R cap) (ts.take R) by rw [List.take_of_length_le (by rw [HN.out]; exact Nat.le_refl _)]; exact HR.out)
      have HB := Lib.hid hb
      clear HA HL hb H HN hlt HC HL0 HR hcp
      go_wp2_with fail
      go_ret
      exact ⟨_, rfl, HRu.out, HB.out⟩

set_option maxHeartbeats 2000000 in
set_option maxRecDepth 100000 in
theorem pColumn (v : Value) (ts : List Tk) (p : Nat) (w : World) (h : Reads encT w v ts) (hs : ts.length ≤ 1000000) (hp : p ≤ ts.length) (hf : ∀ x ∈ ts, x.2.1 ≤ 1000000) :
    Calls Try.prog 28 #[v, .int .i64 p] w fun e w' => e = .returned (.int .i64 (Rw.colA ts p)) ∧ Below w.heap.size w w' := by
  obtain ⟨a, cap, rfl⟩ := h.shape
  by_cases hpl : p = ts.length
  · have hr : Rw.colA ts p = -1 := by unfold Rw.colA; rw [if_pos hpl]
    rw [hr, hpl]
    clear hr hpl hp hf h
    go_enter Try.func28, Try.ntmps28
    go_wp2_with fail
    go_ret
    exact ⟨rfl, Below.refl _ _⟩
  · obtain ⟨x, hx⟩ : ∃ x, ts[p]? = some x := ⟨_, List.getElem?_eq_getElem (by omega)⟩
    obtain ⟨y, hy⟩ : ∃ y, ts[0]? = some y := ⟨_, List.getElem?_eq_getElem (by omega)⟩
    obtain ⟨b, off, rfl, c0, c1, c2⟩ := toks_at h p x hx
    obtain ⟨b', off', he, d0, d1, d2⟩ := toks_at h 0 y hy
    injection he with he
    injection he with e1 e2
    subst e1 e2
    have hr : Rw.colA ts p = (x.2.1 : Int) - (y.2.1 : Int) := by
      unfold Rw.colA; rw [if_neg hpl, Rw.fromAt_get _ _ _ hx, Rw.headF_get _ _ hy]
    rw [hr]
    have hx1 := hf x (List.mem_of_getElem? hx)
    have hy1 := hf y (List.mem_of_getElem? hy)
    obtain ⟨N, hN⟩ : ∃ N, ts.length = N := ⟨_, rfl⟩
    have g : ((p : Int) == (N : Int)) = false := by simp; omega
    have hi : (p : Int) < (N : Int) := by omega
    have hi0 : (0 : Int) < (N : Int) := by omega
    simp only [Nat.zero_mul, Nat.add_zero] at d0 d1 d2
    rw [hN] at hs ⊢
    clear hr hN hpl hp hf h hx hy c0 c2 d0 d2
    go_enter Try.func28, Try.ntmps28
    go_wp2_with fail
    go_big_quiet (fail)
    have hb := below_drewN (Below.refl w.heap.size w) nq
    go_wp2_with fail
    go_ret
    exact ⟨rfl, hb⟩
set_option maxHeartbeats 2000000 in
set_option maxRecDepth 100000 in
theorem pKind (v : Value) (ts : List Tk) (bg : Bool) (w : World) (h : Reads encT w v ts) (hs : ts.length ≤ 1000000) (h0 : ts ≠ []) :
    Calls Try.prog 27 #[v, .bool bg] w fun e w' => e = .returned (.int .i64 (Rw.kindOf bg ts : Nat)) ∧ Below w.heap.size w w' := by
  have hF := pFirst v ts w h hs
  obtain ⟨a, cap, rfl⟩ := h.shape
  have HF := Lib.hid hF
  have H := Lib.hid h
  have hpos : 0 < ts.length := List.length_pos_iff.2 h0
  obtain ⟨y, hy⟩ : ∃ y, ts[0]? = some y := ⟨_, List.getElem?_eq_getElem hpos⟩
  have hk0 := Rw.headK_get ts y hy
  obtain ⟨K, hK⟩ : ∃ K, Rw.kindOf bg ts = K := ⟨_, rfl⟩
  rw [hK]
  unfold Rw.kindOf at hK
  rw [hk0] at hK
  have hA := Rw.lead_first ts
  obtain ⟨A, hAe⟩ : ∃ A, Rw.leadN ts = A := ⟨_, rfl⟩
  rw [hAe] at hA HF
  obtain ⟨N, hN⟩ : ∃ N, ts.length = N := ⟨_, rfl⟩
  have HY := Lib.hid hy
  have hi0 : (0 : Int) < (N : Int) := by omega
  have hAt := Lib.hid (fun W (hb : Below w.heap.size w W) j x (hj : ts[j]? = some x) => toks_at (h.below hb) j x hj)
  rw [hN] at HF hA hs ⊢
  have HNl := Lib.hid hN
  clear h hF hN hy hk0 h0 hpos hAe
  rcases hA with ⟨rfl, hf⟩ | ⟨x, hx, hf⟩
  · rw [hf] at hK
    dsimp only at hK
    have hne : ¬ ((A : Int) < (A : Int)) := by omega
    clear hf
    go_enter Try.func27, Try.ntmps27
    go_wp2_with fail
    refine HF.out.mono ?_
    rintro e w2 ⟨rfl, hb⟩
    obtain ⟨b, off, rfl, c0, -, -⟩ := hAt.out w2 hb 0 y HY.out
    simp only [Nat.zero_mul, Nat.add_zero] at c0
    have HB := Lib.hid hb
    clear hb HF H HY hAt HNl
    by_cases q : y.1 = 19
    · rw [if_pos q] at hK
      subst hK
      have g : ((y.1 : Int) == 19) = true := by simp; omega
      clear q
      go_wp2_with fail
      go_ret
      exact ⟨rfl, HB.out⟩
    · rw [if_neg q] at hK
      have g : ((y.1 : Int) == 19) = false := by simp; omega
      clear q
      cases bg with
      | true =>
        obtain rfl : K = 3 := by simpa using hK.symm
        clear hK
        go_wp2_with fail
        go_ret
        exact ⟨rfl, HB.out⟩
      | false =>
        obtain rfl : K = 1 := by simpa using hK.symm
        clear hK
        go_wp2_with fail
        go_ret
        exact ⟨rfl, HB.out⟩
  · rw [hf] at hK
    dsimp only at hK
    have hlt : A < N := by have := (List.getElem?_eq_some_iff.1 hx).1; have := HNl.out; omega
    have hi : (A : Int) < (N : Int) := by omega
    have HX := Lib.hid hx
    have hm := fun W => pIsMark x.1 W
    have gN : ((A : Int) == (N : Int)) = false := by simp; omega
    clear hf hx
    go_enter Try.func27, Try.ntmps27
    go_wp2_with fail
    refine HF.out.mono ?_
    rintro e w2 ⟨rfl, hb⟩
    obtain ⟨b, off, rfl, c0, -, -⟩ := hAt.out w2 hb 0 y HY.out
    obtain ⟨b', off', he, d0, -, -⟩ := hAt.out w2 hb A x HX.out
    injection he with he
    injection he with e1 e2
    subst e1 e2
    simp only [Nat.zero_mul, Nat.add_zero] at c0
    have HB := Lib.hid hb
    clear hb HF H HY hAt HNl HX
    by_cases q : y.1 = 19
    · rw [if_pos q] at hK
      subst hK
      have g : ((y.1 : Int) == 19) = true := by simp; omega
      clear q hm d0
      go_wp2_with fail
      go_ret
      exact ⟨rfl, HB.out⟩
    · rw [if_neg q] at hK
      have g : ((y.1 : Int) == 19) = false := by simp; omega
      clear q
      cases hq : Rw.isMark x.1 with
      | true =>
        rw [hq] at hm hK
        obtain rfl : K = 4 := by simpa using hK.symm
        have HM := Lib.hid hm
        clear hK hm hq
        go_wp2_with fail
        refine (HM.out _).mono ?_
        rintro e w3 ⟨rfl, rfl⟩
        go_wp2_with fail
        go_ret
        exact ⟨rfl, HB.out⟩
      | false =>
        rw [hq] at hm hK
        have HM := Lib.hid hm
        clear hm hq
        cases bg with
        | true =>
          obtain rfl : K = 3 := by simpa using hK.symm
          clear hK
          go_wp2_with fail
          refine (HM.out _).mono ?_
          rintro e w3 ⟨rfl, rfl⟩
          go_wp2_with fail
          go_ret
          exact ⟨rfl, HB.out⟩
        | false =>
          obtain rfl : K = 5 := by simpa using hK.symm
          clear hK
          go_wp2_with fail
          refine (HM.out _).mono ?_
          rintro e w3 ⟨rfl, rfl⟩
          go_wp2_with fail
          go_ret
          exact ⟨rfl, HB.out⟩
end Go.Proofs.Ytaokjeopmhbddaa
