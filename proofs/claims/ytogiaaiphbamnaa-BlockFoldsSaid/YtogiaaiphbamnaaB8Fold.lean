/- The walk of correctorlaw8.BlockFolds: folded, words on lines of their own are one line; an empty one between parts them. -/
import Derived.Test.YtogiaaiphbamnaaB8Lit
import Derived.Test.YtogiaaiphbamnaaNumb
namespace Go.Proofs.Ytogiaaiphbamnaa
open Go.RowKit
open Go.Proofs.Ytogiaaiphbamnaa.Sq
open Go.Proofs.Ytogiaaiphbamnaa.Bk
set_option linter.unusedVariables false

/-- Words, each with so many empty lines ahead. -/
def nl : ByteArray := ⟨#[10]⟩
def linesP (ps : List (Nat × ByteArray)) : List ByteArray := ps.flatMap fun p => List.replicate p.1 nl ++ [lineB 2 p.2]
def bare (p : Nat × ByteArray) : Nat × List UInt8 := (p.1, tol p.2)
theorem linesP_snoc (ps : List (Nat × ByteArray)) (g : Nat) (x : ByteArray) : linesP (ps ++ [(g, x)]) = (linesP ps ++ List.replicate g nl) ++ [lineB 2 x] := by
  unfold linesP
  rw [List.flatMap_append, List.append_assoc]
  simp
theorem linesP_tol (ps : List (Nat × ByteArray)) : (linesP ps).map tol = linesF (ps.map bare) := by
  induction ps with
  | nil => rfl
  | cons p r ih =>
    obtain ⟨g, x⟩ := p
    have e : linesP ((g, x) :: r) = List.replicate g nl ++ [lineB 2 x] ++ linesP r := by unfold linesP; rw [List.flatMap_cons]
    rw [e, List.map_append, List.map_append, ih, List.map_replicate, List.map_cons, List.map_nil, tol_line, List.map_cons]
    show _ = linesF ((g, tol x) :: r.map bare)
    rw [linesF, List.append_assoc]
    rfl
theorem wantF_snoc (l : List (Nat × List UInt8)) (g : Nat) (w : List UInt8) : wantF (l ++ [(g, w)]) = wantF l ++ ((if g = 0 then [32] else feeds g) ++ w) := by
  induction l with
  | nil => simp [wantF]
  | cons p r ih =>
    obtain ⟨g', w'⟩ := p
    rw [List.cons_append, wantF, ih, wantF]
    simp
def wantP : List (Nat × ByteArray) → ByteArray
  | [] => ⟨#[]⟩
  | p :: r => ⟨(tol p.2 ++ wantF (r.map bare)).toArray⟩
theorem wantP_one (g : Nat) (x : ByteArray) : wantP [(g, x)] = (⟨#[]⟩ : ByteArray) ++ x := ba_ext (by rw [tol_app]; unfold wantP; rw [tol_mk]; simp [wantF, tol])
theorem wantP_snoc (ps : List (Nat × ByteArray)) (h : ps ≠ []) (g : Nat) (x : ByteArray) : wantP (ps ++ [(g, x)]) = (if g = 0 then wantP ps ++ ⟨#[32]⟩ else wantP ps ++ lf g) ++ x := by
  cases ps with
  | nil => exact absurd rfl h
  | cons p r =>
    refine ba_ext ?_
    rw [List.cons_append]
    unfold wantP
    rw [tol_mk, List.map_append, List.map_cons, List.map_nil]
    show tol p.2 ++ wantF (r.map bare ++ [(g, tol x)]) = _
    rw [wantF_snoc, tol_app]
    by_cases hg : g = 0
    · rw [if_pos hg, if_pos hg, tol_app, tol_mk (tol p.2 ++ wantF (r.map bare))]
      simp [tol]
    · rw [if_neg hg, if_neg hg, tol_app, tol_mk (tol p.2 ++ wantF (r.map bare)), tol_lf]
      simp
theorem rest_app (a b : List ByteArray) : rest (a ++ b) 0 = rest a 0 + rest b 0 := by
  unfold rest
  rw [List.drop_zero, List.drop_zero, List.drop_zero, List.map_append, List.sum_append]
theorem rest_nl (g : Nat) : rest (List.replicate g nl) 0 = g := by
  unfold rest
  rw [List.drop_zero]
  induction g with
  | zero => rfl
  | succ g ih => rw [List.replicate_succ, List.map_cons, List.sum_cons, ih]; show 1 + g = _; omega
theorem said_fold (hd : ByteArray) (x : ByteArray) (r : List (Nat × ByteArray)) (h : Words (((0, x) :: r).map Prod.snd)) (hf : isF hd = true) (hp : (tol hd).contains 43 = false) (e : ByteArray)
    (he : tol e = if (tol hd).contains 45 = true then [] else [10]) :
    said hd (linesP ((0, x) :: r)) = wantP ((0, x) :: r) ++ e := by
  refine ba_ext ?_
  unfold said
  rw [tol_mk, tol_app, hf, hp, linesP_tol, List.map_cons]
  have h1 : Word (tol x) := (h x (by simp)).1
  have h2 : ∀ y ∈ r.map bare, Word y.2 := fun y hy => by
    obtain ⟨p, hp, rfl⟩ := List.mem_map.1 hy
    exact (h p.2 (by simp; right; exact ⟨p.1, hp⟩)).1
  show text true _ false (linesF ((0, tol x) :: r.map bare)) = _
  rw [text_folds _ _ h1 h2, he]
  unfold wantP
  rw [tol_mk (tol x ++ wantF (r.map bare))]
/-- What holds of what has been laid of the first k words. -/
structure Fst (l : List ByteArray) (k : Nat) (ps : List (Nat × ByteArray)) : Prop where
  snd : ps.map Prod.snd = l.take k
  ok : Words (l.take k)
  zero : ∀ p r, ps = p :: r → p.1 = 0
  wsz : (wantP ps).size ≤ 33 * k
  lsz : (linesP ps).length ≤ 3 * k
  rsz : rest (linesP ps) 0 ≤ 35 * k
theorem Fst.none (l : List ByteArray) : Fst l 0 [] := ⟨rfl, (fun x hx => by cases hx), (fun p r h => by cases h), Nat.zero_le _, Nat.zero_le _, Nat.zero_le _⟩
theorem Fst.len {l : List ByteArray} {k : Nat} {ps : List (Nat × ByteArray)} (h : Fst l k ps) (hk : k ≤ l.length) : ps.length = k := by
  have := congrArg List.length h.snd
  rw [List.length_map, List.length_take] at this
  omega
theorem Fst.next {l : List ByteArray} {k : Nat} {ps : List (Nat × ByteArray)} (h : Fst l k ps) {x : ByteArray} (hx : l[k]? = some x) (h1 : Word (tol x)) (h2 : x.size ≤ 30) (g : Nat) (hg : g ≤ 2) (h0 : k = 0 → g = 0) : Fst l (k + 1) (ps ++ [(g, x)]) := by
  have hk := (List.getElem?_eq_some_iff.1 hx).1
  have hl := h.len (by omega)
  refine ⟨by rw [List.map_append, h.snd, List.take_add_one, hx]; rfl, h.ok.snoc hx h1 h2, fun p r hp => ?_, ?_, ?_, ?_⟩
  · cases ps with
    | nil =>
      obtain ⟨rfl, rfl⟩ : p = (g, x) ∧ r = [] := by simpa using hp.symm
      exact h0 hl.symm
    | cons q s =>
      obtain ⟨rfl, -⟩ : q = p ∧ s ++ [(g, x)] = r := by simpa using hp
      exact h.zero _ s rfl
  · cases hps : ps with
    | nil =>
      rw [List.nil_append, wantP_one, size_ap]
      show 0 + x.size ≤ _
      omega
    | cons q s =>
      rw [← hps, wantP_snoc ps (by rw [hps]; simp), size_ap]
      have := h.wsz
      split
      · rw [size_ap]; show _ + 1 + _ ≤ _; omega
      · rw [size_ap, lf_size]; omega
  · rw [linesP_snoc, List.length_append, List.length_append, List.length_replicate]
    have := h.lsz
    show _ + 1 ≤ _
    omega
  · rw [linesP_snoc, rest_app, rest_app, rest_nl]
    have := h.rsz
    have e : rest [lineB 2 x] 0 = 2 + x.size + 1 := by
      unfold rest lineB
      rw [List.drop_zero, List.map_cons, List.map_nil, List.sum_cons, size_ap, size_ap, sp_size]
      rfl
    rw [e]
    omega
/-- What is put ahead of a word. -/
def aheadB (k g : Nat) (F : ByteArray) : ByteArray := if k = 0 then F else if g = 0 then F ++ ⟨#[32]⟩ else F ++ lf g
theorem Fst.want {l : List ByteArray} {k : Nat} {ps : List (Nat × ByteArray)} (h : Fst l k ps) (hk : k ≤ l.length) (g : Nat) (x : ByteArray) : wantP (ps ++ [(g, x)]) = aheadB k g (wantP ps) ++ x := by
  have hl := h.len hk
  unfold aheadB
  by_cases h0 : k = 0
  · rw [if_pos h0]
    obtain rfl : ps = [] := List.eq_nil_of_length_eq_zero (by omega)
    exact wantP_one g x
  · rw [if_neg h0, wantP_snoc ps (fun e => by rw [e] at hl; exact h0 hl.symm)]
theorem aheadB_size (k g : Nat) (F : ByteArray) (hg : g ≤ 2) : (aheadB k g F).size ≤ F.size + 2 := by
  unfold aheadB
  split
  · omega
  · split
    · rw [size_ap]; show _ + 1 ≤ _; omega
    · rw [size_ap, lf_size]; omega
set_option maxHeartbeats 4000000 in
set_option maxRecDepth 100000 in
theorem walk_BlockFolds (v : Value) (l : List ByteArray) (v1 : Value) (gs : List Int) (w : World) (h : Reads encS w v l) (hz : ∀ s ∈ l, s.size ≤ maxLen) (h1 : Nums .i64 w v1 gs) :
    Calls Try.prog 4 #[v, v1] w fun e w' => e = .returned (.bool true) ∧ Below w.heap.size w w' := by
  have hlm := h.size_le
  have hgm := h1.len
  unfold maxLen at hlm
  obtain ⟨a0, cap, rfl⟩ := h.shape
  obtain ⟨a2, cap2, rfl⟩ := h1.shape
  have H := Lib.hid h
  have HZ := Lib.hid hz
  have HG := Lib.hid h1
  clear h hz h1
  by_cases h0 : l.length = 0
  · have g0 : ((l.length : Int) == 0) = true := by rw [h0]; rfl
    clear h0
    go_enter Try.func4, Try.ntmps4
    go_wp2_with fail
    refine (known_true w).mono ?_
    rintro e w1 ⟨rfl, hb⟩
    go_wp2_with fail
    go_ret
    exact ⟨rfl, hb⟩
  have g0 : ((l.length : Int) == 0) = false := beq_eq_false_iff_ne.2 (by omega)
  by_cases h12 : 12 < l.length
  · have g1 : (12 : Int) < (l.length : Int) := by omega
    clear h0 h12
    go_enter Try.func4, Try.ntmps4
    go_wp2_with fail
    refine (known_true w).mono ?_
    rintro e w1 ⟨rfl, hb⟩
    go_wp2_with fail
    go_ret
    exact ⟨rfl, hb⟩
  have g1 : ¬ (12 : Int) < (l.length : Int) := by omega
  have hl0 : l ≠ [] := fun e => h0 (by rw [e]; rfl)
  have HL0 := Lib.hid hl0
  clear h0 hl0
  go_enter Try.func4, Try.ntmps4
  go_wp2_with fail
  refine (known_true w).mono ?_
  rintro e w1 ⟨rfl, hb⟩
  have H1 := Lib.hid (H.out.below hb)
  have HG1 := Lib.hid (HG.out.below hb)
  clear H HG
  go_wp2_with fail
  clear g0 g1
  go_loopw [5, 6, 7] (fun ov sv kv wr => ∃ (k : Nat) (ps : List (Nat × ByteArray)), kv = .int .i64 k ∧ sv = .string (wantP ps) ∧ k ≤ l.length ∧ Hid (Fst l k ps) ∧ Hid (Strw wr w1.heap.size ov (linesP ps)) ∧ Below w1.heap.size w1 wr) (fun _ _ kv _ => l.length - (intOf kv).toNat)
  case atStart => exact ⟨0, [], rfl, rfl, Nat.zero_le _, Lib.hid (Fst.none l), Lib.hid (Strw.nil w1 _), Below.refl _ w1⟩
  case round =>
    obtain ⟨k, ps, rfl, rfl, hk, HF, HO, hbw⟩ := hrel
    by_cases hlt : k < l.length
    · have hi : (k : Int) < (l.length : Int) := by omega
      have hx := List.getElem?_eq_getElem hlt
      obtain ⟨x, hxx⟩ : ∃ x, l[k] = x := ⟨_, rfl⟩
      rw [hxx] at hx
      obtain ⟨b, off, rfl, hc1⟩ := strs_at H1.out k x hx
      have hcell := at_below hbw hc1
      have HC1 := Lib.hid hc1
      clear hc1
      have hzx := HZ.out x (List.mem_of_getElem? hx)
      by_cases hx0 : x.size = 0
      · obtain rfl := ba_zero x hx0
        clear hx hxx hx0 hzx
        go_wp2_with fail
        go_ret
        exact ⟨rfl, hb.trans (hbw.mono hb.size)⟩
      have he := str_some x (by omega)
      by_cases hx30 : 30 < x.size
      · have g30 : (30 : Int) < (x.size : Int) := by omega
        clear hx hxx hx0 hzx hx30
        go_wp2_with fail
        go_ret
        exact ⟨rfl, hb.trans (hbw.mono hb.size)⟩
      have g30 : ¬ (30 : Int) < (x.size : Int) := by omega
      have HLt := Lib.hid (letters_any x wr hzx)
      cases hlx : letA x with
      | false =>
        rw [hlx] at HLt
        clear hx hxx hx0 hzx hx30 hlx
        go_wp2_with fail
        refine HLt.out.mono ?_
        rintro e w2 ⟨rfl, rfl⟩
        go_wp2_with fail
        go_ret
        exact ⟨rfl, hb.trans (hbw.mono hb.size)⟩
      | true =>
        rw [hlx] at HLt
        have hwx := word_of x (by omega) hlx
        have HN := Lib.hid (fun g (hg : g ≤ 2) (h0 : k = 0 → g = 0) => HF.out.next hx hwx (by omega) g hg h0)
        have HWt := Lib.hid (fun g => HF.out.want hk g x)
        have hws := HF.out.wsz
        have hls := HF.out.lsz
        have HBw := Lib.hid hbw
        have HCl := Lib.hid hcell
        obtain ⟨Q, hQ⟩ : ∃ Q, (decide (k < gs.length) && decide (0 < k)) = Q := ⟨_, rfl⟩
        have HQ := Lib.hid hQ
        have hws2 : (wantP ps).size ≤ 1000 := by omega
        have HWs := Lib.hid hws2
        have HLs := Lib.hid (show (linesP ps).length ≤ 36 by omega)
        have HSn := Lib.hid (fun g => linesP_snoc ps g x)
        generalize wantP ps = F at *
        generalize linesP ps = LP at *
        clear hx hxx hx0 hzx hx30 hlx hwx hws hls hbw hQ hws2
        go_wp2_with fail
        refine HLt.out.mono ?_
        rintro e w2 ⟨rfl, rfl⟩
        go_upto_region 13 with fail
        go_cut [54] (fun q wx => q = .bool Q ∧ wr = wx)
        case first =>
          have hq := HQ.out
          clear HQ hcell
          by_cases c1 : k < gs.length
          · have i1 : (k : Int) < (gs.length : Int) := by omega
            by_cases c2 : 0 < k
            · have i2 : (0 : Int) < (k : Int) := by omega
              rw [decide_eq_true c1, decide_eq_true c2] at hq
              subst hq
              go_wp2_with fail
              go_meet
              exact ⟨rfl, rfl⟩
            · have i2 : ¬ (0 : Int) < (k : Int) := by omega
              rw [decide_eq_true c1, decide_eq_false c2] at hq
              subst hq
              go_wp2_with fail
              go_meet
              exact ⟨rfl, rfl⟩
          · have i1 : ¬ (k : Int) < (gs.length : Int) := by omega
            rw [decide_eq_false c1] at hq
            subst hq
            go_wp2_with fail
            go_meet
            exact ⟨rfl, rfl⟩
        case rest =>
          obtain ⟨rfl, rfl⟩ := hcut
          go_upto_if 54 with fail
          go_cut [8] (fun gv wx => ∃ g : Nat, gv = .int .i64 g ∧ g ≤ 2 ∧ (k = 0 → g = 0) ∧ wr = wx)
          case first =>
            cases Q with
            | true =>
              have hq := HQ.out
              rw [Bool.and_eq_true, decide_eq_true_eq, decide_eq_true_eq] at hq
              obtain ⟨c1, c2⟩ := hq
              have i1 : (k : Int) < (gs.length : Int) := by omega
              obtain ⟨gb, go, rfl, gl, gm, hgc⟩ := (HG1.out.below HBw.out).at_ c1
              obtain ⟨g, hg, -, hwg⟩ := within_lit (gs.getD k 0) 3 3 rfl (by decide) (by decide)
              have HWg := Lib.hid hwg
              generalize gs.getD k 0 = G at *
              clear hwg HQ
              go_wp2_with fail
              refine (HWg.out _).mono ?_
              rintro e w2 ⟨rfl, rfl⟩
              go_wp2_with fail
              go_meet
              exact ⟨g, rfl, by omega, fun h => by omega, rfl⟩
            | false =>
              go_wp2_with fail
              go_meet
              exact ⟨0, rfl, by omega, fun _ => rfl, rfl⟩
          case rest =>
            obtain ⟨g, rfl, hg, hg0, rfl⟩ := hcut
            have HG0 := Lib.hid hg0
            clear hcell HQ hg0
            go_wp2_with fail
            go_loopw [5, 6, 9] (fun ov sv jv wr => ∃ j : Nat, jv = .int .i64 j ∧ sv = .string (F ++ lf j) ∧ j ≤ g ∧ Hid (Strw wr w1.heap.size ov (LP ++ List.replicate j nl)) ∧ Below w1.heap.size w1 wr) (fun _ _ jv _ => g - (intOf jv).toNat)
            case atStart => exact ⟨0, rfl, by rw [lf_zero], Nat.zero_le _, Lib.hid (by rw [List.replicate_zero, List.append_nil]; exact HO.out), HBw.out⟩
            case round =>
              obtain ⟨j, rfl, rfl, hj, HOj, hbj⟩ := hrel
              have hfj : (F ++ lf j).size ≤ 1010 := by rw [size_ap, lf_size]; have := HWs.out; omega
              by_cases hjg : j < g
              · have i3 : (j : Int) < (g : Int) := by omega
                have HLn := Lib.hid (lf_next F j)
                have hm1 : ¬ (9223372036854775807 < (F ++ lf j).size + (⟨#[10]⟩ : ByteArray).size) := by show ¬ (_ < _ + 1); omega
                have HTk := Lib.hid (show (LP ++ List.replicate j nl) ++ [nl] = LP ++ List.replicate (j + 1) nl by rw [List.append_assoc, List.replicate_succ'])
                have HLl := Lib.hid (show (LP ++ List.replicate j nl).length + 1 ≤ 1000000 by rw [List.length_append, List.length_replicate]; have := HLs.out; omega)
                have HBj := Lib.hid hbj
                generalize F ++ lf j = FJ at *
                clear hbj hfj
                go_wp2_with (at_builtin; go_must (refine wpList_strs_new rfl (.tmp 65) (.tmp 66) rfl [nl] rfl HOj.out rfl rfl rfl HLl.out HBj.out.size ?_; intro v3 w3 hO3 hb3))
                rw [HTk.out] at hO3
                go_roundw
                case rel => exact ⟨j + 1, by go_num, by rw [HLn.out], by omega, Lib.hid hO3, HBj.out.trans hb3⟩
                case measure => simp [intOf]; omega
              · obtain rfl : j = g := by omega
                have i3 : ¬ (j : Int) < (j : Int) := by omega
                obtain ⟨A, hA⟩ : ∃ A, aheadB k j F = A := ⟨_, rfl⟩
                have hAz : A.size ≤ 1010 := by rw [← hA]; have := aheadB_size k j F hg; have := HWs.out; omega
                have hAt : 0 < k → j = 0 → F ++ lf j ++ ⟨#[32]⟩ = A := fun c1 c2 => by
                  rw [← hA]; unfold aheadB; rw [if_neg (by omega), if_pos c2, c2, lf_zero]
                have hAf : ¬ (0 < k ∧ j = 0) → F ++ lf j = A := fun c => by
                  rw [← hA]; unfold aheadB
                  by_cases c1 : k = 0
                  · rw [if_pos c1, HG0.out c1, lf_zero]
                  · rw [if_neg c1, if_neg (fun c2 => c ⟨by omega, c2⟩)]
                have HAt := Lib.hid hAt
                have HAf := Lib.hid hAf
                have HAA := Lib.hid hA
                have hm1 : ¬ (9223372036854775807 < (F ++ lf j).size + (⟨#[32]⟩ : ByteArray).size) := by show ¬ (_ < _ + 1); omega
                generalize F ++ lf j = FJ at *
                obtain ⟨Q2, hQ2⟩ : ∃ Q2, (decide (0 < k) && decide (j = 0)) = Q2 := ⟨_, rfl⟩
                have HQ2 := Lib.hid hQ2
                clear hA hAt hAf hfj hQ2
                go_upto_region 20 with fail
                go_cut [75] (fun q wx => q = .bool Q2 ∧ wr = wx)
                case first =>
                  have hq := HQ2.out
                  clear HQ2 HOj hbj
                  by_cases c1 : 0 < k
                  · have i4 : (0 : Int) < (k : Int) := by omega
                    by_cases c2 : j = 0
                    · have i5 : ((j : Int) == 0) = true := by rw [c2]; rfl
                      rw [decide_eq_true c1, decide_eq_true c2] at hq
                      subst hq
                      clear c1 c2
                      go_wp2_with fail
                      go_meet
                      exact ⟨rfl, rfl⟩
                    · have i5 : ((j : Int) == 0) = false := beq_eq_false_iff_ne.2 (by omega)
                      rw [decide_eq_true c1, decide_eq_false c2] at hq
                      subst hq
                      clear c1 c2
                      go_wp2_with fail
                      go_meet
                      exact ⟨rfl, rfl⟩
                  · have i4 : ¬ (0 : Int) < (k : Int) := by omega
                    rw [decide_eq_false c1] at hq
                    subst hq
                    clear c1
                    go_wp2_with fail
                    go_meet
                    exact ⟨rfl, rfl⟩
                case rest =>
                  obtain ⟨rfl, rfl⟩ := hcut
                  go_upto_if 75 with fail
                  go_cut [6] (fun sv wx => sv = .string A ∧ wr = wx)
                  case first =>
                    cases Q2 with
                    | true =>
                      have hq := HQ2.out
                      rw [Bool.and_eq_true, decide_eq_true_eq, decide_eq_true_eq] at hq
                      have HM := Lib.hid (HAt.out hq.1 hq.2)
                      clear hq HOj hbj
                      go_wp2_with fail
                      go_meet
                      exact ⟨by rw [HM.out], rfl⟩
                    | false =>
                      have hq := HQ2.out
                      have HM := Lib.hid (HAf.out (fun c => by rw [decide_eq_true c.1, decide_eq_true c.2] at hq; exact absurd hq (by decide)))
                      clear hq HOj hbj
                      go_wp2_with fail
                      go_meet
                      exact ⟨by rw [HM.out], rfl⟩
                  case rest =>
                    obtain ⟨rfl, rfl⟩ := hcut
                    have hcell := at_below hbj HC1.out
                    have hln : (⟨#[32, 32]⟩ : ByteArray) ++ x ++ ⟨#[10]⟩ = lineB 2 x := rfl
                    obtain ⟨X, hX⟩ : ∃ X, lineB 2 x = X := ⟨_, rfl⟩
                    have HTk := Lib.hid (show (LP ++ List.replicate j nl) ++ [X] = linesP (ps ++ [(j, x)]) by rw [HSn.out j, hX])
                    rw [hX] at hln
                    have e32 : (⟨#[32, 32]⟩ : ByteArray).size = 2 := rfl
                    have e10 : (⟨#[10]⟩ : ByteArray).size = 1 := rfl
                    have n1 : ¬ (9223372036854775807 < (⟨#[32, 32]⟩ : ByteArray).size + x.size) := by rw [e32]; omega
                    have n2 : ¬ (9223372036854775807 < ((⟨#[32, 32]⟩ : ByteArray) ++ x).size + (⟨#[10]⟩ : ByteArray).size) := by rw [size_ap, e32, e10]; omega
                    have n3 : ¬ (9223372036854775807 < (⟨#[32, 32]⟩ : ByteArray).size + x.size + (⟨#[10]⟩ : ByteArray).size) := by rw [e32, e10]; omega
                    have n4 : ¬ (9223372036854775807 < A.size + x.size) := by omega
                    have HLl := Lib.hid (show (LP ++ List.replicate j nl).length + 1 ≤ 1000000 by rw [List.length_append, List.length_replicate]; have := HLs.out; omega)
                    have HX := Lib.hid hln
                    have HWm := Lib.hid (HWt.out j)
                    rw [HAA.out] at HWm
                    have HBj := Lib.hid hbj
                    clear hbj hX hln hm1
                    go_wp2_with (at_builtin; go_must (rw [HX.out]; refine wpList_strs_new rfl (.tmp 78) (.tmp 85) rfl [X] rfl HOj.out rfl rfl rfl HLl.out HBj.out.size ?_; intro v3 w3 hO3 hb3; have hcell3 := at_below (HBj.out.trans hb3) HC1.out))
                    rw [HTk.out] at hO3
                    go_roundw
                    case rel => exact ⟨k + 1, ps ++ [(j, x)], by go_num, by rw [HWm.out], by omega, Lib.hid (HN.out j hg HG0.out), Lib.hid hO3, HBj.out.trans hb3⟩
                    case measure => simp [intOf]; omega
    · obtain rfl : k = l.length := by omega
      have hne : ¬ ((l.length : Int) < (l.length : Int)) := by omega
      obtain ⟨p0, r, hps⟩ : ∃ p r, ps = p :: r := by
        cases hp : ps with
        | nil =>
          have := HF.out.len hk
          rw [hp] at this
          exact absurd (List.eq_nil_of_length_eq_zero this.symm) HL0.out
        | cons p r => exact ⟨p, r, rfl⟩
      have hp0 := HF.out.zero p0 r hps
      obtain ⟨g0, x0⟩ := p0
      dsimp only at hp0
      subst hp0
      have hok : Words (((0, x0) :: r).map Prod.snd) := by rw [← hps, HF.out.snd]; exact HF.out.ok
      have e1 := said_fold ⟨#[62, 45]⟩ x0 r hok rfl rfl ⟨#[]⟩ (by decide)
      have e2 := said_fold ⟨#[62]⟩ x0 r hok rfl rfl ⟨#[10]⟩ (by decide)
      rw [← hps] at e1 e2
      rw [Sg.ba_nil_r] at e1
      have hM : 2 * (linesP ps).length + rest (linesP ps) 0 ≤ 1000000 := by have := HF.out.lsz; have := HF.out.rsz; omega
      have HT1 := Lib.hid (fun (hd : ByteArray) (W : World) (hb : Below wr.heap.size wr W) => bText hd u5 (linesP ps) W (HO.out.reads.below hb) hM)
      have E1 := Lib.hid e1
      have E2 := Lib.hid e2
      have hc1 : ¬ (9223372036854775807 < (wantP ps).size + (⟨#[10]⟩ : ByteArray).size) := by have := HF.out.wsz; show ¬ (_ < _ + 1); omega
      generalize wantP ps = F at *
      clear e1 e2 hM hok hps HF HO
      go_wp2_with fail
      refine (HT1.out _ _ (Below.refl _ _)).mono ?_
      rw [E1.out]
      rintro e w2 ⟨rfl, hb2⟩
      go_wp2_with fail
      refine (HT1.out _ _ hb2).mono ?_
      rw [E2.out]
      rintro e w3 ⟨rfl, hb3⟩
      have hb3' := hb2.trans (hb3.mono hb2.size)
      have hfin := hb.trans ((hbw.trans (hb3'.mono hbw.size)).mono hb.size)
      clear hb2 hb3 hb3'
      go_wp2_with fail
      go_ret
      exact ⟨by simp, hfin⟩
end Go.Proofs.Ytogiaaiphbamnaa
