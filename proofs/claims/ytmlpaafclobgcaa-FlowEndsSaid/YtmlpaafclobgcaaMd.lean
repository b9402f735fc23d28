/- The chapter's own scanner (correctorref6): bracket, word; its Tokens. -/
import Derived.Test.YtmlpaafclobgcaaMc
import Derived.Lib.MinMax
import Derived.Test.YtmlpaafclobgcaaMgC
/- The chapter's own scanner (correctorref6): bracket: brackets and commas. -/
namespace Go.Proofs.Ytmlpaafclobgcaa.Sc
theorem word_sign (op : Nat) (dash : Bool) (r : List Nat) (k : Nat) (h : sign op dash r = k) (hk : 0 < k) : word op dash r = (k, 1) := by
  unfold word; rw [h, if_pos hk]
end Go.Proofs.Ytmlpaafclobgcaa.Sc
namespace Go.Proofs.Ytmlpaafclobgcaa
open Go.RowKit
open Go.Proofs.Ytmlpaafclobgcaa.Sg
open Go.Proofs.Ytmlpaafclobgcaa.Sq
set_option linter.unusedVariables false

theorem Added.open_ {a : Nat} {B : Value} {T C k row op op' : Nat} {base text : Int} {only : Bool} {l' : List Tk} {w w' : World} (h : Added a B T C k row op base text only l' w w') (u : Int) (hu : u = (op' : Int)) : Added a B T C k row op' base text only l' w (w'.setCell ⟨a, 3, none⟩ (.int .i64 u)) := by
  obtain ⟨v2, base2, h1, h2, h3, h4⟩ := h
  subst hu
  exact ⟨v2, base2, h1.set3 _, row_set h2 3 _, bel_set h3 (Nat.le_refl a) 3 _, h4⟩
/-- What bracket says, and what is so behind it. -/
def Brackd (L : List Nat) (Tot : List Tk) (a : Nat) (B : Value) (n p c : Nat) (st : Sc.St) (w : World) (e : Ending) (w' : World) : Prop :=
  (e = .returned (.bool true) ∧ ∃ p', Here L Tot a B w' p' ∧ Below a w w' ∧ p < p' ∧ p' ≤ n) ∨
  (e = .returned (.bool false) ∧ Below w.heap.size w w' ∧ c ≠ 91 ∧ c ≠ 123 ∧ c ≠ 93 ∧ c ≠ 125 ∧ (c = 44 → st.op = 0))
set_option maxHeartbeats 8000000 in
set_option maxRecDepth 100000 in
theorem rBracket (a b off cap n p row c : Nat) (t L : List Nat) (Tot l : List Tk) (v : Value) (st : Sc.St) (w : World) (hn : L.length = n) (hm : n ≤ 16384) (hT : Txt w b off L) (h1 : L.drop p = c :: t) (hbr : Sc.brk c = false)
    (hM : RMt w a (.slice (some ⟨b, off, none⟩) n cap) v p row st.op st.base (st.least - 1) st.dash) (hO : Row w a v l) (hG : Sc.Good L Tot l st p) (hc : row + st.col = p)
    (hx : Sc.next st.op st.dash st.blank (st.col == 0) (Sc.rowL (L.drop p)) = Sc.word st.op st.dash (Sc.rowL (L.drop p))) :
    Calls Try.prog 20 #[.pointer (some ⟨a, 0, none⟩)] w (Brackd L Tot a (.slice (some ⟨b, off, none⟩) n cap) n p c st w) := by
  obtain ⟨c0, c1, c2, c3, c4, c5, c6, c7⟩ := hM.c
  have h2 := Sc.drop_lt h1
  have d := hT.at_ h1
  obtain ⟨B, hB⟩ : ∃ B, Value.slice (some ⟨b, off, none⟩) n cap = B := ⟨_, rfl⟩
  have i1 : (p : Int) < (n : Int) := by omega
  have HB := Lib.hid (fun k => below_drewN (Below.refl w.heap.size w) k)
  have HM := Lib.hid (fun W (hb : Below w.heap.size w W) => hM.below hb)
  have HO := Lib.hid (fun W (hb : Below w.heap.size w W) => show Row W a v l from own_below hO hb)
  have HLo := Lib.hid (fun W (hb : Below w.heap.size w W) => hb.mono (Nat.le_of_lt hM.lt))
  have HG := Lib.hid hG
  have HN := Lib.hid hn
  have HC := Lib.hid hc
  have HSl := Lib.hid hB
  have HRn := Lib.hid (show Sc.rowN (L.drop p) ≠ 0 by rw [h1, (Sc.row_on c t hbr).2]; omega)
  have HX := Lib.hid (fun (k : Nat) (hk : 0 < k) (h : Sc.sign st.op st.dash (c :: Sc.rowL t) = k) => show Sc.next st.op st.dash st.blank (st.col == 0) (Sc.rowL (L.drop p)) = (k, 1) by
    rw [hx, h1, (Sc.row_on c t hbr).1]; exact Sc.word_sign _ _ _ k h hk)
  have hpn : p < n := by omega
  have hop := hG.op
  have HAdd := Lib.hid (fun (k : Nat) W (hb : Below w.heap.size w W) => rAdd k (p + 1) st.col p row st.op st.base (st.least - 1) st.dash a B v l W (by rw [← hB]; exact hM.below hb) (own_below hO hb) hc (by omega) (by omega) (by have := hG.len; omega) hG.base.1)
  obtain ⟨op, hopd⟩ : ∃ op, st.op = op := ⟨_, rfl⟩
  rw [hopd] at c3 hop
  have HOp := Lib.hid hopd
  clear hT hM hO hG hn h1 h2 hc hx c2 c4 c5 c6 c7 hopd hB hbr
  go_enter Try.func20, Try.ntmps20
  go_wp2_with fail
  go_big_quiet (fail)
  have hb := HB.out nq
  have c1 := at_below hb c1
  have c3 := at_below hb c3
  have HBw := Lib.hid hb
  clear hb HB
  generalize w.drewN nq = W at *
  have w1 : IntKind.i64.wrap ((p : Int) + 1) = (p : Int) + 1 := IntWalk.i64_in _ (by omega)
  by_cases q : c = 91
  · have g : ((c : Int) == 91) = true := by simp; omega
    have HXk := Lib.hid (HX.out 8 (by decide) (by rw [q]; rfl))
    have hmx : max ((op : Int) - 1) 0 = ((op - 1 : Nat) : Int) := by omega
    have HA := Lib.hid (HAdd.out 8 W HBw.out)
    rw [show ((p + 1 : Nat) : Int) = (p : Int) + 1 from by omega] at HA
    clear HAdd HX q
    go_wp2_with fail
    refine HA.out.mono ?_
    rintro e w2 ⟨rfl, hA⟩
    have HA2 := Lib.hid hA
    rw [HOp.out] at HA2
    obtain ⟨v2, base2, hM2, -, hB2, -⟩ := hA
    have c3 := hM2.c.2.2.2.1
    rw [HOp.out] at c3
    have f3 := hM2.f 3
    have HD := Lib.hid (show Brackd L Tot a B n p c st w (.returned (.bool true)) (w2.setCell ⟨a, 3, none⟩ (.int .i64 ((op : Int) + 1))) from .inl ⟨rfl, p + 1, Here.on HG.out HRn.out HXk.out HC.out (HA2.out.open_ _ (by rw [HOp.out]; simp [Sc.opens])) (by decide) rfl, (HLo.out W HBw.out).trans (bel_set hB2 (Nat.le_refl a) 3 _), by omega, by omega⟩)
    clear hM2 hB2 HA2 HA
    go_wp2_with fail
    go_ret
    rw [HSl.out]
    exact HD.out
  have g91 : ((c : Int) == 91) = false := by simp; omega
  have HQ91 := Lib.hid q
  clear q
  by_cases q : c = 123
  · have g : ((c : Int) == 123) = true := by simp; omega
    have HXk := Lib.hid (HX.out 9 (by decide) (by rw [q]; rfl))
    have hmx : max ((op : Int) - 1) 0 = ((op - 1 : Nat) : Int) := by omega
    have HA := Lib.hid (HAdd.out 9 W HBw.out)
    rw [show ((p + 1 : Nat) : Int) = (p : Int) + 1 from by omega] at HA
    clear HAdd HX q
    go_wp2_with fail
    refine HA.out.mono ?_
    rintro e w2 ⟨rfl, hA⟩
    have HA2 := Lib.hid hA
    rw [HOp.out] at HA2
    obtain ⟨v2, base2, hM2, -, hB2, -⟩ := hA
    have c3 := hM2.c.2.2.2.1
    rw [HOp.out] at c3
    have f3 := hM2.f 3
    have HD := Lib.hid (show Brackd L Tot a B n p c st w (.returned (.bool true)) (w2.setCell ⟨a, 3, none⟩ (.int .i64 ((op : Int) + 1))) from .inl ⟨rfl, p + 1, Here.on HG.out HRn.out HXk.out HC.out (HA2.out.open_ _ (by rw [HOp.out]; simp [Sc.opens])) (by decide) rfl, (HLo.out W HBw.out).trans (bel_set hB2 (Nat.le_refl a) 3 _), by omega, by omega⟩)
    clear hM2 hB2 HA2 HA
    go_wp2_with fail
    go_ret
    rw [HSl.out]
    exact HD.out
  have g123 : ((c : Int) == 123) = false := by simp; omega
  have HQ123 := Lib.hid q
  clear q
  by_cases q : c = 93
  · have g : ((c : Int) == 93) = true := by simp; omega
    have HXk := Lib.hid (HX.out 10 (by decide) (by rw [q]; rfl))
    have hmx : max ((op : Int) - 1) 0 = ((op - 1 : Nat) : Int) := by omega
    have HA := Lib.hid (HAdd.out 10 W HBw.out)
    rw [show ((p + 1 : Nat) : Int) = (p : Int) + 1 from by omega] at HA
    clear HAdd HX q
    go_wp2_with fail
    refine HA.out.mono ?_
    rintro e w2 ⟨rfl, hA⟩
    have HA2 := Lib.hid hA
    rw [HOp.out] at HA2
    obtain ⟨v2, base2, hM2, -, hB2, -⟩ := hA
    have c3 := hM2.c.2.2.2.1
    rw [HOp.out] at c3
    have f3 := hM2.f 3
    have HD := Lib.hid (show Brackd L Tot a B n p c st w (.returned (.bool true)) (w2.setCell ⟨a, 3, none⟩ (.int .i64 ((op - 1 : Nat) : Int))) from .inl ⟨rfl, p + 1, Here.on HG.out HRn.out HXk.out HC.out (HA2.out.open_ _ (by rw [HOp.out]; simp [Sc.opens])) (by decide) rfl, (HLo.out W HBw.out).trans (bel_set hB2 (Nat.le_refl a) 3 _), by omega, by omega⟩)
    clear hM2 hB2 HA2 HA
    go_wp2_with fail
    go_ret
    rw [HSl.out]
    exact HD.out
  have g93 : ((c : Int) == 93) = false := by simp; omega
  have HQ93 := Lib.hid q
  clear q
  by_cases q : c = 125
  · have g : ((c : Int) == 125) = true := by simp; omega
    have HXk := Lib.hid (HX.out 11 (by decide) (by rw [q]; rfl))
    have hmx : max ((op : Int) - 1) 0 = ((op - 1 : Nat) : Int) := by omega
    have HA := Lib.hid (HAdd.out 11 W HBw.out)
    rw [show ((p + 1 : Nat) : Int) = (p : Int) + 1 from by omega] at HA
    clear HAdd HX q
    go_wp2_with fail
    refine HA.out.mono ?_
    rintro e w2 ⟨rfl, hA⟩
    have HA2 := Lib.hid hA
    rw [HOp.out] at HA2
    obtain ⟨v2, base2, hM2, -, hB2, -⟩ := hA
    have c3 := hM2.c.2.2.2.1
    rw [HOp.out] at c3
    have f3 := hM2.f 3
    have HD := Lib.hid (show Brackd L Tot a B n p c st w (.returned (.bool true)) (w2.setCell ⟨a, 3, none⟩ (.int .i64 ((op - 1 : Nat) : Int))) from .inl ⟨rfl, p + 1, Here.on HG.out HRn.out HXk.out HC.out (HA2.out.open_ _ (by rw [HOp.out]; simp [Sc.opens])) (by decide) rfl, (HLo.out W HBw.out).trans (bel_set hB2 (Nat.le_refl a) 3 _), by omega, by omega⟩)
    clear hM2 hB2 HA2 HA
    go_wp2_with fail
    go_ret
    rw [HSl.out]
    exact HD.out
  have g125 : ((c : Int) == 125) = false := by simp; omega
  have HQ125 := Lib.hid q
  clear q
  by_cases q : c = 44
  · have g : ((c : Int) == 44) = true := by simp; omega
    by_cases q2 : 0 < op
    · have g2 : (0 : Int) < (op : Int) := by omega
      have HXk := Lib.hid (HX.out 7 (by decide) (by rw [q, HOp.out]; simp [Sc.sign, q2]))
      have HA := Lib.hid (HAdd.out 7 W HBw.out)
      rw [show ((p + 1 : Nat) : Int) = (p : Int) + 1 from by omega] at HA
      clear HAdd HX q q2
      go_wp2_with fail
      refine HA.out.mono ?_
      rintro e w2 ⟨rfl, hA⟩
      have hBl : Below a W w2 := by obtain ⟨v2, base2, -, -, hB2, -⟩ := hA; exact hB2
      have HD := Lib.hid (show Brackd L Tot a B n p c st w (.returned (.bool true)) w2 from .inl ⟨rfl, p + 1, Here.on HG.out HRn.out HXk.out HC.out hA (by decide) rfl, (HLo.out W HBw.out).trans hBl, by omega, by omega⟩)
      clear hA hBl HA
      go_wp2_with fail
      go_ret
      rw [HSl.out]
      exact HD.out
    · obtain rfl : op = 0 := by omega
      have HD := Lib.hid (show Brackd L Tot a B n p c st w (.returned (.bool false)) W from .inr ⟨rfl, HBw.out, HQ91.out, HQ123.out, HQ93.out, HQ125.out, fun _ => HOp.out⟩)
      clear HAdd HX q q2
      go_wp2_with fail
      go_ret
      rw [HSl.out]
      exact HD.out
  · have g : ((c : Int) == 44) = false := by simp; omega
    have HD := Lib.hid (show Brackd L Tot a B n p c st w (.returned (.bool false)) W from .inr ⟨rfl, HBw.out, HQ91.out, HQ123.out, HQ93.out, HQ125.out, fun h => absurd h q⟩)
    clear HAdd HX q
    go_wp2_with fail
    go_ret
    rw [HSl.out]
    exact HD.out
end Go.Proofs.Ytmlpaafclobgcaa

/- Plain facts: which token stands behind the tokens that do not count, test by test; head as it is called. -/
namespace Go.Proofs.Ytmlpaafclobgcaa.Sc
open Go.Proofs.Ytmlpaafclobgcaa.Sg
theorem sign_dash (op : Nat) (dash : Bool) (c : Nat) (t : List Nat) (h : c = 45) (h1 : op = 0) (h2 : dash = true) (h3 : endT t = true) : sign op dash (c :: rowL t) = 5 := by
  subst h h1 h2
  simp [sign, part_row, h3]
theorem sign_col (op : Nat) (dash : Bool) (c : Nat) (t : List Nat) (h : colT (decide (0 < op)) (c :: t) = true) : sign op dash (c :: rowL t) = 6 := by
  have hc : c = 58 ∧ keyT (decide (0 < op)) t = true := by simpa [colT] using h
  obtain ⟨rfl, hk⟩ := hc
  simp [sign, key_row, hk]
theorem sign_no (op : Nat) (dash : Bool) (c : Nat) (t : List Nat) (h1 : c ≠ 91) (h2 : c ≠ 123) (h3 : c ≠ 93) (h4 : c ≠ 125) (h5 : c = 44 → op = 0) (hd : ¬ (c = 45 ∧ op = 0 ∧ dash = true ∧ endT t = true)) (hc : colT (decide (0 < op)) (c :: t) = false) : sign op dash (c :: rowL t) = 0 := by
  rw [sign]
  rw [if_neg h1, if_neg h2, if_neg h3, if_neg h4]
  by_cases q : c = 44
  · rw [if_pos q, if_neg (by rw [h5 q]; decide)]
  rw [if_neg q]
  by_cases q : c = 45
  · rw [if_pos q, part_row]
    by_cases a1 : op = 0
    · rw [if_pos a1]
      by_cases a2 : dash = true
      · rw [if_pos a2]
        by_cases a3 : endT t = true
        · exact absurd ⟨q, a1, a2, a3⟩ hd
        · rw [if_neg a3]
      · rw [if_neg a2]
    · rw [if_neg a1]
  rw [if_neg q]
  by_cases q : c = 58
  · have : keyT (decide (0 < op)) t = false := by simpa [colT, q] using hc
    rw [if_pos q, key_row, this]; rfl
  · rw [if_neg q]
theorem word_named (op : Nat) (dash : Bool) (r : List Nat) (h : sign op dash r = 0) (x : Nat × Nat) (hx : named r = x) (h0 : 0 < x.1) : word op dash r = x := by
  unfold word; rw [h, if_neg (by decide), hx, if_pos h0]
theorem word_quoted (op : Nat) (dash : Bool) (r : List Nat) (h : sign op dash r = 0) (h1 : (named r).1 = 0) (x : Nat × Nat) (hx : quoted r = x) (h0 : 0 < x.1) : word op dash r = x := by
  unfold word; rw [h, if_neg (by decide), h1, if_neg (by decide), hx, if_pos h0]
theorem word_head (op : Nat) (dash : Bool) (r : List Nat) (h : sign op dash r = 0) (h1 : (named r).1 = 0) (h2 : (quoted r).1 = 0) (h3 : op = 0 ∧ 0 < headN r) : word op dash r = (18, headN r) := by
  unfold word; rw [h, if_neg (by decide), h1, if_neg (by decide), h2, if_neg (by decide), if_pos h3]
theorem word_bad (op : Nat) (dash : Bool) (r : List Nat) (h : sign op dash r = 0) (h1 : (named r).1 = 0) (h2 : (quoted r).1 = 0) (h3 : ¬ (op = 0 ∧ 0 < headN r)) (h4 : bad r = true) : word op dash r = (22, 1) := by
  unfold word; rw [h, if_neg (by decide), h1, if_neg (by decide), h2, if_neg (by decide), if_neg h3, if_pos h4]
theorem word_plain (op : Nat) (dash : Bool) (r : List Nat) (h : sign op dash r = 0) (h1 : (named r).1 = 0) (h2 : (quoted r).1 = 0) (h3 : ¬ (op = 0 ∧ 0 < headN r)) (h4 : bad r = false) : word op dash r = (15, plainN (decide (0 < op)) r) := by
  unfold word; rw [h, if_neg (by decide), h1, if_neg (by decide), h2, if_neg (by decide), if_neg h3, if_neg (by rw [h4]; decide)]
theorem named_and (c : Nat) (t : List Nat) (h : c = 38) (h0 : 0 < run nam t) : named (c :: rowL t) = (12, run nam t + 1) := by
  subst h; rw [named, run_row nam nam_brk, if_pos rfl, if_neg (by omega)]
theorem named_star (c : Nat) (t : List Nat) (h : c = 42) (h0 : 0 < run nam t) : named (c :: rowL t) = (13, run nam t + 1) := by
  subst h; rw [named, run_row nam nam_brk, if_neg (by decide), if_pos rfl, if_neg (by omega)]
theorem named_tag (c : Nat) (t : List Nat) (h : c = 33) : named (c :: rowL t) = (14, run tgc t + 1) := by
  subst h; rw [named, run_row tgc tgc_brk, if_neg (by decide), if_neg (by decide), if_pos rfl]
theorem named_no (c : Nat) (t : List Nat) (h1 : ¬ (c = 38 ∧ 0 < run nam t)) (h2 : ¬ (c = 42 ∧ 0 < run nam t)) (h3 : c ≠ 33) : (named (c :: rowL t)).1 = 0 := by
  rw [named]
  rw [run_row nam nam_brk]
  by_cases q : c = 38
  · rw [if_pos q, if_pos (by omega)]
  rw [if_neg q]
  by_cases q : c = 42
  · rw [if_pos q, if_pos (by omega)]
  rw [if_neg q, if_neg h3]
theorem quoted_no (c : Nat) (r : List Nat) (h1 : c ≠ 39) (h2 : c ≠ 34) : (quoted (c :: r)).1 = 0 := by
  rw [quoted, if_neg h1, if_neg h2]
theorem quoted_one (c : Nat) (r : List Nat) (h1 : c = 39) : quoted (c :: r) = (16, sing r + 1) := by
  rw [quoted, if_pos h1]
theorem quoted_two (c : Nat) (r : List Nat) (h1 : c = 34) : quoted (c :: r) = (17, doub r + 1) := by
  rw [quoted, if_neg (by omega), if_pos h1]
end Go.Proofs.Ytmlpaafclobgcaa.Sc
namespace Go.Proofs.Ytmlpaafclobgcaa
open Go.RowKit
open Go.Proofs.Ytmlpaafclobgcaa.Sg
theorem rHead {w : World} {a b off cap n : Nat} {L : List Nat} (p op c H : Nat) (t : List Nat) (h1 : L.drop p = c :: t) (hn : L.length = n) (hm : n ≤ 16384) (hH : (if op = 0 then Sc.headT (c :: t) else 0) = H) (c0 : w.cell? ⟨a, 0, none⟩ = some (.slice (some ⟨b, off, none⟩) n cap)) (c1 : w.cell? ⟨a, 1, none⟩ = some (.int .i64 p)) (c3 : w.cell? ⟨a, 3, none⟩ = some (.int .i64 op)) (hT : Txt w b off L) :
    Calls Try.prog 39 #[.pointer (some ⟨a, 0, none⟩)] w fun e w' => e = .returned (.int .i64 H) ∧ Below w.heap.size w w' := by
  by_cases ho : op = 0
  · subst ho
    rw [if_pos rfl] at hH
    by_cases hc : c = 124 ∨ c = 62
    · rw [← hH]
      exact rHead1 p c (Sc.headS t) t h1 hn hm hc rfl c0 c1 c3 hT
    · rw [← hH, headT_none c t (by omega) (by omega)]
      exact rHead0 p 0 c t h1 hn hm (.inl (by omega)) c0 c1 c3 hT
  · rw [if_neg ho] at hH
    rw [← hH]
    exact rHead0 p op c t h1 hn hm (.inr (by omega)) c0 c1 c3 hT
end Go.Proofs.Ytmlpaafclobgcaa

/- The chapter's own scanner (correctorref6): word: all other tokens. -/
namespace Go.Proofs.Ytmlpaafclobgcaa
open Go.RowKit
open Go.Proofs.Ytmlpaafclobgcaa.Sg
open Go.Proofs.Ytmlpaafclobgcaa.Sq
set_option linter.unusedVariables false

/-- What is so behind word. -/
def Worded (L : List Nat) (Tot : List Tk) (a : Nat) (B : Value) (n p : Nat) (w : World) (e : Ending) (w' : World) : Prop :=
  e = .returned (.tuple #[]) ∧ ∃ p', Here L Tot a B w' p' ∧ Below a w w' ∧ p < p' ∧ p' ≤ n
theorem cls_true : cls true = Sc.tgc := rfl
theorem cls_false : cls false = Sc.nam := rfl
set_option maxHeartbeats 16000000 in
set_option maxRecDepth 100000 in
theorem rWord (a b off cap n p row c : Nat) (t L : List Nat) (Tot l : List Tk) (v : Value) (st : Sc.St) (w : World) (hn : L.length = n) (hm : n ≤ 16384) (hab : b < a) (hcap : n ≤ cap) (hcm : cap ≤ maxLen) (hL : ∀ x ∈ L, x < 256) (hT : Txt w b off L) (h1 : L.drop p = c :: t) (hbr : Sc.brk c = false) (hbl : Sc.blk c = false)
    (hM : RMt w a (.slice (some ⟨b, off, none⟩) n cap) v p row st.op st.base (st.least - 1) st.dash) (hO : Row w a v l) (hG : Sc.Good L Tot l st p) (hc : row + st.col = p)
    (hx : Sc.next st.op st.dash st.blank (st.col == 0) (Sc.rowL (L.drop p)) = Sc.word st.op st.dash (Sc.rowL (L.drop p)))
    (q91 : c ≠ 91) (q123 : c ≠ 123) (q93 : c ≠ 93) (q125 : c ≠ 125) (q44 : c = 44 → st.op = 0) :
    Calls Try.prog 21 #[.pointer (some ⟨a, 0, none⟩)] w (Worded L Tot a (.slice (some ⟨b, off, none⟩) n cap) n p w) := by
  obtain ⟨c0, c1, c2, c3, c4, c5, c6, c7⟩ := hM.c
  have h2 := Sc.drop_lt h1
  have d := hT.at_ h1
  obtain ⟨B, hB⟩ : ∃ B, Value.slice (some ⟨b, off, none⟩) n cap = B := ⟨_, rfl⟩
  have i1 : (p : Int) < (n : Int) := by omega
  have i2 : (p : Int) ≤ (n : Int) := by omega
  have hpn : p < n := by omega
  have HB := Lib.hid (fun k => below_drewN (Below.refl w.heap.size w) k)
  have HM := Lib.hid (fun W (hb : Below w.heap.size w W) => hM.below hb)
  have HO := Lib.hid (fun W (hb : Below w.heap.size w W) => show Row W a v l from own_below hO hb)
  have HT := Lib.hid (fun W (hb : Below w.heap.size w W) => hT.below hb)
  have HLo := Lib.hid (fun W (hb : Below w.heap.size w W) => hb.mono (Nat.le_of_lt hM.lt))
  have hrow := Sc.row_on c t hbr
  have hRn : Sc.rowN (L.drop p) ≠ 0 := by rw [h1, hrow.2]; omega
  rw [h1, hrow.1] at hx
  have HPut := Lib.hid (fun W (hb : Below w.heap.size w W) (k m T : Nat) (hw : Sc.word st.op st.dash (c :: Sc.rowL t) = (k, m)) (hk : easy k = true) (hTd : p + m = T) =>
    rPut (B := B) (v := v) (row := row) W hn hm (by rw [← hB]; exact hM.below hb) (own_below hO hb) hG hc hRn (by rw [h1, hrow.1, hx]; exact hw) hk hTd)
  have HFin := Lib.hid (fun W (hb : Below w.heap.size w W) (w' : World) (T : Nat) (h : Here L Tot a B w' T ∧ Below a W w' ∧ p < T ∧ T ≤ n) => show Worded L Tot a B n p w (.returned (.tuple #[])) w' from ⟨rfl, T, h.1, (HLo.out W hb).trans h.2.1, h.2.2.1, h.2.2.2⟩)
  obtain ⟨E, hE⟩ : ∃ E, p + Sc.rowN (L.drop p) = E := ⟨_, rfl⟩
  have hrl := Sc.rowN_le (L.drop p)
  rw [List.length_drop, hn] at hrl
  have hE2 : E = p + 1 + Sc.rowN t := by rw [← hE, h1, hrow.2]; omega
  have hEn : p + 1 ≤ E ∧ E ≤ n := by omega
  have htk : (L.drop (p + 1)).take (E - (p + 1)) = Sc.rowL t := by rw [h2.2.1, hE2, show p + 1 + Sc.rowN t - (p + 1) = Sc.rowN t by omega]; rfl
  -- the calls
  obtain ⟨R, hR⟩ : ∃ R, (Sc.nxL (c :: t)).1 = R := ⟨_, rfl⟩
  obtain ⟨KR, hKR⟩ : ∃ KR, (Sc.nxL (c :: t)).2 = KR := ⟨_, rfl⟩
  have hbad : Sc.bad (c :: Sc.rowL t) = decide (R < 0) := by
    have := Sc.nxL_row (c :: t) (by rw [hrow.2]; omega)
    rw [hrow.1] at this
    rw [Sc.bad, this, hR]
  have hrng := nxL_rng (c :: t)
  rw [hR] at hrng
  obtain ⟨M0, hM0⟩ : ∃ M0, n - p = M0 := ⟨_, rfl⟩
  obtain ⟨C0, hC0⟩ : ∃ C0, cap - p = C0 := ⟨_, rfl⟩
  have hsl0 := slice_at (b := b) (off := off) p hpn hcap hcm hm
  rw [hM0, hC0] at hsl0
  have HNx := Lib.hid (fun W (hb : Below w.heap.size w W) => by have := rNext (w := W) p c t M0 C0 h1 hn hm hL hM0 (hT.below hb); rw [hR, hKR] at this; exact this)
  obtain ⟨nn, hnn⟩ : ∃ nn, Sc.run Sc.nam t = nn := ⟨_, rfl⟩
  obtain ⟨NM, hNM⟩ : ∃ NM, p + 1 + nn = NM := ⟨_, rfl⟩
  obtain ⟨tn, htn⟩ : ∃ tn, Sc.run Sc.tgc t = tn := ⟨_, rfl⟩
  obtain ⟨TN, hTN⟩ : ∃ TN, p + 1 + tn = TN := ⟨_, rfl⟩
  have hnt : nn ≤ n - (p + 1) ∧ tn ≤ n - (p + 1) := by
    have h3 := Sc.run_le Sc.nam t
    have h4 := Sc.run_le Sc.tgc t
    omega
  have HNm := Lib.hid (fun W (hb : Below w.heap.size w W) => by have := rNames (w := W) (a := a) (cap := cap) false (p + 1) NM hn hm (by omega) (by rw [h2.2.1, cls_false, hnn, hNM]) (at_below hb c0) (hT.below hb); rw [show ((p + 1 : Nat) : Int) = (p : Int) + 1 from by omega] at this; exact this)
  have HTg := Lib.hid (fun W (hb : Below w.heap.size w W) => by have := rNames (w := W) (a := a) (cap := cap) true (p + 1) TN hn hm (by omega) (by rw [h2.2.1, cls_true, htn, hTN]) (at_below hb c0) (hT.below hb); rw [show ((p + 1 : Nat) : Int) = (p : Int) + 1 from by omega] at this; exact this)
  have HEd := Lib.hid (fun W (hb : Below w.heap.size w W) => by have := rEnded (w := W) (a := a) (cap := cap) (p + 1) hn (by omega) (by omega) (at_below hb c0) (hT.below hb); rw [show ((p + 1 : Nat) : Int) = (p : Int) + 1 from by omega, h2.2.1] at this; exact this)
  have HCl := Lib.hid (fun W (hb : Below w.heap.size w W) => rColon (w := W) (a := a) (cap := cap) p st.op c t h1 hn hm (at_below hb c0) (at_below hb c3) (hT.below hb))
  have HRE := Lib.hid (fun W (hb : Below w.heap.size w W) => rRowEnd (w := W) (a := a) (cap := cap) p E hn hm (by omega) hE (at_below hb c0) (hT.below hb))
  obtain ⟨sn, hsn⟩ : ∃ sn, Sc.sing (Sc.rowL t) = sn := ⟨_, rfl⟩
  obtain ⟨dn, hdn⟩ : ∃ dn, Sc.doub (Sc.rowL t) = dn := ⟨_, rfl⟩
  obtain ⟨SN, hSN⟩ : ∃ SN, p + 1 + sn = SN := ⟨_, rfl⟩
  obtain ⟨DN, hDN⟩ : ∃ DN, p + 1 + dn = DN := ⟨_, rfl⟩
  have hsd : SN ≤ E ∧ DN ≤ E := by
    have h3 := Sc.sing_le (Sc.rowL t)
    have h4 := Sc.doub_le (Sc.rowL t)
    rw [Sc.rowL_len] at h3 h4
    omega
  have HSg := Lib.hid (fun W (hb : Below w.heap.size w W) => by have := rSingle (w := W) (a := a) (cap := cap) (p + 1) E SN hn hm hEn.1 hEn.2 (by rw [htk, hsn, hSN]) (at_below hb c0) (hT.below hb); rw [show ((p + 1 : Nat) : Int) = (p : Int) + 1 from by omega] at this; exact this)
  have HDb := Lib.hid (fun W (hb : Below w.heap.size w W) => by have := rDouble (w := W) (a := a) (cap := cap) (p + 1) E DN hn hm hEn.1 hEn.2 (by rw [htk, hdn, hDN]) (at_below hb c0) (hT.below hb); rw [show ((p + 1 : Nat) : Int) = (p : Int) + 1 from by omega] at this; exact this)
  obtain ⟨H, hH⟩ : ∃ H, (if st.op = 0 then Sc.headT (c :: t) else 0) = H := ⟨_, rfl⟩
  have HHd := Lib.hid (fun W (c0 : W.cell? ⟨a, 0, none⟩ = some (.slice (some ⟨b, off, none⟩) n cap)) (c1 : W.cell? ⟨a, 1, none⟩ = some (.int .i64 p)) (c3 : W.cell? ⟨a, 3, none⟩ = some (.int .i64 st.op)) (hT : Txt W b off L) => rHead (w := W) p st.op c H t h1 hn hm hH c0 c1 c3 hT)
  have hhd : Sc.headN (c :: Sc.rowL t) = Sc.headT (c :: t) := by rw [← hrow.1]; exact Sc.head_row (c :: t) (by rw [hrow.2]; omega)
  have HHv := Lib.hid (show (st.op = 0 ∧ 0 < Sc.headN (c :: Sc.rowL t)) ↔ 0 < H by
    rw [hhd, ← hH]
    by_cases g : st.op = 0
    · rw [if_pos g]; exact ⟨fun h => h.2, fun h => ⟨g, h⟩⟩
    · rw [if_neg g]; exact ⟨fun h => absurd h.1 g, fun h => absurd h (by decide)⟩)
  have HHn := Lib.hid (fun (g : 0 < H) => show Sc.headN (c :: Sc.rowL t) = H by
    rw [hhd]
    by_cases q : st.op = 0
    · rw [if_pos q] at hH; exact hH
    · rw [if_neg q] at hH; omega)
  obtain ⟨PN, hPN⟩ : ∃ PN, p + Sc.plainN (decide (0 < st.op)) (c :: Sc.rowL t) = PN := ⟨_, rfl⟩
  have HPl := Lib.hid (fun W (hb : Below w.heap.size w W) => rPlain (w := W) p st.op c t h1 hbr hbl hn hm hcap hcm hL (at_below hb c0) (at_below hb c1) (at_below hb c3) (hT.below hb) PN (by rw [hrow.1]; exact hPN))
  -- the tests
  obtain ⟨Et, hEt⟩ : ∃ Et, Sc.endT t = Et := ⟨_, rfl⟩
  obtain ⟨Co, hCo⟩ : ∃ Co, Sc.colT (decide (0 < st.op)) (c :: t) = Co := ⟨_, rfl⟩
  rw [hEt] at HEd
  rw [hCo] at HCl
  obtain ⟨Q1, hQ1⟩ : ∃ Q1, (c == 45 && (st.op == 0 && (st.dash && Et))) = Q1 := ⟨_, rfl⟩
  have HQ1 := Lib.hid hQ1
  have HSd := Lib.hid (fun (g : Q1 = true) => show Sc.word st.op st.dash (c :: Sc.rowL t) = (5, 1) by
    have : c = 45 ∧ st.op = 0 ∧ st.dash = true ∧ Et = true := by rw [← hQ1] at g; simpa using g
    exact Sc.word_sign _ _ _ 5 (Sc.sign_dash _ _ _ _ this.1 this.2.1 this.2.2.1 (by rw [hEt]; exact this.2.2.2)) (by decide))
  have HSc := Lib.hid (fun (g : Co = true) => show Sc.word st.op st.dash (c :: Sc.rowL t) = (6, 1) from Sc.word_sign _ _ _ 6 (Sc.sign_col _ _ _ _ (by rw [hCo]; exact g)) (by decide))
  have HSn := Lib.hid (fun (g1 : Q1 = false) (g2 : Co = false) => show Sc.sign st.op st.dash (c :: Sc.rowL t) = 0 from Sc.sign_no _ _ _ _ q91 q123 q93 q125 q44 (by
    intro h
    rw [hEt] at h
    rw [← hQ1, h.1, h.2.1, h.2.2.1, h.2.2.2] at g1
    cases g1) (by rw [hCo]; exact g2))
  obtain ⟨op, hop⟩ : ∃ op, st.op = op := ⟨_, rfl⟩
  rw [hop] at c3 hQ1
  obtain ⟨ds, hds⟩ : ∃ ds, st.dash = ds := ⟨_, rfl⟩
  rw [hds] at c5 hQ1
  have HQ1b := Lib.hid hQ1
  have HOp := Lib.hid hop
  have HG := Lib.hid hG
  have HC := Lib.hid hc
  have HSl := Lib.hid hB
  have HRn := Lib.hid hRn
  have HNn := Lib.hid hnn
  have HNM := Lib.hid hNM
  have HTN := Lib.hid hTN
  have HTn := Lib.hid htn
  have HSN := Lib.hid hSN
  have HDN := Lib.hid hDN
  have HSs := Lib.hid hsn
  have HDs := Lib.hid hdn
  have HPN := Lib.hid hPN
  have HBd := Lib.hid hbad
  have HXw := Lib.hid (show Sc.next st.op st.dash st.blank (st.col == 0) (Sc.rowL (L.drop p)) = Sc.word st.op st.dash (c :: Sc.rowL t) by rw [h1, hrow.1, hx])
  have HHb := Lib.hid (show H ≤ n - p by
    rw [← hH]
    split
    · have := Sc.headN_le (c :: Sc.rowL t)
      rw [hhd] at this
      have h5 := Sc.rowL_len (c :: t)
      rw [hrow.1] at h5
      have h6 := Sc.rowN_le (c :: t)
      have h7 : (c :: t).length = n - p := by rw [← h1, List.length_drop, hn]
      omega
    · exact Nat.zero_le _)
  have HAdd := Lib.hid (fun W (v : Value) (text : Int) (T : Nat) (hTb : T ≤ 100000) (hM : RMt W a B v p row st.op st.base text st.dash) (hO : Row W a v l) => rAdd 18 T st.col p row st.op st.base text st.dash a B v l W hM hO hc hTb (by omega) (by have := hG.len; omega) hG.base.1)
  have HNl := Lib.hid hn
  clear hT hM hO hG hn h1 h2 hc hx hrow hRn hE hrl hE2 htk hR hKR hbad hM0 hC0 hnn hNM htn hTN hsn hdn hSN hDN hH hhd hPN hEt hCo hQ1 hop hds hB q44 hbr hbl hcap hcm hL c7
  go_enter Try.func21, Try.ntmps21
  go_wp2_with fail
  go_big_quiet (fail)
  have hb := HB.out nq
  have c0 := at_below hb c0
  have c1 := at_below hb c1
  have c2 := at_below hb c2
  have c3 := at_below hb c3
  have c4 := at_below hb c4
  have c5 := at_below hb c5
  have HBw := Lib.hid hb
  clear hb HB d
  generalize w.drewN nq = W at *
  go_wp2_with fail
  refine (HNx.out W HBw.out).mono ?_
  rintro e w1 ⟨rfl, rfl⟩
  clear hsl0 HNx
  have w1 : IntKind.i64.wrap ((p : Int) + 1) = (p : Int) + 1 := IntWalk.i64_in _ (by omega)
  go_wp2_with fail
  refine (HNm.out W HBw.out).mono ?_
  rintro e w1 ⟨rfl, rfl⟩
  clear HNm
  go_upto_region 5 with fail
  go_cut [39] (fun q wx => q = .bool Q1 ∧ W = wx)
  case first =>
    by_cases z1 : c = 45
    · have g1 : ((c : Int) == 45) = true := by simp; omega
      by_cases z2 : op = 0
      · subst z2
        cases ds with
        | true =>
          have HZ := Lib.hid (show Q1 = Et by rw [← HQ1b.out, z1]; simp)
          clear z1
          go_wp2_with fail
          refine (HEd.out W HBw.out).mono ?_
          rintro e w1 ⟨rfl, rfl⟩
          go_wp2_with fail
          go_meet
          exact ⟨by rw [HZ.out], rfl⟩
        | false =>
          have HZ := Lib.hid (show Q1 = false by rw [← HQ1b.out]; simp)
          clear z1
          go_wp2_with fail
          go_meet
          exact ⟨by rw [HZ.out], rfl⟩
      · have g2 : ((op : Int) == 0) = false := by simp; omega
        have HZ := Lib.hid (show Q1 = false by rw [← HQ1b.out]; simp [z2])
        clear z1 z2
        go_wp2_with fail
        go_meet
        exact ⟨by rw [HZ.out], rfl⟩
    · have g1 : ((c : Int) == 45) = false := by simp; omega
      have HZ := Lib.hid (show Q1 = false by rw [← HQ1b.out]; simp [z1])
      clear z1
      go_wp2_with fail
      go_meet
      exact ⟨by rw [HZ.out], rfl⟩
  case rest =>
  obtain ⟨rfl, rfl⟩ := hcut
  cases Q1 with
  | true =>
    have HP := HPut.out W HBw.out 5 1 (p + 1) (HSd.out (by simp)) rfl rfl
    rw [show ((p + 1 : Nat) : Int) = (p : Int) + 1 from by omega] at HP
    have HP2 := Lib.hid HP
    clear HP
    go_wp2_with fail
    refine HP2.out.mono ?_
    rintro e w3 ⟨rfl, h⟩
    have HD := Lib.hid (HFin.out W HBw.out w3 _ h)
    clear h
    go_wp2_with fail
    go_end0
    rw [HSl.out]
    exact HD.out
  | false =>
  clear c5
  go_wp2_with fail
  refine (HCl.out W HBw.out).mono ?_
  rintro e w1 ⟨rfl, rfl⟩
  cases Co with
  | true =>
    have HP := HPut.out W HBw.out 6 1 (p + 1) (HSc.out (by simp)) rfl rfl
    rw [show ((p + 1 : Nat) : Int) = (p : Int) + 1 from by omega] at HP
    have HP2 := Lib.hid HP
    clear HP
    go_wp2_with fail
    refine HP2.out.mono ?_
    rintro e w3 ⟨rfl, h⟩
    have HD := Lib.hid (HFin.out W HBw.out w3 _ h)
    clear h
    go_wp2_with fail
    go_end0
    rw [HSl.out]
    exact HD.out
  | false =>
  have HSg0 := Lib.hid (HSn.out (by simp) (by simp))
  clear HSd HSc HSn HCl HEd HQ1 HQ1b
  obtain ⟨Q3, hQ3⟩ : ∃ Q3, (c == 38 && decide (0 < nn)) = Q3 := ⟨_, rfl⟩
  obtain ⟨Q4, hQ4⟩ : ∃ Q4, (c == 42 && decide (0 < nn)) = Q4 := ⟨_, rfl⟩
  have HQ3 := Lib.hid hQ3
  have HQ4 := Lib.hid hQ4
  have HNMb := Lib.hid (show p + 1 + nn = NM from HNM.out)
  clear hQ3 hQ4
  go_upto_region 9 with fail
  go_cut [73] (fun q wx => q = .bool Q3 ∧ W = wx)
  case first =>
    by_cases z1 : c = 38
    · have g1 : ((c : Int) == 38) = true := by simp; omega
      by_cases z2 : 0 < nn
      · have HZ := Lib.hid (show Q3 = true by rw [← HQ3.out, z1, decide_eq_true z2]; rfl)
        have g2 : (p : Int) + 1 < (NM : Int) := by have := HNMb.out; omega
        clear z1 z2
        go_wp2_with fail
        go_meet
        exact ⟨by rw [HZ.out], rfl⟩
      · have HZ := Lib.hid (show Q3 = false by rw [← HQ3.out, decide_eq_false z2]; simp)
        have g2 : (NM : Int) = (p : Int) + 1 := by have := HNMb.out; omega
        clear z1 z2
        go_wp2_with fail
        go_meet
        exact ⟨by rw [HZ.out], rfl⟩
    · have g1 : ((c : Int) == 38) = false := by simp; omega
      have HZ := Lib.hid (show Q3 = false by rw [← HQ3.out]; simp [z1])
      clear z1
      go_wp2_with fail
      go_meet
      exact ⟨by rw [HZ.out], rfl⟩
  case rest =>
  obtain ⟨rfl, rfl⟩ := hcut
  cases Q3 with
  | true =>
    have hq : c = 38 ∧ 0 < nn := by have := HQ3.out; simpa using this
    have HP2 := Lib.hid (HPut.out W HBw.out 12 (nn + 1) NM (Sc.word_named _ _ _ HSg0.out _ (by rw [Sc.named_and c t hq.1 (by rw [HNn.out]; exact hq.2), HNn.out]) (by simp)) rfl (by have := HNMb.out; omega))
    clear hq
    go_wp2_with fail
    refine HP2.out.mono ?_
    rintro e w3 ⟨rfl, h⟩
    have HD := Lib.hid (HFin.out W HBw.out w3 _ h)
    clear h
    go_wp2_with fail
    go_end0
    rw [HSl.out]
    exact HD.out
  | false =>
  go_upto_region 11 with fail
  go_cut [85] (fun q wx => q = .bool Q4 ∧ W = wx)
  case first =>
    by_cases z1 : c = 42
    · have g1 : ((c : Int) == 42) = true := by simp; omega
      by_cases z2 : 0 < nn
      · have HZ := Lib.hid (show Q4 = true by rw [← HQ4.out, z1, decide_eq_true z2]; rfl)
        have g2 : (p : Int) + 1 < (NM : Int) := by have := HNMb.out; omega
        clear z1 z2
        go_wp2_with fail
        go_meet
        exact ⟨by rw [HZ.out], rfl⟩
      · have HZ := Lib.hid (show Q4 = false by rw [← HQ4.out, decide_eq_false z2]; simp)
        have g2 : (NM : Int) = (p : Int) + 1 := by have := HNMb.out; omega
        clear z1 z2
        go_wp2_with fail
        go_meet
        exact ⟨by rw [HZ.out], rfl⟩
    · have g1 : ((c : Int) == 42) = false := by simp; omega
      have HZ := Lib.hid (show Q4 = false by rw [← HQ4.out]; simp [z1])
      clear z1
      go_wp2_with fail
      go_meet
      exact ⟨by rw [HZ.out], rfl⟩
  case rest =>
  obtain ⟨rfl, rfl⟩ := hcut
  cases Q4 with
  | true =>
    have hq : c = 42 ∧ 0 < nn := by have := HQ4.out; simpa using this
    have HP2 := Lib.hid (HPut.out W HBw.out 13 (nn + 1) NM (Sc.word_named _ _ _ HSg0.out _ (by rw [Sc.named_star c t hq.1 (by rw [HNn.out]; exact hq.2), HNn.out]) (by simp)) rfl (by have := HNMb.out; omega))
    clear hq
    go_wp2_with fail
    refine HP2.out.mono ?_
    rintro e w3 ⟨rfl, h⟩
    have HD := Lib.hid (HFin.out W HBw.out w3 _ h)
    clear h
    go_wp2_with fail
    go_end0
    rw [HSl.out]
    exact HD.out
  | false =>
  by_cases z33 : c = 33
  · have g1 : ((c : Int) == 33) = true := by simp; omega
    have HP2 := Lib.hid (HPut.out W HBw.out 14 (tn + 1) TN (Sc.word_named _ _ _ HSg0.out _ (by rw [Sc.named_tag c t z33, HTn.out]) (by simp)) rfl (by have := HTN.out; omega))
    clear z33
    go_wp2_with fail
    refine (HTg.out W HBw.out).mono ?_
    rintro e w1 ⟨rfl, rfl⟩
    go_wp2_with fail
    refine HP2.out.mono ?_
    rintro e w3 ⟨rfl, h⟩
    have HD := Lib.hid (HFin.out W HBw.out w3 _ h)
    clear h
    go_wp2_with fail
    go_end0
    rw [HSl.out]
    exact HD.out
  have g33 : ((c : Int) == 33) = false := by simp; omega
  have HN0 := Lib.hid (Sc.named_no c t (by rw [HNn.out]; intro h; have := HQ3.out; rw [h.1, decide_eq_true h.2] at this; cases this) (by rw [HNn.out]; intro h; have := HQ4.out; rw [h.1, decide_eq_true h.2] at this; cases this) z33)
  clear z33 HTg HQ3 HQ4
  by_cases z39 : c = 39
  · have g1 : ((c : Int) == 39) = true := by simp; omega
    have HP2 := Lib.hid (HPut.out W HBw.out 16 (sn + 1) SN (Sc.word_quoted _ _ _ HSg0.out HN0.out _ (by rw [Sc.quoted_one c _ z39, HSs.out]) (by simp)) rfl (by have := HSN.out; omega))
    clear z39
    go_wp2_with fail
    refine (HRE.out W HBw.out).mono ?_
    rintro e w1 ⟨rfl, rfl⟩
    go_wp2_with fail
    refine (HSg.out W HBw.out).mono ?_
    rintro e w1 ⟨rfl, rfl⟩
    go_wp2_with fail
    refine HP2.out.mono ?_
    rintro e w3 ⟨rfl, h⟩
    have HD := Lib.hid (HFin.out W HBw.out w3 _ h)
    clear h
    go_wp2_with fail
    go_end0
    rw [HSl.out]
    exact HD.out
  have g39 : ((c : Int) == 39) = false := by simp; omega
  by_cases z34 : c = 34
  · have g1 : ((c : Int) == 34) = true := by simp; omega
    have HP2 := Lib.hid (HPut.out W HBw.out 17 (dn + 1) DN (Sc.word_quoted _ _ _ HSg0.out HN0.out _ (by rw [Sc.quoted_two c _ z34, HDs.out]) (by simp)) rfl (by have := HDN.out; omega))
    have hmn : min (DN : Int) (E : Int) = (DN : Int) := by omega
    clear z34 z39
    go_wp2_with fail
    refine (HRE.out W HBw.out).mono ?_
    rintro e w1 ⟨rfl, rfl⟩
    go_wp2_with fail
    refine (HDb.out W HBw.out).mono ?_
    rintro e w1 ⟨rfl, rfl⟩
    go_wp2_with fail
    refine (HRE.out W HBw.out).mono ?_
    rintro e w1 ⟨rfl, rfl⟩
    go_wp2_with fail
    refine HP2.out.mono ?_
    rintro e w3 ⟨rfl, h⟩
    have HD := Lib.hid (HFin.out W HBw.out w3 _ h)
    clear h
    go_wp2_with fail
    go_end0
    rw [HSl.out]
    exact HD.out
  have g34 : ((c : Int) == 34) = false := by simp; omega
  have HQ0 := Lib.hid (Sc.quoted_no c (Sc.rowL t) z39 z34)
  clear z39 z34 HRE HSg HDb HNM HNMb
  go_wp2_with fail
  refine (HHd.out W c0 c1 (by rw [HOp.out]; exact c3) (HT.out W HBw.out)).mono ?_
  rintro e W2 ⟨rfl, hb2⟩
  have c0 := at_below hb2 c0
  have c1 := at_below hb2 c1
  have c2 := at_below hb2 c2
  have c3 := at_below hb2 c3
  have c4 := at_below hb2 c4
  have HB2 := Lib.hid (HBw.out.trans (hb2.mono HBw.out.size))
  clear hb2 HBw
  have HM2 := Lib.hid (HM.out W2 HB2.out)
  rw [HSl.out, HOp.out] at HM2
  have HO2 := Lib.hid (HO.out W2 HB2.out)
  by_cases zH : 0 < H
  · have gH : (0 : Int) < (H : Int) := by omega
    have HNx2 := Lib.hid (HXw.out.trans (by rw [Sc.word_head _ _ _ HSg0.out HN0.out HQ0.out (HHv.out.2 zH), HHn.out zH]) : Sc.next st.op st.dash st.blank (st.col == 0) (Sc.rowL (L.drop p)) = (18, H))
    obtain ⟨T, hTd⟩ : ∃ T, p + H = T := ⟨_, rfl⟩
    have hT1 : T ≤ 20000 := by have := HHb.out; omega
    have e1 : (p : Int) + (H : Int) = (T : Int) := by omega
    have w2 : IntKind.i64.wrap (T : Int) = (T : Int) := IntWalk.i64_in _ (by omega)
    obtain ⟨Cc, hCc⟩ : ∃ Cc, st.col = Cc := ⟨_, rfl⟩
    have e2 : (p : Int) - (row : Int) = (Cc : Int) := by have := HC.out; omega
    have w3 : IntKind.i64.wrap (Cc : Int) = (Cc : Int) := IntWalk.i64_in _ (by have := HC.out; omega)
    have w4 : IntKind.i64.wrap ((Cc : Int) - 1) = (Cc : Int) - 1 := IntWalk.i64_in _ (by have := HC.out; omega)
    have HTd := Lib.hid hTd
    have HCol := Lib.hid hCc
    have HBse := Lib.hid HG.out.base.1
    obtain ⟨base, hbase⟩ : ∃ base, st.base = base := ⟨_, rfl⟩
    obtain ⟨dsh, hdsh⟩ : ∃ dsh, st.dash = dsh := ⟨_, rfl⟩
    rw [hbase, hdsh] at HM2
    rw [hbase] at c4 HBse
    have HBs := Lib.hid hbase
    have HDs2 := Lib.hid hdsh
    have f6 := HM2.out.f 6
    have c6 := HM2.out.c.2.2.2.2.2.2.1
    clear hTd hCc hbase hdsh HPl HPut
    by_cases z2 : base < 0
    · skip
      have hb0 : base < 0 := z2
      obtain rfl : base = -1 := by have := HBse.out; omega
      have HTx := Lib.hid (show (Cc : Int) - 1 = (Sc.take st 18 H).least - 1 by
        show _ = (if 18 = 18 then (if st.base = -1 then (st.col : Int) else st.base + 1) else st.least) - 1
        rw [if_pos rfl, HBs.out, if_pos rfl, HCol.out])
      have HM3 := Lib.hid ((HM2.out.set6 (-1)).set6 ((Cc : Int) - 1))
      have HO3 := Lib.hid (row_set (row_set HO2.out 6 (.int .i64 (-1))) 6 (.int .i64 ((Cc : Int) - 1)))
      have HL3 := Lib.hid (bel_set (bel_set (Below.refl a W2) (Nat.le_refl a) 6 (.int .i64 (-1))) (Nat.le_refl a) 6 (.int .i64 ((Cc : Int) - 1)))
      have HT3 := Lib.hid ((HT.out W2 HB2.out).low HL3.out hab)
      have HHc := Lib.hid (HHd.out _ (by rw [HSl.out]; exact HM3.out.c.1) HM3.out.c.2.1 (by rw [HOp.out]; exact HM3.out.c.2.2.2.1) HT3.out)
      clear z2
      go_wp2_with fail
      refine HHc.out.mono ?_
      rintro e W4 ⟨rfl, hb4⟩
      have HM4 := Lib.hid (HM3.out.below hb4)
      have HO4 := Lib.hid (show Row W4 a v l from own_below HO3.out hb4)
      have HL4 := Lib.hid (((HLo.out W2 HB2.out).trans HL3.out).trans (hb4.mono (Nat.le_of_lt HM3.out.lt)))
      have HA := Lib.hid (HAdd.out W4 v ((Cc : Int) - 1) T (by omega) (by rw [HBs.out, HDs2.out, HOp.out]; exact HM4.out) HO4.out)
      clear hb4 HM3 HO3 HL3 HT3 HHc c0 c1 c2 c3 c4 f6
      go_wp2_with fail
      refine HA.out.mono ?_
      rintro e w5 ⟨rfl, hA⟩
      have hBl : Below a W4 w5 := by obtain ⟨v2, base2, -, -, hB2, -⟩ := hA; exact hB2
      have HD := Lib.hid (show Worded L Tot a B n p w (.returned (.tuple #[])) w5 from ⟨rfl, T, by
        rw [← HTd.out]
        rw [← HTd.out] at hA
        exact Here.on HG.out HRn.out HNx2.out HC.out hA (by decide) HTx.out, HL4.out.trans hBl, by have := HTd.out; omega, by have := HTd.out; have := HHb.out; omega⟩)
      clear hA hBl HA
      go_wp2_with fail
      go_end0
      rw [HSl.out]
      exact HD.out
    · skip
      have hb0 : ¬ base < 0 := z2
      have HTx := Lib.hid (show base = (Sc.take st 18 H).least - 1 by
        show _ = (if 18 = 18 then (if st.base = -1 then (st.col : Int) else st.base + 1) else st.least) - 1
        rw [if_pos rfl, HBs.out, if_neg (by omega)]; omega)
      have HM3 := Lib.hid (HM2.out.set6 base)
      have HO3 := Lib.hid (row_set HO2.out 6 (.int .i64 base))
      have HL3 := Lib.hid (bel_set (Below.refl a W2) (Nat.le_refl a) 6 (.int .i64 base))
      have HT3 := Lib.hid ((HT.out W2 HB2.out).low HL3.out hab)
      have HHc := Lib.hid (HHd.out _ (by rw [HSl.out]; exact HM3.out.c.1) HM3.out.c.2.1 (by rw [HOp.out]; exact HM3.out.c.2.2.2.1) HT3.out)
      clear z2
      go_wp2_with fail
      refine HHc.out.mono ?_
      rintro e W4 ⟨rfl, hb4⟩
      have HM4 := Lib.hid (HM3.out.below hb4)
      have HO4 := Lib.hid (show Row W4 a v l from own_below HO3.out hb4)
      have HL4 := Lib.hid (((HLo.out W2 HB2.out).trans HL3.out).trans (hb4.mono (Nat.le_of_lt HM3.out.lt)))
      have HA := Lib.hid (HAdd.out W4 v base T (by omega) (by rw [HBs.out, HDs2.out, HOp.out]; exact HM4.out) HO4.out)
      clear hb4 HM3 HO3 HL3 HT3 HHc c0 c1 c2 c3 c4 f6
      go_wp2_with fail
      refine HA.out.mono ?_
      rintro e w5 ⟨rfl, hA⟩
      have hBl : Below a W4 w5 := by obtain ⟨v2, base2, -, -, hB2, -⟩ := hA; exact hB2
      have HD := Lib.hid (show Worded L Tot a B n p w (.returned (.tuple #[])) w5 from ⟨rfl, T, by
        rw [← HTd.out]
        rw [← HTd.out] at hA
        exact Here.on HG.out HRn.out HNx2.out HC.out hA (by decide) HTx.out, HL4.out.trans hBl, by have := HTd.out; omega, by have := HTd.out; have := HHb.out; omega⟩)
      clear hA hBl HA
      go_wp2_with fail
      go_end0
      rw [HSl.out]
      exact HD.out
  · obtain rfl : H = 0 := by omega
    by_cases zR : R < 0
    · have HP := HPut.out W2 HB2.out 22 1 (p + 1) (Sc.word_bad _ _ _ HSg0.out HN0.out HQ0.out (fun h => zH (HHv.out.1 h)) (by rw [HBd.out]; exact decide_eq_true zR)) rfl rfl
      rw [show ((p + 1 : Nat) : Int) = (p : Int) + 1 from by omega] at HP
      have HP2 := Lib.hid HP
      have gR : R < 0 := zR
      clear HP zH zR hrng
      go_wp2_with fail
      refine HP2.out.mono ?_
      rintro e w3 ⟨rfl, h⟩
      have HD := Lib.hid (HFin.out W2 HB2.out w3 _ h)
      clear h
      go_wp2_with fail
      go_end0
      rw [HSl.out]
      exact HD.out
    · have gR : ¬ R < 0 := zR
      have HP3 := Lib.hid (fun W3 hb3 => HPut.out W3 hb3 15 _ PN (Sc.word_plain _ _ _ HSg0.out HN0.out HQ0.out (fun h => zH (HHv.out.1 h)) (by rw [HBd.out]; exact decide_eq_false zR)) rfl HPN.out)
      clear zH zR hrng
      go_wp2_with fail
      refine (HPl.out W2 HB2.out).mono ?_
      rintro e W3 ⟨rfl, hb3⟩
      have HB3 := Lib.hid (HB2.out.trans (hb3.mono HB2.out.size))
      have HP2 := Lib.hid (HP3.out W3 HB3.out)
      clear hb3
      go_wp2_with fail
      refine HP2.out.mono ?_
      rintro e w3 ⟨rfl, h⟩
      have HD := Lib.hid (HFin.out W3 HB3.out w3 _ h)
      clear h
      go_wp2_with fail
      go_end0
      rw [HSl.out]
      exact HD.out
end Go.Proofs.Ytmlpaafclobgcaa

/- The chapter's own Tokens (correctorref6): the tokens of any bytes. -/
namespace Go.Proofs.Ytmlpaafclobgcaa
open Go.RowKit
open Go.Proofs.Ytmlpaafclobgcaa.Sg
open Go.Proofs.Ytmlpaafclobgcaa.Sq
set_option linter.unusedVariables false

theorem next_mark (op : Nat) (dash blank : Bool) (r : List Nat) (h : 0 < Sc.mark r) : Sc.next op dash blank true r = (Sc.mark r, 3) := by
  unfold Sc.next
  rw [if_pos ⟨rfl, h⟩]
theorem markT_is (D : List Nat) : Sc.markT D = 0 ∨ Sc.markT D = 20 ∨ Sc.markT D = 21 := by
  rw [← Sc.mark_row]
  unfold Sc.mark
  (repeat' split) <;> simp
/-- What is known of the text as it is handed in. -/
def Hands (w : World) (a' : Option Addr) (cap n : Nat) (L : List Nat) : Prop := n = 0 ∨ ∃ b off, a' = some ⟨b, off, none⟩ ∧ b < w.heap.size ∧ Txt w b off L ∧ n ≤ cap ∧ cap ≤ maxLen
theorem Hands.of {w : World} {v : Value} {s : ByteArray} (h : Bys w v s) : ∃ a' cap, v = .slice a' s.size cap ∧ Hands w a' cap s.size (Sc.nats s) := by
  rcases h with ⟨h1, h2⟩ | ⟨b, off, cap, h1, h2, h3, h4⟩
  · exact ⟨none, 0, by rw [h1, h2], .inl h2⟩
  · by_cases h0 : s.size = 0
    · exact ⟨_, _, h1, .inl h0⟩
    · refine ⟨_, _, h1, .inr ⟨b, off, rfl, lt_of_cell (h4 0 (by omega)), fun j c hj => ?_, h2, h3⟩⟩
      have hl : j < s.size := by
        have := (List.getElem?_eq_some_iff.1 hj).1
        rwa [Sc.nats_len] at this
      have := Sc.nats_getD s j
      rw [List.getD_eq_getElem?_getD, hj] at this
      rw [h4 j hl, ← this]
      rfl
set_option maxHeartbeats 8000000 in
set_option maxRecDepth 100000 in
theorem rTokens (v : Value) (s : ByteArray) (w : World) (hv : Bys w v s) :
    Calls Try.prog 10 #[v] w (Gives (Sc.nats s) w) := by
  have hmx := hv.size_le
  simp only [maxLen] at hmx
  have hln := Sc.nats_len s
  have hlt := Sc.nats_lt s
  obtain ⟨a', cap, rfl, hH⟩ := Hands.of hv
  obtain ⟨L, hL⟩ : ∃ L, Sc.nats s = L := ⟨_, rfl⟩
  obtain ⟨n, hn⟩ : ∃ n, s.size = n := ⟨_, rfl⟩
  rw [hL] at hln hlt hH ⊢
  rw [hn] at hln hH hmx ⊢
  clear hv hL hn
  by_cases hlong : 16384 < n
  · have hI : (16384 : Int) < (n : Int) := by omega
    have hE : Sc.tokens L = [] := by rw [Sc.tokens_eq, if_pos (by rw [hln]; exact hlong)]
    have HD := Lib.hid (show Gives L w (.returned (.slice none 0 0)) w from ⟨_, rfl, by rw [hE]; exact World.ownsRow_nil w _ _ _, Below.refl _ _⟩)
    clear hE hln hlt hH
    go_enter Try.func10, Try.ntmps10
    go_wp2_with fail
    go_ret
    exact HD.out
  · have hI : ¬ ((16384 : Int) < (n : Int)) := by omega
    obtain ⟨Tot, hTot⟩ : ∃ Tot, Sc.tokens L = Tot := ⟨_, rfl⟩
    have hG0 : Sc.GoodR L Tot [] 0 (-1) 0 := ⟨by rw [← hTot, Sc.tokens_eq, if_neg (by rw [hln]; omega)]; rfl, Nat.le_refl _, Int.le_refl _, Nat.zero_le _⟩
    have HG0 := Lib.hid (hG0.row (by simp [Sc.isText]))
    have HTo := Lib.hid hTot
    have HH := Lib.hid hH
    have HN := Lib.hid hln
    have HLt := Lib.hid hlt
    obtain ⟨B, hB⟩ : ∃ B, Value.slice a' n cap = B := ⟨_, rfl⟩
    have HSl := Lib.hid hB
    have hm : n ≤ 16384 := by omega
    clear hG0 hTot hH hln hlt hlong hB
    go_enter Try.func10, Try.ntmps10
    go_wp2_with fail
    have hM0 : RMt (w.alloc (.cells #[.slice a' n cap, .int .i64 0, .int .i64 0, .int .i64 0, .int .i64 0, .bool false, .int .i64 (-2), .slice none 0 0] 52)) w.heap.size (.slice a' n cap) (.slice none 0 0) 0 0 0 0 (-2) false := heap_alloc_new w _
    have HM0 := Lib.hid hM0
    have HB0 := Lib.hid (below_alloc w (.cells #[.slice a' n cap, .int .i64 0, .int .i64 0, .int .i64 0, .int .i64 0, .bool false, .int .i64 (-2), .slice none 0 0] 52))
    clear hM0
    refine (rNextRow _ _ _ _ _ _ _ _ _ _ HM0.out).mono ?_
    rintro e W0 ⟨rfl, hW0⟩
    have HM1 := Lib.hid (show RMt W0 w.heap.size (.slice a' n cap) (.slice none 0 0) (0 : Nat) (0 : Nat) (0 : Nat) (-1) (-2) true by rw [hW0]; exact ((HM0.out.set2 0).set4 (-1)).set5 true)
    have HBl0 := Lib.hid (show Below w.heap.size w W0 by rw [hW0]; exact bel_set (bel_set (bel_set HB0.out (Nat.le_refl _) 2 _) (Nat.le_refl _) 4 _) (Nat.le_refl _) 5 _)
    have HHr0 := Lib.hid (show Here L Tot w.heap.size (.slice a' n cap) W0 0 from Here.fresh HM1.out (World.ownsRow_nil _ _ _ _) HG0.out)
    clear HM0 HB0 hW0 HM1 HG0 hI
    go_wp2_with fail
    go_loopg [] n (fun gf wr => ∃ p : Nat, Hid (Here L Tot w.heap.size (.slice a' n cap) wr p) ∧ Hid (Below w.heap.size w wr) ∧ p ≤ n ∧ n ≤ p + gf)
    case atStart => exact ⟨0, HHr0, HBl0, Nat.zero_le _, by omega⟩
    case round =>
      obtain ⟨p, HHr, HBr, hpn, hgf⟩ := hrel
      obtain ⟨v1, row, l, st, hM, hO, hG, hc⟩ := HHr.out
      have c1 := hM.c.2.1
      have c2 := hM.c.2.2.1
      have c7 := hM.c.2.2.2.2.2.2.2
      clear HHr0 HBl0
      by_cases hlt : p < n
      · obtain ⟨g', rfl⟩ : ∃ g', gk = g' + 1 := ⟨gk - 1, by omega⟩
        have i1 : (p : Int) < (n : Int) := by omega
        rcases HH.out with h0 | ⟨b, off, rfl, hbw, hT, hcap, hcm⟩
        · omega
        have HT := Lib.hid (hT.low HBr.out hbw)
        have HM := Lib.hid (fun W (hb : Below wr.heap.size wr W) => hM.below hb)
        have HO := Lib.hid (fun W (hb : Below wr.heap.size wr W) => show Row W w.heap.size v1 l from own_below hO hb)
        have HBa := Lib.hid (fun W (hb : Below wr.heap.size wr W) => show Below w.heap.size w W from HBr.out.trans_lo (Nat.le_refl _) (hb.mono (Nat.le_of_lt hM.lt)))
        have HG := Lib.hid hG
        have HC := Lib.hid hc
        obtain ⟨F, hF⟩ : ∃ F, (st.col == 0) = F := ⟨_, rfl⟩
        have hff : ((p : Int) == (row : Int)) = F := by rw [← hF, Bool.eq_iff_iff]; simp; omega
        have HF := Lib.hid hF
        obtain ⟨mk, hmk⟩ : ∃ mk, (if F = true then Sc.markT (L.drop p) else 0) = mk := ⟨_, rfl⟩
        have HMk := Lib.hid hmk
        clear hM hO hG hc hT hF hmk c7 HHr
        go_upto_region 7 with fail
        go_cut [28] (fun q wx => q = .bool F ∧ Below wr.heap.size wr wx)
        case first =>
          cases F
          all_goals
            go_wp2_with fail
            go_big_quiet (fail)
            have hbq := below_drewN (Below.refl wr.heap.size wr) nq
            go_wp2_with fail
            go_meet
            exact ⟨rfl, hbq⟩
        case rest =>
        obtain ⟨rfl, hb1⟩ := hcut
        have c1 := at_below hb1 c1
        have HB1 := Lib.hid hb1
        clear hb1 hff c2
        generalize wc = W1 at *
        go_upto_if 28 with fail
        go_cut [4] (fun q wx => q = .int .i64 mk ∧ W1 = wx)
        case first =>
          cases F with
          | true =>
            have hmm := rMark (w := W1) (a := w.heap.size) (b := b) (off := off) (cap := cap) p HN.out hm hlt (HM.out W1 HB1.out).c.1 (HT.out.below HB1.out)
            rw [show Sc.markT (L.drop p) = mk by have := HMk.out; rw [if_pos rfl] at this; exact this] at hmm
            have HMm := Lib.hid hmm
            clear hmm
            go_wp2_with fail
            refine HMm.out.mono ?_
            rintro e w2 ⟨rfl, rfl⟩
            go_wp2_with fail
            go_meet
            exact ⟨rfl, rfl⟩
          | false =>
            have hm0 : mk = 0 := by have := HMk.out; rw [if_neg (by simp)] at this; exact this.symm
            have HM0 := Lib.hid hm0
            clear hm0
            go_wp2_with fail
            go_meet
            exact ⟨by rw [HM0.out]; rfl, rfl⟩
        case rest =>
        obtain ⟨rfl, rfl⟩ := hcut
        by_cases hmp : 0 < mk
        · have gm : (0 : Int) < (mk : Int) := by omega
          have hFt : F = true := by
            cases F with
            | true => rfl
            | false => have := HMk.out; rw [if_neg (by simp)] at this; omega
          have hmt : Sc.markT (L.drop p) = mk := by have := HMk.out; rw [if_pos hFt] at this; exact this
          have hk := markT_is (L.drop p)
          rw [hmt] at hk
          have hrn : Sc.rowN (L.drop p) ≠ 0 := by
            intro e
            have h1 := Sc.mark_len (Sc.rowL (L.drop p)) (by rw [Sc.mark_row, hmt]; exact hmp)
            rw [Sc.rowL_len] at h1
            omega
          have HNx := Lib.hid (show Sc.next st.op st.dash st.blank (st.col == 0) (Sc.rowL (L.drop p)) = (mk, 3) by rw [HF.out, hFt, next_mark _ _ _ _ (by rw [Sc.mark_row, hmt]; exact hmp), Sc.mark_row, hmt])
          have HRn := Lib.hid hrn
          have HOp := Lib.hid (show Sc.opens st.op mk = 0 by unfold Sc.opens; rw [if_neg (by omega), if_neg (by omega), if_pos (by omega)])
          have HK := Lib.hid (show mk ≠ 19 ∧ mk ≠ 18 by omega)
          have hon := HG.out.on hrn HNx.out
          have hrl := Sc.rowN_le (L.drop p)
          rw [List.length_drop, HN.out] at hrl
          have hp3 : p + 3 ≤ n := by have := hon.2.2; omega
          have HAd := Lib.hid (by
            have := rAdd mk (p + 3) st.col p row st.op st.base (st.least - 1) st.dash w.heap.size (.slice (some ⟨b, off, none⟩) n cap) v1 l W1 (HM.out W1 HB1.out) (HO.out W1 HB1.out) HC.out (by omega) (by omega) (by have := HG.out.len; omega) HG.out.base.1
            rw [show ((p + 3 : Nat) : Int) = (p : Int) + 3 from by omega] at this
            exact this)
          clear hon hrl hrn hk hmt hFt hmp
          go_wp2_with fail
          refine HAd.out.mono ?_
          rintro e w2 ⟨rfl, hA⟩
          have HA := Lib.hid hA
          obtain ⟨v2, base2, hM2, -, hB2, -⟩ := hA
          have c3 := hM2.c.2.2.2.1
          have f3 := hM2.f 3
          have HR := Lib.hid (show Here L Tot w.heap.size (.slice (some ⟨b, off, none⟩) n cap) (w2.setCell ⟨w.heap.size, 3, none⟩ (.int .i64 0)) (p + 3) from Here.on HG.out HRn.out HNx.out HC.out (HA.out.open_ 0 (by rw [HOp.out]; rfl)) HK.out.1 (by
            show _ = (if mk = 18 then (if st.base = -1 then (st.col : Int) else st.base + 1) else st.least) - 1
            rw [if_neg HK.out.2]))
          have HB2 := Lib.hid (bel_set ((HBa.out W1 HB1.out).trans hB2) (Nat.le_refl _) 3 (.int .i64 0))
          clear hM2 hB2 HA HAd
          go_wp2_with fail
          go_roundg g'
          case measure => omega
          case rel => exact ⟨p + 3, HR, HB2, hp3, by omega⟩
        · obtain rfl : mk = 0 := by omega
          have HSp := Lib.hid (rSpace w.heap.size b off cap n p row L Tot l v1 st W1 HN.out hm hbw hlt (HT.out.below HB1.out) (HM.out W1 HB1.out) (HO.out W1 HB1.out) HG.out HC.out (by
            intro hcz
            have := HMk.out
            rw [if_pos (by rw [← HF.out, hcz]; rfl)] at this
            exact this))
          have HBW := Lib.hid (HBa.out W1 HB1.out)
          go_wp2_with fail
          refine HSp.out.mono ?_
          rintro e w2 (⟨rfl, p', h1, h2, h3, h4⟩ | ⟨rfl, hb2, ⟨c, t, hd, hbr, hbl⟩, hnx⟩)
          · have HR := Lib.hid h1
            have HB2 := Lib.hid (HBW.out.trans h2)
            clear h1 h2 HSp
            go_wp2_with fail
            go_roundg g'
            case measure => omega
            case rel => exact ⟨p', HR, HB2, h4, by omega⟩
          · have HB2 := Lib.hid (HB1.out.trans (hb2.mono HB1.out.size))
            have HD := Lib.hid hd
            have HX := Lib.hid hnx
            have HBr2 := Lib.hid hbr
            have HBl2 := Lib.hid hbl
            have HBk := Lib.hid (rBracket w.heap.size b off cap n p row c t L Tot l v1 st w2 HN.out hm (HT.out.below HB2.out) hd hbr (HM.out w2 HB2.out) (HO.out w2 HB2.out) HG.out HC.out hnx)
            have HBW2 := Lib.hid (HBa.out w2 HB2.out)
            clear hb2 hd hbr hbl hnx HSp
            go_wp2_with fail
            refine HBk.out.mono ?_
            rintro e w3 (⟨rfl, p', h1, h2, h3, h4⟩ | ⟨rfl, hb3, q91, q123, q93, q125, q44⟩)
            · have HR := Lib.hid h1
              have HB3 := Lib.hid (HBW2.out.trans h2)
              clear h1 h2 HBk
              go_wp2_with fail
              go_roundg g'
              case measure => omega
              case rel => exact ⟨p', HR, HB3, h4, by omega⟩
            · have HB3 := Lib.hid (HB2.out.trans (hb3.mono HB2.out.size))
              have HWd := Lib.hid (rWord w.heap.size b off cap n p row c t L Tot l v1 st w3 HN.out hm hbw hcap hcm HLt.out (HT.out.below HB3.out) HD.out HBr2.out HBl2.out (HM.out w3 HB3.out) (HO.out w3 HB3.out) HG.out HC.out HX.out q91 q123 q93 q125 q44)
              have HBW3 := Lib.hid (HBa.out w3 HB3.out)
              clear hb3 q91 q123 q93 q125 q44 HBk
              go_wp2_with fail
              refine HWd.out.mono ?_
              rintro e w4 ⟨rfl, p', h1, h2, h3, h4⟩
              have HR := Lib.hid h1
              have HB4 := Lib.hid (HBW3.out.trans h2)
              clear h1 h2 HWd
              go_wp2_with fail
              go_roundg g'
              case measure => omega
              case rel => exact ⟨p', HR, HB4, h4, by omega⟩
      · have i1 : ¬ ((p : Int) < (n : Int)) := by omega
        have hTl : l = Tot := by
          have h := hG.tot
          rw [List.drop_eq_nil_of_le (by rw [HN.out]; omega), Sc.toksN_nil, List.append_nil] at h
          exact h
        have HD := Lib.hid (show Gives L w (.returned v1) wr from ⟨v1, rfl, by rw [HTo.out, ← hTl]; exact own_base hO (Nat.le_succ _), HBr.out⟩)
        clear hTl hM hO hG hc HHr HBr HTo c2
        go_wp2_with fail
        go_ret
        exact HD.out
end Go.Proofs.Ytmlpaafclobgcaa
