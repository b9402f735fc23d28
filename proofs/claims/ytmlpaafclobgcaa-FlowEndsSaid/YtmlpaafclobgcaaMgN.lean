/- Several texts in one: Aid11 Aidk Aidv. -/
import Derived.Test.YtmlpaafclobgcaaMgM
import Derived.Test.YtmlpaafclobgcaaMd
import Derived.Test.YtmlpaafclobgcaaConv
import Derived.Test.YtmlpaafclobgcaaTkq
import Derived.Test.YtmlpaafclobgcaaMgD
import Derived.Lib.SlBytesConst
import Derived.Test.YtmlpaafclobgcaaMgC
/- The statements' own small functions (correctorlaw11.known, within). -/
namespace Go.Proofs.Ytmlpaafclobgcaa
open Go.RowKit
open Go.Proofs.Ytmlpaafclobgcaa.Sg
open Go.Proofs.Ytmlpaafclobgcaa.Sq
open Go.Proofs.Ytmlpaafclobgcaa.Ar
set_option linter.unusedVariables false

/-- The bytes of a short row that was just laid. -/
theorem bys_laid (w : World) (l : List UInt8) (C : Array Value) (n : Nat) (fr : Nat × Nat) (hn : l.length = n) (hl : n ≤ 1000) (hC : C = (l.map fun (x : UInt8) => Value.int .u8 (x.toNat : Int)).toArray) : Bys (w.alloc (.cells C 5 fr)) (.slice (some ⟨w.heap.size, 0, none⟩) n n) ⟨l.toArray⟩ := by
  subst hC
  refine .inr ⟨w.heap.size, 0, n, by rw [size_at, hn], by rw [size_at, hn]; exact Nat.le_refl _, by simp only [maxLen]; omega, fun j hj => ?_⟩
  rw [size_at] at hj
  rw [World.cell?_alloc_mark, Sg.get_at, List.getElem?_toArray, List.getElem?_map, Nat.zero_add, List.getElem?_eq_getElem hj, List.getD_eq_getElem?_getD, List.getElem?_eq_getElem hj]
  rfl
/-- A value read on a new tree. -/
theorem fNewVal (bv v tv : Value) (l : List Tk) (N : Nat) (at' d : Nat) (w : World) (hN : l.length = N) (hl : Reads encT w v l) (hls : N ≤ 32768) (hTok : TokOk l) (hn : Nodes w tv (newN N)) (hpe : at' ≤ N) (hd : d ≤ 50) :
    Calls Try.prog 12 #[bv, v, .agg #[tv], .int .i64 (0 : Int), .int .i64 (at' : Int), .int .i64 (N : Int), .int .i64 (d : Int)] w (Flowed (Fl.valN l N d 0 at' ⟨newN N, []⟩) w) := by
  subst hN
  have e : newN (l.length : Int) = [⟨1, 0, l.length, -1, [], false⟩] := by unfold newN; rw [if_neg (by omega)]
  refine fFlow bv v tv l (newN l.length) 0 at' d (l.length : Int) 0 w hl (by omega) hTok hn (ck_new _ (by omega) (by omega)) (Fl.fits_new _ _ (by omega) (by omega) (by omega)) (by omega) hpe (Int.le_refl _) ?_ ?_ hd
  · rw [e]; simp
  · rw [e]; intro x hx; rw [List.mem_singleton] at hx; subst hx; simp
set_option maxHeartbeats 400000 in
theorem within_any (x n : Int) (w : World) (h1 : 1 ≤ n) (h2 : n ≤ 100000) :
    Calls Try.prog 11 #[.int .i64 x, .int .i64 n] w fun e w' => e = .returned (.int .i64 (wit x n)) ∧ w = w' := by
  have hb1 := Int.tmod_lt_of_pos x (show 0 < n by omega)
  have hb2 : -n < x.tmod n := by
    have := Int.tmod_lt_of_pos (-x) (show 0 < n by omega)
    rw [Int.neg_tmod] at this
    omega
  have hz : (n == 0) = false := by simp; omega
  have hn1 : n ≠ 0 := by omega
  unfold wit
  by_cases hc : x.tmod n < 0
  · rw [if_pos hc]
    go_enter Try.func11, Try.ntmps11
    go_wp2
    go_ret
    exact ⟨rfl, rfl⟩
  · rw [if_neg hc]
    go_enter Try.func11, Try.ntmps11
    go_wp2
    go_ret
    exact ⟨rfl, rfl⟩
theorem within_nat (x : Int) (n : Nat) (h1 : 1 ≤ n) (h2 : n ≤ 100000) : ∃ k : Nat, k < n ∧ (wit x n = (k : Int)) ∧ ∀ w : World, Calls Try.prog 11 #[.int .i64 x, .int .i64 (n : Int)] w fun e w' => e = .returned (.int .i64 (k : Int)) ∧ w = w' := by
  have hb := wit_bd x n (by omega)
  refine ⟨(wit x n).toNat, by omega, by omega, fun w => ?_⟩
  have := within_any x n w (by omega) (by omega)
  rw [show ((wit x n).toNat : Int) = wit x n from by omega]
  exact this
abbrev knownL : List Tk := Sc.tokens [91, 97, 44, 32, 98, 58, 32, 99, 93]
abbrev knownR : Int × Nat × Fl.St := Fl.valN knownL 9 5 0 0 ⟨newN (9 : Int), []⟩
theorem known_toks : knownL.length = 9 ∧ knownR.1 = 1 ∧ knownR.2.1 = 9 ∧ knownR.2.2.d.length = 0 ∧ knownR.2.2.t.length = 6 ∧ (knownR.2.2.t[1]?.map Nd.k) = some 9 ∧ (knownR.2.2.t[3]?.map Nd.k) = some 6 := by decide +kernel
end Go.Proofs.Ytmlpaafclobgcaa

/- correctorlaw11.known answers true. -/
namespace Go.Proofs.Ytmlpaafclobgcaa
open Go.RowKit
open Go.Proofs.Ytmlpaafclobgcaa.Sg
open Go.Proofs.Ytmlpaafclobgcaa.Sq
open Go.Proofs.Ytmlpaafclobgcaa.Ar
set_option linter.unusedVariables false

set_option maxHeartbeats 2000000 in
set_option maxRecDepth 100000 in
theorem known_true (w : World) :
    Calls Try.prog 8 #[] w fun e w' => e = .returned (.bool true) ∧ Below w.heap.size w w' := by
  have HQ := Lib.hid (fun w' => show Below w.heap.size w w' → (fun e (w' : World) => e = Ending.returned (.bool true) ∧ Below w.heap.size w w') (.returned (.bool true)) w' from fun h => ⟨rfl, h⟩)
  obtain ⟨Q, hQ⟩ : ∃ Q, (fun e (w' : World) => e = Ending.returned (.bool true) ∧ Below w.heap.size w w') = Q := ⟨_, rfl⟩
  rw [hQ] at HQ ⊢
  have hB := bys_laid w [91, 97, 44, 32, 98, 58, 32, 99, 93] #[.int .u8 91, .int .u8 97, .int .u8 44, .int .u8 32, .int .u8 98, .int .u8 58, .int .u8 32, .int .u8 99, .int .u8 93] 9 (9, 10) rfl (by decide) rfl
  have hA := below_alloc w (.cells #[.int .u8 91, .int .u8 97, .int .u8 44, .int .u8 32, .int .u8 98, .int .u8 58, .int .u8 32, .int .u8 99, .int .u8 93] 5 (9, 10))
  have hTk := rTokens _ _ _ hB
  rw [show Sc.nats ⟨([91, 97, 44, 32, 98, 58, 32, 99, 93] : List UInt8).toArray⟩ = [91, 97, 44, 32, 98, 58, 32, 99, 93] from rfl] at hTk
  have hOk : TokOk (Sc.tokens [91, 97, 44, 32, 98, 58, 32, 99, 93]) := toks_ok _ (by unfold Tame; decide)
  have hk := known_toks
  unfold knownR knownL at hk
  obtain ⟨T, hT⟩ : ∃ T, Sc.tokens [91, 97, 44, 32, 98, 58, 32, 99, 93] = T := ⟨_, rfl⟩
  have HRd := Lib.hid (fun e w' (h : Gives [91, 97, 44, 32, 98, 58, 32, 99, 93] (w.alloc (.cells #[.int .u8 91, .int .u8 97, .int .u8 44, .int .u8 32, .int .u8 98, .int .u8 58, .int .u8 32, .int .u8 99, .int .u8 93] 5 (9, 10))) e w') => h.read)
  rw [hT] at hk hOk HRd
  obtain ⟨R, hR⟩ : ∃ R, Fl.valN T 9 5 0 0 ⟨newN (9 : Int), []⟩ = R := ⟨_, rfl⟩
  rw [hR] at hk
  obtain ⟨k1, k2, k3, k4, k5, k6, k7⟩ := hk
  rw [k1] at HRd
  have HTk := Lib.hid hTk
  have HA := Lib.hid hA
  have HOk := Lib.hid hOk
  have HVal := Lib.hid (fun bv v tv W (h1 : Reads encT W v T) (h2 : Nodes W tv (newN (9 : Nat))) => fNewVal bv v tv T 9 0 5 W k1 h1 (by omega) hOk h2 (by omega) (by omega))
  rw [show ((9 : Nat) : Int) = 9 from rfl, show ((5 : Nat) : Int) = 5 from rfl, show ((0 : Nat) : Int) = 0 from rfl, hR] at HVal
  have K2 := Lib.hid k2
  have K3 := Lib.hid k3
  have K4 := Lib.hid k4
  have K5 := Lib.hid k5
  have K6 := Lib.hid k6
  have K7 := Lib.hid k7
  have hcs := Lib.run_convert_bytes_const (P := Try.prog) w 24 5 #[.int .u8 91, .int .u8 97, .int .u8 44, .int .u8 32, .int .u8 98, .int .u8 58, .int .u8 32, .int .u8 99, .int .u8 93] 9 9 Try.underlying24 Try.underlying5
  clear hB hTk hA hOk k1 k2 k3 k4 k5 k6 k7 hT hR hQ
  go_enter Try.func8, Try.ntmps8
  go_wp2_with fail
  refine HTk.out.mono ?_
  intro e w1 hg
  obtain ⟨a, cap, rfl, hR, hb⟩ := HRd.out _ _ hg
  have HR := Lib.hid hR
  have HB1 := Lib.hid (below_from HA.out hb)
  clear hR hg hb
  go_wp2_with fail
  refine (aNew 9 w1).mono ?_
  rintro e w2 ⟨u, rfl, hn, -, hb2⟩
  have HV := Lib.hid (fun bv => HVal.out bv _ u w2 (HR.out.below hb2) hn)
  have HB2 := Lib.hid (below_from HB1.out hb2)
  clear hn hb2
  go_wp2_with fail
  refine (HV.out _).mono ?_
  rintro e w3 ⟨z, dv, rfl, hn3, hd3, hb3⟩
  obtain ⟨za, zc, rfl⟩ := hn3.shape
  obtain ⟨da, dc, rfl⟩ := hd3.shape
  rw [K4.out, K5.out, K2.out, K3.out]
  rw [K5.out] at hn3
  have HB3 := Lib.hid (below_from HB2.out hb3)
  have g1 : ∃ x, R.2.2.t[1]? = some x ∧ x.k = 9 := by
    have := K6.out
    cases h : R.2.2.t[1]? with
    | none => rw [h] at this; cases this
    | some x => rw [h] at this; exact ⟨x, rfl, by simpa using this⟩
  have g3 : ∃ x, R.2.2.t[3]? = some x ∧ x.k = 6 := by
    have := K7.out
    cases h : R.2.2.t[3]? with
    | none => rw [h] at this; cases this
    | some x => rw [h] at this; exact ⟨x, rfl, by simpa using this⟩
  obtain ⟨x1, hx1, e1⟩ := g1
  obtain ⟨x3, hx3, e3⟩ := g3
  rw [show (6 : Nat) = R.2.2.t.length from K5.out.symm] at hn3
  obtain ⟨b, off, ka, kc, rfl, q1, -⟩ := hn3.at_ 1 x1 hx1
  obtain ⟨b', off', ka', kc', h4, q3, -⟩ := hn3.at_ 3 x3 hx3
  injection h4 with h4
  injection h4 with h5 h6
  subst h5 h6
  rw [e1] at q1
  rw [e3] at q3
  have hlt : b < w3.heap.size := lt_of_cell q1
  clear hx1 hx3 e1 e3 hn3 hd3 hb3 HV HVal HR HTk HA
  have q1 := at_alloc (o := .cells #[.slice (some ⟨b, off, none⟩) 6 zc] 31) q1
  have q3 := at_alloc (o := .cells #[.slice (some ⟨b, off, none⟩) 6 zc] 31) q3
  have m1 : (w3.alloc (.cells #[.slice (some ⟨b, off, none⟩) 6 zc] 31)).cell? ⟨w3.heap.size, 0, none⟩ = some (.slice (some ⟨b, off, none⟩) 6 zc) := at_new rfl
  have HD := Lib.hid (HQ.out _ (below_from HB3.out (below_alloc w3 (.cells #[.slice (some ⟨b, off, none⟩) 6 zc] 31))))
  clear hlt hcs
  go_upto_region 4 with fail
  generalize w3.alloc (.cells #[.slice (some ⟨b, off, none⟩) 6 zc] 31) = W4 at *
  go_wp2_with fail
  try simp only [Exit.jump]
  exact HD.out
end Go.Proofs.Ytmlpaafclobgcaa

/- correctorlaw11.value: a text's value, read at its beginning. -/
namespace Go.Proofs.Ytmlpaafclobgcaa
open Go.RowKit
open Go.Proofs.Ytmlpaafclobgcaa.Sg
open Go.Proofs.Ytmlpaafclobgcaa.Sq
open Go.Proofs.Ytmlpaafclobgcaa.Ar
set_option linter.unusedVariables false

theorem froz_below {W W' : World} {b o : Nat} {u : Value} (hb : Below W.heap.size W W') (h : W.cell? ⟨b, o, none⟩ = some u) (hf : W.frozen? ⟨b, o, none⟩ = false) : W'.frozen? ⟨b, o, none⟩ = false := by
  rw [(bcell hb).2 b o (lt_of_cell h)]; exact hf
theorem reads_set {W : World} {tb : Nat} {a : Option Addr} {n c : Nat} {u : Value} {l : List Fl.Dg} (h : Reads encD W u l) (hc : W.cell? ⟨tb, 0, none⟩ = some (.slice a n c)) (v : Value) : Reads encD (W.setCell ⟨tb, 0, none⟩ v) u l := by
  rcases h with h2 | ⟨b, off, cap, e1, e2, e3, e4⟩
  · exact .inl h2
  · refine .inr ⟨b, off, cap, e1, e2, e3, fun j x hj i w hw => set_keeps hc v _ _ (e4 j x hj i w hw) (fun e a n c => ?_)⟩
    have h0 : off + j * encD.k + i = 0 := by injection e
    have hi : i = 0 := by omega
    subst hi
    have hx : (encD.cells x)[0]? = some (.int .i64 x.code) := rfl
    rw [hx] at hw
    obtain rfl := Option.some.inj hw
    intro e; cases e
/-- What value hands back. -/
def Valued (T : List Tk) (w : World) (e : Ending) (w' : World) : Prop :=
  ∃ u dv, e = .returned (.tuple #[.agg #[u], .int .i64 (Fl.valN T T.length 9 0 0 ⟨newN T.length, []⟩).1, .int .i64 ((Fl.valN T T.length 9 0 0 ⟨newN T.length, []⟩).2.1 : Nat), dv, .int .i64 (T.length : Int)]) ∧ Nodes w' u (Fl.valN T T.length 9 0 0 ⟨newN T.length, []⟩).2.2.t ∧ Reads encD w' dv (Fl.valN T T.length 9 0 0 ⟨newN T.length, []⟩).2.2.d ∧ Below w.heap.size w w'
set_option maxHeartbeats 2000000 in
set_option maxRecDepth 100000 in
theorem value_is (s : ByteArray) (w : World) (hs : s.size ≤ 10000) (hL : Tame (Sc.nats s)) :
    Calls Try.prog 15 #[.string s] w (Valued (Sc.tokens (Sc.nats s)) w) := by
  obtain ⟨wA, hwA⟩ : ∃ wA, w.alloc (.cells #[.slice none 0 0] 31) = wA := ⟨_, rfl⟩
  have hbA : Below w.heap.size w wA := by rw [← hwA]; exact below_alloc w _
  have hcA : wA.cell? ⟨w.heap.size, 0, none⟩ = some (.slice none 0 0) := by rw [← hwA]; exact at_new rfl
  have hfA : wA.frozen? ⟨w.heap.size, 0, none⟩ = false := by rw [← hwA]; exact World.frozen?_alloc_new w #[.slice none 0 0] _ _
  obtain ⟨cap0, w1, hcv, hrow, hb1⟩ := conv_str s wA (by unfold maxLen; omega)
  have hTk := rTokens _ _ _ hrow.bys
  have hOk := toks_ok _ hL
  have hln : (Sc.tokens (Sc.nats s)).length ≤ 10000 := by have := tokens_len (Sc.nats s); have h2 := Sc.nats_len s; omega
  have HRd := Lib.hid (fun e w' (h : Gives (Sc.nats s) w1 e w') => h.read)
  obtain ⟨T, hT⟩ : ∃ T, Sc.tokens (Sc.nats s) = T := ⟨_, rfl⟩
  rw [hT] at hOk hln HRd ⊢
  obtain ⟨R, hR⟩ : ∃ R, Fl.valN T T.length 9 0 0 ⟨newN T.length, []⟩ = R := ⟨_, rfl⟩
  obtain ⟨N, hN⟩ : ∃ N, T.length = N := ⟨_, rfl⟩
  have hR2 := hR
  rw [hN] at hR2
  have HQ := Lib.hid (fun u dv w' (h1 : Nodes w' u R.2.2.t) (h2 : Reads encD w' dv R.2.2.d) (h3 : Below w.heap.size w w') => show Valued T w (.returned (.tuple #[.agg #[u], .int .i64 R.1, .int .i64 (R.2.1 : Nat), dv, .int .i64 (N : Int)])) w' from by unfold Valued; rw [hR, hN]; exact ⟨u, dv, rfl, h1, h2, h3⟩)
  obtain ⟨Q, hQ⟩ : ∃ Q, Valued T w = Q := ⟨_, rfl⟩
  rw [hQ] at HQ ⊢
  have HVal := Lib.hid (fun bv v tv W (h1 : Reads encT W v T) (h2 : Nodes W tv (newN N)) => fNewVal bv v tv T N 0 9 W hN h1 (by omega) hOk h2 (by omega) (by omega))
  rw [show ((9 : Nat) : Int) = 9 from rfl, show ((0 : Nat) : Int) = 0 from rfl, hR2] at HVal
  rw [hN] at HRd
  have HTk := Lib.hid hTk
  have HB0 := Lib.hid (below_from hbA hb1)
  have HWA := Lib.hid hwA
  have HKA := Lib.hid (fun W (hb : Below wA.heap.size wA W) => (⟨at_below hb hcA, froz_below hb hcA hfA⟩ : W.cell? ⟨w.heap.size, 0, none⟩ = some (.slice none 0 0) ∧ W.frozen? ⟨w.heap.size, 0, none⟩ = false))
  have HB1 := Lib.hid hb1
  clear hTk hOk hT hR hR2 hQ hrow hb1 hL hs hln hN hbA hcA hfA hwA
  go_enter Try.func15, Try.ntmps15
  go_upto_region 1 with fail
  rw [HWA.out]
  clear HWA
  go_wp2_with fail
  refine HTk.out.mono ?_
  intro e w2 hg
  obtain ⟨a, cap, rfl, hR, hb2⟩ := HRd.out _ _ hg
  have HR := Lib.hid hR
  have HB2 := Lib.hid (below_from HB0.out hb2)
  have HB1b := Lib.hid (below_from HB1.out hb2)
  clear hR hg hb2 hcv
  go_wp2_with fail
  refine (aNew N w2).mono ?_
  rintro e w3 ⟨u, rfl, hn, -, hb3⟩
  have HV := Lib.hid (fun bv => HVal.out bv _ u w3 (HR.out.below hb3) hn)
  have HB3 := Lib.hid (below_from HB2.out hb3)
  have HB1c := Lib.hid (below_from HB1b.out hb3)
  clear hn hb3
  go_wp2_with fail
  refine (HV.out _).mono ?_
  rintro e w4 ⟨z, dv, rfl, hn3, hd3, hb4⟩
  obtain ⟨za, zc, rfl⟩ := hn3.shape
  obtain ⟨da, dc, rfl⟩ := hd3.shape
  obtain ⟨RN, hRN⟩ : ∃ RN, R.2.2.t.length = RN := ⟨_, rfl⟩
  obtain ⟨RD, hRD⟩ : ∃ RD, R.2.2.d.length = RD := ⟨_, rfl⟩
  rw [hRN] at hn3 ⊢
  rw [hRD] at hd3 ⊢
  have HB4 := Lib.hid (below_from HB3.out hb4)
  obtain ⟨c1, f1⟩ := HKA.out w4 (below_from HB1c.out hb4)
  obtain ⟨w5, hw5⟩ : ∃ w5, w4.alloc (.cells #[.slice za RN zc] 31) = w5 := ⟨_, rfl⟩
  have c2 : w5.cell? ⟨w4.heap.size, 0, none⟩ = some (.slice za RN zc) := by rw [← hw5]; exact at_new rfl
  have c3 : w5.cell? ⟨w.heap.size, 0, none⟩ = some (.slice none 0 0) := by rw [← hw5]; exact at_alloc c1
  have f3 : w5.frozen? ⟨w.heap.size, 0, none⟩ = false := by rw [← hw5]; exact froz_below (below_alloc w4 _) c1 f1
  have hb5 : Below w4.heap.size w4 w5 := by rw [← hw5]; exact below_alloc w4 _
  have c4 : (w5.setCell ⟨w.heap.size, 0, none⟩ (.slice za RN zc)).cell? ⟨w.heap.size, 0, none⟩ = some (.slice za RN zc) := cell_set_eq _ _ _ (by rw [c3]; rfl)
  have HD := Lib.hid (HQ.out (.slice za RN zc) (.slice da RD dc) (w5.setCell ⟨w.heap.size, 0, none⟩ (.slice za RN zc)) ((hn3.below hb5).set c3 _) (reads_set (hd3.below hb5) c3 _) ((below_from HB4.out hb5).setCell (p := ⟨w.heap.size, 0, none⟩) (Nat.le_refl _) _))
  have HW5 := Lib.hid hw5
  clear hRN hRD hn3 hd3 hb4 hw5 c1 f1 hb5
  go_upto_region 4 with fail
  rw [HW5.out]
  clear HW5
  go_wp2_with fail
  refine bodyPost_ret (v := .tuple #[.agg #[.slice za RN zc], .int .i64 R.1, .int .i64 (R.2.1 : Nat), .slice da RD dc, .int .i64 (N : Int)]) ?_ rfl HD.out
  simp [results, Try.results15, go_sem, c4]
end Go.Proofs.Ytmlpaafclobgcaa
