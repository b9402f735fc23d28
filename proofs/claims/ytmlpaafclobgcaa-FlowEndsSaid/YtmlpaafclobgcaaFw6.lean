/- Package flow: collection. (Written by tools/gen_fw6.py.) -/
import Derived.Test.YtmlpaafclobgcaaMgK
import Derived.Test.YtmlpaafclobgcaaQt
import Derived.Test.YtmlpaafclobgcaaSj
namespace Go.Proofs.Ytmlpaafclobgcaa
open Go.RowKit
open Go.Proofs.Ytmlpaafclobgcaa.Sq
open Go.Proofs.Ytmlpaafclobgcaa.Ar
open Go.Proofs.Ytmlpaafclobgcaa.Fl (kx)
set_option linter.unusedVariables false

def blkOf : Value → Nat
  | .pointer (some a) => a.block
  | _ => 0
theorem tmps_is (t : Array Value) (n : Nat) (h : t.size = n) : t = ((List.range n).map (fun k => t.getD k undef)).toArray := by
  subst h
  apply Array.ext
  · simp
  · intro i h1 h2
    simp [Array.getD, h1]
/-- What the slots hold where the label stands. -/
def LiveC (rb i0 op d b5 KS OW b13 b14 : Nat) (up : Int) (f : Bool) (a : Act) : Prop :=
  a.defers = [] ∧ a.tmps.size = 99 ∧ a.tmps.getD 0 undef = RP rb ∧ a.tmps.getD 1 undef = .int .i64 up ∧ a.tmps.getD 2 undef = .int .i64 i0 ∧ a.tmps.getD 3 undef = .int .i64 op ∧ a.tmps.getD 4 undef = .int .i64 ((d : Int) + 1) ∧ a.tmps.getD 5 undef = .pointer (some ⟨b5, 0, none⟩) ∧ a.tmps.getD 6 undef = undef ∧ a.tmps.getD 7 undef = undef ∧ a.tmps.getD 8 undef = undef ∧ a.tmps.getD 9 undef = undef ∧ a.tmps.getD 11 undef = .int .i64 KS ∧ a.tmps.getD 12 undef = .int .i64 OW ∧ a.tmps.getD 13 undef = .pointer (some ⟨b13, 0, none⟩) ∧ a.tmps.getD 14 undef = .pointer (some ⟨b14, 0, none⟩) ∧ a.tmps.getD 15 undef = .bool f ∧ a.tmps.getD 16 undef = .func (.func 62) #[] #[.pointer (some ⟨b5, 0, none⟩), .pointer (some ⟨b13, 0, none⟩), .pointer (some ⟨b14, 0, none⟩)]
theorem LiveC.is {rb i0 op d b5 KS OW b13 b14 : Nat} {up : Int} {f : Bool} {a : Act} (h : LiveC rb i0 op d b5 KS OW b13 b14 up f a) : ∃ u : Nat → Value, a = { tmps := #[RP rb, .int .i64 up, .int .i64 i0, .int .i64 op, .int .i64 ((d : Int) + 1), .pointer (some ⟨b5, 0, none⟩), undef, undef, undef, undef, u 10, .int .i64 KS, .int .i64 OW, .pointer (some ⟨b13, 0, none⟩), .pointer (some ⟨b14, 0, none⟩), .bool f, .func (.func 62) #[] #[.pointer (some ⟨b5, 0, none⟩), .pointer (some ⟨b13, 0, none⟩), .pointer (some ⟨b14, 0, none⟩)], u 17, u 18, u 19, u 20, u 21, u 22, u 23, u 24, u 25, u 26, u 27, u 28, u 29, u 30, u 31, u 32, u 33, u 34, u 35, u 36, u 37, u 38, u 39, u 40, u 41, u 42, u 43, u 44, u 45, u 46, u 47, u 48, u 49, u 50, u 51, u 52, u 53, u 54, u 55, u 56, u 57, u 58, u 59, u 60, u 61, u 62, u 63, u 64, u 65, u 66, u 67, u 68, u 69, u 70, u 71, u 72, u 73, u 74, u 75, u 76, u 77, u 78, u 79, u 80, u 81, u 82, u 83, u 84, u 85, u 86, u 87, u 88, u 89, u 90, u 91, u 92, u 93, u 94, u 95, u 96, u 97, u 98], defers := [] } := by
  obtain ⟨t, d⟩ := a
  obtain ⟨h1, h2, g0, g1, g2, g3, g4, g5, g6, g7, g8, g9, g11, g12, g13, g14, g15, g16⟩ := h
  dsimp only at h1 h2 g0 g1 g2 g3 g4 g5 g6 g7 g8 g9 g11 g12 g13 g14 g15 g16
  subst h1
  refine ⟨fun k => t.getD k undef, ?_⟩
  have h3 := tmps_is t 99 h2
  have h4 : (List.range 99).map (fun k => t.getD k undef) = [t.getD 0 undef, t.getD 1 undef, t.getD 2 undef, t.getD 3 undef, t.getD 4 undef, t.getD 5 undef, t.getD 6 undef, t.getD 7 undef, t.getD 8 undef, t.getD 9 undef, t.getD 10 undef, t.getD 11 undef, t.getD 12 undef, t.getD 13 undef, t.getD 14 undef, t.getD 15 undef, t.getD 16 undef, t.getD 17 undef, t.getD 18 undef, t.getD 19 undef, t.getD 20 undef, t.getD 21 undef, t.getD 22 undef, t.getD 23 undef, t.getD 24 undef, t.getD 25 undef, t.getD 26 undef, t.getD 27 undef, t.getD 28 undef, t.getD 29 undef, t.getD 30 undef, t.getD 31 undef, t.getD 32 undef, t.getD 33 undef, t.getD 34 undef, t.getD 35 undef, t.getD 36 undef, t.getD 37 undef, t.getD 38 undef, t.getD 39 undef, t.getD 40 undef, t.getD 41 undef, t.getD 42 undef, t.getD 43 undef, t.getD 44 undef, t.getD 45 undef, t.getD 46 undef, t.getD 47 undef, t.getD 48 undef, t.getD 49 undef, t.getD 50 undef, t.getD 51 undef, t.getD 52 undef, t.getD 53 undef, t.getD 54 undef, t.getD 55 undef, t.getD 56 undef, t.getD 57 undef, t.getD 58 undef, t.getD 59 undef, t.getD 60 undef, t.getD 61 undef, t.getD 62 undef, t.getD 63 undef, t.getD 64 undef, t.getD 65 undef, t.getD 66 undef, t.getD 67 undef, t.getD 68 undef, t.getD 69 undef, t.getD 70 undef, t.getD 71 undef, t.getD 72 undef, t.getD 73 undef, t.getD 74 undef, t.getD 75 undef, t.getD 76 undef, t.getD 77 undef, t.getD 78 undef, t.getD 79 undef, t.getD 80 undef, t.getD 81 undef, t.getD 82 undef, t.getD 83 undef, t.getD 84 undef, t.getD 85 undef, t.getD 86 undef, t.getD 87 undef, t.getD 88 undef, t.getD 89 undef, t.getD 90 undef, t.getD 91 undef, t.getD 92 undef, t.getD 93 undef, t.getD 94 undef, t.getD 95 undef, t.getD 96 undef, t.getD 97 undef, t.getD 98 undef] := rfl
  rw [h4, g0, g1, g2, g3, g4, g5, g6, g7, g8, g9, g11, g12, g13, g14, g15, g16] at h3
  exact congrArg (fun t => ({ tmps := t, defers := [] } : Act)) h3
theorem RT.drew {w : World} {rb : Nat} {tv : Value} {l : List Tk} (h : RT w rb tv l) : RT w.drew rb tv l := ⟨h.cell, h.reads.below (Below.refl _ w).drew, h.size⟩
set_option maxHeartbeats 16000000 in
set_option maxRecDepth 100000 in
theorem fCollection (w0 w : World) (rb : Nat) (tv : Value) (l : List Tk) (d : Nat) (s0 : Fl.PSt) (R0 : Nat → Prop) (hV : ValH w0 rb tv l d) (hT : TokOk l) (up : Int) (i0 op : Nat) (hS : RS w0 w rb tv l s0 R0) (hu1 : -1 ≤ up) (hu2 : up < s0.q.length) (hz : Sz l s0 op (d + 1)) (hop : op < l.length) (hk : Fl.raw l op = 8 ∨ Fl.raw l op = 9) (hds : d ≤ 1000) :
    Calls Try.prog 48 #[RP rb, .int .i64 up, .int .i64 i0, .int .i64 op, .int .i64 (d + 1 : Nat)] w
      (Goes w0 w rb tv l R0 (.int .i64 (Fl.pcolF l l.length (Fl.pvalN l l.length d) s0.q.length op (l.length - op) (op + 1) false ⟨Fl.qPut s0.q up (if Fl.raw l op = 9 then 10 else 9) i0, s0.d⟩).1)
        (Fl.pcolF l l.length (Fl.pvalN l l.length d) s0.q.length op (l.length - op) (op + 1) false ⟨Fl.qPut s0.q up (if Fl.raw l op = 9 then 10 else 9) i0, s0.d⟩).2) := by
  obtain ⟨KS, hKS⟩ : ∃ KS : Nat, (if Fl.raw l op = 9 then 10 else 9) = KS := ⟨_, rfl⟩
  obtain ⟨OW, hOW⟩ : ∃ OW : Nat, (if Fl.raw l op = 9 then 11 else 10) = OW := ⟨_, rfl⟩
  have hOW2 : OW = 10 ∨ OW = 11 := by rw [← hOW]; split <;> omega
  rw [hKS]
  obtain ⟨RES, hRES⟩ : ∃ RES, Fl.pcolF l l.length (Fl.pvalN l l.length d) s0.q.length op (l.length - op) (op + 1) false ⟨Fl.qPut s0.q up KS i0, s0.d⟩ = RES := ⟨_, rfl⟩
  rw [hRES]
  have hls := hS.rt.size
  have hcop : Fl.cnt (Fl.raw l op) = true := by rcases hk with h | h <;> rw [h] <;> rfl
  have HOW := Lib.hid hOW
  have HOW2 := Lib.hid hOW2
  have HTok := Lib.hid hT
  have HVh := Lib.hid hV
  have hopN : op < 100000 := by omega
  obtain ⟨n, hn⟩ : ∃ n, s0.q.length = n := ⟨_, rfl⟩
  -- the beginning
  have HBeg := Lib.hid (fun (w1 w2 W : World) (R1 : Nat → Prop) (b5 b13 b14 : Nat) (h1 : w1 = w.alloc (.cells #[RP rb] 71)) (h5 : b5 = w.heap.size) (h13 : b13 = w2.heap.size) (h14 : b14 = w2.heap.size + 1)
      (hS1 : RS w0 w2 rb tv l ⟨Fl.qPut s0.q up KS i0, s0.d⟩ R1) (hF1 : FP w1 w2 rb R0 R1) (hW : W = (w2.alloc (.cells #[.int .i64 (n : Int)] 3)).alloc (.cells #[.int .i64 (op + 1 : Nat)] 3)) =>
    show Col w0 w W rb tv l R0 b5 b13 b14 n op d RES (op + 1) false ⟨Fl.qPut s0.q up KS i0, s0.d⟩ R1 from by
      have hb1 : Below w.heap.size w w1 := by rw [h1]; exact below_alloc w _
      have hb2 : Below w2.heap.size w2 W := by rw [hW]; exact below_allocS (below_alloc w2 _) _
      have hF2 : FP w w2 rb R0 R1 := (FP.below hb1).trans hF1
      have hs1 : w1.heap.size = w.heap.size + 1 := by rw [h1]; exact size_alloc _ _
      have hsz := hF1.size
      have hlt := hS1.lt
      have k5 : Cap w1 b5 (RP rb) 71 := by rw [h5, h1]; exact heap_alloc_new _ _
      have n5 : ¬ R0 b5 := fun h => by have := (hS.rows h).2.1; omega
      have r5 : b5 ≠ rb := by have := hS.lt.2; omega
      obtain ⟨q5, m5⟩ := k5.fp hF1 r5 n5
      have k13 : Cap (w2.alloc (.cells #[.int .i64 (n : Int)] 3)) b13 (.int .i64 n) 3 := by rw [h13]; exact heap_alloc_new _ _
      have k13' : Cap W b13 (.int .i64 n) 3 := by rw [hW]; exact ((below_alloc _ _).block b13 k13.lt).trans k13
      have k14 : Cap W b14 (.int .i64 (op + 1 : Nat)) 3 := by
        rw [hW, h14]
        have := heap_alloc_new (w2.alloc (.cells #[.int .i64 (n : Int)] 3)) (.cells #[.int .i64 (op + 1 : Nat)] 3)
        rw [size_alloc] at this
        exact this
      have hw0 := hS1.bel.size
      refine ⟨hS1.below hb2, hF2.trans (FP.below hb2), ⟨(hb2.block b5 q5.lt).trans q5, k13', k14, m5, fun h => by have := (hS1.rows h).2.1; omega, fun h => by have := (hS1.rows h).2.1; omega, r5, by omega, by omega, ?_, by omega⟩, by omega, by omega, ⟨l.length - op, by omega, by rw [← hn]; exact hRES⟩, ?_, ?_, Fl.kb_put hz.kb up KS i0 hu2, ⟨_, by rw [← hn]; exact Fl.qPut_new s0.q up KS i0 hu2, ?_⟩, by omega, by omega, by rw [Nat.add_sub_cancel]; exact hcop⟩
      · have := q5.lt; omega
      · show (Fl.qPut s0.q up KS i0).length + _ + _ ≤ _; rw [Fl.qPut_len]; have := hz.q; omega
      · show s0.d.length + _ + 1 ≤ _; have := hz.d; omega
      · show ((KS : Int) == 10) = _
        rw [← hKS]
        rcases hk with h | h <;> rw [h] <;> rfl)
  have HAdd := Lib.hid (fun w1 (h : Below w.heap.size w w1) => by have := fAdd w0 w1 rb tv l s0 R0 up KS i0 (hS.below h) hu1 hu2 (by have := hz.q; omega) hz.room.kids; rw [hn] at this; exact this)
  have HB1 := Lib.hid (below_alloc w (.cells #[RP rb] 71))
  have HK0' := Lib.hid (fun w1 (h : Below w.heap.size w w1) => by have := (hS.below h).rt.kind op (by omega); rw [show kx l op = Fl.raw l op from by unfold Fl.kx; rw [if_pos hop]] at this; exact this)
  have HKS := Lib.hid hKS
  obtain ⟨b5, hb5⟩ : ∃ b5, w.heap.size = b5 := ⟨_, rfl⟩
  have HB5 := Lib.hid hb5
  clear hV hT hS hu1 hu2 hz hop hRES hn hKS hOW hOW2 hcop
  have HLs := Lib.hid hls
  have HDs := Lib.hid hds
  clear hls hds
  obtain ⟨Q, hQ⟩ : ∃ Q, Goes w0 w rb tv l R0 (.int .i64 RES.1) RES.2 = Q := ⟨_, rfl⟩
  have HQ := Lib.hid (fun (w3 : World) (R3 : Nat → Prop) (k : Nat) (hk : k = RES.1) (h1 : RS w0 w3 rb tv l RES.2 R3) (h2 : FP w w3 rb R0 R3) => show Q (.returned (.int .i64 k)) w3 by rw [← hQ, hk]; exact ⟨rfl, R3, h1, h2⟩)
  rw [hQ]
  clear hQ
  go_enter Try.func48, Try.ntmps48
  go_wp2
  refine wp_scope_once 0 (fun a' w' => ∃ (p : Nat) (f : Bool) (b13 b14 : Nat) (s : Fl.PSt) (R : Nat → Prop), LiveC rb i0 op d b5 KS OW b13 b14 up f a' ∧ Hid (Col w0 w w' rb tv l R0 b5 b13 b14 n op d RES p f s R))
    (fun a' w' => l.length - (intOf ((w'.cell? ⟨blkOf (a'.tmps.getD 14 undef), 0, none⟩).getD undef)).toNat) rfl ?_ ?_
  · rintro a' W ⟨p, f, b13, b14, s, R, hlive, HC⟩
    obtain ⟨u, rfl⟩ := hlive.is
    clear hlive HBeg HAdd HB1 HK0' HKS hk
    have hls := HLs.out
    have hds := HDs.out
    have hCl := HC.out
    have ht := Fl.trivia_in (l := l) (e := l.length) (i := p) hCl.pl
    have hidl := fun k (h1 : p ≤ k) (h2 : k < Fl.trivia l l.length p) => Fl.goW_all (fun j => !Fl.cnt (Fl.raw l j)) (l.length - p) p k h1 h2
    have hstop := Fl.goW_stop (fun j => !Fl.cnt (Fl.raw l j)) (l.length - p) p
    have hst := hCl.step
    have hI := hCl.rs.rt.idle p hCl.pl
    obtain ⟨j, hj⟩ : ∃ j, Fl.trivia l l.length p = j := ⟨_, rfl⟩
    have hj2 : Fl.goW (fun j => !Fl.cnt (Fl.raw l j)) (l.length - p) p = j := hj
    rw [hj] at ht hidl hI
    rw [hj2] at hstop
    have c5 := hCl.vars.c5.cell
    have c14 := hCl.vars.c14.cell
    have f14 := hCl.vars.c14.free
    have hS1 := hCl.rs.store hCl.low hCl.vars.r14 hCl.vars.n14 0 (.int .i64 j)
    have hF1 := hCl.fp.setNew hCl.new (o := 0) (u := .int .i64 j)
    have hV1 := hCl.vars.set j
    obtain ⟨W1, hW1⟩ : ∃ W1, W.setCell ⟨b14, 0, none⟩ (.int .i64 j) = W1 := ⟨_, rfl⟩
    rw [hW1] at hS1 hF1 hV1
    have x5 : (W.setCell ⟨b14, 0, none⟩ (.int .i64 j)).cell? ⟨b5, 0, none⟩ = some (RP rb) := by rw [hW1]; exact hV1.c5.cell
    have x14 : (W.setCell ⟨b14, 0, none⟩ (.int .i64 j)).cell? ⟨b14, 0, none⟩ = some (.int .i64 j) := by rw [hW1]; exact hV1.c14.cell
    have HK := Lib.hid (hS1.rt.kind j ht.2)
    have HI := Lib.hid hI
    have d5 := hV1.c5.cell
    have d13 := hV1.c13.cell
    have d14 := hV1.c14.cell
    have e14 := hV1.c14.free
    have hkd := Fl.kd_kx ht.2
    have hk0 := kx_pos HTok.out j
    obtain ⟨K, hK⟩ : ∃ K, kx l j = K := ⟨_, rfl⟩
    rw [hK] at HK hkd hk0
    have hjs : j ≤ 100000 := by omega
    have hps : p ≤ 100000 := by have := hCl.pl; omega
    have hkl : K ≠ 21 → j < l.length := fun h => by
      rw [← hK] at h
      unfold Fl.kx at h
      split at h
      · assumption
      · exact absurd rfl h
    have HHkl := Lib.hid hkl
    have HHidl := Lib.hid hidl
    have HHstop := Lib.hid hstop
    have HHst := Lib.hid hst
    have HHt := Lib.hid ht
    have HHj := Lib.hid hj
    have HHkd := Lib.hid hkd
    have HHk0 := Lib.hid hk0
    have HS1 := Lib.hid hS1
    have HF1 := Lib.hid hF1
    have HV1 := Lib.hid hV1
    have HW1 := Lib.hid hW1
    have hkr : K ≠ 20 → K ≠ 21 → Fl.raw l j = K := fun h1 h2 => by
      have := Fl.kd_lt (l := l) (e := l.length) (i := j) (by rw [hkd, if_neg (fun h => h.elim h1 h2)]; exact hk0)
      rw [this.2, hkd, if_neg (fun h => h.elim h1 h2)]
    have HHkr := Lib.hid hkr
    clear hCl ht hidl hstop hst hI hj hj2 hS1 hF1 hV1 hW1 hkd hk0 hkl hK hkr hls
    go_wp2_with fail
    refine HI.out.mono ?_
    rintro e wi ⟨rfl, rfl⟩
    clear HI c5
    go_wp2_with fail
    rw [HW1.out]
    clear HW1 c14 f14 x5 x14
    refine HK.out.mono ?_
    rintro e wi ⟨rfl, rfl⟩
    clear HK
    by_cases qA : K = OW
    · have gA : ((K : Int) == (OW : Int)) = true := by simp; omega
      obtain ⟨g, hg⟩ := HHst.out
      have hko : K ≠ 0 ∧ K ≠ 20 ∧ K ≠ 21 := by have := HOW2.out; omega
      rw [Fl.pcolF, HHj.out, HHkd.out, if_neg (fun h : K = 20 ∨ K = 21 => h.elim hko.2.1 hko.2.2), if_neg hko.1, if_pos (by rw [HOW.out]; exact qA)] at hg
      obtain ⟨x, hx, -⟩ := HC.out.nd
      have HR := Lib.hid (fReach w0 W1 rb tv l s R n (j + 1) HS1.out (List.getElem?_eq_some_iff.1 hx).1 (by have := HC.out.sq; omega))
      rw [show ((j + 1 : Nat) : Int) = (j : Int) + 1 from by omega] at HR
      have HE := Lib.hid hg
      clear hg hko qA hx
      go_wp2_with fail
      refine HR.out.mono ?_
      rintro e w3 ⟨rfl, R3, hS3, hF3⟩
      have HD := Lib.hid (HQ.out w3 R3 (j + 1) (by rw [← HE.out]) (by rw [← HE.out]; exact hS3) (HF1.out.trans hF3))
      rw [show ((j + 1 : Nat) : Int) = (j : Int) + 1 from by omega] at HD
      clear hS3 hF3 HR HE
      go_wp2_with fail
      try simp only [Exit.jump]
      exact HD.out
    have gA : ((K : Int) == (OW : Int)) = false := by simp; omega
    have HM := Lib.hid (fMark K W1)
    by_cases qB : K = 20 ∨ K = 21
    · have hmk : Fl.mk K = true := by rcases qB with rfl | rfl <;> rfl
      rw [hmk] at HM
      obtain ⟨g, hg⟩ := HHst.out
      have hbk := Fl.back_self l p (op + 1) (by have := HC.out.opp; omega) HC.out.cn
      rw [Fl.pcolF, HHj.out, HHkd.out, if_pos qB, if_pos rfl, hbk] at hg
      have hbo := back_over (m := op + 1) (by have := HC.out.opp; omega) (by have := HC.out.opp; omega) HC.out.cn j HHt.out.1 (fun k h1 h2 => by simpa using HHidl.out k h1 h2)
      have hopl : op < l.length := by have := HC.out.opp; have := HC.out.pl; omega
      have HTe := Lib.hid (fTell w0 W1 rb tv l s R 9 op op HS1.out hopl hopl (by have := HC.out.sd; omega))
      rw [show ((op + 1 : Nat) : Int) = (op : Int) + 1 from by omega] at HTe
      obtain ⟨x, hx, -⟩ := HC.out.nd
      have hcl := (List.getElem?_eq_some_iff.1 hx).1
      have HR := Lib.hid (fun w2 R2 (h : RS w0 w2 rb tv l ⟨s.q, s.d ++ [⟨9, Fl.frm l op, Fl.too l op⟩]⟩ R2) => fReach w0 w2 rb tv l ⟨s.q, s.d ++ [⟨9, Fl.frm l op, Fl.too l op⟩]⟩ R2 n p h hcl (by have := HC.out.sq; show s.q.length ≤ _; omega))
      have HCt := Lib.hid (fun wx (h : RT wx rb tv l) => by have := h.counted j (op + 1) HHt.out.2 (by omega) (by have := HC.out.opp; have := HHt.out.1; omega) ⟨p, by have := HC.out.opp; omega, HHt.out.1, HC.out.cn⟩; rw [hbo] at this; exact this)
      have HE := Lib.hid hg
      clear hg hmk hbk hbo hopl hx hcl qB qA
      go_wp2_with fail
      refine HM.out.mono ?_
      rintro e wi ⟨rfl, rfl⟩
      go_wp2_with fail
      refine HTe.out.mono ?_
      rintro e w2 ⟨rfl, R2, hS2, hF2⟩
      have hV2 := HV1.out.fp hF2
      have v5 := hV2.c5.cell
      have v13 := hV2.c13.cell
      have v14 := hV2.c14.cell
      have hrt2 := hS2.rt
      have HRd := Lib.hid (HR.out w2.drew R2 (hS2.below (Below.refl _ w2).drew))
      have HF2 := Lib.hid (HF1.out.trans hF2)
      clear hS2 hF2 hV2 HTe HR HM d5 d13 d14 e14
      go_wp2_with fail
      have HCt2 := Lib.hid ((HCt.out w2.drew hrt2.drew).mono (show ∀ e w', _ → e = .returned (.int .i64 p) ∧ w' = w2.drew from fun e w' h => ⟨h.1, h.2.symm⟩))
      have x5 : w2.drew.cell? ⟨b5, 0, none⟩ = some (RP rb) := v5
      have x13 : w2.drew.cell? ⟨b13, 0, none⟩ = some (.int .i64 (n : Int)) := v13
      have x14 : w2.drew.cell? ⟨b14, 0, none⟩ = some (.int .i64 (j : Int)) := v14
      refine wp_region_quiet_tail 5 (by kernel_rfl) (by kernel_rfl) ?_
      simp only [List.take_succ_cons, List.take_zero, List.drop_succ_cons, List.drop_zero]
      repeat (go_big_quiet_step (exact HCt2.out _))
      refine wpQuiet_nil ?_
      go_wp2_with fail
      refine HRd.out.mono ?_
      rintro e w3 ⟨rfl, R3, hS3, hF3⟩
      have HD := Lib.hid (HQ.out w3 R3 p (by rw [← HE.out]) (by rw [← HE.out]; exact hS3) (HF2.out.trans ((FP.below (Below.refl _ w2).drew).trans hF3)))
      clear hS3 hF3
      go_wp2_with fail
      try simp only [Exit.jump]
      exact HD.out
    have hmk : Fl.mk K = false := by unfold Fl.mk; simp; omega
    rw [hmk] at HM
    have q20 : K ≠ 20 := fun h => qB (.inl h)
    have q21 : K ≠ 21 := fun h => qB (.inr h)
    have hjl := HHkl.out q21
    have hkd := HHkd.out
    rw [if_neg qB] at hkd
    have hraw := HHkr.out q20 q21
    have hcj : Fl.cnt (Fl.raw l j) = true := by
      rcases HHstop.out with h | h
      · have := HC.out.pl; omega
      · simpa using h
    obtain ⟨x, hx, hxk⟩ := HC.out.nd
    have hcl := (List.getElem?_eq_some_iff.1 hx).1
    have hroom : Room s := HC.out.sz.room
    have hdl : s.d.length < 900000 := by have := HC.out.sd; omega
    have hko : ¬ K = (if Fl.raw l op = 9 then 11 else 10) := by rw [HOW.out]; exact qA
    have HSt := Lib.hid (fun (t : Nat) (h1 : 0 < t) (h2 : t ≤ l.length) => fStray w0 W1 rb tv l s R b5 b13 b14 n j t HS1.out hcl hroom hdl hjl h1 h2 HV1.out.c5 HV1.out.c13 HV1.out.c14 HV1.out.n14 HV1.out.r14)
    have hk0 := HHk0.out
    have HNs := Lib.hid (fun (t : Nat) (w3 : World) (R3 : Nat → Prop) (f' : Bool) (h1 : j < t) (h2 : t ≤ l.length) (hcn : Fl.cnt (Fl.raw l (t - 1)) = true) (hS3 : RS w0 w3 rb tv l (Fl.pErr l s n j t 8) R3) (hF3 : FP W1 w3 rb R R3)
        (hr : ∀ g, Fl.pcolF l l.length (Fl.pvalN l l.length d) n op (g + 1) p f s = Fl.pcolF l l.length (Fl.pvalN l l.length d) n op g t f' (Fl.pErr l s n j t 8)) =>
      show Col w0 w (w3.setCell ⟨b14, 0, none⟩ (.int .i64 t)) rb tv l R0 b5 b13 b14 n op d RES t f' (Fl.pErr l s n j t 8) R3 from by
        have hV3 := HV1.out.fp hF3
        refine HC.out.next (hS3.store HC.out.low hV3.r14 hV3.n14 0 _) ((HF1.out.trans hF3).setNew HC.out.new) (hV3.set t) HHt.out.1 h1 h2 hcn ((Fl.gr_err l s n j t 8 (by omega)).mono (by have := HHt.out.1; omega)) hr)
    have hc1 : Fl.cnt (Fl.raw l (j + 1 - 1)) = true := by rw [Nat.add_sub_cancel]; exact hcj
    have HEn := Lib.hid (fEnd K W1)
    by_cases qC : Fl.ends K = true
    · rw [qC] at HEn
      have hr : ∀ g, Fl.pcolF l l.length (Fl.pvalN l l.length d) n op (g + 1) p f s = Fl.pcolF l l.length (Fl.pvalN l l.length d) n op g (j + 1) f (Fl.pErr l s n j (j + 1) 8) := fun g => by
        rw [Fl.pcolF, HHj.out, hkd, if_neg hk0, if_neg hko, if_pos qC]
      have HSj := Lib.hid (HSt.out (j + 1) (by omega) (by omega))
      rw [show ((j + 1 : Nat) : Int) = (j : Int) + 1 from by omega] at HSj
      have HNj := Lib.hid (fun w3 R3 h1 h2 => by have := HNs.out (j + 1) w3 R3 f (by omega) (by omega) hc1 h1 h2 hr; rw [show ((j + 1 : Nat) : Int) = (j : Int) + 1 from by omega] at this; exact this)
      clear hr HSt HNs hkd hraw hcj hx hxk hcl hroom hdl hko hc1 hmk q20 q21 qA qB hk0
      go_wp2_with fail
      refine HM.out.mono ?_
      rintro e wi ⟨rfl, rfl⟩
      go_wp2_with fail
      refine HEn.out.mono ?_
      rintro e wi ⟨rfl, rfl⟩
      clear HM HEn
      go_wp2_with fail
      refine (HSj.out).mono ?_
      rintro e w4 ⟨rfl, w3, R3, hS3, hF3, rfl⟩
      have HCn := Lib.hid (HNj.out w3 R3 hS3 hF3)
      clear hS3 hF3 HNj HSj
      go_wp2_with fail
      go_step3
      refine ⟨rfl, ⟨j + 1, f, b13, b14, _, _, ⟨rfl, rfl, rfl, rfl, rfl, rfl, rfl, rfl, rfl, rfl, rfl, rfl, rfl, rfl, rfl, rfl, rfl, rfl⟩, HCn⟩, ?_⟩
      have hnew := HCn.out.vars.c14.cell
      have hold := HC.out.vars.c14.cell
      have hq1 := HCn.out.pl
      have hq2 := HHt.out.1
      show l.length - (intOf ((World.cell? _ ⟨b14, 0, none⟩).getD undef)).toNat < l.length - (intOf ((World.cell? _ ⟨b14, 0, none⟩).getD undef)).toNat
      rw [hnew, hold]
      show l.length - ((j + 1 : Nat) : Int).toNat < l.length - ((p : Nat) : Int).toNat
      omega
    have hen : Fl.ends K = false := by simpa using qC
    rw [hen] at HEn
    by_cases q7 : K = 7
    · subst q7
      cases f with
      | false =>
        have hr : ∀ g, Fl.pcolF l l.length (Fl.pvalN l l.length d) n op (g + 1) p false s = Fl.pcolF l l.length (Fl.pvalN l l.length d) n op g (j + 1) false (Fl.pErr l s n j (j + 1) 8) := fun g => by
          rw [Fl.pcolF, HHj.out, hkd, if_neg hk0, if_neg hko, if_neg qC, if_pos rfl, if_neg (by decide)]
        have HSj := Lib.hid (HSt.out (j + 1) (by omega) (by omega))
        rw [show ((j + 1 : Nat) : Int) = (j : Int) + 1 from by omega] at HSj
        have HNj := Lib.hid (fun w3 R3 h1 h2 => by have := HNs.out (j + 1) w3 R3 false (by omega) (by omega) hc1 h1 h2 hr; rw [show ((j + 1 : Nat) : Int) = (j : Int) + 1 from by omega] at this; exact this)
        clear hr HSt HNs hkd hraw hcj hx hxk hcl hroom hdl hko hc1 hmk q20 q21 qA qB hk0
        go_wp2_with fail
        refine HM.out.mono ?_
        rintro e wi ⟨rfl, rfl⟩
        go_wp2_with fail
        refine HEn.out.mono ?_
        rintro e wi ⟨rfl, rfl⟩
        clear HM HEn
        go_wp2_with fail
        refine (HSj.out).mono ?_
        rintro e w4 ⟨rfl, w3, R3, hS3, hF3, rfl⟩
        have HCn := Lib.hid (HNj.out w3 R3 hS3 hF3)
        clear hS3 hF3 HNj HSj
        go_wp2_with fail
        go_step3
        refine ⟨rfl, ⟨j + 1, false, b13, b14, _, _, ⟨rfl, rfl, rfl, rfl, rfl, rfl, rfl, rfl, rfl, rfl, rfl, rfl, rfl, rfl, rfl, rfl, rfl, rfl⟩, HCn⟩, ?_⟩
        have hnew := HCn.out.vars.c14.cell
        have hold := HC.out.vars.c14.cell
        have hq1 := HCn.out.pl
        have hq2 := HHt.out.1
        show l.length - (intOf ((World.cell? _ ⟨b14, 0, none⟩).getD undef)).toNat < l.length - (intOf ((World.cell? _ ⟨b14, 0, none⟩).getD undef)).toNat
        rw [hnew, hold]
        show l.length - ((j + 1 : Nat) : Int).toNat < l.length - ((p : Nat) : Int).toNat
        omega
      | true =>
        have hr : ∀ g, Fl.pcolF l l.length (Fl.pvalN l l.length d) n op (g + 1) p true s = Fl.pcolF l l.length (Fl.pvalN l l.length d) n op g (j + 1) false s := fun g => by
          rw [Fl.pcolF, HHj.out, hkd, if_neg hk0, if_neg hko, if_neg qC, if_pos rfl, if_pos rfl]
        have hCn := HC.out.next (w' := W1.setCell ⟨b14, 0, none⟩ (.int .i64 (j + 1 : Nat))) (HS1.out.store HC.out.low HV1.out.r14 HV1.out.n14 0 _) (HF1.out.setNew HC.out.new) (HV1.out.set (j + 1)) HHt.out.1 (show j < j + 1 by omega) (by omega) hc1 ((Fl.Gr.refl s).mono (by omega)) hr
        rw [show ((j + 1 : Nat) : Int) = (j : Int) + 1 from by omega] at hCn
        have HCn := Lib.hid hCn
        clear hCn hr HSt HNs hkd hraw hcj hx hxk hcl hroom hdl hko hc1 hmk q20 q21 qA qB hk0
        go_wp2_with fail
        refine HM.out.mono ?_
        rintro e wi ⟨rfl, rfl⟩
        go_wp2_with fail
        refine HEn.out.mono ?_
        rintro e wi ⟨rfl, rfl⟩
        clear HM HEn
        go_wp2_with fail
        go_step3
        refine ⟨rfl, ⟨j + 1, false, b13, b14, _, _, ⟨rfl, rfl, rfl, rfl, rfl, rfl, rfl, rfl, rfl, rfl, rfl, rfl, rfl, rfl, rfl, rfl, rfl, rfl⟩, HCn⟩, ?_⟩
        have hnew := HCn.out.vars.c14.cell
        have hold := HC.out.vars.c14.cell
        have hq1 := HCn.out.pl
        have hq2 := HHt.out.1
        show l.length - (intOf ((World.cell? _ ⟨b14, 0, none⟩).getD undef)).toNat < l.length - (intOf ((World.cell? _ ⟨b14, 0, none⟩).getD undef)).toNat
        rw [hnew, hold]
        show l.length - ((j + 1 : Nat) : Int).toNat < l.length - ((p : Nat) : Int).toNat
        omega
    have g7 : ((K : Int) == 7) = false := by simp; omega
    cases f with
    | true =>
      obtain ⟨t1, t2, t3⟩ := Fl.stray_in (l := l) (e := l.length) (j := j) (by rw [hkd]; exact hk0) hcj (by rw [hkd]; exact q7) (by rw [hkd]; exact hen)
      have HOt := Lib.hid (fOthers rb tv l j W1 HS1.out.rt HTok.out (by rw [hkd]; exact hk0) hcj (by rw [hkd]; exact q7) (by rw [hkd]; exact hen))
      have hr : ∀ g, Fl.pcolF l l.length (Fl.pvalN l l.length d) n op (g + 1) p true s = Fl.pcolF l l.length (Fl.pvalN l l.length d) n op g (Fl.stray l l.length j) true (Fl.pErr l s n j (Fl.stray l l.length j) 8) := fun g => by
        rw [Fl.pcolF, HHj.out, hkd, if_neg hk0, if_neg hko, if_neg qC, if_neg q7, if_pos rfl]
      obtain ⟨t, htd⟩ : ∃ t, Fl.stray l l.length j = t := ⟨_, rfl⟩
      rw [htd] at t1 t2 t3 HOt hr
      have HSj := Lib.hid (HSt.out t (by omega) t2)
      have HNj := Lib.hid (fun w3 R3 h1 h2 => HNs.out t w3 R3 true t1 t2 t3 h1 h2 hr)
      clear hr HSt HNs hkd hraw hcj hx hxk hcl hroom hdl hko hc1 hmk q20 q21 qA qB hk0 t3 htd qC hen
      go_wp2_with fail
      refine HM.out.mono ?_
      rintro e wi ⟨rfl, rfl⟩
      go_wp2_with fail
      refine HEn.out.mono ?_
      rintro e wi ⟨rfl, rfl⟩
      clear HM HEn
      go_wp2_with fail
      refine HOt.out.mono ?_
      rintro e wi ⟨rfl, rfl⟩
      go_wp2_with fail
      refine (HSj.out).mono ?_
      rintro e w4 ⟨rfl, w3, R3, hS3, hF3, rfl⟩
      have HCn := Lib.hid (HNj.out w3 R3 hS3 hF3)
      clear hS3 hF3 HNj HSj HOt
      go_wp2_with fail
      go_step3
      refine ⟨rfl, ⟨t, true, b13, b14, _, _, ⟨rfl, rfl, rfl, rfl, rfl, rfl, rfl, rfl, rfl, rfl, rfl, rfl, rfl, rfl, rfl, rfl, rfl, rfl⟩, HCn⟩, ?_⟩
      have hnew := HCn.out.vars.c14.cell
      have hold := HC.out.vars.c14.cell
      have hq1 := HCn.out.pl
      have hq2 := HHt.out.1
      show l.length - (intOf ((World.cell? _ ⟨b14, 0, none⟩).getD undef)).toNat < l.length - (intOf ((World.cell? _ ⟨b14, 0, none⟩).getD undef)).toNat
      rw [hnew, hold]
      show l.length - ((t : Nat) : Int).toNat < l.length - ((p : Nat) : Int).toNat
      omega
    | false =>
      have HEy := Lib.hid (fEntry w0 W1 rb tv l d s R HVh.out HTok.out n j x HS1.out hx (HC.out.sz.on HHt.out.1 (Nat.le_refl _)) (by rw [hkd]; exact hk0) hcj)
      rw [hxk] at HEy
      have gd : wrap64 (((d + 1 : Nat) : Int) - 1) = (d : Int) := by rw [show ((d + 1 : Nat) : Int) - 1 = (d : Int) by omega]; exact IntWalk.wrap64_in _ (by omega)
      by_cases qF : 0 < Fl.key l l.length j ∨ Fl.begins (Fl.kd l l.length j) = true
      · obtain ⟨nx, s2, hp1, hp2, hp3, hp4, hp5⟩ := Fl.pv_item (Fl.pvalN l l.length d) (Fl.pv_all d) (Fl.raw l op == 9) (c := n) (j := j) hcl (by rw [hkd]; exact hk0) qF
        rw [if_pos qF, hp1] at HEy
        have hr : ∀ g, Fl.pcolF l l.length (Fl.pvalN l l.length d) n op (g + 1) p false s = Fl.pcolF l l.length (Fl.pvalN l l.length d) n op g nx true s2 := fun g => by
          rw [Fl.pcolF, HHj.out, hkd, if_neg hk0, if_neg hko, if_neg qC, if_neg q7, if_neg (by decide), if_pos (by rw [← hkd]; exact qF), hp1]
        have HEy2 := Lib.hid (HEy.out.mono (show ∀ e w', _ → Goes w0 W1 rb tv l R (.int .i64 nx) s2 e w' from fun e w' ⟨a, b, h1, h2⟩ => by
          have h3 := congrArg Prod.fst h1
          have h4 := congrArg Prod.snd h1
          dsimp only at h3 h4
          rw [h3, h4] at h2
          exact h2))
        have HNn := Lib.hid (fun w3 R3 (h1 : RS w0 w3 rb tv l s2 R3) (h2 : FP W1 w3 rb R R3) => show Vars w3 rb b5 b13 b14 n j R3 ∧ Col w0 w (w3.setCell ⟨b14, 0, none⟩ (.int .i64 nx)) rb tv l R0 b5 b13 b14 n op d RES nx true s2 R3 from by
          have hV3 := HV1.out.fp h2
          exact ⟨hV3, HC.out.next (h1.store HC.out.low hV3.r14 hV3.n14 0 _) ((HF1.out.trans h2).setNew HC.out.new) (hV3.set nx) HHt.out.1 hp2 hp3 hp4 (hp5.mono (by have := HHt.out.1; omega)) hr⟩)
        have gnx : (j : Int) < (nx : Int) := by omega
        clear hr HSt HNs hkd hraw hcj hx hxk hcl hroom hdl hko hc1 hmk q20 q21 qA qB hk0 hp1 hp2 hp3 hp4 hp5 qF qC hen HEy
        go_wp2_with fail
        refine HM.out.mono ?_
        rintro e wi ⟨rfl, rfl⟩
        go_wp2_with fail
        refine HEn.out.mono ?_
        rintro e wi ⟨rfl, rfl⟩
        clear HM HEn
        go_wp2_with fail
        refine HEy2.out.mono ?_
        rintro e w3 ⟨rfl, R3, hS3, hF3⟩
        obtain ⟨hV3, hC3⟩ := HNn.out w3 R3 hS3 hF3
        have k14 := hV3.c14.cell
        have l14 := hV3.c14.free
        have HCn := Lib.hid hC3
        clear hS3 hF3 HNn hV3 hC3 HEy2
        go_wp2_with fail
        go_step3
        refine ⟨rfl, ⟨nx, true, b13, b14, _, _, ⟨rfl, rfl, rfl, rfl, rfl, rfl, rfl, rfl, rfl, rfl, rfl, rfl, rfl, rfl, rfl, rfl, rfl, rfl⟩, HCn⟩, ?_⟩
        have hnew := HCn.out.vars.c14.cell
        have hold := HC.out.vars.c14.cell
        have hq1 := HCn.out.pl
        have hq2 := HHt.out.1
        show l.length - (intOf ((World.cell? _ ⟨b14, 0, none⟩).getD undef)).toNat < l.length - (intOf ((World.cell? _ ⟨b14, 0, none⟩).getD undef)).toNat
        rw [hnew, hold]
        show l.length - ((nx : Nat) : Int).toNat < l.length - ((p : Nat) : Int).toNat
        omega
      · have hr : ∀ g, Fl.pcolF l l.length (Fl.pvalN l l.length d) n op (g + 1) p false s = Fl.pcolF l l.length (Fl.pvalN l l.length d) n op g (j + 1) false (Fl.pErr l s n j (j + 1) 8) := fun g => by
          rw [Fl.pcolF, HHj.out, hkd, if_neg hk0, if_neg hko, if_neg qC, if_neg q7, if_neg (by decide), if_neg (by rw [← hkd]; exact qF)]
        rw [if_neg qF] at HEy
        have HEy2 := Lib.hid (HEy.out.mono (show ∀ e w', _ → Goes w0 W1 rb tv l R (.int .i64 j) s e w' from fun e w' ⟨a, b, h1, h2⟩ => by
          have h3 := congrArg Prod.fst h1
          have h4 := congrArg Prod.snd h1
          dsimp only at h3 h4
          rw [h3, h4] at h2
          exact h2))
        have HSt2 := Lib.hid (fun w2 R2 (h1 : RS w0 w2 rb tv l s R2) (h2 : FP W1 w2 rb R R2) => show Vars w2 rb b5 b13 b14 n j R2 ∧ _ from ⟨HV1.out.fp h2, by have hV2 := HV1.out.fp h2; have := fStray w0 w2 rb tv l s R2 b5 b13 b14 n j (j + 1) h1 hcl hroom hdl hjl (by omega) (by omega) hV2.c5 hV2.c13 hV2.c14 hV2.n14 hV2.r14; rw [show ((j + 1 : Nat) : Int) = (j : Int) + 1 from by omega] at this; exact this⟩)
        have HNj := Lib.hid (fun w3 R3 h1 h2 => by have := HNs.out (j + 1) w3 R3 false (by omega) (by omega) hc1 h1 h2 hr; rw [show ((j + 1 : Nat) : Int) = (j : Int) + 1 from by omega] at this; exact this)
        clear hr HSt HNs hkd hraw hcj hx hxk hcl hroom hdl hko hc1 hmk q20 q21 qA qB hk0 qF qC hen HEy
        go_wp2_with fail
        refine HM.out.mono ?_
        rintro e wi ⟨rfl, rfl⟩
        go_wp2_with fail
        refine HEn.out.mono ?_
        rintro e wi ⟨rfl, rfl⟩
        clear HM HEn
        go_wp2_with fail
        refine HEy2.out.mono ?_
        rintro e w2 ⟨rfl, R2, hS2, hF2⟩
        obtain ⟨hV2, hSt2⟩ := HSt2.out w2 R2 hS2 hF2
        have k5 := hV2.c5.cell
        have k13 := hV2.c13.cell
        have k14 := hV2.c14.cell
        have HSj := Lib.hid hSt2
        have HF2 := Lib.hid hF2
        have gnj : ¬ (j : Int) < (j : Int) := by omega
        clear hS2 hF2 HSt2 hV2 hSt2 HEy2
        go_wp2_with fail
        refine (HSj.out).mono ?_
        rintro e w4 ⟨rfl, w3, R3, hS3, hF3, rfl⟩
        have HCn := Lib.hid (HNj.out w3 R3 hS3 (HF2.out.trans hF3))
        clear hS3 hF3 HNj HSj
        go_wp2_with fail
        go_step3
        refine ⟨rfl, ⟨j + 1, false, b13, b14, _, _, ⟨rfl, rfl, rfl, rfl, rfl, rfl, rfl, rfl, rfl, rfl, rfl, rfl, rfl, rfl, rfl, rfl, rfl, rfl⟩, HCn⟩, ?_⟩
        have hnew := HCn.out.vars.c14.cell
        have hold := HC.out.vars.c14.cell
        have hq1 := HCn.out.pl
        have hq2 := HHt.out.1
        show l.length - (intOf ((World.cell? _ ⟨b14, 0, none⟩).getD undef)).toNat < l.length - (intOf ((World.cell? _ ⟨b14, 0, none⟩).getD undef)).toNat
        rw [hnew, hold]
        show l.length - ((j + 1 : Nat) : Int).toNat < l.length - ((p : Nat) : Int).toNat
        omega
  · intro hlab
    have HLab := Lib.hid hlab
    clear hlab
    rcases hk with hk | hk
    · skip
      obtain rfl : KS = 9 := by rw [← HKS.out, hk]; rfl
      obtain rfl : OW = 10 := by rw [← HOW.out, hk]; rfl
      have HK1 := Lib.hid (by have := HK0'.out _ HB1.out; rw [hk] at this; exact this)
      have HA1 := Lib.hid (HAdd.out _ HB1.out)
      obtain ⟨w1, hw1⟩ : ∃ w1, w.alloc (.cells #[RP rb] 71) = w1 := ⟨_, rfl⟩
      rw [hw1] at HK1 HA1
      have k5 : w1.cell? ⟨b5, 0, none⟩ = some (RP rb) := by rw [← hw1, ← HB5.out]; exact at_new rfl
      have HW1a := Lib.hid hw1
      clear hw1
      go_wp2_with fail
      rw [HW1a.out]
      refine HK1.out.mono ?_
      rintro e wi ⟨rfl, rfl⟩
      go_wp2_with fail
      refine HA1.out.mono ?_
      rintro e w2 ⟨rfl, R, hS2, hF2⟩
      clear k5
      obtain ⟨b13, hb13⟩ : ∃ b13, w2.heap.size = b13 := ⟨_, rfl⟩
      obtain ⟨b14, hb14⟩ : ∃ b14, w2.heap.size + 1 = b14 := ⟨_, rfl⟩
      obtain ⟨W, hW⟩ : ∃ W, (w2.alloc (.cells #[.int .i64 (n : Int)] 3)).alloc (.cells #[.int .i64 ((op : Int) + 1)] 3) = W := ⟨_, rfl⟩
      have HC := Lib.hid (HBeg.out w1 w2 W R b5 b13 b14 HW1a.out.symm HB5.out.symm hb13.symm hb14.symm hS2 hF2 (by rw [show ((op + 1 : Nat) : Int) = (op : Int) + 1 from by omega]; exact hW.symm))
      have HWd := Lib.hid hW
      have HB13 := Lib.hid hb13
      have HB14 := Lib.hid hb14
      clear hS2 hF2 hb13 hb14 hW HBeg HAdd HA1 HK1 HK0' HB1 HKS
      go_wp2_with fail
      go_step3
      rw [HWd.out, HB14.out, HB13.out]
      clear HWd HB13 HB14 HW1a
      rename_i K hK
      refine hK _ _ (HLab.out _ _ ⟨op + 1, false, b13, b14, _, _, ⟨rfl, rfl, rfl, rfl, rfl, rfl, rfl, rfl, rfl, rfl, rfl, rfl, rfl, rfl, rfl, rfl, rfl, rfl⟩, HC⟩)
    · skip
      obtain rfl : KS = 10 := by rw [← HKS.out, hk]; rfl
      obtain rfl : OW = 11 := by rw [← HOW.out, hk]; rfl
      have HK1 := Lib.hid (by have := HK0'.out _ HB1.out; rw [hk] at this; exact this)
      have HA1 := Lib.hid (HAdd.out _ HB1.out)
      obtain ⟨w1, hw1⟩ : ∃ w1, w.alloc (.cells #[RP rb] 71) = w1 := ⟨_, rfl⟩
      rw [hw1] at HK1 HA1
      have k5 : w1.cell? ⟨b5, 0, none⟩ = some (RP rb) := by rw [← hw1, ← HB5.out]; exact at_new rfl
      have HW1a := Lib.hid hw1
      clear hw1
      go_wp2_with fail
      rw [HW1a.out]
      refine HK1.out.mono ?_
      rintro e wi ⟨rfl, rfl⟩
      go_wp2_with fail
      refine HA1.out.mono ?_
      rintro e w2 ⟨rfl, R, hS2, hF2⟩
      clear k5
      obtain ⟨b13, hb13⟩ : ∃ b13, w2.heap.size = b13 := ⟨_, rfl⟩
      obtain ⟨b14, hb14⟩ : ∃ b14, w2.heap.size + 1 = b14 := ⟨_, rfl⟩
      obtain ⟨W, hW⟩ : ∃ W, (w2.alloc (.cells #[.int .i64 (n : Int)] 3)).alloc (.cells #[.int .i64 ((op : Int) + 1)] 3) = W := ⟨_, rfl⟩
      have HC := Lib.hid (HBeg.out w1 w2 W R b5 b13 b14 HW1a.out.symm HB5.out.symm hb13.symm hb14.symm hS2 hF2 (by rw [show ((op + 1 : Nat) : Int) = (op : Int) + 1 from by omega]; exact hW.symm))
      have HWd := Lib.hid hW
      have HB13 := Lib.hid hb13
      have HB14 := Lib.hid hb14
      clear hS2 hF2 hb13 hb14 hW HBeg HAdd HA1 HK1 HK0' HB1 HKS
      go_wp2_with fail
      go_step3
      rw [HWd.out, HB14.out, HB13.out]
      clear HWd HB13 HB14 HW1a
      rename_i K hK
      refine hK _ _ (HLab.out _ _ ⟨op + 1, false, b13, b14, _, _, ⟨rfl, rfl, rfl, rfl, rfl, rfl, rfl, rfl, rfl, rfl, rfl, rfl, rfl, rfl, rfl, rfl, rfl, rfl⟩, HC⟩)
end Go.Proofs.Ytmlpaafclobgcaa
