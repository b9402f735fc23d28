/- The scanner's next: the token at the front of the rest of a row (test by test; written by tools/gen_pqc.py). -/
import Derived.Test.YtapkejdjbmdebaaDoorPqa
import Derived.Test.YtapkejdjbmdebaaDoorPq5
import Derived.Test.YtapkejdjbmdebaaDoorPq8
import Derived.Test.YtapkejdjbmdebaaDoorPq9
import Derived.Test.YtapkejdjbmdebaaDoorPq2
namespace Go.Proofs.YtapkejdjbmdebaaDoor
open Go.RowKit
open Go.Proofs.YtapkejdjbmdebaaDoor.Sg
open Go.Proofs.YtapkejdjbmdebaaDoor.Sq
set_option linter.unusedVariables false

theorem kI_pos (k : Nat) (h : 0 < k) : kI k = (k : Int) := by unfold kI; rw [if_neg (by omega)]
theorem kI_test (k : Nat) : (kI k != -1) = decide (0 < k) := by
  by_cases h : 0 < k
  · rw [decide_eq_true h, kI_pos k h]; exact bne_iff_ne.2 (by omega)
  · obtain rfl : k = 0 := by omega
    rfl
/-- A pair as what a call returns. -/
def pr (p : Nat × Nat) : Value := .tuple #[.int .i64 p.1, .int .i64 p.2]
theorem next_eq (op : Nat) (dash blank f : Bool) (l : List Nat) (m rs rb n : Nat) (h : Bool) (wd : Nat × Nat) (hm : Sc.mark l = m) (hrs : Sc.run Sc.spc l = rs) (hrb : Sc.run Sc.blk l = rb) (hh : Sc.hsh l = h) (hn : l.length = n) (hw : Sc.word op dash l = wd) :
    Sc.next op dash blank f l = if f = true ∧ 0 < m then (m, 3) else if f = true ∧ 0 < rs then (2, rs) else if 0 < rb then (3, rb) else if h = true ∧ (f = true ∨ blank = true) then (4, n) else wd := by
  subst hm hrs hrb hh hn hw; rfl
theorem word_eq (op : Nat) (dash : Bool) (l : List Nat) (sg hd pl : Nat) (nm qt : Nat × Nat) (bd : Bool) (h1 : Sc.sign op dash l = sg) (h2 : Sc.named l = nm) (h3 : Sc.quoted l = qt) (h4 : Sc.headN l = hd) (h5 : Sc.bad l = bd) (h6 : Sc.plainN (decide (0 < op)) l = pl) :
    Sc.word op dash l = if 0 < sg then (sg, 1) else if 0 < nm.1 then nm else if 0 < qt.1 then qt else if op = 0 ∧ 0 < hd then (18, hd) else if bd = true then (22, 1) else (15, pl) := by
  subst h1 h2 h3 h4 h5 h6; rfl
/-- What stands where none of the signs does. -/
theorem sign_none (op : Nat) (dash : Bool) (s : ByteArray) (h : 0 < s.size) (h0 : Sc.sign op dash (Sc.nats s) = 0) : (¬ ((s.get! 0).toNat = 58 ∧ Sc.key (decide (0 < op)) ((Sc.nats s).drop 1) = true)) ∧ (0 < op → Sc.flo (s.get! 0).toNat = false) := by
  rw [← Sc.get_el s 0 h]
  obtain ⟨c, hc⟩ : ∃ c, (s[0]'h).toNat = c := ⟨_, rfl⟩
  rw [sign_at op dash s h c hc] at h0
  rw [hc, ← Sc.nats_tail]
  constructor
  · rintro ⟨rfl, hk⟩
    rw [hk] at h0
    simp at h0
  · intro ho
    rw [Bool.eq_false_iff]
    intro hf
    simp [Sc.flo] at hf
    rcases hf with ((((rfl | rfl) | rfl) | rfl) | rfl)
    · simp at h0; omega
    · simp at h0
    · simp at h0
    · simp at h0
    · simp at h0
set_option maxHeartbeats 16000000 in
set_option maxRecDepth 100000 in
theorem pNext (b : Nat) (s : ByteArray) (v : Value) (at' row en op : Nat) (base least : Int) (dash blank f : Bool) (l : List Tk) (w : World) (hM : Mem w b s v at' row en op base least dash) (hO : Row w b v l) (hT : Tabs w) (hs : s.size ≤ 100000) (hl : l.length ≤ 100000) (h1 : row ≤ at') (h2 : at' < en) (h3 : en ≤ s.size)
    (hf : f = decide (at' = row)) (hbl : f = false → ∃ l0 x, l = l0 ++ [x] ∧ blank = (x.1 == 2 || x.1 == 3)) :
    Calls Tryd.prog 29 #[.pointer (some ⟨b, 0, none⟩)] w fun e w' => e = .returned (pr (Sc.next op dash blank f (Sc.nats (s.extract at' en)))) ∧ Below w.heap.size w w' := by
  obtain ⟨r, hr⟩ : ∃ r, s.extract at' en = r := ⟨_, rfl⟩
  have hz : r.size = en - at' := by rw [← hr, ByteArray.size_extract]; omega
  have hz0 : 0 < r.size := by omega
  have hz1 : r.size ≤ 100000 := by omega
  have hzm : r.size ≤ maxLen := by unfold maxLen; omega
  rw [hr]
  have hff : (((at' : Int)) == ((row : Int))) = f := by rw [hf, Bool.eq_iff_iff]; simp; omega
  have hln := Sc.nats_len r
  have hhs := hsh_at r hz0
  obtain ⟨m, hm⟩ : ∃ m, Sc.mark (Sc.nats r) = m := ⟨_, rfl⟩
  obtain ⟨rs, hrs⟩ : ∃ rs, Sc.run Sc.spc (Sc.nats r) = rs := ⟨_, rfl⟩
  obtain ⟨rb, hrb⟩ : ∃ rb, Sc.run Sc.blk (Sc.nats r) = rb := ⟨_, rfl⟩
  obtain ⟨h, hh⟩ : ∃ h, Sc.hsh (Sc.nats r) = h := ⟨_, rfl⟩
  obtain ⟨wd, hwd⟩ : ∃ wd, Sc.word op dash (Sc.nats r) = wd := ⟨_, rfl⟩
  obtain ⟨sg, hsg⟩ : ∃ sg, Sc.sign op dash (Sc.nats r) = sg := ⟨_, rfl⟩
  obtain ⟨nm, hnm⟩ : ∃ nm, Sc.named (Sc.nats r) = nm := ⟨_, rfl⟩
  obtain ⟨qt, hqt⟩ : ∃ qt, Sc.quoted (Sc.nats r) = qt := ⟨_, rfl⟩
  obtain ⟨hd, hhd⟩ : ∃ hd, Sc.headN (Sc.nats r) = hd := ⟨_, rfl⟩
  obtain ⟨bd, hbd⟩ : ∃ bd, Sc.bad (Sc.nats r) = bd := ⟨_, rfl⟩
  obtain ⟨pl, hpl⟩ : ∃ pl, Sc.plainN (decide (0 < op)) (Sc.nats r) = pl := ⟨_, rfl⟩
  have HN := Lib.hid (next_eq op dash blank f (Sc.nats r) m rs rb r.size h wd hm hrs hrb hh hln hwd)
  have HW := Lib.hid (hwd.symm.trans (word_eq op dash (Sc.nats r) sg hd pl nm qt bd hsg hnm hqt hhd hbd hpl))
  obtain ⟨N, hN⟩ : ∃ N, Sc.next op dash blank f (Sc.nats r) = N := ⟨_, rfl⟩
  rw [hN] at HN ⊢
  rw [hh] at hhs
  have g35 : (((r[0]'hz0).toNat : Int) == 35) = h := by rw [hhs, Bool.eq_iff_iff]; simp; omega
  -- the calls
  have HMk := Lib.hid (fun W => by have := pMark r W hzm; rw [hm] at this; exact this)
  have HRS := Lib.hid (fun W => by have := runSpace r W hzm; rw [hrs] at this; exact this)
  have HRB := Lib.hid (fun W => by have := runBlank r W hzm; rw [hrb] at this; exact this)
  have HM := Lib.hid (fun W (hb : Below w.heap.size w W) => hM.below hb)
  have HOw := Lib.hid (fun W (hb : Below w.heap.size w W) => Reads.of_own (own_below hO hb))
  have HTb := Lib.hid (fun W (hb : Below w.heap.size w W) => hT.below hb)
  have HSg := Lib.hid (fun W (hb : Below w.heap.size w W) => by have := pSign b op dash r W hz1 hz0 (hM.below hb).c.2.2.2.2.2.1 (hM.below hb).c.2.2.2.2.2.2.2.2; rw [hsg] at this; exact this)
  have HNm := Lib.hid (fun W => by have := pNamed r W hz1 hz0; rw [hnm] at this; exact this)
  have HQt := Lib.hid (fun W => by have := pQuoted r W hz1 hz0; rw [hqt] at this; exact this)
  have HHd := Lib.hid (fun W => by have := pHead r W hz1 hz0; rw [hhd] at this; exact this)
  have HBd := Lib.hid (fun W (hb : Below w.heap.size w W) => by have := pBad r W hz1 hz0 (hT.below hb); rw [hbd] at this; exact this)
  have HPl := Lib.hid (fun W (hb : Below w.heap.size w W) (q1 : bd = false) (q2 : sg = 0) => by have := pPlain b op r W hz1 hz0 (hT.below hb) (hM.below hb).c.2.2.2.2.2.1 (by rw [hbd]; exact q1) (sign_none op dash r hz0 (by rw [hsg]; exact q2)).1 (sign_none op dash r hz0 (by rw [hsg]; exact q2)).2; rw [hpl] at this; exact this)
  have hBh : ∀ W, Below w.heap.size w W → f = false → Calls Tryd.prog 52 #[.pointer (some ⟨b, 0, none⟩)] W fun e w' => e = .returned (.bool blank) ∧ Below W.heap.size W w' := by
    intro W hb q
    obtain ⟨l0, x, rfl, hx⟩ := hbl q
    have := pBehind b v l0 x W hl (hM.below hb).c.2.1 (Reads.of_own (own_below hO hb))
    rw [← hx] at this
    exact this
  have HBh := Lib.hid hBh
  clear hBh
  obtain ⟨c0, c1, c2, c3, c4, c5, c6, c7, c8⟩ := hM.c
  have i1 : (at' : Int) ≤ (en : Int) := by omega
  have i2 : (en : Int) ≤ (s.size : Int) := by omega
  have i3 : (0 : Int) ≤ (at' : Int) := by omega
  have hz2 : (0 : Int) < (r.size : Int) := by omega
  clear hz hM hO hT hm hrs hrb hh hwd hsg hnm hqt hhd hbd hpl hN hhs hf hbl hln c1 c5 c6 c7 c8
  go_enter Tryd.func29, Tryd.ntmps29
  go_wp2_with fail
  go_big_quiet (fail)
  have hb1 := below_drewN (Below.refl w.heap.size w) nq
  obtain ⟨W1, hW1⟩ : ∃ W1, w.drewN nq = W1 := ⟨_, rfl⟩
  rw [hW1] at hb1 ⊢
  have c2 := (HM.out W1 hb1).c.2.2.1
  have c3 := (HM.out W1 hb1).c.2.2.2.1
  clear hW1 c0 c4
  go_wp2_with fail
  go_big_quiet (fail)
  have hb2 := below_drewN hb1 nq
  obtain ⟨W2, hW2⟩ : ∃ W2, W1.drewN nq = W2 := ⟨_, rfl⟩
  rw [hW2] at hb2 ⊢
  clear hW2 c2 c3 hb1 hr i1 i2 i3
  go_wp2_with fail
  refine (HMk.out _).mono ?_
  rintro e w1 ⟨rfl, rfl⟩
  have hk1 := kI_test m
  go_upto_region 4 with fail
  go_cut [34] (fun q wx => q = .bool (f && decide (0 < m)) ∧ wx = W2)
  case first =>
    cases f with
    | true =>
      go_wp2_with fail
      go_meet
      exact ⟨rfl, rfl⟩
    | false =>
      go_wp2_with fail
      go_meet
      exact ⟨rfl, rfl⟩
  case rest =>
    obtain ⟨rfl, rfl⟩ := hcut
    clear hk1
    cases q1 : (f && decide (0 < m)) with
    | true =>
      have hq : f = true ∧ 0 < m := by simpa using q1
      have HE := Lib.hid (show N = (m, 3) from by rw [HN.out, if_pos hq])
      have hkp := kI_pos m hq.2
      go_wp2_with fail
      go_ret2
      exact ⟨by rw [HE.out, hkp]; rfl, hb2⟩
    | false =>
      have HQ1 := Lib.hid (show ¬ (f = true ∧ 0 < m) from by simpa using q1)
      clear q1
      go_wp2_with fail
      refine (HRS.out _).mono ?_
      rintro e w2 ⟨rfl, hc⟩
      have hb3 := hb2.trans (hc.mono hb2.size)
      clear hc
      have hr1 : decide ((0 : Int) < (rs : Int)) = decide (0 < rs) := by rw [Bool.eq_iff_iff]; simp
      go_upto_region 7 with fail
      go_cut [42] (fun q wx => q = .bool (f && decide (0 < rs)) ∧ wx = w2)
      case first =>
        by_cases hrs0 : 0 < rs
        · have hI : (0 : Int) < (rs : Int) := by omega
          cases f with
          | true =>
            go_wp2_with fail
            go_meet
            exact ⟨by simp [hrs0], rfl⟩
          | false =>
            go_wp2_with fail
            go_meet
            exact ⟨rfl, rfl⟩
        · obtain rfl : rs = 0 := by omega
          cases f with
          | true =>
            go_wp2_with fail
            go_meet
            exact ⟨rfl, rfl⟩
          | false =>
            go_wp2_with fail
            go_meet
            exact ⟨rfl, rfl⟩
      case rest =>
        obtain ⟨rfl, rfl⟩ := hcut
        clear hr1
        cases q2 : (f && decide (0 < rs)) with
        | true =>
          have HE := Lib.hid (show N = (2, rs) from by rw [HN.out, if_neg HQ1.out, if_pos (by simpa using q2)])
          go_wp2_with fail
          go_ret2
          exact ⟨by rw [HE.out]; rfl, hb3⟩
        | false =>
          have HQ2 := Lib.hid (show ¬ (f = true ∧ 0 < rs) from by simpa using q2)
          clear q2
          go_wp2_with fail
          refine (HRB.out _).mono ?_
          rintro e w4 ⟨rfl, hc⟩
          have hb4 := hb3.trans (hc.mono hb3.size)
          clear hc
          by_cases hrb0 : 0 < rb
          · have hI : (0 : Int) < (rb : Int) := by omega
            have HE := Lib.hid (show N = (3, rb) from by rw [HN.out, if_neg HQ1.out, if_neg HQ2.out, if_pos hrb0])
            go_wp2_with fail
            go_ret2
            exact ⟨by rw [HE.out]; rfl, hb4⟩
          · obtain rfl : rb = 0 := by omega
            go_upto_region 12 with fail
            go_cut [58] (fun q wx => q = .bool (h && (f || blank)) ∧ Below w.heap.size w wx)
            case first =>
              cases h with
              | true =>
                cases f with
                | true =>
                  go_wp2_with fail
                  go_meet
                  exact ⟨rfl, hb4⟩
                | false =>
                  have HB2 := Lib.hid (HBh.out _ hb4 rfl)
                  clear HBh
                  go_wp2_with fail
                  refine HB2.out.mono ?_
                  rintro e w5 ⟨rfl, hc⟩
                  have hb5 := hb4.trans (hc.mono hb4.size)
                  clear hc
                  go_wp2_with fail
                  go_meet
                  exact ⟨rfl, hb5⟩
              | false =>
                go_wp2_with fail
                go_meet
                exact ⟨rfl, hb4⟩
            case rest =>
              obtain ⟨rfl, hb5⟩ := hcut
              clear hb4 hb3 hb2
              cases q3 : (h && (f || blank)) with
              | true =>
                have HE := Lib.hid (show N = (4, r.size) from by rw [HN.out, if_neg HQ1.out, if_neg HQ2.out, if_neg (by omega), if_pos (by simpa using q3)])
                go_wp2_with fail
                go_ret2
                exact ⟨by rw [HE.out]; rfl, hb5⟩
              | false =>
                have HE := Lib.hid (show N = wd from by rw [HN.out, if_neg HQ1.out, if_neg HQ2.out, if_neg (by omega), if_neg (by simpa using q3)])
                clear q3 HQ1 HQ2 HN HMk HRS HRB HBh
                go_wp2_with fail
                refine (HSg.out _ hb5).mono ?_
                rintro e w6 ⟨rfl, rfl⟩
                have hk5 := kI_test sg
                by_cases hsg0 : 0 < sg
                · rw [decide_eq_true hsg0] at hk5
                  have HE2 := Lib.hid (show N = (sg, 1) from by rw [HE.out, HW.out, if_pos hsg0])
                  have hkp := kI_pos sg hsg0
                  go_wp2_with fail
                  go_ret2
                  exact ⟨by rw [HE2.out]; simp only [pr]; first | rfl | (rw [← hkp]; rfl), hb5⟩
                · obtain rfl : sg = 0 := by omega
                  clear hk5
                  go_wp2_with fail
                  refine (HNm.out _).mono ?_
                  rintro e w7 ⟨rfl, hc⟩
                  have hb6 := hb5.trans (hc.mono hb5.size)
                  clear hc
                  have hk6 := kI_test nm.1
                  by_cases hnm0 : 0 < nm.1
                  · rw [decide_eq_true hnm0] at hk6
                    have HE2 := Lib.hid (show N = nm from by rw [HE.out, HW.out, if_neg (by omega), if_pos hnm0])
                    have hkp := kI_pos nm.1 hnm0
                    go_wp2_with fail
                    go_ret2
                    exact ⟨by rw [HE2.out]; simp only [pr]; first | rfl | (rw [← hkp]; rfl), hb6⟩
                  · rw [decide_eq_false hnm0] at hk6
                    clear hb5
                    go_wp2_with fail
                    refine (HQt.out _).mono ?_
                    rintro e w8 ⟨rfl, rfl⟩
                    have hk7 := kI_test qt.1
                    by_cases hqt0 : 0 < qt.1
                    · rw [decide_eq_true hqt0] at hk7
                      have HE2 := Lib.hid (show N = qt from by rw [HE.out, HW.out, if_neg (by omega), if_neg hnm0, if_pos hqt0])
                      have hkp := kI_pos qt.1 hqt0
                      go_wp2_with fail
                      go_ret2
                      exact ⟨by rw [HE2.out]; simp only [pr]; first | rfl | (rw [← hkp]; rfl), hb6⟩
                    · rw [decide_eq_false hqt0] at hk7
                      go_wp2_with fail
                      refine (HHd.out _).mono ?_
                      rintro e w9 ⟨rfl, hc⟩
                      have hb7 := hb6.trans (hc.mono hb6.size)
                      clear hc hb6
                      have c5 := (HM.out _ hb7).c.2.2.2.2.2.1
                      go_upto_region 24 with fail
                      go_cut [95] (fun q wx => q = .bool (decide (op = 0 ∧ 0 < hd)) ∧ wx = w9)
                      case first =>
                        by_cases ho : op = 0
                        · subst ho
                          by_cases hh0 : 0 < hd
                          · have hI : (0 : Int) < (hd : Int) := by omega
                            go_wp2_with fail
                            go_meet
                            exact ⟨by simp [hh0], rfl⟩
                          · obtain rfl : hd = 0 := by omega
                            go_wp2_with fail
                            go_meet
                            exact ⟨rfl, rfl⟩
                        · have ho2 : ((op : Int) == 0) = false := beq_eq_false_iff_ne.2 (by omega)
                          go_wp2_with fail
                          go_meet
                          exact ⟨by simp [ho], rfl⟩
                      case rest =>
                        obtain ⟨rfl, rfl⟩ := hcut
                        clear c5
                        by_cases q4 : op = 0 ∧ 0 < hd
                        · have q5 := decide_eq_true q4
                          have HE2 := Lib.hid (show N = (18, hd) from by rw [HE.out, HW.out, if_neg (by omega), if_neg hnm0, if_neg hqt0, if_pos q4])
                          rw [q5]
                          clear q4
                          go_wp2_with fail
                          go_ret2
                          exact ⟨by rw [HE2.out]; rfl, hb7⟩
                        · have q5 := decide_eq_false q4
                          rw [q5]
                          have HQ4 := Lib.hid q4
                          have HQn := Lib.hid hnm0
                          have HQq := Lib.hid hqt0
                          clear q4 hnm0 hqt0
                          go_wp2_with fail
                          refine (HBd.out _ hb7).mono ?_
                          rintro e wa ⟨rfl, hc⟩
                          have hb8 := hb7.trans (hc.mono hb7.size)
                          clear hc
                          cases hbv : bd with
                          | true =>
                            have HE2 := Lib.hid (show N = (22, 1) from by rw [HE.out, HW.out, if_neg (by omega), if_neg HQn.out, if_neg HQq.out, if_neg HQ4.out, if_pos hbv])
                            go_wp2_with fail
                            go_ret2
                            exact ⟨by rw [HE2.out]; rfl, hb8⟩
                          | false =>
                            have HE2 := Lib.hid (show N = (15, pl) from by rw [HE.out, HW.out, if_neg (by omega), if_neg HQn.out, if_neg HQq.out, if_neg HQ4.out, if_neg (by rw [hbv]; simp)])
                            have HPL := Lib.hid (HPl.out _ hb8 hbv trivial)
                            go_wp2_with fail
                            refine HPL.out.mono ?_
                            rintro e wb ⟨rfl, hc⟩
                            have hb9 := hb8.trans (hc.mono hb8.size)
                            clear hc
                            go_wp2_with fail
                            go_ret2
                            exact ⟨by rw [HE2.out]; rfl, hb9⟩
end Go.Proofs.YtapkejdjbmdebaaDoor
