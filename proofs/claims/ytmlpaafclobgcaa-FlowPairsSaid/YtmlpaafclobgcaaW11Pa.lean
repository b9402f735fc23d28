/- The walk of the law FlowPairs (tools/gen_pairs.py). -/
import Derived.Test.YtmlpaafclobgcaaAidy
namespace Go.Proofs.Ytmlpaafclobgcaa
open Go.RowKit
open Go.Proofs.Ytmlpaafclobgcaa.Sg
open Go.Proofs.Ytmlpaafclobgcaa.Sq
open Go.Proofs.Ytmlpaafclobgcaa.Ar
set_option linter.unusedVariables false

structure Pm (S : ByteArray) (ks : List Nat) (i pn kn : Nat) : Prop where
  text : Sc.nats S = bodyB ks
  len : ks.length = i
  lt : ∀ z ∈ ks, z < 4
  pairs : np ks = pn
  keys : nq ks = kn
  le : pn ≤ i ∧ kn ≤ i
theorem Pm.size {S : ByteArray} {ks : List Nat} {i pn kn : Nat} (c : Pm S ks i pn kn) : S.size ≤ 7 * i := by
  rw [size_of_nats c.text, ← c.len]; exact bodyB_len ks
theorem Pm.put {S S' : ByteArray} {ks : List Nat} {i pn kn : Nat} (c : Pm S ks i pn kn) (k : Nat) (hk : k < 4) (hS : Sc.nats S' = bodyB (ks ++ [k])) {pn' kn' : Nat} (h1 : pn' = pn + (if 0 < k then 1 else 0)) (h2 : kn' = kn + (if k ≠ 2 then 1 else 0)) : Pm S' (ks ++ [k]) (i + 1) pn' kn' := by
  refine ⟨hS, by rw [List.length_append, c.len]; rfl, fun z hz => ?_, by rw [np_put, c.pairs, h1], by rw [nq_put, c.keys, h2], ?_⟩
  · rw [List.mem_append, List.mem_singleton] at hz
    rcases hz with hz | hz
    · exact c.lt z hz
    · omega
  · have := c.le
    subst h1 h2
    constructor <;> (split <;> omega)
theorem Pm.first {S X : ByteArray} {ks : List Nat} {i pn kn : Nat} (c : Pm S ks i pn kn) (hi : i = 0) (k : Nat) (hX : Sc.nats X = Fl.itB k) : Sc.nats (S ++ X) = bodyB (ks ++ [k]) := by
  have h := c.len
  have hks : ks = [] := List.eq_nil_of_length_eq_zero (by omega)
  rw [Sc.nats_app, c.text, hks, hX]
  show [] ++ Fl.itB k = bodyB [k]
  rw [bodyB_one]; rfl
theorem Pm.next {S X S1 : ByteArray} {ks : List Nat} {i pn kn : Nat} (c : Pm S ks i pn kn) (hi : 0 < i) (k : Nat) (h1 : S ++ ⟨#[44, 32]⟩ = S1) (hX : Sc.nats X = Fl.itB k) : Sc.nats (S1 ++ X) = bodyB (ks ++ [k]) := by
  rw [bodyB_put ks k (by rw [c.len]; exact hi), Sc.nats_app, ← h1, Sc.nats_app, c.text, hX]; rfl
/-- Both readings of the same items. -/
theorem pair_res (ks : List Nat) (hz : ∀ z ∈ ks, z < 4) (hl : ks.length ≤ 12) :
    (∃ (T : List Tk) (N : Nat) (s' : Fl.St), Sc.tokens (Fl.allB 123 125 ks) = T ∧ T.length = N ∧ N ≤ 100 ∧ Fl.valN T N 9 0 0 ⟨newN N, []⟩ = (1, N, s') ∧ nk 6 (Fl.sig s'.t) = ks.length ∧ nkey (Fl.sig s'.t) = nq ks ∧ s'.d = [] ∧ 0 < s'.t.length ∧ s'.t.length ≤ 100) ∧
    (∃ (T : List Tk) (N : Nat) (s' : Fl.St), Sc.tokens (Fl.allB 91 93 ks) = T ∧ T.length = N ∧ N ≤ 100 ∧ Fl.valN T N 9 0 0 ⟨newN N, []⟩ = (1, N, s') ∧ nk 6 (Fl.sig s'.t) = np ks ∧ s'.d = [] ∧ 0 < s'.t.length ∧ s'.t.length ≤ 100) := by
  obtain ⟨c1, c2, c3, c4, c5⟩ := count_dict ks hz
  have hb := bodyB_len ks
  have ha : ∀ b x : Nat, (Fl.allB b x ks).length ≤ 86 := fun b x => by rw [allB_is, List.length_cons, List.length_append, List.length_singleton]; omega
  constructor
  · have ht : (Sc.tokens (Fl.allB 123 125 ks)).map (·.1) = Fl.allK' 9 11 ks := Fl.pair_toks true ks hz (by show (Fl.allB 123 125 ks).length ≤ 16384; have := ha 123 125; omega)
    have hN := tokens_len (Fl.allB 123 125 ks)
    have := ha 123 125
    obtain ⟨s', hv, hsig, hd, -⟩ := Fl.pairs_all (Sc.tokens (Fl.allB 123 125 ks)) 9 ks (.inr rfl) ht hz (by omega) 8 (by omega)
    have e : Fl.sig s'.t = (1, false) :: (10, false) :: ks.flatMap (Fl.itS true) := hsig
    have hlen := congrArg List.length e
    unfold Fl.sig at hlen
    rw [List.length_map, List.length_cons, List.length_cons] at hlen
    refine ⟨_, _, s', rfl, rfl, by omega, hv, ?_, ?_, hd, by omega, by omega⟩
    · rw [e, nk_cons, nk_cons, c1]; simp
    · rw [e]; unfold nkey at c2 ⊢; rw [List.countP_cons_of_neg (by decide), List.countP_cons_of_neg (by decide), c2]
  · have ht : (Sc.tokens (Fl.allB 91 93 ks)).map (·.1) = Fl.allK' 8 10 ks := Fl.pair_toks false ks hz (by show (Fl.allB 91 93 ks).length ≤ 16384; have := ha 91 93; omega)
    have hN := tokens_len (Fl.allB 91 93 ks)
    have := ha 91 93
    obtain ⟨s', hv, hsig, hd, -⟩ := Fl.pairs_all (Sc.tokens (Fl.allB 91 93 ks)) 8 ks (.inl rfl) ht hz (by omega) 8 (by omega)
    have e : Fl.sig s'.t = (1, false) :: (9, false) :: ks.flatMap (Fl.itS false) := hsig
    have hlen := congrArg List.length e
    unfold Fl.sig at hlen
    rw [List.length_map, List.length_cons, List.length_cons] at hlen
    refine ⟨_, _, s', rfl, rfl, by omega, hv, ?_, hd, by omega, by omega⟩
    rw [e, nk_cons, nk_cons, c3]; simp
set_option maxHeartbeats 2000000 in
set_option maxRecDepth 100000 in
theorem walk_FlowPairs (v : Value) (l : List Int) (w : World) (hl : Nums .i64 w v l) :
    Calls Try.prog 7 #[v] w fun e w' => e = .returned (.bool true) ∧ Below w.heap.size w w' := by
  have hmx := hl.len
  obtain ⟨a, cap, rfl⟩ := hl.shape
  have HQ := Lib.hid (fun w' => show Below w.heap.size w w' → (fun e (w' : World) => e = Ending.returned (.bool true) ∧ Below w.heap.size w w') (.returned (.bool true)) w' from fun h => ⟨rfl, h⟩)
  obtain ⟨Q, hQ⟩ : ∃ Q, (fun e (w' : World) => e = Ending.returned (.bool true) ∧ Below w.heap.size w w') = Q := ⟨_, rfl⟩
  rw [hQ] at HQ ⊢
  have HK := Lib.hid (known_true w)
  have HL := Lib.hid hl
  obtain ⟨M, hM⟩ : ∃ M, l.length = M := ⟨_, rfl⟩
  rw [hM] at hmx ⊢
  have HM := Lib.hid hM
  obtain ⟨m, hm⟩ : ∃ m, m = min M 12 := ⟨_, rfl⟩
  have hmin : min (M : Int) 12 = (m : Int) := by omega
  have hm12 : m ≤ 12 := by omega
  have hmM : m ≤ M := by omega
  clear hl hQ hM hm
  go_enter Try.func7, Try.ntmps7
  go_wp2_with fail
  refine HK.out.mono ?_
  rintro e w1 ⟨rfl, hb1⟩
  have HB1 := Lib.hid hb1
  have HL1 := Lib.hid (show ∀ j, j < M → ∃ b off, a = some ⟨b, off, none⟩ ∧ M ≤ cap ∧ cap ≤ maxLen ∧ w1.cell? ⟨b, off + j, none⟩ = some (.int .i64 (l.getD j 0)) from fun j hj => by
    obtain ⟨b, off, h1, h2, h3, h4⟩ := (HL.out.below hb1).at_ (j := j) (by rw [HM.out]; exact hj)
    exact ⟨b, off, h1, by rw [← HM.out]; exact h2, h3, h4⟩)
  clear hb1 HK HL HM
  go_upto_region 7 with fail
  clear hmin
  go_loopw [3, 4, 5, 7] (fun sv pv kv iv wr => ∃ (i pn kn : Nat) (S : ByteArray), iv = .int .i64 (i : Int) ∧ i ≤ m ∧ sv = .string S ∧ pv = .int .i64 (pn : Int) ∧ kv = .int .i64 (kn : Int) ∧ Hid (∃ ks, Pm S ks i pn kn) ∧ Below w1.heap.size w1 wr) (fun _ _ _ iv _ => m - (intOf iv).toNat)
  case atStart => exact ⟨0, 0, 0, ⟨#[]⟩, rfl, by omega, rfl, rfl, rfl, Lib.hid ⟨[], rfl, rfl, (fun z hz => by cases hz), rfl, rfl, by omega⟩, Below.refl _ _⟩
  case round =>
    obtain ⟨i, pn, kn, S, rfl, hi, rfl, rfl, rfl, HC, hbw⟩ := hrel
    obtain ⟨ks, hc⟩ := HC.out
    have hsz := hc.size
    obtain ⟨hle1, hle2⟩ := hc.le
    have HCm := Lib.hid hc
    have HBw := Lib.hid hbw
    clear HC
    by_cases hlt : i < m
    · have g1 : (i : Int) < (m : Int) := by omega
      have g1M : (i : Int) < (M : Int) := by omega
      obtain ⟨b, off, rfl, q2, q3, q⟩ := HL1.out i (by omega)
      simp only [maxLen] at q3
      obtain ⟨y, hy⟩ : ∃ y, l.getD i 0 = y := ⟨_, rfl⟩
      rw [hy] at q
      have q := at_below hbw q
      obtain ⟨k, hk4, hwi⟩ := within_lit y 4 4 rfl (by decide) (by decide)
      have HW := Lib.hid hwi
      have HBn := Lib.hid (below_from HBw.out (below_alloc wr (.cells #[.string ⟨#[97]⟩, .string ⟨#[98, 58, 32, 99]⟩, .string ⟨#[58, 32, 100]⟩, .string ⟨#[39, 101, 39, 58, 32]⟩] 9)))
      clear hy hwi hbw hc
      have y1 : ¬ (9223372036854775807 < S.size + 2) := by omega
      have y2 : ¬ (9223372036854775807 < S.size + 1) := by omega
      have y3 : ¬ (9223372036854775807 < S.size + 4) := by omega
      have y4 : ¬ (9223372036854775807 < S.size + 3) := by omega
      have y5 : ¬ (9223372036854775807 < S.size + 5) := by omega
      by_cases h0 : i = 0
      · subst h0
        rw [Nat.add_zero] at q
        go_wp2_with fail
        refine (HW.out _).mono ?_
        rintro e w2 ⟨rfl, rfl⟩
        rcases (by omega : k = 0 ∨ k = 1 ∨ k = 2 ∨ k = 3) with rfl | rfl | rfl | rfl
        · have HN := Lib.hid (⟨_, HCm.out.put 0 (by decide) (HCm.out.first rfl 0 rfl) (pn' := pn) (kn' := kn + 1) (by simp) (by simp)⟩ : ∃ ks, Pm (S ++ ⟨#[97]⟩) ks (1) (pn) (kn + 1))
          have mq : (wr.alloc (.cells #[.string ⟨#[97]⟩, .string ⟨#[98, 58, 32, 99]⟩, .string ⟨#[58, 32, 100]⟩, .string ⟨#[39, 101, 39, 58, 32]⟩] 9)).cell? ⟨wr.heap.size, 0, none⟩ = some (.string ⟨#[97]⟩) := at_new rfl
          go_wp2_with fail
          go_roundw
          case rel => exact ⟨1, pn, kn + 1, (S ++ ⟨#[97]⟩), by first | rfl | go_num, by omega, rfl, by first | rfl | go_num, by first | rfl | go_num, HN, HBn.out⟩
          case measure => simp [intOf]; omega
        · have HN := Lib.hid (⟨_, HCm.out.put 1 (by decide) (HCm.out.first rfl 1 rfl) (pn' := pn + 1) (kn' := kn + 1) (by simp) (by simp)⟩ : ∃ ks, Pm (S ++ ⟨#[98, 58, 32, 99]⟩) ks (1) (pn + 1) (kn + 1))
          have mq : (wr.alloc (.cells #[.string ⟨#[97]⟩, .string ⟨#[98, 58, 32, 99]⟩, .string ⟨#[58, 32, 100]⟩, .string ⟨#[39, 101, 39, 58, 32]⟩] 9)).cell? ⟨wr.heap.size, 1, none⟩ = some (.string ⟨#[98, 58, 32, 99]⟩) := at_new rfl
          go_wp2_with fail
          go_roundw
          case rel => exact ⟨1, pn + 1, kn + 1, (S ++ ⟨#[98, 58, 32, 99]⟩), by first | rfl | go_num, by omega, rfl, by first | rfl | go_num, by first | rfl | go_num, HN, HBn.out⟩
          case measure => simp [intOf]; omega
        · have HN := Lib.hid (⟨_, HCm.out.put 2 (by decide) (HCm.out.first rfl 2 rfl) (pn' := pn + 1) (kn' := kn) (by simp) (by simp)⟩ : ∃ ks, Pm (S ++ ⟨#[58, 32, 100]⟩) ks (1) (pn + 1) (kn))
          have mq : (wr.alloc (.cells #[.string ⟨#[97]⟩, .string ⟨#[98, 58, 32, 99]⟩, .string ⟨#[58, 32, 100]⟩, .string ⟨#[39, 101, 39, 58, 32]⟩] 9)).cell? ⟨wr.heap.size, 2, none⟩ = some (.string ⟨#[58, 32, 100]⟩) := at_new rfl
          go_wp2_with fail
          go_roundw
          case rel => exact ⟨1, pn + 1, kn, (S ++ ⟨#[58, 32, 100]⟩), by first | rfl | go_num, by omega, rfl, by first | rfl | go_num, by first | rfl | go_num, HN, HBn.out⟩
          case measure => simp [intOf]; omega
        · have HN := Lib.hid (⟨_, HCm.out.put 3 (by decide) (HCm.out.first rfl 3 rfl) (pn' := pn + 1) (kn' := kn + 1) (by simp) (by simp)⟩ : ∃ ks, Pm (S ++ ⟨#[39, 101, 39, 58, 32]⟩) ks (1) (pn + 1) (kn + 1))
          have mq : (wr.alloc (.cells #[.string ⟨#[97]⟩, .string ⟨#[98, 58, 32, 99]⟩, .string ⟨#[58, 32, 100]⟩, .string ⟨#[39, 101, 39, 58, 32]⟩] 9)).cell? ⟨wr.heap.size, 3, none⟩ = some (.string ⟨#[39, 101, 39, 58, 32]⟩) := at_new rfl
          go_wp2_with fail
          go_roundw
          case rel => exact ⟨1, pn + 1, kn + 1, (S ++ ⟨#[39, 101, 39, 58, 32]⟩), by first | rfl | go_num, by omega, rfl, by first | rfl | go_num, by first | rfl | go_num, HN, HBn.out⟩
          case measure => simp [intOf]; omega
      · have g2 : (0 : Int) < (i : Int) := by omega
        have h0 : 0 < i := by omega
        obtain ⟨S1, hS1⟩ : ∃ S1, S ++ (⟨#[44, 32]⟩ : ByteArray) = S1 := ⟨_, rfl⟩
        have z1 : S1.size = S.size + 2 := by rw [← hS1, Sg.app_size]; rfl
        have z2 : ¬ (9223372036854775807 < S1.size + 1) := by omega
        have z3 : ¬ (9223372036854775807 < S1.size + 4) := by omega
        have z4 : ¬ (9223372036854775807 < S1.size + 3) := by omega
        have z5 : ¬ (9223372036854775807 < S1.size + 5) := by omega
        have HS1 := Lib.hid hS1
        clear z1
        go_wp2_with fail
        clear hS1
        refine (HW.out _).mono ?_
        rintro e w2 ⟨rfl, rfl⟩
        rcases (by omega : k = 0 ∨ k = 1 ∨ k = 2 ∨ k = 3) with rfl | rfl | rfl | rfl
        · have HN := Lib.hid (⟨_, HCm.out.put 0 (by decide) (HCm.out.next h0 0 HS1.out rfl) (pn' := pn) (kn' := kn + 1) (by simp) (by simp)⟩ : ∃ ks, Pm (S1 ++ ⟨#[97]⟩) ks (i + 1) (pn) (kn + 1))
          have mq : (wr.alloc (.cells #[.string ⟨#[97]⟩, .string ⟨#[98, 58, 32, 99]⟩, .string ⟨#[58, 32, 100]⟩, .string ⟨#[39, 101, 39, 58, 32]⟩] 9)).cell? ⟨wr.heap.size, 0, none⟩ = some (.string ⟨#[97]⟩) := at_new rfl
          go_wp2_with fail
          go_roundw
          case rel => exact ⟨i + 1, pn, kn + 1, (S1 ++ ⟨#[97]⟩), by first | rfl | go_num, by omega, rfl, by first | rfl | go_num, by first | rfl | go_num, HN, HBn.out⟩
          case measure => simp [intOf]; omega
        · have HN := Lib.hid (⟨_, HCm.out.put 1 (by decide) (HCm.out.next h0 1 HS1.out rfl) (pn' := pn + 1) (kn' := kn + 1) (by simp) (by simp)⟩ : ∃ ks, Pm (S1 ++ ⟨#[98, 58, 32, 99]⟩) ks (i + 1) (pn + 1) (kn + 1))
          have mq : (wr.alloc (.cells #[.string ⟨#[97]⟩, .string ⟨#[98, 58, 32, 99]⟩, .string ⟨#[58, 32, 100]⟩, .string ⟨#[39, 101, 39, 58, 32]⟩] 9)).cell? ⟨wr.heap.size, 1, none⟩ = some (.string ⟨#[98, 58, 32, 99]⟩) := at_new rfl
          go_wp2_with fail
          go_roundw
          case rel => exact ⟨i + 1, pn + 1, kn + 1, (S1 ++ ⟨#[98, 58, 32, 99]⟩), by first | rfl | go_num, by omega, rfl, by first | rfl | go_num, by first | rfl | go_num, HN, HBn.out⟩
          case measure => simp [intOf]; omega
        · have HN := Lib.hid (⟨_, HCm.out.put 2 (by decide) (HCm.out.next h0 2 HS1.out rfl) (pn' := pn + 1) (kn' := kn) (by simp) (by simp)⟩ : ∃ ks, Pm (S1 ++ ⟨#[58, 32, 100]⟩) ks (i + 1) (pn + 1) (kn))
          have mq : (wr.alloc (.cells #[.string ⟨#[97]⟩, .string ⟨#[98, 58, 32, 99]⟩, .string ⟨#[58, 32, 100]⟩, .string ⟨#[39, 101, 39, 58, 32]⟩] 9)).cell? ⟨wr.heap.size, 2, none⟩ = some (.string ⟨#[58, 32, 100]⟩) := at_new rfl
          go_wp2_with fail
          go_roundw
          case rel => exact ⟨i + 1, pn + 1, kn, (S1 ++ ⟨#[58, 32, 100]⟩), by first | rfl | go_num, by omega, rfl, by first | rfl | go_num, by first | rfl | go_num, HN, HBn.out⟩
          case measure => simp [intOf]; omega
        · have HN := Lib.hid (⟨_, HCm.out.put 3 (by decide) (HCm.out.next h0 3 HS1.out rfl) (pn' := pn + 1) (kn' := kn + 1) (by simp) (by simp)⟩ : ∃ ks, Pm (S1 ++ ⟨#[39, 101, 39, 58, 32]⟩) ks (i + 1) (pn + 1) (kn + 1))
          have mq : (wr.alloc (.cells #[.string ⟨#[97]⟩, .string ⟨#[98, 58, 32, 99]⟩, .string ⟨#[58, 32, 100]⟩, .string ⟨#[39, 101, 39, 58, 32]⟩] 9)).cell? ⟨wr.heap.size, 3, none⟩ = some (.string ⟨#[39, 101, 39, 58, 32]⟩) := at_new rfl
          go_wp2_with fail
          go_roundw
          case rel => exact ⟨i + 1, pn + 1, kn + 1, (S1 ++ ⟨#[39, 101, 39, 58, 32]⟩), by first | rfl | go_num, by omega, rfl, by first | rfl | go_num, by first | rfl | go_num, HN, HBn.out⟩
          case measure => simp [intOf]; omega
    · obtain rfl : i = m := by omega
      have g1 : ¬ ((i : Int) < (i : Int)) := by omega
      obtain ⟨⟨T1, N1, s1, hT1, hN1, hNb1, hv1, hc1, hc2, hd1, hl1, hL1⟩, ⟨T2, N2, s2, hT2, hN2, hNb2, hv2, hc3, hd2, hl2, hL2⟩⟩ := pair_res ks hc.lt (by rw [hc.len]; exact hm12)
      rw [hc.len] at hc1
      rw [hc.keys] at hc2
      rw [hc.pairs] at hc3
      obtain ⟨S3, hS3⟩ : ∃ S3, (⟨#[123]⟩ : ByteArray) ++ S = S3 := ⟨_, rfl⟩
      obtain ⟨S4, hS4⟩ : ∃ S4, S3 ++ (⟨#[125]⟩ : ByteArray) = S4 := ⟨_, rfl⟩
      obtain ⟨S5, hS5⟩ : ∃ S5, (⟨#[91]⟩ : ByteArray) ++ S = S5 := ⟨_, rfl⟩
      obtain ⟨S6, hS6⟩ : ∃ S6, S5 ++ (⟨#[93]⟩ : ByteArray) = S6 := ⟨_, rfl⟩
      have z3 : S3.size = 1 + S.size := by rw [← hS3, Sg.app_size]; rfl
      have z4 : S4.size = S3.size + 1 := by rw [← hS4, Sg.app_size]; rfl
      have z5 : S5.size = 1 + S.size := by rw [← hS5, Sg.app_size]; rfl
      have z6 : S6.size = S5.size + 1 := by rw [← hS6, Sg.app_size]; rfl
      have n4 : Sc.nats S4 = Fl.allB 123 125 ks := by rw [← hS4, ← hS3, Sc.nats_app, Sc.nats_app, hc.text, allB_is]; rfl
      have n6 : Sc.nats S6 = Fl.allB 91 93 ks := by rw [← hS6, ← hS5, Sc.nats_app, Sc.nats_app, hc.text, allB_is]; rfl
      have HVal1 := Lib.hid (value_at S4 wr (by omega) (by rw [n4]; exact pair_tame _ _ ks (by decide) (by decide)) (by rw [n4]; exact hT1) hN1 hv1)
      have HVal2 := Lib.hid (fun W => value_at S6 W (by omega) (by rw [n6]; exact pair_tame _ _ ks (by decide) (by decide)) (by rw [n6]; exact hT2) hN2 hv2)
      have y1 : ¬ (9223372036854775807 < 1 + S.size) := by omega
      have y2 : ¬ (9223372036854775807 < S3.size + 1) := by omega
      have y3 : ¬ (9223372036854775807 < S5.size + 1) := by omega
      have HC1 := Lib.hid hc1
      have HC2 := Lib.hid hc2
      have HC3 := Lib.hid hc3
      have HB2 := Lib.hid (below_from HB1.out hbw)
      clear z3 z4 z5 z6 n4 n6 hT1 hN1 hv1 hT2 hN2 hv2 hc1 hc2 hc3 hc HCm hsz hbw HBw HL1
      go_wp2_with fail
      refine HVal1.out.mono ?_
      rintro e w3 ⟨z, dv, rfl, hn3, hd3, hb3⟩
      obtain ⟨za, zc, rfl⟩ := hn3.shape
      obtain ⟨da, dc, rfl⟩ := hd3.shape
      obtain ⟨b1, off1, rfl, hat⟩ := nodes_all hn3 hl1
      rw [hd1]
      obtain ⟨TL1, hTL1⟩ : ∃ TL, s1.t.length = TL := ⟨_, rfl⟩
      rw [hTL1]
      rw [hTL1] at hl1 hL1
      have HTL1 := Lib.hid hTL1
      have HB3 := Lib.hid (below_from (below_from HB2.out hb3) (below_alloc w3 (.cells #[.slice (some ⟨b1, off1, none⟩) TL1 zc] 31)))
      have HAt := Lib.hid (fun j x hx => (⟨at_alloc (o := .cells #[.slice (some ⟨b1, off1, none⟩) TL1 zc] 31) (hat j x hx).1, at_alloc (o := .cells #[.slice (some ⟨b1, off1, none⟩) TL1 zc] 31) (hat j x hx).2⟩ : _ ∧ _))
      have m1 : (w3.alloc (.cells #[.slice (some ⟨b1, off1, none⟩) TL1 zc] 31)).cell? ⟨w3.heap.size, 0, none⟩ = some (.slice (some ⟨b1, off1, none⟩) TL1 zc) := at_new rfl
      simp only [List.length_nil]
      clear hn3 hd3 hb3 hat hTL1 HVal1 hd1
      go_upto_region 18 with fail
      generalize w3.alloc (.cells #[.slice (some ⟨b1, off1, none⟩) TL1 zc] 31) = W1 at *
      go_wp2_with fail
      refine (HVal2.out _).mono ?_
      rintro e w4 ⟨z, dv, rfl, hn4, hd4, hb4⟩
      obtain ⟨ya, yc, rfl⟩ := hn4.shape
      obtain ⟨ea, ec, rfl⟩ := hd4.shape
      obtain ⟨b2, off2, rfl, hat⟩ := nodes_all hn4 hl2
      rw [hd2]
      obtain ⟨TL2, hTL2⟩ : ∃ TL, s2.t.length = TL := ⟨_, rfl⟩
      rw [hTL2]
      rw [hTL2] at hl2 hL2
      have HTL2 := Lib.hid hTL2
      have hb5 := below_from hb4 (below_alloc w4 (.cells #[.slice (some ⟨b2, off2, none⟩) TL2 yc] 31))
      have HD := Lib.hid (HQ.out _ (below_from HB3.out hb5))
      have HA1 := Lib.hid (fun j x hx => (⟨at_below hb5 (HAt.out j x hx).1, at_below hb5 (HAt.out j x hx).2⟩ : _ ∧ _))
      have HA2 := Lib.hid (fun j x hx => at_alloc (o := .cells #[.slice (some ⟨b2, off2, none⟩) TL2 yc] 31) (hat j x hx).1)
      have m1 := at_below hb5 m1
      have m2 : (w4.alloc (.cells #[.slice (some ⟨b2, off2, none⟩) TL2 yc] 31)).cell? ⟨w4.heap.size, 0, none⟩ = some (.slice (some ⟨b2, off2, none⟩) TL2 yc) := at_new rfl
      simp only [List.length_nil]
      clear hn4 hd4 hb4 hb5 hat hTL2 HVal2 hd2 HAt hS3 hS4 hS5 hS6
      go_upto_region 19 with fail
      generalize w4.alloc (.cells #[.slice (some ⟨b2, off2, none⟩) TL2 yc] 31) = W at *
      go_upto_region 23 with fail
      go_loopw [19, 21, 22] (fun av cv iv wx => ∃ j : Nat, iv = .int .i64 (j : Int) ∧ j ≤ TL1 ∧ av = .int .i64 (nk 6 ((Fl.sig s1.t).take j) : Int) ∧ cv = .int .i64 (nkey ((Fl.sig s1.t).take j) : Int) ∧ wx = W) (fun _ _ iv _ => TL1 - (intOf iv).toNat)
      case atStart => exact ⟨0, rfl, by omega, rfl, rfl, rfl⟩
      case round =>
        obtain ⟨j, rfl, hj, rfl, rfl, rfl⟩ := hrel
        have hC := nk_le 6 (Fl.sig s1.t) j
        have hE := nkey_le (Fl.sig s1.t) j
        by_cases hlt : j < TL1
        · have g1 : (j : Int) < (TL1 : Int) := by omega
          obtain ⟨x, hx⟩ : ∃ x, s1.t[j]? = some x := ⟨_, List.getElem?_eq_getElem (by rw [HTL1.out]; exact hlt)⟩
          obtain ⟨c1, c5⟩ := HA1.out j x hx
          have hs := nk_step (c := 6) hx
          have hs2 := nkey_step hx
          obtain ⟨C, hCn⟩ : ∃ C, nk 6 ((Fl.sig s1.t).take j) = C := ⟨_, rfl⟩
          obtain ⟨E, hEn⟩ : ∃ E, nkey ((Fl.sig s1.t).take j) = E := ⟨_, rfl⟩
          rw [hCn] at hs hC ⊢
          rw [hEn] at hs2 hE ⊢
          have HS := Lib.hid hs
          have HS2 := Lib.hid hs2
          clear hs hs2 hx hCn hEn
          by_cases e : x.k = 6
          · have g2 : (x.k == 6) = true := by simp [e]
            cases ey : x.y with
            | true =>
              rw [ey] at c5
              go_wp2_with fail
              go_roundw
              case rel => exact ⟨j + 1, by go_num, by omega, by rw [HS.out, if_pos e]; go_num, by rw [HS2.out, if_pos ⟨e, ey⟩]; go_num, trivial⟩
              case measure => simp [intOf]; omega
            | false =>
              rw [ey] at c5
              go_wp2_with fail
              go_roundw
              case rel => exact ⟨j + 1, by go_num, by omega, by rw [HS.out, if_pos e]; go_num, by rw [HS2.out, if_neg (fun h => by rw [ey] at h; exact absurd h.2 (by decide))]; go_num, trivial⟩
              case measure => simp [intOf]; omega
          · have g2 : (x.k == 6) = false := by simp [e]
            go_wp2_with fail
            go_roundw
            case rel => exact ⟨j + 1, by go_num, by omega, by rw [HS.out, if_neg e]; go_num, by rw [HS2.out, if_neg (fun h => e h.1)]; go_num, trivial⟩
            case measure => simp [intOf]; omega
        · obtain rfl : j = TL1 := by omega
          have g1 : ¬ ((j : Int) < (j : Int)) := by omega
          have hfin : nk 6 ((Fl.sig s1.t).take j) = i := by rw [← HTL1.out, nk_all]; exact HC1.out
          have hfin2 : nkey ((Fl.sig s1.t).take j) = kn := by rw [← HTL1.out, nkey_all]; exact HC2.out
          rw [hfin, hfin2]
          clear hfin hfin2 hC hE
          go_upto_region 30 with fail
          go_loopw [20, 23] (fun bv iv wy => ∃ q : Nat, iv = .int .i64 (q : Int) ∧ q ≤ TL2 ∧ bv = .int .i64 (nk 6 ((Fl.sig s2.t).take q) : Int) ∧ wy = wr) (fun _ iv _ => TL2 - (intOf iv).toNat)
          case atStart => exact ⟨0, rfl, by omega, rfl, rfl⟩
          case round =>
            obtain ⟨q, rfl, hq, rfl, rfl⟩ := hrel
            have hC := nk_le 6 (Fl.sig s2.t) q
            by_cases hlt2 : q < TL2
            · have g1 : (q : Int) < (TL2 : Int) := by omega
              obtain ⟨x, hx⟩ : ∃ x, s2.t[q]? = some x := ⟨_, List.getElem?_eq_getElem (by rw [HTL2.out]; exact hlt2)⟩
              have c1 := HA2.out q x hx
              have hs := nk_step (c := 6) hx
              obtain ⟨C, hCn⟩ : ∃ C, nk 6 ((Fl.sig s2.t).take q) = C := ⟨_, rfl⟩
              rw [hCn] at hs hC ⊢
              have HS := Lib.hid hs
              clear hs hx hCn
              by_cases e : x.k = 6
              · have g2 : (x.k == 6) = true := by simp [e]
                go_wp2_with fail
                go_roundw
                case rel => exact ⟨q + 1, by go_num, by omega, by rw [HS.out, if_pos e]; go_num, trivial⟩
                case measure => simp [intOf]; omega
              · have g2 : (x.k == 6) = false := by simp [e]
                go_wp2_with fail
                go_roundw
                case rel => exact ⟨q + 1, by go_num, by omega, by rw [HS.out, if_neg e]; go_num, trivial⟩
                case measure => simp [intOf]; omega
            · obtain rfl : q = TL2 := by omega
              have g1 : ¬ ((q : Int) < (q : Int)) := by omega
              have hfin : nk 6 ((Fl.sig s2.t).take q) = pn := by rw [← HTL2.out, nk_all]; exact HC3.out
              rw [hfin]
              clear hfin hC
              go_wp2_with fail
              try simp only [Exit.jump]
              exact HD.out
end Go.Proofs.Ytmlpaafclobgcaa
