/- The chapter's own arena (correctorref10): kids. -/
import Derived.Test.YthkieidcjakhgaaArw
namespace Go.Proofs.Ythkieidcjakhgaa
open Go.RowKit
open Go.Proofs.Ythkieidcjakhgaa.Sq
open Go.Proofs.Ythkieidcjakhgaa.Ar
set_option linter.unusedVariables false

namespace Ar
/-- One more of a number. -/
def inc (s : List Int) (n : Int) : List Int := match s[n.toNat]? with
  | some c => s.set n.toNat (c + 1)
  | none => s
def incs (s : List Int) (ks : List Int) : List Int := ks.foldl inc s
theorem inc_len (s : List Int) (n : Int) : (inc s n).length = s.length := by
  unfold inc
  split
  · rw [List.length_set]
  · rfl
theorem incs_len : ∀ (ks s : List Int), (incs s ks).length = s.length
  | [], s => rfl
  | n :: r, s => by
    show (incs (inc s n) r).length = _
    rw [incs_len r, inc_len]
theorem incs_step (s ks : List Int) (k : Nat) (n : Int) (h : ks[k]? = some n) : incs s (ks.take (k + 1)) = inc (incs s (ks.take k)) n := by
  rw [List.take_add_one, h]
  unfold incs
  rw [List.foldl_append]
  rfl
theorem inc_bd {s : List Int} {b : Int} (h : ∀ c ∈ s, 0 ≤ c ∧ c ≤ b) (n : Int) : ∀ c ∈ inc s n, 0 ≤ c ∧ c ≤ b + 1 := by
  unfold inc
  intro c hc
  split at hc
  · rename_i d hd
    rcases List.mem_or_eq_of_mem_set hc with h1 | h1
    · have := h c h1; omega
    · have := h d (List.mem_of_getElem? hd); omega
  · have := h c hc; omega
theorem incs_bd : ∀ (ks s : List Int) (b : Int), (∀ c ∈ s, 0 ≤ c ∧ c ≤ b) → ∀ c ∈ incs s ks, 0 ≤ c ∧ c ≤ b + ks.length
  | [], s, b => fun h c hc => by have := h c hc; simp; omega
  | n :: r, s, b => fun h c hc => by
    have := incs_bd r (inc s n) (b + 1) (inc_bd h n) c hc
    simp only [List.length_cons]
    omega
def badK (l : List Nd) (i : Nat) (x : Nd) (p n : Int) : Bool := decide (n ≤ 0) || decide ((l.length : Int) ≤ n) || match l[n.toNat]? with
  | none => true
  | some c => decide (c.u ≠ (i : Int)) || decide (c.f < p) || decide (x.t < c.t) || decide (c.t < c.f)
theorem kidsF_bad {l : List Nd} {i : Nat} {x : Nd} {p n : Int} {r : List Int} (h : badK l i x p n = true) : kidsF l i x p (n :: r) = false := by
  rw [kidsF]
  unfold badK at h
  split
  · rfl
  · rename_i hn
    have h1 : decide (n ≤ 0) = false := decide_eq_false (fun e => hn (.inl e))
    have h2 : decide ((l.length : Int) ≤ n) = false := decide_eq_false (fun e => hn (.inr e))
    rw [h1, h2] at h
    split
    · rfl
    · rename_i c hc
      rw [hc] at h
      simp only [Bool.false_or, Bool.or_eq_true, decide_eq_true_eq] at h
      rw [if_pos (by omega)]
theorem kidsF_step {l : List Nd} {i : Nat} {x : Nd} {p n : Int} {r : List Int} (h : badK l i x p n = false) : ∃ c, 0 < n ∧ n < l.length ∧ l[n.toNat]? = some c ∧ kidsF l i x p (n :: r) = kidsF l i x c.t r := by
  unfold badK at h
  simp only [Bool.or_eq_false_iff, decide_eq_false_iff_not] at h
  obtain ⟨⟨h1, h2⟩, h3⟩ := h
  cases hc : l[n.toNat]? with
  | none => rw [hc] at h3; cases h3
  | some c =>
    rw [hc] at h3
    simp only [Bool.or_eq_false_iff, decide_eq_false_iff_not] at h3
    refine ⟨c, by omega, by omega, rfl, ?_⟩
    rw [kidsF, if_neg (by omega), hc]
    dsimp only
    rw [if_neg (by omega)]
end Ar
/-- What kids answers, and what has been counted. -/
def Kidsed (R : Bool) (B : Nat) (S : List Int) (v : Value) (w : World) (e : Ending) (w' : World) : Prop :=
  e = .returned (.bool R) ∧ Below B w w' ∧ (R = true → w'.ownsRow B 3 encI.k v S.length (encI.all S))
set_option maxHeartbeats 8000000 in
set_option maxRecDepth 100000 in
theorem rKids (v : Value) (l : List Nd) (i : Nat) (x : Nd) (s : List Int) (sg sc B : Nat) (w : World) (h : ∀ W, Below B w W → NodesW W v l) (hl : l.length ≤ 1000) (hx : l[i]? = some x) (hk : x.ks.length ≤ 1000) (hs : s.length = l.length)
    (ho : w.ownsRow B 3 encI.k (.slice (some ⟨sg, 0, none⟩) l.length sc) s.length (encI.all s)) (hb : ∀ c ∈ s, 0 ≤ c ∧ c ≤ 1000000) (hB : B ≤ w.heap.size) :
    Calls Try.prog 31 #[v, .int .i64 i, .slice (some ⟨sg, 0, none⟩) l.length sc] w (Kidsed (kidsN l i) B (incs s x.ks) (.slice (some ⟨sg, 0, none⟩) l.length sc) w) := by
  have hi := (List.getElem?_eq_some_iff.1 hx).1
  have h0 := h w (Below.refl _ _)
  obtain ⟨a, cap, rfl⟩ := h0.shape
  obtain ⟨bb, off, _, _, rfl, -⟩ := h0.at_ i x hx
  have hkn : kidsN l i = kidsF l i x x.f x.ks := by unfold kidsN; rw [hx]
  rw [hkn]
  obtain ⟨R, hR⟩ : ∃ R, kidsF l i x x.f x.ks = R := ⟨_, rfl⟩
  rw [hR]
  obtain ⟨N, hN⟩ : ∃ N, l.length = N := ⟨_, rfl⟩
  rw [hN] at hl hi hs ho ⊢
  have HQ := Lib.hid (fun b w' => show (b = R ∧ Below B w w' ∧ (R = true → w'.ownsRow B 3 encI.k (.slice (some ⟨sg, 0, none⟩) N sc) (incs s x.ks).length (encI.all (incs s x.ks)))) → Kidsed R B (incs s x.ks) (.slice (some ⟨sg, 0, none⟩) N sc) w (.returned (.bool b)) w' from fun h => ⟨by rw [h.1], h.2⟩)
  obtain ⟨Q, hQ⟩ : ∃ Q, Kidsed R B (incs s x.ks) (.slice (some ⟨sg, 0, none⟩) N sc) w = Q := ⟨_, rfl⟩
  rw [hQ] at HQ ⊢
  have HX := Lib.hid (fun W (hb : Below B w W) j y (hj : l[j]? = some y) => (h W hb).at_ j y hj)
  have HN := Lib.hid hN
  have HR := Lib.hid hR
  have HXi := Lib.hid hx
  have HO := Lib.hid ho
  have HBd := Lib.hid hb
  have HS := Lib.hid hs
  obtain ⟨n, hn⟩ : ∃ n, x.ks.length = n := ⟨_, rfl⟩
  have Hn := Lib.hid hn
  rw [hn] at hk
  have hii : (i : Int) < (N : Int) := by omega
  have hY := HX.out w (Below.refl _ _) i x hx
  obtain ⟨_, _, ka, kc, he, x0, x1, x2, x3, x4, x5, hkr⟩ := hY
  injection he with he
  injection he with e1 e2
  subst e1 e2
  clear h h0 hx hb hN hR hQ hkn ho hs hn
  go_enter Try.func31, Try.ntmps31
  go_wp2_with fail
  go_loopw [7, 8] (fun av kv wr => ∃ (k : Nat) (p : Int) (S : List Int), av = .int .i64 p ∧ kv = .int .i64 k ∧ k ≤ n ∧ Hid (kidsF l i x p (x.ks.drop k) = R) ∧ Hid (S = incs s (x.ks.take k)) ∧ Hid (wr.ownsRow B 3 encI.k (.slice (some ⟨sg, 0, none⟩) N sc) S.length (encI.all S)) ∧ Hid (Below B w wr)) (fun _ kv _ => n - (intOf kv).toNat)
  case atStart => exact ⟨0, x.f, s, rfl, rfl, Nat.zero_le _, HR, Lib.hid rfl, HO, Lib.hid (Below.refl _ _)⟩
  case round =>
    clear x0 x1 x2 x3 x4 x5 hkr ka kc
    obtain ⟨k, p, S, rfl, rfl, hk1, HF, HSs, HOw, HB⟩ := hrel
    obtain ⟨b', off', ka, kc, he, x0, x1, x2, x3, x4, x5, hkr⟩ := HX.out wr HB.out i x HXi.out
    injection he with he
    injection he with e1 e2
    subst e1 e2
    rw [Hn.out] at x4
    have HKr := Lib.hid hkr
    clear x0 x1 x3 x5 hkr
    by_cases hlt : k < n
    · obtain ⟨z, hz⟩ : ∃ z, x.ks[k]? = some z := ⟨_, List.getElem?_eq_getElem (by rw [Hn.out]; exact hlt)⟩
      have hdr : x.ks.drop k = z :: x.ks.drop (k + 1) := by
        have h1 := (List.getElem?_eq_some_iff.1 hz)
        rw [List.drop_eq_getElem_cons h1.1, h1.2]
      obtain ⟨kb, ko, rfl, hzc⟩ := HKr.out.1 k z hz
      have hkk : (k : Int) < (n : Int) := by omega
      have HF2 := HF.out
      rw [hdr] at HF2
      have HZ := Lib.hid hz
      obtain ⟨bd, hbd⟩ : ∃ bd, badK l i x p z = bd := ⟨_, rfl⟩
      have HBd2 := Lib.hid hbd
      have HF3 := Lib.hid HF2
      clear hz hdr HF2 hbd
      go_upto_region 6 with fail
      clear x4 hzc
      go_cut [84] (fun q wx => q = .bool bd ∧ Below wr.heap.size wr wx)
      case first =>
        have hm := HBd2.out
        unfold badK at hm
        rw [HN.out] at hm
        by_cases q1 : z ≤ 0
        · obtain rfl : bd = true := by rw [← hm]; simp [q1]
          clear hm
          go_wp2_with fail
          go_big_quiet (fail)
          have hq := below_drewN (Below.refl wr.heap.size wr) nq
          go_wp2_with fail
          go_meet
          exact ⟨rfl, hq⟩
        have e1 : decide (z ≤ 0) = false := decide_eq_false q1
        by_cases q2 : (N : Int) ≤ z
        · obtain rfl : bd = true := by rw [← hm]; simp [q2]
          clear hm q1
          go_wp2_with fail
          go_big_quiet (fail)
          have hq := below_drewN (Below.refl wr.heap.size wr) nq
          go_wp2_with fail
          go_meet
          exact ⟨rfl, hq⟩
        have e2 : decide ((N : Int) ≤ z) = false := decide_eq_false q2
        obtain ⟨zn, rfl⟩ : ∃ zn : Nat, z = (zn : Int) := ⟨z.toNat, by omega⟩
        obtain ⟨c, hc⟩ : ∃ c, l[zn]? = some c := ⟨_, List.getElem?_eq_getElem (by rw [HN.out]; omega)⟩
        rw [e1, e2, Int.toNat_natCast, hc] at hm
        dsimp only at hm
        obtain ⟨b9, off9, _, _, he, -, c1, c2, c3, -, -, -⟩ := HX.out wr HB.out zn c hc
        injection he with he
        injection he with e3 e4
        subst e3 e4
        have g1 : (zn : Int) < (N : Int) := by omega
        have e1n : decide (zn = 0) = false := decide_eq_false (by omega)
        have e2n : decide (N ≤ zn) = false := decide_eq_false (by omega)
        clear hc
        by_cases q3 : c.u = (i : Int)
        case neg =>
          obtain rfl : bd = true := by rw [← hm]; simp [q3]
          have n3 : (c.u == (i : Int)) = false := by simp [q3]
          have m3 : (c.u != (i : Int)) = true := by simp [q3]
          clear hm q1 q2 q3
          go_wp2_with fail
          go_big_quiet (fail)
          have hq := below_drewN (Below.refl wr.heap.size wr) nq
          go_wp2_with fail
          go_meet
          exact ⟨rfl, hq⟩
        have n3 : (c.u == (i : Int)) = true := by simp [q3]
        have m3 : (c.u != (i : Int)) = false := by simp [q3]
        by_cases q4 : c.f < p
        · obtain rfl : bd = true := by rw [← hm]; simp [q4]
          clear hm q1 q2 q3
          go_wp2_with fail
          go_big_quiet (fail)
          have hq := below_drewN (Below.refl wr.heap.size wr) nq
          go_wp2_with fail
          go_meet
          exact ⟨rfl, hq⟩
        have e4 : decide (c.f < p) = false := decide_eq_false q4
        by_cases q5 : x.t < c.t
        · obtain rfl : bd = true := by rw [← hm]; simp [q5]
          clear hm q1 q2 q3 q4
          go_wp2_with fail
          go_big_quiet (fail)
          have hq := below_drewN (Below.refl wr.heap.size wr) nq
          go_wp2_with fail
          go_meet
          exact ⟨rfl, hq⟩
        have e5 : decide (x.t < c.t) = false := decide_eq_false q5
        by_cases q6 : c.t < c.f
        · obtain rfl : bd = true := by rw [← hm]; simp [q6]
          clear hm q1 q2 q3 q4 q5
          go_wp2_with fail
          go_big_quiet (fail)
          have hq := below_drewN (Below.refl wr.heap.size wr) nq
          go_wp2_with fail
          go_meet
          exact ⟨rfl, hq⟩
        · obtain rfl : bd = false := by rw [← hm]; simp [q3, q4, q5, q6]
          have e6 : decide (c.t < c.f) = false := decide_eq_false q6
          clear hm q1 q2 q3 q4 q5 q6
          go_wp2_with fail
          go_big_quiet (fail)
          have hq := below_drewN (Below.refl wr.heap.size wr) nq
          go_wp2_with fail
          go_meet
          exact ⟨rfl, hq⟩
      case rest =>
      obtain ⟨rfl, hbc⟩ := hcut
      rename World => w4
      have hwr := HB.out.size
      have HB4 := Lib.hid (HB.out.trans (hbc.mono (Nat.le_trans hB hwr)))
      cases bd with
      | true =>
        have hr : R = false := by rw [← HF3.out]; exact kidsF_bad HBd2.out
        have HD := Lib.hid (HQ.out false w4 ⟨hr.symm, HB4.out, fun e => absurd (hr.symm.trans e) (by decide)⟩)
        clear hr hbc
        go_wp2_with fail
        exact HD.out
      | false =>
        obtain ⟨c, h0z, hzN, hc, hst⟩ := kidsF_step (r := x.ks.drop (k + 1)) HBd2.out
        rw [HN.out] at hzN
        obtain ⟨zn, rfl⟩ : ∃ zn : Nat, z = (zn : Int) := ⟨z.toNat, by omega⟩
        rw [Int.toNat_natCast] at hc
        obtain ⟨b9, off9, _, _, he, -, -, c2, -, -, -, -⟩ := HX.out w4 HB4.out zn c hc
        injection he with he
        injection he with e3 e4
        subst e3 e4
        have hSl : S.length = N := by rw [HSs.out, incs_len, HS.out]
        obtain ⟨d, hd⟩ : ∃ d, S[zn]? = some d := ⟨_, List.getElem?_eq_getElem (by omega)⟩
        have hrow : w4.ownsRow B 3 encI.k (.slice (some ⟨sg, 0, none⟩) N sc) S.length (encI.all S) := own_below HOw.out hbc
        have cs : w4.cell? ⟨sg, zn, none⟩ = some (.int .i64 d) := by
          have h5 := hrow.cells (g := sg) rfl _ _ ((all_get encI S zn d hd 0 (by decide)).trans rfl)
          rw [add_addr, Nat.zero_add] at h5
          rw [show zn * encI.k + 0 = zn from by show zn * 1 + 0 = zn; omega] at h5
          exact h5
        obtain ⟨g', cp', hv', hBg, hfz', hlc', hcm'⟩ := own_at hrow (by omega)
        have ex := (Value.slice.inj hv').1
        injection ex with ex
        injection ex with ex
        subst ex
        have fs : w4.frozen? ⟨sg, zn, none⟩ = false := hfz' zn
        have hd1 := incs_bd (x.ks.take k) s 1000000 HBd.out d (by rw [← HSs.out]; exact List.mem_of_getElem? hd)
        have hd2 : (x.ks.take k).length ≤ 1000 := by rw [List.length_take]; omega
        have hwp : IntKind.i64.wrap (d + 1) = d + 1 := IntWalk.i64_in _ (by omega)
        have hrow2 := own_set hrow zn 0 d (d + 1) (.int .i64 (d + 1)) hd rfl (by decide)
        rw [show zn * encI.k + 0 = zn from by show zn * 1 + 0 = zn; omega] at hrow2
        have hinc : S.set zn (d + 1) = incs s (x.ks.take (k + 1)) := by
          rw [incs_step s x.ks k _ HZ.out, ← HSs.out]
          unfold inc
          rw [Int.toNat_natCast, hd]
        rw [hinc] at hrow2
        have HR2 := Lib.hid hrow2
        have HB5 := Lib.hid (HB4.out.setCell (p := ⟨sg, zn, none⟩) (by show B ≤ sg; exact hBg) (.int .i64 (d + 1)))
        have HF5 := Lib.hid (hst.symm.trans HF3.out)
        have g1 : (zn : Int) < (N : Int) := by omega
        clear hst hc hd hrow hd1 hd2 hrow2 hinc hfz' hlc' hcm' hv'
        go_wp2_with fail
        go_roundw
        case rel =>
          first
            | exact ⟨k + 1, c.t, _, rfl, by go_num, by omega, HF5, Lib.hid rfl, HR2, HB5⟩
            | ((repeat apply Exists.intro); exact ⟨⟨k + 1, c.t, _, rfl, by go_num, by omega, HF5, Lib.hid rfl, HR2, HB5⟩, rfl⟩)
        case measure => simp [intOf]; omega
    · obtain rfl : k = n := by omega
      have hkk : ¬ ((k : Int) < (k : Int)) := by omega
      have hr : true = R := by
        have h := HF.out
        rw [List.drop_of_length_le (by rw [Hn.out]; exact Nat.le_refl _)] at h
        rw [← h]; rfl
      have hS2 : S = incs s x.ks := by rw [HSs.out, List.take_of_length_le (by rw [Hn.out]; exact Nat.le_refl _)]
      have HD := Lib.hid (HQ.out true wr ⟨hr, HB.out, fun _ => hS2 ▸ HOw.out⟩)
      clear hr hS2 hlt
      go_wp2_with fail
      exact HD.out
end Go.Proofs.Ythkieidcjakhgaa
