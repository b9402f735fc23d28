/- Chapter 4's reference: Apply, its walk. -/
import Derived.Test.YtomihekgcnilhaaE4
namespace Go.Proofs.Ytomihekgcnilhaa
open Go.RowKit
open Go.Proofs.Ytomihekgcnilhaa.Sq

theorem at_drew4 {w : World} {a : Addr} {v : Value} (h : w.cell? a = some v) : w.drew.cell? a = some v := h
theorem own_grown {w w2 w' : World} {B : Nat} {row : Option Nat} (h : Below B w w2) (hg : w2.grownBy w' row) (hr : ∀ k, row = some k → B ≤ k) (hB : B ≤ w2.heap.size) : Below B w w' := by
  refine ⟨hg.os.trans h.os, hg.tape.trans h.tape, hg.output.trans h.output, Nat.le_trans h.size hg.size, fun k hk => ?_⟩
  exact (hg.block k (by omega) (fun e => by have := hr k e.symm; omega)).trans (h.block k hk)
theorem own_shape {w : World} {B e size n : Nat} {v : Value} {xs : List Value} (h : w.ownsRow B e size v n xs) : ∃ a cap, v = .slice a n cap := by
  rcases h.2 with ⟨rfl, rfl⟩ | ⟨g, cap, cur, rfl, _⟩
  · exact ⟨_, _, rfl⟩
  · exact ⟨_, _, rfl⟩
set_option maxHeartbeats 4000000 in
set_option maxRecDepth 100000 in
theorem refApply (bv lv : Value) (s : ByteArray) (l : List Et) (w : World) (hB : Bys w bv s) (hE : Edits w lv l) (hS : Short l) (hm : s.size ≤ 100000) :
    Calls Try.prog 17 #[bv, lv] w fun r w' => Yields w w' s (l.map Et.ed) r ∧ Below w.heap.size w w' := by
  obtain ⟨sa, sc, rfl⟩ := hB.shape
  obtain ⟨a, cap, rfl⟩ := hE.shape
  obtain ⟨N, hN⟩ : ∃ N, l.length = N := ⟨_, rfl⟩
  have hsz := hE.size_le
  unfold maxLen at hsz
  have HC := Lib.hid (fun w' (hb : Below w.heap.size w w') => refCheck (s.size : Int) _ l w' (hE.below hb) hS)
  have HA := Lib.hid (fun k y hk => edits_at hE k y hk)
  have HN := Lib.hid hN
  have HB := Lib.hid hB
  rw [hN] at hsz HC
  rw [hN]
  obtain ⟨c, hc⟩ : ∃ c, Ed.check (s.size : Int) (l.map Et.ed) = c := ⟨_, rfl⟩
  rw [hc] at HC
  have Hc := Lib.hid hc
  clear hc hN hE hB hS
  by_cases hc0 : c = 0
  · subst hc0
    have h200 : l.length ≤ 200 := by
      have h := Hc.out
      unfold Ed.check at h
      split at h
      · omega
      · rename_i h1; rw [List.length_map] at h1; omega
    rw [HN.out] at h200
    have HL := Lib.hid (left_start Hc.out)
    obtain ⟨R, hR⟩ : ∃ R, Ed.apply s.data.toList (l.map Et.ed) = R := ⟨_, rfl⟩
    have HR := Lib.hid hR
    have HR0 := Lib.hid (show (⟨#[]⟩ : ByteArray).data.toList ++ Ed.applyFrom s.data.toList 0 ((l.map Et.ed).drop 0) = R from hR)
    clear hR hsz
    go_enter Try.func17, Try.ntmps17
    go_wp2_with fail
    refine (HC.out _ (Below.refl _ _)).mono ?_
    rintro e w1 ⟨rfl, hb1⟩
    go_wp2_with fail
    go_loopw [7, 8, 9] (fun v at' is wr => ∃ (A k : Nat) (out : ByteArray) (V : Value), V = v ∧ at' = .int .i64 A ∧ is = .int .i64 k ∧ k ≤ N ∧ out.size ≤ A + 1000 * k ∧ A ≤ s.size ∧ wr.ownsRow w.heap.size 5 1 V out.size (cellsOf out) ∧ Hid (Left s.size A ((l.map Et.ed).drop k)) ∧ Hid (out.data.toList ++ Ed.applyFrom s.data.toList A ((l.map Et.ed).drop k) = R) ∧ Below w.heap.size w wr) (fun _ _ is _ => N - (intOf is).toNat)
    case atStart => exact ⟨0, 0, ⟨#[]⟩, _, rfl, rfl, rfl, Nat.zero_le _, Nat.zero_le _, Nat.zero_le _, World.ownsRow_nil _ _ _ _, HL, HR0, hb1⟩
    case round =>
      obtain ⟨A, k, out, v, rfl, rfl, rfl, hk, ho, hA, hown, HLk, HRk, hb⟩ := hrel
      by_cases hlt : k < N
      · have hkl : k < l.length := by rw [HN.out]; exact hlt
        obtain ⟨y, hy⟩ : ∃ y, l[k]? = some y := ⟨_, List.getElem?_eq_getElem hkl⟩
        obtain ⟨b, off, rfl, c0, c1, c2⟩ := HA.out k y hy
        have hL := HLk.out
        have hR := HRk.out
        rw [drop_at hy] at hL hR
        obtain ⟨F, T, hf, ht, g1, g2, g3, g4, g5⟩ := left_next hL
        have hstep := step_out (p := y.p) hf ht rfl hR
        rw [Et.plen] at g4
        rw [show y.f = F from hf] at c0
        rw [show y.t = T from ht] at c1
        obtain ⟨p, hp⟩ : ∃ p, y.p = p := ⟨_, rfl⟩
        rw [hp] at c2 hstep g4
        have H5 := Lib.hid g5
        have HSt := Lib.hid hstep
        clear hL hR hf ht hy hp g5 hstep HLk HRk
        have hlb : b < w.heap.size := cell_lt c0
        rw [← hb.cell (p := ⟨b, off + k * 3, none⟩) (cell_lt c0)] at c0
        rw [← hb.cell (p := ⟨b, off + k * 3 + 1, none⟩) (cell_lt c1)] at c1
        rw [← hb.cell (p := ⟨b, off + k * 3 + 2, none⟩) (cell_lt c2)] at c2
        obtain ⟨pc, hsl, hpc⟩ := cut_lh (HB.out.below hb) g1 (Nat.le_trans g2 g3)
        have hps : (s.extract A F).size = F - A := Sg.ext_size s A F (by omega)
        obtain ⟨pp, hpp⟩ : ∃ pp, s.extract A F = pp := ⟨_, rfl⟩
        rw [hpp] at hpc hps HSt
        clear hpp
        have hj2 : (k : Int) < (N : Int) := by omega
        have hn2 : (N : Int) ≤ 200 := by omega
        have hlb2 : some b ≠ v.ownBlock := fun e => by have := (hown.lt b e.symm).1; omega
        go_wp2_with fail
        go_region_held3 (fun wx => wx.cell? ⟨b, off + k * 3, none⟩ = some (.int .i64 (F : Int)) ∧ wx.cell? ⟨b, off + k * 3 + 2, none⟩ = some (.string p)) (((refine ⟨?_, ?_⟩); all_goals (repeat (first | (with_reducible exact c0) | (with_reducible exact c2) | (with_reducible exact q0) | (with_reducible exact q2) | (with_reducible exact r0) | (with_reducible exact r2) | (with_reducible refine at_drew4 ?_)))))
          (((first | (refine step_append_bys rfl (.tmp 23) (.tmp 31) rfl w.heap.size v out.size (cellsOf out) rfl hown pc pp rfl hpc (by omega) hb.size ?_; intro v2 w2 hown2 hg2; have q0 := hg2.cell (at_drew4 c0) hlb2; have q2 := hg2.cell (at_drew4 c2) hlb2; have hlb3 : some b ≠ v2.ownBlock := (fun e => by have := (hown2.lt b e.symm).1; omega)) | (refine step_append_str rfl (.tmp 32) (.tmp 37) rfl w.heap.size v2 (out.size + pp.size) (cellsOf out ++ cellsOf pp) rfl hown2 p rfl (by omega) (Nat.le_trans hb.size hg2.size) ?_; intro v3 w3 hown3 hg3; have r0 := hg3.cell q0 hlb3; have r2 := hg3.cell q2 hlb3))))
        have e1 := hg3.cell (hg2.cell (at_drew4 c1) hlb2) hlb3
        have hbd : Below w.heap.size w wr.drew := ⟨hb.os, hb.tape, hb.output, hb.size, hb.block⟩
        have hb2 := own_grown hbd hg2 (fun j hj => (hown.lt j hj).1) hb.size
        have hb3 := own_grown hb2 hg3 (fun j hj => (hown2.lt j hj).1) hb2.size
        have hown4 : w3.ownsRow w.heap.size 5 1 v3 (out ++ pp ++ p).size (cellsOf (out ++ pp ++ p)) := by
          rw [Sg.app_size, Sg.app_size, cellsOf_app, cellsOf_app]; exact hown3
        have hsize : (out ++ pp ++ p).size ≤ T + 1000 * (k + 1) := by rw [Sg.app_size, Sg.app_size]; omega
        obtain ⟨nout, hnout⟩ : ∃ nout, out ++ pp ++ p = nout := ⟨_, rfl⟩
        rw [hnout] at hown4 hsize HSt
        clear hnout hg2 hg3 hown2 hown3 hown q0 q2 r0 r2 c0 c1 c2 hb hbd hb2 hsl hpc hps ho hlb2 hlb3
        go_wp2
        go_roundw
        case rel => exact ⟨T, k + 1, nout, v3, rfl, rfl, by go_num, by omega, hsize, g3, hown4, H5, HSt, hb3⟩
        case measure => simp [intOf]; omega
      · obtain rfl : k = N := by omega
        have hR1 := HRk.out
        rw [List.drop_of_length_le (by rw [List.length_map, HN.out]; exact Nat.le_refl _)] at hR1
        have hend := end_out hR1
        clear hR1 HRk HLk
        obtain ⟨pc, hsl, hpc⟩ := cut_l (HB.out.below hb) hA
        have hps : (s.extract A s.size).size = s.size - A := Sg.ext_size s A s.size (Nat.le_refl _)
        obtain ⟨pp, hpp⟩ : ∃ pp, s.extract A s.size = pp := ⟨_, rfl⟩
        rw [hpp] at hpc hps hend
        have HEnd := Lib.hid hend
        clear hpp hend
        have hrl : (R.length : Int) = ((out.size + pp.size : Nat) : Int) := by
          rw [← HEnd.out, ← Lib.size_eq, Sg.app_size]
        obtain ⟨M, hM⟩ : ∃ M, out.size + pp.size = M := ⟨_, rfl⟩
        rw [hM] at hrl
        have HM := Lib.hid hM
        have hMb : M ≤ 400000 := by omega
        have hlen : out.size + pp.size ≤ 140737488355328 := by omega
        by_cases hbig : 16384 < M
        · have hbig' : (16384 : Int) < (M : Int) := by omega
          clear hM ho hps
          go_wp2_with (at_builtin; go_must (refine wpList_append_bys rfl (.tmp 44) (.tmp 47) rfl w.heap.size v out.size (cellsOf out) rfl hown pc pp rfl hpc hlen hb.size ?_; intro v2 w2 hown2 hg2; have hb2 := own_grown hb hg2 (fun j hj => (hown.lt j hj).1) hb.size; obtain ⟨a2, cap2, rfl⟩ := own_shape hown2; rw [HM.out] at hown2 ⊢; clear hg2))
          go_ret2
          refine ⟨.inr (.inl ⟨Hc.out, ?_, rfl⟩), hb2⟩
          rw [HR.out]; omega
        · have hbig' : ¬ (16384 : Int) < (M : Int) := by omega
          have hown0 : ∀ (v2 : Value) (w2 : World), w2.ownsRow w.heap.size 5 1 v2 (out.size + pp.size) (cellsOf out ++ cellsOf pp) → w2.ownsRow w.heap.size 5 1 v2 (out ++ pp).size (cellsOf (out ++ pp)) := fun v2 w2 h => by
            rw [Sg.app_size, cellsOf_app]; exact h
          have HO := Lib.hid hown0
          clear hM ho hps hown0
          go_wp2_with (at_builtin; go_must (refine wpList_append_bys rfl (.tmp 44) (.tmp 47) rfl w.heap.size v out.size (cellsOf out) rfl hown pc pp rfl hpc hlen hb.size ?_; intro v2 w2 hown2 hg2; have hb2 := own_grown hb hg2 (fun j hj => (hown.lt j hj).1) hb.size; have hown4 := Lib.hid (HO.out _ _ hown2); obtain ⟨a2, cap2, rfl⟩ := own_shape hown2; rw [HM.out] at hown4 ⊢; clear hg2 hown2))
          go_ret2
          refine ⟨.inr (.inr ⟨Hc.out, ?_, _, out ++ pp, rfl, ?_, ?_⟩), hb2⟩
          · rw [HR.out]; omega
          · rw [HR.out]; exact HEnd.out
          · exact hown4.out
  · have hcb : (c != 0) = true := by simp [hc0]
    clear hsz
    go_enter Try.func17, Try.ntmps17
    go_wp2_with fail
    refine (HC.out _ (Below.refl _ _)).mono ?_
    rintro e w1 ⟨rfl, hb1⟩
    go_wp2
    go_ret2
    refine ⟨.inl ⟨?_, ?_⟩, hb1⟩
    · rw [Hc.out]; exact hc0
    · rw [Hc.out]; rfl
end Go.Proofs.Ytomihekgcnilhaa
