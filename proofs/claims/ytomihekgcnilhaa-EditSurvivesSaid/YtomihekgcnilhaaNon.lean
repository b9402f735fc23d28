/- The walk of correctorlaw4.EditNone. -/
import Derived.Test.YtomihekgcnilhaaPl2
import Derived.Test.YtomihekgcnilhaaPc
import Derived.Test.YtomihekgcnilhaaLb
namespace Go.Proofs.Ytomihekgcnilhaa
open Go.RowKit
open Go.Proofs.Ytomihekgcnilhaa.Sq

theorem text_eq (a b : ByteArray) (h : a.data.toList = b.data.toList) : a = b := by
  cases a with
  | mk d => cases b with
    | mk e => simp at h; rw [h]
theorem edits_one (W : World) (x : Et) : Edits (W.alloc (.cells #[.int .i64 x.f, .int .i64 x.t, .string x.p] 41)) (.slice (some ⟨W.heap.size, 0, none⟩) 1 1) [x] := by
  refine .inr ⟨W.heap.size, 0, 1, rfl, Nat.le_refl _, by simp [maxLen], fun j z hj i u hu => ?_⟩
  rw [World.cell?_alloc_mark]
  match j, hj with
  | 0, hj =>
    obtain rfl := Option.some.inj hj
    match i, hu with
    | 0, hu => exact hu
    | 1, hu => exact hu
    | 2, hu => exact hu
/-- Where no fault is, and not too much comes out, Apply yields the text. -/
def Done (w w' : World) (R : List UInt8) (r : Ending) : Prop := ∃ v t, r = .returned (.tuple #[v, .int .i64 0]) ∧ t.data.toList = R ∧ w'.ownsRow w.heap.size 5 1 v t.size (cellsOf t) ∧ Below w.heap.size w w'
theorem apply_done (bv lv : Value) (s : ByteArray) (l : List Et) (w : World) (hB : Bys w bv s) (hE : Edits w lv l) (hS : Short l) (hm : s.size ≤ 100000) (h0 : Ed.check s.size (l.map Et.ed) = 0) (h1 : (Ed.apply s.data.toList (l.map Et.ed)).length ≤ 16384) :
    Calls Try.prog 16 #[bv, lv] w fun r w' => Done w w' (Ed.apply s.data.toList (l.map Et.ed)) r := by
  refine (editApply bv lv s l w hB hE hS hm).mono ?_
  rintro r w' ⟨hY, hb⟩
  rcases hY with ⟨h, _⟩ | ⟨_, h, _⟩ | ⟨_, _, v, t, hr, ht, ho⟩
  · exact absurd h0 h
  · omega
  · exact ⟨v, t, hr, ht, ho, hb⟩
set_option maxHeartbeats 3000000 in
set_option maxRecDepth 100000 in
theorem walk_EditNone (bv : Value) (s : ByteArray) (from0 to0 : Int) (w : World) (hB : Bys w bv s) (_ : (Lit.int .i64 from0).wf = true) (_ : (Lit.int .i64 to0).wf = true) :
    Calls Try.prog 8 #[bv, .int .i64 from0, .int .i64 to0] w fun e w' => e = .returned (.bool true) ∧ Below w.heap.size w w' := by
  have hsz := hB.size_le
  unfold maxLen at hsz
  obtain ⟨sa, sc, rfl⟩ := hB.shape
  have HB := Lib.hid hB
  clear hB
  by_cases h100 : 100 < s.size
  · have h100' : (100 : Int) < (s.size : Int) := by omega
    go_enter Try.func8, Try.ntmps8
    go_wp2_with fail
    refine (known_true _).mono ?_
    rintro e w1 ⟨rfl, hbw⟩
    go_wp2
    go_ret
    exact ⟨rfl, hbw⟩
  · have h100' : ¬ (100 : Int) < (s.size : Int) := by omega
    have hn := wit_bd from0 (s.size + 1) (by omega)
    have H1 := Lib.hid (fun W => within_any from0 ((s.size : Int) + 1) W (by omega) (by omega))
    obtain ⟨f, hf⟩ : ∃ f, wit from0 ((s.size : Int) + 1) = f := ⟨_, rfl⟩
    rw [hf] at hn H1
    obtain ⟨F, hF⟩ : ∃ F : Nat, f = (F : Int) := ⟨f.toNat, by omega⟩
    subst hF
    have hm := wit_bd to0 ((s.size : Int) - F + 1) (by omega)
    have H2 := Lib.hid (fun W => within_any to0 ((s.size : Int) - F + 1) W (by omega) (by omega))
    obtain ⟨t, ht⟩ : ∃ t, wit to0 ((s.size : Int) - F + 1) = t := ⟨_, rfl⟩
    rw [ht] at hm H2
    obtain ⟨D, hD⟩ : ∃ D : Nat, t = (D : Int) := ⟨t.toNat, by omega⟩
    subst hD
    have hFs : F ≤ s.size := by omega
    have hTs : F + D ≤ s.size := by omega
    have hF1 : (F : Int) ≤ (s.size : Int) := by omega
    have hT1 : (F : Int) + (D : Int) ≤ (s.size : Int) := by omega
    have hD0 : (0 : Int) ≤ (D : Int) := by omega
    clear hf hn ht hm
    obtain ⟨pc, hsl, hpc⟩ := cut_lh HB.out (show F ≤ F + D by omega) hTs
    rw [show ((F + D : Nat) : Int) = (F : Int) + (D : Int) from rfl] at hsl
    have hps : (s.extract F (F + D)).size = D := by rw [Sg.ext_size s F (F + D) hTs]; omega
    have hone : Ed.one (s.size : Int) (Et.ed ⟨F, F + D, s.extract F (F + D)⟩) = 0 := Ed.ok_one ⟨show (0 : Int) ≤ F by omega, show (F : Int) ≤ F + D by omega, show (F : Int) + D ≤ s.size by omega, by rw [Et.plen]; show (s.extract F (F + D)).size ≤ 1000; rw [hps]; omega⟩
    have happ : Ed.apply s.data.toList [Et.ed ⟨F, F + D, s.extract F (F + D)⟩] = s.data.toList := by
      refine Ed.apply_same (by rw [← Lib.size_eq]; exact hone) ?_
      show (s.extract F (F + D)).data.toList = _
      rw [tol_ext]
      congr 1
    have HA0 := Lib.hid (fun W (hW : Below w.heap.size w W) => by
      have h := apply_done _ (.slice none 0 0) s [] W (HB.out.below hW) (.inl ⟨rfl, rfl⟩) (fun e he => by cases he) (by omega) rfl (by rw [List.map_nil, Ed.apply_nil, ← Lib.size_eq]; omega)
      rw [List.map_nil, Ed.apply_nil] at h
      exact h)
    have HA1 := Lib.hid (fun W (hW : Below w.heap.size w W) => by
      have h := apply_done _ _ s [⟨F, F + D, s.extract F (F + D)⟩] _ (HB.out.below (hW.trans ((below_new W (.cells #[.int .i64 (F : Int), .int .i64 ((F : Int) + (D : Int)), .string (s.extract F (F + D))] 41)).mono hW.size))) (edits_one W ⟨F, F + D, s.extract F (F + D)⟩) (fun e he => by rw [List.mem_singleton.1 he]; show (s.extract F (F + D)).size ≤ maxLen; rw [hps]; simp only [maxLen]; omega) (by omega) ((check_one _ _).trans hone) (by rw [show List.map Et.ed [(⟨F, F + D, s.extract F (F + D)⟩ : Et)] = [Et.ed ⟨F, F + D, s.extract F (F + D)⟩] from rfl, happ, ← Lib.size_eq]; omega)
      rw [show List.map Et.ed [(⟨F, F + D, s.extract F (F + D)⟩ : Et)] = [Et.ed ⟨F, F + D, s.extract F (F + D)⟩] from rfl, happ] at h
      exact h)
    have HM := Lib.hid (fun W => by
      have h := editMap ((F : Int) + (D : Int)) (.slice none 0 0) [] W (.inl ⟨rfl, rfl⟩) (fun e he => by cases he) (by simp) (by omega) (by omega)
      rw [show Ed.map (([] : List Et).map Et.ed) ((F : Int) + (D : Int)) = (F : Int) + (D : Int) from Int.add_zero _] at h
      exact h)
    have Hpc := Lib.hid hpc
    obtain ⟨pp, hpp⟩ : ∃ pp, s.extract F (F + D) = pp := ⟨_, rfl⟩
    rw [hpp] at HA1 Hpc
    clear hps hone happ hpp hpc
    have hF0 : (0 : Int) ≤ (F : Int) := by omega
    go_enter Try.func8, Try.ntmps8
    go_wp2_with fail
    refine (known_true _).mono ?_
    rintro e w1 ⟨rfl, hbw⟩
    have HBw := Lib.hid hbw
    clear hbw
    go_wp2_with fail
    refine (H1.out _).mono ?_
    rintro e w2 ⟨rfl, rfl⟩
    go_wp2_with fail
    refine (H2.out _).mono ?_
    rintro e w2 ⟨rfl, rfl⟩
    go_wp2_with fail
    refine (HA0.out _ HBw.out).mono ?_
    rintro e w3 ⟨v1, t1, rfl, ht1, hown1, hb3⟩
    obtain rfl : t1 = s := text_eq t1 s ht1
    have HB3 := Lib.hid (HBw.out.trans (hb3.mono HBw.out.size))
    have HO1 := Lib.hid hown1
    clear ht1 hown1 hb3
    have hcv := conv_bys (Hpc.out.below HB3.out)
    go_wp2_with fail
    refine (HA1.out _ HB3.out).mono ?_
    rintro e w4 ⟨v2, t2, rfl, ht2, hown2, hb4⟩
    obtain rfl : t2 = t1 := text_eq t2 t1 ht2
    have hb4' := (below_new w3 _).trans (hb4.mono (by simp))
    have HB4 := Lib.hid (HB3.out.trans (hb4'.mono HB3.out.size))
    have hc1 := conv_bys (Bys.own (Sq.own_below HO1.out hb4'))
    have hc2 := conv_bys (Bys.own hown2)
    have hc3 := conv_bys (HB.out.below HB4.out)
    clear ht2 hown2 hb4 hb4' hcv
    go_wp2_with fail
    refine (HM.out _).mono ?_
    rintro e w5 ⟨rfl, hb5⟩
    have HB5 := Lib.hid (HB4.out.trans (hb5.mono HB4.out.size))
    clear hb5
    go_wp2
    go_ret
    exact ⟨by simp, HB5.out⟩
end Go.Proofs.Ytomihekgcnilhaa
