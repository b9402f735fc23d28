/- The walk of correctorlaw14.DiagSorts: any are put in order, each once, as the chapter's own words say. -/
import Derived.Test.YtdngcihjfbmbpaaZlb
import Derived.Test.YtdngcihjfbmbpaaZs2
import Derived.Test.YtdngcihjfbmbpaaZr3
namespace Go.Proofs.Ytdngcihjfbmbpaa.Zm
open Go.RowKit
open Go.Proofs.Ytdngcihjfbmbpaa.Sq
open Go.Proofs.Ytdngcihjfbmbpaa.Zd
set_option linter.unusedVariables false

set_option maxHeartbeats 8000000 in
set_option maxRecDepth 100000 in
theorem walk_DiagSorts (v : Value) (l : List Dg) (w : World) (h : Reads encZ w v l) (hwf : ∀ d ∈ l, Wf d) :
    Calls Try.prog 3 #[v] w fun e w' => e = .returned (.bool true) ∧ Below w.heap.size w w' := by
  obtain ⟨a, ca, rfl⟩ := h.shape
  obtain ⟨n, hn⟩ : ∃ n, l.length = n := ⟨_, rfl⟩
  have hl := h.size_le
  rw [hn] at hl
  have hl2 : n ≤ 9223372036854775807 := Nat.le_trans hl (by decide)
  have H := Lib.hid (show Reads encZ w (.slice a l.length ca) l from h)
  have HN := Lib.hid hn
  have HW := Lib.hid hwf
  rw [hn] at H ⊢
  clear h hn hwf hl
  go_enter Try.func3, Try.ntmps3
  go_wp2_with fail
  refine (known14 w).mono ?_
  rintro e w1 ⟨rfl, rfl⟩
  by_cases hc : 60 < n
  · have ii : (60 : Int) < (n : Int) := by omega
    go_wp2_with fail
    go_ret
    exact ⟨rfl, Below.refl _ _⟩
  · have ii : ¬ ((60 : Int) < (n : Int)) := by omega
    go_wp2_with fail
    refine (good_any _ l w (by have := H.out; rw [← HN.out] at this; rw [HN.out] at this; exact this)).mono ?_
    rintro e w1 ⟨gv, rfl, hg, hb1⟩
    have HG := Lib.hid (show Reads encZ w1 gv (goodL l) from Reads.of_own (E := encZ) hg)
    have HB1 := Lib.hid hb1
    clear hg hb1
    go_wp2_with (at_builtin; refine append_all tyZ rfl _ _ rfl w1.heap.size (.slice (some ⟨w1.heap.size, 0, none⟩) 0 0) [] rfl (own_made encZ w1) (.slice a n ca) l rfl ((H.out.below HB1.out).below (below_alloc w1 _)) (by rw [HN.out]; simp only [maxLen, List.length_nil]; omega) (by rw [HN.out]; simp only [List.length_nil]; omega) (by simp) ?_; intro v2 w2 hown2 hg2)
    have hb2 : Below w1.heap.size w1 w2 := (below_alloc w1 _).grown hg2 (by simp) (fun k e => by simp [Value.ownBlock] at e; omega)
    have HR2 := Lib.hid (show Reads encZ w2 v2 l from Reads.of_own (E := encZ) hown2)
    have HB2 := Lib.hid hb2
    clear hown2 hg2 hb2
    go_wp2_with fail
    refine (sortS w2 v2 l HR2.out HW.out (by rw [HN.out]; omega)).mono ?_
    rintro e w3 ⟨v3, rfl, ho3, hb3⟩
    have HR3 := Lib.hid (show Reads encZ w3 v3 (sortD l) from Reads.of_own (E := encZ) ho3)
    have HB3 := Lib.hid (hb3)
    clear ho3 hb3 HR2
    go_wp2_with fail
    refine (rSortAny _ l w3 (((H.out.below HB1.out).below HB2.out).below HB3.out) (by rw [HN.out]; omega)).mono ?_
    rintro e w4 ⟨v4, rfl, ho4, hb4⟩
    have HR4 := Lib.hid (show Reads encZ w4 v4 (sortD l) from Reads.of_own (E := encZ) ho4)
    have HB4 := Lib.hid (hb4)
    clear ho4 hb4
    go_wp2_with fail
    refine (diagsP v3 v4 (sortD l) w4 (HR3.out.below HB4.out) HR4.out).mono ?_
    rintro e w5 ⟨rfl, hb5⟩
    have HG5 := Lib.hid (show Reads encZ w5 gv (goodL l) from (((HG.out.below HB2.out).below HB3.out).below HB4.out).below hb5)
    have HB5 := Lib.hid (show Below w.heap.size w w5 from below_from (below_from (below_from (below_from HB1.out HB2.out) HB3.out) HB4.out) hb5)
    have hgl := goodL_len l
    have hgw := Lib.hid (goodL_wf l)
    generalize goodL l = G at HG5 hgl hgw
    obtain ⟨ga, gc, rfl⟩ := HG5.out.shape
    obtain ⟨m, hm⟩ : ∃ m, G.length = m := ⟨_, rfl⟩
    have HM := Lib.hid hm
    rw [hm] at HG5 hgl
    rw [hm]
    clear hb5 HR3 HR4 HB1 HB2 HB3 HB4 HG hm H HW HN
    go_wp2_with (at_builtin; refine append_allG tyZ rfl _ _ rfl w5.heap.size (.slice (some ⟨w5.heap.size, 0, none⟩) 0 0) [] rfl (own_made encZ w5) (.slice ga m gc) G rfl (HG5.out.below (below_alloc w5 _)) (by rw [HM.out]; simp only [maxLen, List.length_nil]; omega) (by rw [HM.out]; simp only [List.length_nil]; omega) (by simp) ?_; intro v6 w6 hown6 hg6)
    have hb6 : Below w5.heap.size w5 w6 := (below_alloc w5 _).grown hg6 (by simp) (fun k e => by simp [Value.ownBlock] at e; omega)
    have HR6 := Lib.hid (show Reads encZ w6 v6 G from Reads.of_own (E := encZ) hown6)
    have HB6 := Lib.hid hb6
    clear hown6 hg6 hb6
    go_wp2_with fail
    refine (sortS w6 v6 G HR6.out hgw.out (by rw [HM.out]; omega)).mono ?_
    rintro e w7 ⟨v7, rfl, ho7, hb7⟩
    have HR7 := Lib.hid (show Reads encZ w7 v7 (sortD G) from Reads.of_own (E := encZ) ho7)
    have HB7 := Lib.hid (hb7)
    clear ho7 hb7 HR6
    go_wp2_with fail
    refine (rSortAny _ G w7 (by have h9 := (HG5.out.below HB6.out).below HB7.out; exact h9) (by rw [HM.out]; omega)).mono ?_
    rintro e w8 ⟨v8, rfl, ho8, hb8⟩
    have HR8 := Lib.hid (show Reads encZ w8 v8 (sortD G) from Reads.of_own (E := encZ) ho8)
    have HB8 := Lib.hid (hb8)
    clear ho8 hb8
    go_wp2_with fail
    refine (diagsP v7 v8 (sortD G) w8 (HR7.out.below HB8.out) HR8.out).mono ?_
    rintro e w9 ⟨rfl, hb9⟩
    go_wp2
    go_ret
    exact ⟨rfl, below_from (below_from (below_from (below_from HB5.out HB6.out) HB7.out) HB8.out) hb9⟩
end Go.Proofs.Ytdngcihjfbmbpaa.Zm
