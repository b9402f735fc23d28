/- The walk of correctorlaw1.RunesBad: it returns true whatever bytes come. -/
import Derived.Test.YtnjbdafjhhjfoaaDoorAid1
namespace Go.Proofs.YtnjbdafjhhjfoaaDoor
open Go.RowKit
open Go.Proofs.YtnjbdafjhhjfoaaDoor.Sg

set_option maxHeartbeats 2000000 in
set_option maxRecDepth 100000 in
theorem walk_RunesBad (v : Value) (s : ByteArray) (w : World) (h : Bys w v s) (hT : Tabs w) :
    Calls Tryd.prog 4 #[v] w fun e w' => e = .returned (.bool true) ∧ Below w.heap.size w w' := by
  have hm := h.size_le
  simp only [maxLen] at hm
  have HK := Lib.hid (known_true w hT)
  by_cases hbig : 200 < s.size
  · obtain ⟨a, cap, rfl⟩ := h.shape
    have hgt : (200 : Int) < (s.size : Int) := by omega
    clear hbig h hT
    go_enter Tryd.func4, Tryd.ntmps4
    go_wp2_with fail
    refine HK.out.mono ?_
    rintro e w1 ⟨rfl, hb⟩
    go_wp2
    go_ret
    exact ⟨rfl, hb⟩
  · have hle : ¬ ((200 : Int) < (s.size : Int)) := by omega
    obtain ⟨a, cap, rfl⟩ := h.shape
    go_enter Tryd.func4, Tryd.ntmps4
    go_wp2_with fail
    refine HK.out.mono ?_
    rintro e w1 ⟨rfl, hb⟩
    have h1 := h.below hb
    have hT1 := hT.below hb
    clear hT h HK
    have h1' : Bys (w1.alloc (.cells #[] 5)) (.slice a s.size cap) s := h1.below ((Below.refl _ w1).alloc (Nat.le_refl _) _)
    go_wp2_with (at_builtin; go_must (refine wpList_append_bys rfl (.tmp 8) (.tmp 9) rfl w1.heap.size _ 0 [] rfl (own_empty w1) _ s rfl h1' (by omega) (by simp) ?_; intro v2 w2 hown2 hg2))
    rw [Nat.zero_add, List.nil_append] at hown2
    have hA : Below w1.heap.size w1 w2 := ((Below.refl _ w1).alloc (Nat.le_refl _) _).grown hg2 (by simp) (fun k hk => Nat.le_of_eq (Option.some.inj hk))
    have h2 := h1.below hA
    have hT2 := hT1.below hA
    have hB2 : Below w.heap.size w w2 := hb.trans (hA.mono hb.size)
    clear h1 h1' hT1 hg2 hA hb
    go_wp2_with fail
    refine (runesBad s v2 w2 (Bys.of_own hown2) hT2 (by omega)).mono ?_
    rintro e w3 ⟨v3, rfl, hown3, hb3⟩
    have h3 := h2.below hb3
    have hB3 := hB2.trans (hb3.mono hB2.size)
    clear h2 hb3 hB2 hown2 hT2
    go_wp2_with fail
    refine (refBad s (.slice a s.size cap) w3 h3 (by omega)).mono ?_
    rintro e w4 ⟨v4, rfl, hown4, hb4⟩
    have h4 := h3.below hb4
    have hB4 := hB3.trans (hb4.mono hB3.size)
    have hI3 := (Ints.of_own hown3).below hb4
    clear h3 hb4 hB3 hown3
    go_wp2_with fail
    refine (ints_same v3 v4 _ w4 hI3 (Ints.of_own hown4)).mono ?_
    rintro e w5 ⟨rfl, hb5⟩
    have h5 := h4.below hb5
    have hB5 := hB4.trans (hb5.mono hB4.size)
    clear h4 hb5 hB4 hown4 hI3
    go_wp2_with fail
    refine (runesCount s (.slice a s.size cap) w5 h5).mono ?_
    rintro e w6 ⟨rfl, hb6⟩
    have h6 := h5.below hb6
    have hB6 := hB5.trans (hb6.mono hB5.size)
    clear h5 hb6 hB5
    go_wp2_with fail
    refine (refCount s (.slice a s.size cap) w6 h6).mono ?_
    rintro e w7 ⟨rfl, rfl⟩
    go_wp2
    go_ret
    exact ⟨by simp, hB6⟩
end Go.Proofs.YtnjbdafjhhjfoaaDoor
