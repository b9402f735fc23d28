/- scan.Tokens: the tokens of any bytes. -/
import Derived.Test.YtapkejdjbmdebaaDoorPqd
import Derived.Test.YtapkejdjbmdebaaDoorCut
namespace Go.Proofs.YtapkejdjbmdebaaDoor
open Go.RowKit
open Go.Proofs.YtapkejdjbmdebaaDoor.Sg
open Go.Proofs.YtapkejdjbmdebaaDoor.Sq
set_option linter.unusedVariables false

/-- What Tokens hands back: a row of its own that reads as the tokens of the text. -/
def Gives (L : List Nat) (w : World) (e : Ending) (w' : World) : Prop :=
  ∃ u, e = .returned u ∧ w'.ownsRow w.heap.size 32 3 u (Sc.tokens L).length (encT.all (Sc.tokens L)) ∧ Below w.heap.size w w'
set_option maxHeartbeats 4000000 in
set_option maxRecDepth 100000 in
theorem pTokens (v : Value) (s : ByteArray) (w : World) (hv : Bys w v s) (hT : Tabs w) :
    Calls Tryd.prog 13 #[v] w (Gives (Sc.nats s) w) := by
  have hm := hv.size_le
  simp only [maxLen] at hm
  have hln := Sc.nats_len s
  have hcv := conv_bys hv
  obtain ⟨a, cap, hsh⟩ : ∃ a cap, v = .slice a s.size cap := by
    rcases hv with ⟨h1, h2⟩ | ⟨b, off, cap, h1, _⟩
    · exact ⟨none, 0, by rw [h1, h2]⟩
    · exact ⟨_, _, h1⟩
  subst hsh
  by_cases hlong : 16384 < s.size
  · have hI : (16384 : Int) < (s.size : Int) := by omega
    have hE : Sc.tokens (Sc.nats s) = [] := by rw [Sc.tokens_eq, if_pos (by rw [hln]; exact hlong)]
    have HD := Lib.hid (show Gives (Sc.nats s) w (.returned (.slice none 0 0)) w from ⟨_, rfl, by rw [hE]; exact World.ownsRow_nil w _ _ _, Below.refl _ _⟩)
    clear hE hv hT hcv hln
    go_enter Tryd.func13, Tryd.ntmps13
    go_wp2_with fail
    go_ret
    exact HD.out
  · have hI : ¬ ((16384 : Int) < (s.size : Int)) := by omega
    obtain ⟨Tot, hTot⟩ : ∃ Tot, Sc.tokens (Sc.nats s) = Tot := ⟨_, rfl⟩
    have hG0 : Sc.GoodR (Sc.nats s) Tot [] 0 (-1) 0 := ⟨by rw [← hTot, Sc.tokens_eq, if_neg (by rw [hln]; omega)]; rfl, Nat.le_refl _, Int.le_refl _, Nat.zero_le _⟩
    have hg1 : 1 < w.heap.size := lt_of_cell (hT.1 0 (by decide))
    have hg2 : 2 < w.heap.size := lt_of_cell (hT.2 0 (by decide)).1
    have HG0 := Lib.hid hG0
    have HTo := Lib.hid hTot
    have HT := Lib.hid hT
    clear hv hT hG0 hTot
    go_enter Tryd.func13, Tryd.ntmps13
    go_wp2_with fail
    have hM0 : Mem (w.alloc (.cells #[.string s, .slice none 0 0, .int .i64 0, .int .i64 0, .int .i64 0, .int .i64 0, .int .i64 0, .int .i64 (-1), .bool false] 42)) w.heap.size s (.slice none 0 0) (0 : Nat) (0 : Nat) (0 : Nat) (0 : Nat) 0 (-1) false := heap_alloc_new w _
    have HM0 := Lib.hid hM0
    clear hM0
    go_loopg [] s.size (fun gf wr => ∃ (v1 : Value) (l1 : List Tk) (p row en op : Nat) (base least : Int) (dash : Bool), Hid (Mem wr w.heap.size s v1 p row en op base least dash) ∧ Hid (Row wr w.heap.size v1 l1) ∧ Hid (Sc.GoodR (Sc.nats s) Tot l1 op least p) ∧ Hid (Below w.heap.size w wr) ∧ p ≤ s.size ∧ s.size ≤ p + gf)
    case atStart => exact ⟨_, [], 0, 0, 0, 0, 0, -1, false, HM0, Lib.hid (World.ownsRow_nil _ _ _ _), HG0, Lib.hid (below_alloc w _), Nat.zero_le _, by omega⟩
    case round =>
      obtain ⟨v1, l1, p, row, en, op, base, least, dash, HMr, HOr, HGr, HBr, hps, hgf⟩ := hrel
      obtain ⟨c0, c1, c2, c3, c4, c5, c6, c7, c8⟩ := HMr.out.c
      clear c3 c4 c5 c6 c7 c8 HM0 HG0
      by_cases hlt : p < s.size
      · obtain ⟨g', rfl⟩ : ∃ g', gk = g' + 1 := ⟨gk - 1, by omega⟩
        have hpI : (p : Int) < (s.size : Int) := by omega
        have HR := Lib.hid (pReadRow w.heap.size s v1 p row en op base least dash l1 Tot wr HMr.out HOr.out (HT.out.below HBr.out) hg1 hg2 (by omega) hlt HGr.out)
        clear HMr HOr HGr c1
        go_wp2_with fail
        refine HR.out.mono ?_
        rintro e w2 ⟨rfl, v2, l2, p2, row2, en2, op2, base2, least2, dash2, hM2, hO2, hG2, hp1, hp2, hB2⟩
        have HM2 := Lib.hid hM2
        have HO2 := Lib.hid hO2
        have HG2 := Lib.hid hG2
        have HB2 := Lib.hid (HBr.out.trans hB2)
        clear hM2 hO2 hG2 hB2 HR HBr c0 c2
        go_wp2_with fail
        go_roundg g'
        case measure => omega
        case rel => exact ⟨v2, l2, p2, row2, en2, op2, base2, least2, dash2, HM2, HO2, HG2, HB2, hp2, by omega⟩
      · have hpI : ¬ ((p : Int) < (s.size : Int)) := by omega
        have hTl : l1 = Tot := by
          have h := HGr.out.tot
          rw [Sc.drop_nil s p (by omega), Sc.toksN_nil, List.append_nil] at h
          exact h
        have HD := Lib.hid (show Gives (Sc.nats s) w (.returned v1) wr from ⟨v1, rfl, by rw [HTo.out, ← hTl]; exact own_base HOr.out (Nat.le_succ _), HBr.out⟩)
        clear hTl HMr HOr HGr HBr HTo
        go_wp2_with fail
        go_ret
        exact HD.out
end Go.Proofs.YtapkejdjbmdebaaDoor
