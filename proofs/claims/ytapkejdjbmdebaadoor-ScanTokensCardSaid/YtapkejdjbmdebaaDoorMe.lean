/- The chapter's own Tokens; the statement's Piece and Text; the walk of the law ScanTokens. -/
import Derived.Test.YtapkejdjbmdebaaDoorMd
import Derived.Test.YtapkejdjbmdebaaDoorPqe
import Derived.Test.YtapkejdjbmdebaaDoorSRows
import Derived.Lib.AppendStr
/- The chapter's own Tokens (correctorref6): the tokens of any bytes. -/
namespace Go.Proofs.YtapkejdjbmdebaaDoor
open Go.RowKit
open Go.Proofs.YtapkejdjbmdebaaDoor.Sg
open Go.Proofs.YtapkejdjbmdebaaDoor.Sq
set_option linter.unusedVariables false

theorem next_mark (op : Nat) (dash blank : Bool) (r : List Nat) (h : 0 < Sc.mark r) : Sc.next op dash blank true r = (Sc.mark r, 3) := by
  unfold Sc.next
  rw [if_pos ⟨rfl, h⟩]
theorem markT_is (D : List Nat) : Sc.markT D = 0 ∨ Sc.markT D = 20 ∨ Sc.markT D = 21 := by
  rw [← Sc.mark_row]
  unfold Sc.mark
  (repeat' split) <;> simp
/-- What is known of the text as it is handed in. -/
def Hands (w : World) (a' : Option Addr) (cap n : Nat) (L : List Nat) : Prop := n = 0 ∨ ∃ b off, a' = some ⟨b, off, none⟩ ∧ b < w.heap.size ∧ Txt w b off L ∧ n ≤ cap ∧ cap ≤ maxLen
theorem Hands.of {w : World} {v : Value} {s : ByteArray} (h : Bys w v s) : ∃ a' cap, v = .slice a' s.size cap ∧ Hands w a' cap s.size (Sc.nats s) := by
  rcases h with ⟨h1, h2⟩ | ⟨b, off, cap, h1, h2, h3, h4⟩
  · exact ⟨none, 0, by rw [h1, h2], .inl h2⟩
  · by_cases h0 : s.size = 0
    · exact ⟨_, _, h1, .inl h0⟩
    · refine ⟨_, _, h1, .inr ⟨b, off, rfl, lt_of_cell (h4 0 (by omega)), fun j c hj => ?_, h2, h3⟩⟩
      have hl : j < s.size := by
        have := (List.getElem?_eq_some_iff.1 hj).1
        rwa [Sc.nats_len] at this
      have := Sc.nats_getD s j
      rw [List.getD_eq_getElem?_getD, hj] at this
      rw [h4 j hl, ← this]
      rfl
set_option maxHeartbeats 8000000 in
set_option maxRecDepth 100000 in
theorem rTokens (v : Value) (s : ByteArray) (w : World) (hv : Bys w v s) :
    Calls Tryd.prog 14 #[v] w (Gives (Sc.nats s) w) := by
  have hmx := hv.size_le
  simp only [maxLen] at hmx
  have hln := Sc.nats_len s
  have hlt := Sc.nats_lt s
  obtain ⟨a', cap, rfl, hH⟩ := Hands.of hv
  obtain ⟨L, hL⟩ : ∃ L, Sc.nats s = L := ⟨_, rfl⟩
  obtain ⟨n, hn⟩ : ∃ n, s.size = n := ⟨_, rfl⟩
  rw [hL] at hln hlt hH ⊢
  rw [hn] at hln hH hmx ⊢
  clear hv hL hn
  by_cases hlong : 16384 < n
  · have hI : (16384 : Int) < (n : Int) := by omega
    have hE : Sc.tokens L = [] := by rw [Sc.tokens_eq, if_pos (by rw [hln]; exact hlong)]
    have HD := Lib.hid (show Gives L w (.returned (.slice none 0 0)) w from ⟨_, rfl, by rw [hE]; exact World.ownsRow_nil w _ _ _, Below.refl _ _⟩)
    clear hE hln hlt hH
    go_enter Tryd.func14, Tryd.ntmps14
    go_wp2_with fail
    go_ret
    exact HD.out
  · have hI : ¬ ((16384 : Int) < (n : Int)) := by omega
    obtain ⟨Tot, hTot⟩ : ∃ Tot, Sc.tokens L = Tot := ⟨_, rfl⟩
    have hG0 : Sc.GoodR L Tot [] 0 (-1) 0 := ⟨by rw [← hTot, Sc.tokens_eq, if_neg (by rw [hln]; omega)]; rfl, Nat.le_refl _, Int.le_refl _, Nat.zero_le _⟩
    have HG0 := Lib.hid (hG0.row (by simp [Sc.isText]))
    have HTo := Lib.hid hTot
    have HH := Lib.hid hH
    have HN := Lib.hid hln
    have HLt := Lib.hid hlt
    obtain ⟨B, hB⟩ : ∃ B, Value.slice a' n cap = B := ⟨_, rfl⟩
    have HSl := Lib.hid hB
    have hm : n ≤ 16384 := by omega
    clear hG0 hTot hH hln hlt hlong hB
    go_enter Tryd.func14, Tryd.ntmps14
    go_wp2_with fail
    have hM0 : RM (w.alloc (.cells #[.slice a' n cap, .int .i64 0, .int .i64 0, .int .i64 0, .int .i64 0, .bool false, .int .i64 (-2), .slice none 0 0] 45)) w.heap.size (.slice a' n cap) (.slice none 0 0) 0 0 0 0 (-2) false := heap_alloc_new w _
    have HM0 := Lib.hid hM0
    have HB0 := Lib.hid (below_alloc w (.cells #[.slice a' n cap, .int .i64 0, .int .i64 0, .int .i64 0, .int .i64 0, .bool false, .int .i64 (-2), .slice none 0 0] 45))
    clear hM0
    refine (rNextRow _ _ _ _ _ _ _ _ _ _ HM0.out).mono ?_
    rintro e W0 ⟨rfl, hW0⟩
    have HM1 := Lib.hid (show RM W0 w.heap.size (.slice a' n cap) (.slice none 0 0) (0 : Nat) (0 : Nat) (0 : Nat) (-1) (-2) true by rw [hW0]; exact ((HM0.out.set2 0).set4 (-1)).set5 true)
    have HBl0 := Lib.hid (show Below w.heap.size w W0 by rw [hW0]; exact bel_set (bel_set (bel_set HB0.out (Nat.le_refl _) 2 _) (Nat.le_refl _) 4 _) (Nat.le_refl _) 5 _)
    have HHr0 := Lib.hid (show Here L Tot w.heap.size (.slice a' n cap) W0 0 from Here.fresh HM1.out (World.ownsRow_nil _ _ _ _) HG0.out)
    clear HM0 HB0 hW0 HM1 HG0 hI
    go_wp2_with fail
    go_loopg [] n (fun gf wr => ∃ p : Nat, Hid (Here L Tot w.heap.size (.slice a' n cap) wr p) ∧ Hid (Below w.heap.size w wr) ∧ p ≤ n ∧ n ≤ p + gf)
    case atStart => exact ⟨0, HHr0, HBl0, Nat.zero_le _, by omega⟩
    case round =>
      obtain ⟨p, HHr, HBr, hpn, hgf⟩ := hrel
      obtain ⟨v1, row, l, st, hM, hO, hG, hc⟩ := HHr.out
      have c1 := hM.c.2.1
      have c2 := hM.c.2.2.1
      have c7 := hM.c.2.2.2.2.2.2.2
      clear HHr0 HBl0
      by_cases hlt : p < n
      · obtain ⟨g', rfl⟩ : ∃ g', gk = g' + 1 := ⟨gk - 1, by omega⟩
        have i1 : (p : Int) < (n : Int) := by omega
        rcases HH.out with h0 | ⟨b, off, rfl, hbw, hT, hcap, hcm⟩
        · omega
        have HT := Lib.hid (hT.low HBr.out hbw)
        have HM := Lib.hid (fun W (hb : Below wr.heap.size wr W) => hM.below hb)
        have HO := Lib.hid (fun W (hb : Below wr.heap.size wr W) => show Row W w.heap.size v1 l from own_below hO hb)
        have HBa := Lib.hid (fun W (hb : Below wr.heap.size wr W) => show Below w.heap.size w W from HBr.out.trans_lo (Nat.le_refl _) (hb.mono (Nat.le_of_lt hM.lt)))
        have HG := Lib.hid hG
        have HC := Lib.hid hc
        obtain ⟨F, hF⟩ : ∃ F, (st.col == 0) = F := ⟨_, rfl⟩
        have hff : ((p : Int) == (row : Int)) = F := by rw [← hF, Bool.eq_iff_iff]; simp; omega
        have HF := Lib.hid hF
        obtain ⟨mk, hmk⟩ : ∃ mk, (if F = true then Sc.markT (L.drop p) else 0) = mk := ⟨_, rfl⟩
        have HMk := Lib.hid hmk
        clear hM hO hG hc hT hF hmk c7 HHr
        go_upto_region 7 with fail
        go_cut [28] (fun q wx => q = .bool F ∧ Below wr.heap.size wr wx)
        case first =>
          cases F
          all_goals
            go_wp2_with fail
            go_big_quiet (fail)
            have hbq := below_drewN (Below.refl wr.heap.size wr) nq
            go_wp2_with fail
            go_meet
            exact ⟨rfl, hbq⟩
        case rest =>
        obtain ⟨rfl, hb1⟩ := hcut
        have c1 := at_below hb1 c1
        have HB1 := Lib.hid hb1
        clear hb1 hff c2
        generalize wc = W1 at *
        go_upto_if 28 with fail
        go_cut [4] (fun q wx => q = .int .i64 mk ∧ W1 = wx)
        case first =>
          cases F with
          | true =>
            have hmm := rMark (w := W1) (a := w.heap.size) (b := b) (off := off) (cap := cap) p HN.out hm hlt (HM.out W1 HB1.out).c.1 (HT.out.below HB1.out)
            rw [show Sc.markT (L.drop p) = mk by have := HMk.out; rw [if_pos rfl] at this; exact this] at hmm
            have HMm := Lib.hid hmm
            clear hmm
            go_wp2_with fail
            refine HMm.out.mono ?_
            rintro e w2 ⟨rfl, rfl⟩
            go_wp2_with fail
            go_meet
            exact ⟨rfl, rfl⟩
          | false =>
            have hm0 : mk = 0 := by have := HMk.out; rw [if_neg (by simp)] at this; exact this.symm
            have HM0 := Lib.hid hm0
            clear hm0
            go_wp2_with fail
            go_meet
            exact ⟨by rw [HM0.out]; rfl, rfl⟩
        case rest =>
        obtain ⟨rfl, rfl⟩ := hcut
        by_cases hmp : 0 < mk
        · have gm : (0 : Int) < (mk : Int) := by omega
          have hFt : F = true := by
            cases F with
            | true => rfl
            | false => have := HMk.out; rw [if_neg (by simp)] at this; omega
          have hmt : Sc.markT (L.drop p) = mk := by have := HMk.out; rw [if_pos hFt] at this; exact this
          have hk := markT_is (L.drop p)
          rw [hmt] at hk
          have hrn : Sc.rowN (L.drop p) ≠ 0 := by
            intro e
            have h1 := Sc.mark_len (Sc.rowL (L.drop p)) (by rw [Sc.mark_row, hmt]; exact hmp)
            rw [Sc.rowL_len] at h1
            omega
          have HNx := Lib.hid (show Sc.next st.op st.dash st.blank (st.col == 0) (Sc.rowL (L.drop p)) = (mk, 3) by rw [HF.out, hFt, next_mark _ _ _ _ (by rw [Sc.mark_row, hmt]; exact hmp), Sc.mark_row, hmt])
          have HRn := Lib.hid hrn
          have HOp := Lib.hid (show Sc.opens st.op mk = 0 by unfold Sc.opens; rw [if_neg (by omega), if_neg (by omega), if_pos (by omega)])
          have HK := Lib.hid (show mk ≠ 19 ∧ mk ≠ 18 by omega)
          have hon := HG.out.on hrn HNx.out
          have hrl := Sc.rowN_le (L.drop p)
          rw [List.length_drop, HN.out] at hrl
          have hp3 : p + 3 ≤ n := by have := hon.2.2; omega
          have HAd := Lib.hid (by
            have := rAdd mk (p + 3) st.col p row st.op st.base (st.least - 1) st.dash w.heap.size (.slice (some ⟨b, off, none⟩) n cap) v1 l W1 (HM.out W1 HB1.out) (HO.out W1 HB1.out) HC.out (by omega) (by omega) (by have := HG.out.len; omega) HG.out.base.1
            rw [show ((p + 3 : Nat) : Int) = (p : Int) + 3 from by omega] at this
            exact this)
          clear hon hrl hrn hk hmt hFt hmp
          go_wp2_with fail
          refine HAd.out.mono ?_
          rintro e w2 ⟨rfl, hA⟩
          have HA := Lib.hid hA
          obtain ⟨v2, base2, hM2, -, hB2, -⟩ := hA
          have c3 := hM2.c.2.2.2.1
          have f3 := hM2.f 3
          have HR := Lib.hid (show Here L Tot w.heap.size (.slice (some ⟨b, off, none⟩) n cap) (w2.setCell ⟨w.heap.size, 3, none⟩ (.int .i64 0)) (p + 3) from Here.on HG.out HRn.out HNx.out HC.out (HA.out.open_ 0 (by rw [HOp.out]; rfl)) HK.out.1 (by
            show _ = (if mk = 18 then (if st.base = -1 then (st.col : Int) else st.base + 1) else st.least) - 1
            rw [if_neg HK.out.2]))
          have HB2 := Lib.hid (bel_set ((HBa.out W1 HB1.out).trans hB2) (Nat.le_refl _) 3 (.int .i64 0))
          clear hM2 hB2 HA HAd
          go_wp2_with fail
          go_roundg g'
          case measure => omega
          case rel => exact ⟨p + 3, HR, HB2, hp3, by omega⟩
        · obtain rfl : mk = 0 := by omega
          have HSp := Lib.hid (rSpace w.heap.size b off cap n p row L Tot l v1 st W1 HN.out hm hbw hlt (HT.out.below HB1.out) (HM.out W1 HB1.out) (HO.out W1 HB1.out) HG.out HC.out (by
            intro hcz
            have := HMk.out
            rw [if_pos (by rw [← HF.out, hcz]; rfl)] at this
            exact this))
          have HBW := Lib.hid (HBa.out W1 HB1.out)
          go_wp2_with fail
          refine HSp.out.mono ?_
          rintro e w2 (⟨rfl, p', h1, h2, h3, h4⟩ | ⟨rfl, hb2, ⟨c, t, hd, hbr, hbl⟩, hnx⟩)
          · have HR := Lib.hid h1
            have HB2 := Lib.hid (HBW.out.trans h2)
            clear h1 h2 HSp
            go_wp2_with fail
            go_roundg g'
            case measure => omega
            case rel => exact ⟨p', HR, HB2, h4, by omega⟩
          · have HB2 := Lib.hid (HB1.out.trans (hb2.mono HB1.out.size))
            have HD := Lib.hid hd
            have HX := Lib.hid hnx
            have HBr2 := Lib.hid hbr
            have HBl2 := Lib.hid hbl
            have HBk := Lib.hid (rBracket w.heap.size b off cap n p row c t L Tot l v1 st w2 HN.out hm (HT.out.below HB2.out) hd hbr (HM.out w2 HB2.out) (HO.out w2 HB2.out) HG.out HC.out hnx)
            have HBW2 := Lib.hid (HBa.out w2 HB2.out)
            clear hb2 hd hbr hbl hnx HSp
            go_wp2_with fail
            refine HBk.out.mono ?_
            rintro e w3 (⟨rfl, p', h1, h2, h3, h4⟩ | ⟨rfl, hb3, q91, q123, q93, q125, q44⟩)
            · have HR := Lib.hid h1
              have HB3 := Lib.hid (HBW2.out.trans h2)
              clear h1 h2 HBk
              go_wp2_with fail
              go_roundg g'
              case measure => omega
              case rel => exact ⟨p', HR, HB3, h4, by omega⟩
            · have HB3 := Lib.hid (HB2.out.trans (hb3.mono HB2.out.size))
              have HWd := Lib.hid (rWord w.heap.size b off cap n p row c t L Tot l v1 st w3 HN.out hm hbw hcap hcm HLt.out (HT.out.below HB3.out) HD.out HBr2.out HBl2.out (HM.out w3 HB3.out) (HO.out w3 HB3.out) HG.out HC.out HX.out q91 q123 q93 q125 q44)
              have HBW3 := Lib.hid (HBa.out w3 HB3.out)
              clear hb3 q91 q123 q93 q125 q44 HBk
              go_wp2_with fail
              refine HWd.out.mono ?_
              rintro e w4 ⟨rfl, p', h1, h2, h3, h4⟩
              have HR := Lib.hid h1
              have HB4 := Lib.hid (HBW3.out.trans h2)
              clear h1 h2 HWd
              go_wp2_with fail
              go_roundg g'
              case measure => omega
              case rel => exact ⟨p', HR, HB4, h4, by omega⟩
      · have i1 : ¬ ((p : Int) < (n : Int)) := by omega
        have hTl : l = Tot := by
          have h := hG.tot
          rw [List.drop_eq_nil_of_le (by rw [HN.out]; omega), Sc.toksN_nil, List.append_nil] at h
          exact h
        have HD := Lib.hid (show Gives L w (.returned v1) wr from ⟨v1, rfl, by rw [HTo.out, ← hTl]; exact own_base hO (Nat.le_succ _), HBr.out⟩)
        clear hTl hM hO hG hc HHr HBr HTo c2
        go_wp2_with fail
        go_ret
        exact HD.out
end Go.Proofs.YtapkejdjbmdebaaDoor

/- The walk of correctorlaw6.Piece and Text: some text of at most 400 bytes. -/
namespace Go.Proofs.YtapkejdjbmdebaaDoor
open Go.RowKit
open Go.Proofs.YtapkejdjbmdebaaDoor.Sg
open Go.Proofs.YtapkejdjbmdebaaDoor.Sq
set_option linter.unusedVariables false

def pieceL : List (List UInt8) := [[97], [98, 58, 32], [45, 32], [10], [10], [10, 32, 32], [10, 32, 32, 32, 32], [107, 101, 121, 58, 32], [91], [93], [123], [125], [44, 32], [58, 32], [39, 105, 116, 39, 39, 115, 39], [34, 120, 92, 110, 34], [35, 32, 110, 111, 116, 101, 10], [38, 110, 32], [42, 110], [33, 33, 105, 110, 116, 32], [124, 10], [62, 45, 10], [45, 45, 45], [46, 46, 46], [9], [13, 10], [32], [49], [126], [39, 111, 112, 101, 110], [34, 92, 113, 34], [45], [58], [116, 101, 120, 116, 32, 111, 102, 32, 119, 111, 114, 100, 115], [10, 45, 32], [10, 107, 58, 32], [32, 32], [35, 32, 111, 102, 102], [44], [124, 43], [10, 10]]
abbrev pieceV : List Value := [Value.string ⟨#[97]⟩, Value.string ⟨#[98, 58, 32]⟩, Value.string ⟨#[45, 32]⟩, Value.string ⟨#[10]⟩, Value.string ⟨#[10]⟩, Value.string ⟨#[10, 32, 32]⟩, Value.string ⟨#[10, 32, 32, 32, 32]⟩, Value.string ⟨#[107, 101, 121, 58, 32]⟩, Value.string ⟨#[91]⟩, Value.string ⟨#[93]⟩, Value.string ⟨#[123]⟩, Value.string ⟨#[125]⟩, Value.string ⟨#[44, 32]⟩, Value.string ⟨#[58, 32]⟩, Value.string ⟨#[39, 105, 116, 39, 39, 115, 39]⟩, Value.string ⟨#[34, 120, 92, 110, 34]⟩, Value.string ⟨#[35, 32, 110, 111, 116, 101, 10]⟩, Value.string ⟨#[38, 110, 32]⟩, Value.string ⟨#[42, 110]⟩, Value.string ⟨#[33, 33, 105, 110, 116, 32]⟩, Value.string ⟨#[124, 10]⟩, Value.string ⟨#[62, 45, 10]⟩, Value.string ⟨#[45, 45, 45]⟩, Value.string ⟨#[46, 46, 46]⟩, Value.string ⟨#[9]⟩, Value.string ⟨#[13, 10]⟩, Value.string ⟨#[32]⟩, Value.string ⟨#[49]⟩, Value.string ⟨#[126]⟩, Value.string ⟨#[39, 111, 112, 101, 110]⟩, Value.string ⟨#[34, 92, 113, 34]⟩, Value.string ⟨#[45]⟩, Value.string ⟨#[58]⟩, Value.string ⟨#[116, 101, 120, 116, 32, 111, 102, 32, 119, 111, 114, 100, 115]⟩, Value.string ⟨#[10, 45, 32]⟩, Value.string ⟨#[10, 107, 58, 32]⟩, Value.string ⟨#[32, 32]⟩, Value.string ⟨#[35, 32, 111, 102, 102]⟩, Value.string ⟨#[44]⟩, Value.string ⟨#[124, 43]⟩, Value.string ⟨#[10, 10]⟩]
theorem pieceV_eq : pieceV = pieceL.map fun p => Value.string ⟨p.toArray⟩ := rfl
theorem all_pieces : ∀ k : Fin 41, ((pieceL[k.val]?).map fun p => decide (p.length ≤ 13)) = some true := by decide +kernel
theorem piece_at (k : Nat) (hk : k < 41) : ∃ X : ByteArray, X.size ≤ 13 ∧ pieceV[k]? = some (.string X) := by
  have h := all_pieces ⟨k, hk⟩
  simp only at h
  cases hp : pieceL[k]? with
  | none => rw [hp] at h; cases h
  | some p =>
    rw [hp, Option.map_some] at h
    injection h with h
    refine ⟨⟨p.toArray⟩, by show p.toArray.size ≤ 13; simpa using h, ?_⟩
    rw [pieceV_eq, List.getElem?_map, hp]; rfl
/-- What Piece gives. -/
def Pieced (w : World) (e : Ending) (w' : World) : Prop := ∃ X : ByteArray, e = .returned (.string X) ∧ X.size ≤ 13 ∧ Below w.heap.size w w'
set_option maxHeartbeats 4000000 in
set_option maxRecDepth 100000 in
theorem piece_any (x : Int) (w : World) :
    Calls Tryd.prog 17 #[.int .i64 x] w (Pieced w) := by
  obtain ⟨m, hm, hwi⟩ := within_nat x 41 (by decide) (by decide)
  obtain ⟨X, hX, h5⟩ := piece_at m hm
  obtain ⟨tc, htc⟩ : ∃ tc, tc = w.heap.size := ⟨_, rfl⟩
  obtain ⟨V, hV⟩ : ∃ V, V = w.alloc (.cells pieceV.toArray 9) := ⟨_, rfl⟩
  have hbV := hV ▸ below_alloc w (.cells pieceV.toArray 9)
  have HBV := Lib.hid hbV
  have c0 : V.cell? ⟨tc, m, none⟩ = some (.string X) := by
    rw [hV, htc, World.cell?_alloc_new]; show (pieceV.toArray)[m]? = _; rw [List.getElem?_toArray]; exact h5
  have HV := Lib.hid hV
  have HTc := Lib.hid htc
  have HW := Lib.hid (hwi V)
  have hm0 : (m : Int) < 41 := by omega
  have hm1 : (0 : Int) ≤ (m : Int) := by omega
  have HX := Lib.hid hX
  clear h5 hwi hV htc hbV hX
  go_enter Tryd.func17, Tryd.ntmps17
  go_wp2_with fail
  rw [← HV.out, ← HTc.out]
  refine HW.out.mono ?_
  rintro e w2 ⟨rfl, rfl⟩
  go_wp2_with fail
  go_ret
  exact ⟨X, rfl, HX.out, HBV.out⟩
end Go.Proofs.YtapkejdjbmdebaaDoor

/- The walk of correctorlaw6.Text: some text of at most 400 bytes. -/
namespace Go.Proofs.YtapkejdjbmdebaaDoor
open Go.RowKit
open Go.Proofs.YtapkejdjbmdebaaDoor.Sg
open Go.Proofs.YtapkejdjbmdebaaDoor.Sq
set_option linter.unusedVariables false

/-- What Text gives. -/
def Texted (w : World) (e : Ending) (w' : World) : Prop := ∃ v, ∃ t : ByteArray, e = .returned v ∧ Bys w' v t ∧ t.size ≤ 400 ∧ Below w.heap.size w w'
theorem cells_app (a b : ByteArray) : cellsOf (a ++ b) = cellsOf a ++ cellsOf b := by simp [cellsOf]
set_option maxHeartbeats 8000000 in
set_option maxRecDepth 100000 in
theorem text_any (v0 : Value) (l0 : List Int) (v1 : Value) (s : ByteArray) (w : World) (h0 : Nums .i64 w v0 l0) (h1 : Bys w v1 s) (hs : s.size ≤ 100000) :
    Calls Tryd.prog 11 #[v0, v1] w (Texted w) := by
  obtain ⟨a0, cap0, rfl⟩ := h0.shape
  obtain ⟨a1, cap1, rfl⟩ := h1.shape
  have hl := h0.len
  obtain ⟨m, hm⟩ : ∃ m, m = min s.size 30 := ⟨_, rfl⟩
  have hmin : min (s.size : Int) 30 = (m : Int) := by omega
  obtain ⟨vc, hsl, hvc⟩ := cut_h (hi := m) h1 (by omega)
  have hmz : (s.extract 0 m).size = m := by rw [ext_size s 0 m (by omega)]; omega
  obtain ⟨c, hc⟩ : ∃ c, s.extract 0 m = c := ⟨_, rfl⟩
  rw [hc] at hvc hmz
  have hm30 : m ≤ 30 := by omega
  have H0 := Lib.hid h0
  have HV := Lib.hid hvc
  have HMz := Lib.hid hmz
  clear h0 h1 hm hvc hc hmz hs
  go_enter Tryd.func11, Tryd.ntmps11
  go_wp2_with fail
  go_loopw [5, 6] (fun bv i wr => ∃ (k : Nat) (t : ByteArray), i = .int .i64 k ∧ k ≤ 60 ∧ wr.ownsRow w.heap.size 5 1 bv t.size (cellsOf t) ∧ t.size ≤ 50 * k ∧ Below w.heap.size w wr) (fun _ i _ => 60 - (intOf i).toNat)
  case atStart => exact ⟨0, ⟨#[]⟩, rfl, by omega, World.ownsRow_nil _ _ _ _, Nat.zero_le _, Below.refl _ w⟩
  case round =>
    obtain ⟨k, t, rfl, hk, hown, ht, hb⟩ := hrel
    have HO := Lib.hid hown
    have HB := Lib.hid hb
    clear hown hb
    by_cases hlt : k < l0.length ∧ k < 60
    · obtain ⟨hlt1, hlt2⟩ := hlt
      have hi1 : (k : Int) < (l0.length : Int) := by omega
      have hi2 : (k : Int) < 60 := by omega
      go_upto_region 5 with fail
      go_cut [21] (fun q wx => (∃ b : Bool, q = .bool b) ∧ wr = wx)
      case first =>
        go_wp2_with fail
        go_meet
        exact ⟨⟨_, rfl⟩, rfl⟩
      case rest =>
      obtain ⟨⟨q, rfl⟩, rfl⟩ := hcut
      go_upto_if 21 with fail
      go_cut [5] (fun bv wx => ∃ t2 : ByteArray, wx.ownsRow w.heap.size 5 1 bv t2.size (cellsOf t2) ∧ t2.size ≤ 50 * k + 30 ∧ Below w.heap.size w wx)
      case first =>
        cases q with
        | true =>
          go_wp2_with (at_builtin; go_must (refine wpList_append_bys rfl (.tmp 22) (.tmp 27) rfl w.heap.size _ _ _ rfl HO.out vc c rfl (HV.out.below HB.out) (by have := HMz.out; omega) HB.out.size ?_; intro v3 w3 hown3 hg3))
          go_meet
          have hsz : (t ++ c).size = t.size + c.size := app_size t c
          exact ⟨t ++ c, by rw [hsz, cells_app]; exact hown3, by have := HMz.out; omega, HB.out.grown hg3 (by have := HB.out.size; omega) (fun j hj => (HO.out.lt j hj).1)⟩
        | false =>
          go_wp2_with fail
          go_meet
          exact ⟨t, HO.out, by omega, HB.out⟩
      case rest =>
      obtain ⟨t2, hown2, ht2, hb2⟩ := hcut
      have HO2 := Lib.hid hown2
      have HB2 := Lib.hid hb2
      obtain ⟨b1, off1, rfl, q2, q3, hc1⟩ := (H0.out.below hb2).at_ hlt1
      simp only [maxLen] at q3
      obtain ⟨y, hy⟩ : ∃ y, l0.getD k 0 = y := ⟨_, rfl⟩
      rw [hy] at hc1
      have HP := Lib.hid (piece_any y wc)
      clear hown2 hb2 hy HO
      go_wp2_with fail
      refine HP.out.mono ?_
      rintro e w4 ⟨X, rfl, hX, hb4⟩
      have HO4 := Lib.hid (own_below HO2.out hb4)
      have HB4 := Lib.hid (HB2.out.trans (hb4.mono HB2.out.size))
      obtain ⟨i0, hi, hz0, hz1, hz2⟩ := info_parts infoByte
      have HI := Lib.hid hi
      clear hb4 hi
      go_wp2_with (at_builtin; go_must (refine Lib.wpList_append_own_string (P := Tryd.prog) _ rfl (.tmp 29) (.tmp 34) 23 9 rfl w.heap.size 5 i0 Tryd.underlying23 Tryd.underlying9 HI.out hz0 hz1 hz2 _ _ _ rfl HO4.out X rfl (by simp only [maxLen]; omega) (by omega) HB4.out.size ?_; intro v5 w5 hown5 hg5 hnil))
      go_roundw
      case rel =>
        have hsz : (t2 ++ X).size = t2.size + X.size := app_size t2 X
        exact ⟨k + 1, t2 ++ X, by go_num, by omega, by rw [hsz, cells_app]; exact hown5, by omega, HB4.out.grown hg5 (by have := HB4.out.size; omega) (fun j hj => (HO4.out.lt j hj).1)⟩
      case measure => simp [intOf]; omega
    · have hown := HO.out
      have hBt := Bys.of_own hown
      obtain ⟨at', capt, rfl⟩ := hBt.shape
      obtain ⟨m4, hm4⟩ : ∃ m4, m4 = min t.size 400 := ⟨_, rfl⟩
      have hmin4 : min (t.size : Int) 400 = (m4 : Int) := by omega
      obtain ⟨vt, hslt, hvt⟩ := cut_h (hi := m4) hBt (by omega)
      have hz4 : (t.extract 0 m4).size = m4 := by rw [ext_size t 0 m4 (by omega)]; omega
      have HD := Lib.hid (show Texted w (.returned vt) wr from ⟨vt, _, rfl, hvt, by omega, HB.out⟩)
      clear hown hBt hm4 hvt hz4
      by_cases hlt1 : k < l0.length
      · have hi1 : (k : Int) < (l0.length : Int) := by omega
        have hi2 : ¬ ((k : Int) < 60) := by omega
        clear hlt
        go_wp2_with fail
        go_ret
        exact HD.out
      · have hi1 : ¬ ((k : Int) < (l0.length : Int)) := by omega
        clear hlt
        go_wp2_with fail
        go_ret
        exact HD.out
end Go.Proofs.YtapkejdjbmdebaaDoor

/- The walk of the law ScanTokens: known, Text, the program's tokens and the chapter's own, of the text and of the raw bytes. -/
namespace Go.Proofs.YtapkejdjbmdebaaDoor
open Go.RowKit
open Go.Proofs.YtapkejdjbmdebaaDoor.Sg
open Go.Proofs.YtapkejdjbmdebaaDoor.Sq
set_option linter.unusedVariables false

set_option maxHeartbeats 8000000 in
set_option maxRecDepth 100000 in
theorem walk_ScanTokens (v0 : Value) (l0 : List Int) (v1 : Value) (s : ByteArray) (w : World) (h0 : Nums .i64 w v0 l0) (h1 : Bys w v1 s) (hT : Tabs w) :
    Calls Tryd.prog 3 #[v0, v1] w fun e w' => e = .returned (.bool true) ∧ Below w.heap.size w w' := by
  obtain ⟨a1, cap1, rfl⟩ := h1.shape
  have hmx := h1.size_le
  simp only [maxLen] at hmx
  have HK := Lib.hid (known_true w hT)
  by_cases hlong : 200 < s.size
  · have hI : (200 : Int) < (s.size : Int) := by omega
    clear h0 h1 hT
    go_enter Tryd.func3, Tryd.ntmps3
    go_wp2_with fail
    refine HK.out.mono ?_
    rintro e w1 ⟨rfl, hb1⟩
    go_wp2_with fail
    go_ret
    exact ⟨rfl, hb1⟩
  · have hI : ¬ ((200 : Int) < (s.size : Int)) := by omega
    have HTx := Lib.hid (fun W (hb : Below w.heap.size w W) => text_any v0 l0 (.slice a1 s.size cap1) s W (h0.below hb) (h1.below hb) (by omega))
    have HB1 := Lib.hid (fun W (hb : Below w.heap.size w W) => h1.below hb)
    have HTb := Lib.hid (fun W (hb : Below w.heap.size w W) => hT.below hb)
    have HLs := Lib.hid (tokens_len (Sc.nats s))
    have HNs := Lib.hid (Sc.nats_len s)
    clear h0 h1 hT
    go_enter Tryd.func3, Tryd.ntmps3
    go_wp2_with fail
    refine HK.out.mono ?_
    rintro e w1 ⟨rfl, hb1⟩
    have G1 := Lib.hid hb1
    clear hb1 HK
    go_wp2_with fail
    refine (HTx.out w1 G1.out).mono ?_
    rintro e w2 ⟨vt, t, rfl, hBt, ht, hb2⟩
    have G2 := Lib.hid (G1.out.trans (hb2.mono G1.out.size))
    have HBt := Lib.hid hBt
    have HLt := Lib.hid (tokens_len (Sc.nats t))
    have HNt := Lib.hid (Sc.nats_len t)
    clear hb2 hBt HTx
    have hOe := own_empty w2
    have HOe := Lib.hid hOe
    have HBe := Lib.hid (below_alloc w2 (.cells #[] 5))
    clear hOe
    go_wp2_with (at_builtin; go_must (refine wpList_append_bys rfl (.tmp 14) (.tmp 15) rfl w2.heap.size _ _ _ rfl HOe.out vt t rfl (HBt.out.below HBe.out) (by omega) (by have := HBe.out.size; omega) ?_; intro v3 w3 hown3 hg3))
    have hB3 : Bys w3 v3 t := Bys.of_own (by have h := hown3; rw [Nat.zero_add, List.nil_append] at h; exact h)
    have hb3 : Below w2.heap.size w2 w3 := HBe.out.grown hg3 (by have := HBe.out.size; omega) (fun j hj => (HOe.out.lt j hj).1)
    have G3 := Lib.hid (G2.out.trans (hb3.mono G2.out.size))
    have HBt3 := Lib.hid (HBt.out.below hb3)
    have HP := Lib.hid (pTokens v3 t w3 hB3 (HTb.out w3 G3.out))
    clear hown3 hg3 hB3 hb3 HOe HBe HBt
    obtain ⟨T, hTd⟩ : ∃ T, Sc.tokens (Sc.nats t) = T := ⟨_, rfl⟩
    obtain ⟨U, hUd⟩ : ∃ U, Sc.tokens (Sc.nats s) = U := ⟨_, rfl⟩
    have HTl := Lib.hid (show T.length ≤ 400 by rw [← hTd]; have := HLt.out; have := HNt.out; omega)
    have HUl := Lib.hid (show U.length ≤ 200 by rw [← hUd]; have := HLs.out; have := HNs.out; omega)
    have HTd := Lib.hid hTd
    have HUd := Lib.hid hUd
    clear hTd hUd HLt HLs HNt HNs
    refine HP.out.mono ?_
    intro e w4 hg4
    obtain ⟨p1, c1, rfl, R1, hb4⟩ := hg4.read
    rw [HTd.out] at R1 ⊢
    have S1 := Lib.hid (Stand.of_reads R1)
    have G4 := Lib.hid (G3.out.trans (hb4.mono G3.out.size))
    have HR := Lib.hid (rTokens vt t w4 (HBt3.out.below hb4))
    clear R1 hb4 hg4 HP HBt3
    go_wp2_with fail
    refine HR.out.mono ?_
    intro e w5 hg5
    obtain ⟨p2, c2, rfl, R2, hb5⟩ := hg5.read
    rw [HTd.out] at R2 ⊢
    have G5 := Lib.hid (G4.out.trans (hb5.mono G4.out.size))
    have HS := Lib.hid (same6_true p1 p2 c1 c2 T w5 (by have := HTl.out; omega) (S1.out.below hb5) (Stand.of_reads R2))
    clear R2 hb5 hg5 HR S1
    go_wp2_with fail
    refine HS.out.mono ?_
    rintro e w6 ⟨rfl, hb6⟩
    have G6 := Lib.hid (G5.out.trans (hb6.mono G5.out.size))
    have HP := Lib.hid (pTokens (.slice a1 s.size cap1) s w6 (HB1.out w6 G6.out) (HTb.out w6 G6.out))
    clear hb6 HS
    go_wp2_with fail
    refine HP.out.mono ?_
    intro e w7 hg7
    obtain ⟨p3, c3, rfl, R3, hb7⟩ := hg7.read
    rw [HUd.out] at R3 ⊢
    have S3 := Lib.hid (Stand.of_reads R3)
    have G7 := Lib.hid (G6.out.trans (hb7.mono G6.out.size))
    have HR := Lib.hid (rTokens (.slice a1 s.size cap1) s w7 (HB1.out w7 G7.out))
    clear R3 hb7 hg7 HP
    go_wp2_with fail
    refine HR.out.mono ?_
    intro e w8 hg8
    obtain ⟨p4, c4, rfl, R4, hb8⟩ := hg8.read
    rw [HUd.out] at R4 ⊢
    have G8 := Lib.hid (G7.out.trans (hb8.mono G7.out.size))
    have HS := Lib.hid (same6_true p3 p4 c3 c4 U w8 (by have := HUl.out; omega) (S3.out.below hb8) (Stand.of_reads R4))
    clear R4 hb8 hg8 HR S3
    go_wp2_with fail
    refine HS.out.mono ?_
    rintro e w9 ⟨rfl, hb9⟩
    have G9 := Lib.hid (G8.out.trans (hb9.mono G8.out.size))
    clear hb9 HS
    go_wp2_with fail
    go_ret
    exact ⟨rfl, G9.out⟩
end Go.Proofs.YtapkejdjbmdebaaDoor
