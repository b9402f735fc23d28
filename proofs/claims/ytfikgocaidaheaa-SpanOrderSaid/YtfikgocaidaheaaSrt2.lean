/- span.Sort: the spans rise, each once. -/
import Derived.Test.YtfikgocaidaheaaSrt
namespace Go.Proofs.Ytfikgocaidaheaa
open Go.RowKit
open Go.Proofs.Ytfikgocaidaheaa.Hp

/-- The slice at index k: where its span lies. -/
theorem Spans.at_ {w : World} {a : Option Addr} {cap : Nat} {l : List (Int × Int)} (h : Spans w (.slice a l.length cap) l) (k : Nat) (hk : k < l.length) :
    ∃ b off, a = some ⟨b, off, none⟩ ∧ w.cell? ⟨b, off + k * 2, none⟩ = some (.int .i64 (Hp.at_ l k).1) ∧ w.cell? ⟨b, off + k * 2 + 1, none⟩ = some (.int .i64 (Hp.at_ l k).2) := by
  rcases h with ⟨_, rfl⟩ | ⟨b, off, cap', hv, h2, h3, h4⟩
  · exact absurd hk (by simp)
  · obtain ⟨rfl, -, rfl⟩ := Value.slice.inj hv
    exact ⟨b, off, rfl, (h4 k hk).1, (h4 k hk).2⟩
theorem mem_take_succ {l : List (Int × Int)} {k : Nat} (hk : k < l.length) (y : Int × Int) : y ∈ l.take (k + 1) ↔ y ∈ l.take k ∨ y = Hp.at_ l k := by
  have e : Hp.at_ l k = l[k] := by simp [Hp.at_, hk]
  rw [List.take_succ_eq_append_getElem hk, List.mem_append, List.mem_singleton, e]
/-- All that is said of what Sort answers. -/
def SortDone (w : World) (l : List (Int × Int)) (e : Ending) (w' : World) : Prop :=
  ∃ vs out, e = .returned vs ∧ w'.ownsRow w.heap.size 23 2 vs out.length (cellsS out) ∧ Rises out ∧ (∀ y, y ∈ out ↔ y ∈ l) ∧ Below w.heap.size w w'
/-- What the first loop holds ahead of the span k. -/
def Got (w : World) (l : List (Int × Int)) (k : Nat) (wr : World) : Prop :=
  ∃ rb lk, HeapAt wr w.heap.size rb lk ∧ IsHeap lk lk.length ∧ lk.length = k ∧ (∀ y, y ∈ lk ↔ y ∈ l.take k) ∧ Below w.heap.size w wr
/-- What the second loop holds: what is out, and what is left. -/
def Left (w : World) (l : List (Int × Int)) (B : Nat) (rb : Option Nat) (vs : Value) (n : Nat) (wr : World) : Prop :=
  ∃ out lk, HeapAt wr w.heap.size rb lk ∧ IsHeap lk lk.length ∧ lk.length = n ∧ wr.ownsRow B 23 2 vs out.length (cellsS out) ∧ Rises out ∧ out.length + n ≤ l.length ∧ (∀ y, y ∈ l ↔ y ∈ out ∨ y ∈ lk) ∧ (∀ x ∈ out, ∀ y ∈ lk, ltB y x = false) ∧ Below w.heap.size w wr ∧ B ≤ wr.heap.size
theorem got_start (w : World) (l : List (Int × Int)) : Got w l 0 (w.alloc (.cells #[.slice none 0 0] 36)) := by
  refine ⟨none, [], ⟨_, ?_, World.ownsRow_nil _ _ _ _, rfl⟩, fun k _ h => absurd h (by simp), rfl, fun y => by simp, below_alloc w _⟩
  show (w.heap.push _)[w.heap.size]? = _
  exact Array.getElem?_push_size
theorem grew_below {W W' : World} {pb : Nat} {rb : Option Nat} {l : List (Int × Int)} (h : Grew pb rb W l W') (hp : pb ≤ W.heap.size) (hr : ∀ g, rb = some g → pb < g) : Below pb W W' := by
  obtain ⟨rb', _, h2, _⟩ := h
  exact h2.below hr hp
theorem got_step {w wr W1 W2 : World} {l lk l' : List (Int × Int)} {rb : Option Nat} {k : Nat} {x1 x2 : Int} (hk : k < l.length) (hx : Hp.at_ l k = (x1, x2)) (h : HeapAt wr w.heap.size rb lk) (hn : lk.length = k) (hm : ∀ y, y ∈ lk ↔ y ∈ l.take k) (hb : Below w.heap.size w wr) (h1 : Below wr.heap.size wr W1)
    (hg : Grew w.heap.size rb W1 l' W2) (hs : Same (lk ++ [(x1, x2)]) l') (hi : IsHeap l' l'.length) : Got w l (k + 1) W2 := by
  have hbel := grew_below hg (Nat.le_trans hb.size h1.size) (fun g e => (h.rb_lt g e).1)
  obtain ⟨rb', g1, g2, g3⟩ := hg
  refine ⟨rb', l', g1, hi, by rw [← hs.1]; simp [hn], fun y => ?_, hb.trans ((h1.mono hb.size).trans hbel)⟩
  rw [← hs.2 y, mem_take_succ hk, hx, List.mem_append, List.mem_singleton, hm]

theorem own_base {w : World} {B B' : Nat} {e : TypeId} {size n : Nat} {v : Value} {xs : List Value} (h : w.ownsRow B e size v n xs) (hB : B' ≤ B) : w.ownsRow B' e size v n xs := by
  refine ⟨h.1, ?_⟩
  rcases h.2 with h0 | ⟨g, cap, cur, hv, hbg, rest⟩
  · exact .inl h0
  · exact .inr ⟨g, cap, cur, hv, Nat.le_trans hB hbg, rest⟩
/-- What the second loop holds once a span is taken: it lies in a box of its own. -/
def Mid (w : World) (B : Nat) (rb : Option Nat) (vs : Value) (out l' : List (Int × Int)) (x1 x2 : Int) (bs : Nat) (W : World) : Prop :=
  HeapAt W w.heap.size rb l' ∧ IsHeap l' l'.length ∧ W.ownsRow B 23 2 vs out.length (cellsS out) ∧ W.cell? ⟨bs, 0, none⟩ = some (.int .i64 x1) ∧ W.cell? ⟨bs, 1, none⟩ = some (.int .i64 x2) ∧ Below w.heap.size w W ∧ B ≤ W.heap.size
theorem mid_of {w wr w1 : World} {out l' : List (Int × Int)} {B : Nat} {rb : Option Nat} {vs : Value} {x1 x2 : Int} (hB : w.heap.size < B) (hrB : ∀ g, rb = some g → w.heap.size < g ∧ g < B) (hown : wr.ownsRow B 23 2 vs out.length (cellsS out)) (hb : Below w.heap.size w wr) (hBw : B ≤ wr.heap.size)
    (h1 : HeapAt w1 w.heap.size rb l') (hk : Keep w.heap.size rb wr w1) (hi : IsHeap l' l'.length) (q : Nat) : Mid w B rb vs out l' x1 x2 w1.heap.size ((w1.alloc (box x1 x2)).drewN q) := by
  have ho := own_keep hown hk hB (fun g e => (hrB g e).2)
  have hbb := hk.below (fun g e => (hrB g e).1) hb.size
  have h2 := below_alloc w1 (box x1 x2)
  have hs := hk.size
  refine ⟨(h1.keep h2).same rfl (fun _ _ => rfl), hi, ?_, (box_new w1 x1 x2).1, (box_new w1 x1 x2).2, ?_, ?_⟩
  · exact own_below (w := w1.alloc (box x1 x2)) (own_below ho h2) ⟨rfl, rfl, rfl, Nat.le_refl _, fun _ _ => rfl⟩
  · have h3 := hb.trans (hbb.trans (h2.mono (Nat.le_trans hb.size hk.size)))
    exact ⟨h3.os, h3.tape, h3.output, h3.size, h3.block⟩
  · show B ≤ (w1.alloc (box x1 x2)).heap.size
    rw [size_alloc]; omega
/-- One more is out. -/
theorem left_put {w W W' : World} {l out lk l' : List (Int × Int)} {B n : Nat} {rb : Option Nat} {vs vs' : Value} {x1 x2 : Int} {bs : Nat} (hB : w.heap.size < B) (hrB : ∀ g, rb = some g → w.heap.size < g ∧ g < B) (hm : Mid w B rb vs out l' x1 x2 bs W)
    (hown : W'.ownsRow B 23 2 vs' (out ++ [(x1, x2)]).length (cellsS (out ++ [(x1, x2)]))) (hg : (W.alloc (box x1 x2)).grownBy W' vs.ownBlock)
    (hr : Rises out) (hlen : out.length + (n + 1) ≤ l.length) (hl' : l'.length = n) (hmem : ∀ y, y ∈ l ↔ y ∈ out ∨ y ∈ lk) (hord : ∀ x ∈ out, ∀ y ∈ lk, ltB y x = false) (hlk : ∀ y, y ∈ lk ↔ y ∈ l' ∨ y = (x1, x2)) (hmin : ∀ y ∈ lk, ltB y (x1, x2) = false)
    (hnew : ∀ y ∈ out, y ≠ (x1, x2)) : Left w l B rb vs' n W' := by
  obtain ⟨m1, m2, m3, m4, m5, m6, m7⟩ := hm
  have h2 := below_alloc W (box x1 x2)
  have hsz : (W.alloc (box x1 x2)).heap.size = W.heap.size + 1 := size_alloc _ _
  have hgs := hg.size
  refine ⟨out ++ [(x1, x2)], l', (m1.keep h2).grown hg hB (fun g e => (hrB g e).2) (fun k e => (m3.lt k e).1), m2, hl', hown, rises_snoc hr (fun y hy => lt_of_ge_ne (hord y hy (x1, x2) ((hlk _).2 (.inr rfl))) (hnew y hy)), by simp; omega, fun y => ?_, fun x hx y hy => ?_, ?_, ?_⟩
  · rw [hmem, hlk, List.mem_append, List.mem_singleton]
    constructor
    · rintro (h | h | h)
      · exact .inl (.inl h)
      · exact .inr h
      · exact .inl (.inr h)
    · rintro ((h | h) | h)
      · exact .inl h
      · exact .inr (.inr h)
      · exact .inr (.inl h)
  · rcases List.mem_append.1 hx with h | h
    · exact hord x h y ((hlk y).2 (.inl hy))
    · rw [List.mem_singleton.1 h]; exact hmin y ((hlk y).2 (.inl hy))
  · exact (m6.trans (h2.mono m6.size)).grown hg (by rw [hsz]; have := m6.size; omega) (fun k e => by have := (m3.lt k e).1; omega)
  · omega
/-- One that was out already. -/
theorem left_skip {w W : World} {l out lk l' : List (Int × Int)} {B n : Nat} {rb : Option Nat} {vs : Value} {x1 x2 : Int} {bs : Nat} (hm : Mid w B rb vs out l' x1 x2 bs W)
    (hr : Rises out) (hlen : out.length + (n + 1) ≤ l.length) (hl' : l'.length = n) (hmem : ∀ y, y ∈ l ↔ y ∈ out ∨ y ∈ lk) (hord : ∀ x ∈ out, ∀ y ∈ lk, ltB y x = false) (hlk : ∀ y, y ∈ lk ↔ y ∈ l' ∨ y = (x1, x2))
    (hold : (x1, x2) ∈ out) : Left w l B rb vs n W := by
  obtain ⟨m1, m2, m3, m4, m5, m6, m7⟩ := hm
  refine ⟨out, l', m1, m2, hl', m3, hr, by omega, fun y => ?_, fun x hx y hy => hord x hx y ((hlk y).2 (.inl hy)), m6, m7⟩
  rw [hmem, hlk]
  constructor
  · rintro (h | h | h)
    · exact .inl h
    · exact .inr h
    · exact .inl (by rw [h]; exact hold)
  · rintro (h | h)
    · exact .inl h
    · exact .inr (.inl h)
/-- Where the last one out is another one, all are. -/
theorem all_other {out lk : List (Int × Int)} {x : Int × Int} {M : Nat} (hr : Rises out) (hM : out.length = M + 1) (hord : ∀ a ∈ out, ∀ y ∈ lk, ltB y a = false) (hx : x ∈ lk) (hne : Hp.at_ out M ≠ x) : ∀ y ∈ out, y ≠ x := by
  rintro y hy rfl
  obtain ⟨k, hk, e⟩ := mem_at.1 hy
  have hlast : Hp.at_ out M ∈ out := mem_at.2 ⟨M, by omega, rfl⟩
  have hlt : k < M := by
    rcases Nat.lt_or_ge k M with h | h
    · exact h
    · obtain rfl : k = M := by omega
      exact absurd e hne
  have h1 := List.pairwise_iff_getElem.1 hr k M hk (by omega) hlt
  have h2 := hord _ hlast y hx
  have e1 : out[k] = y := by rw [← e]; simp [Hp.at_, hk]
  have e2 : out[M] = Hp.at_ out M := by simp [Hp.at_, show M < out.length from by omega]
  rw [e1, e2, h2] at h1
  cases h1

set_option maxHeartbeats 4000000 in
set_option maxRecDepth 100000 in
theorem sortS (w : World) (v : Value) (l : List (Int × Int)) (h : Spans w v l) (hl : l.length ≤ 1000) :
    Calls Try.prog 16 #[v] w (SortDone w l) := by
  obtain ⟨a, cap, rfl⟩ := h.shape
  obtain ⟨N, hN⟩ : ∃ N, l.length = N := ⟨_, rfl⟩
  have HA := Lib.hid (fun k hk => h.at_ k hk)
  have HN := Lib.hid hN
  have HG := Lib.hid (got_start w l)
  rw [hN] at hl
  rw [hN]
  clear hN h
  go_enter Try.func16, Try.ntmps16
  go_wp2_with fail
  go_loopw [5, 13] (fun _ is wr => ∃ k : Nat, is = .int .i64 k ∧ k ≤ N ∧ Got w l k wr) (fun _ is _ => N - (intOf is).toNat)
  case atStart => exact ⟨0, rfl, Nat.zero_le _, HG.out⟩
  case round =>
    obtain ⟨k, rfl, hk, rb, lk, hh, hi, hn, hm, hb⟩ := hrel
    by_cases hlt : k < N
    · obtain ⟨b, off, rfl, c1, c2⟩ := HA.out k (by rw [HN.out]; exact hlt)
      obtain ⟨x, hx⟩ : ∃ x, Hp.at_ l k = x := ⟨_, rfl⟩
      obtain ⟨x1, x2⟩ := x
      rw [hx] at c1 c2
      dsimp only at c1 c2
      rw [← hb.cell (p := ⟨b, off + k * 2, none⟩) (lt_of_cell c1)] at c1
      rw [← hb.cell (p := ⟨b, off + k * 2 + 1, none⟩) (lt_of_cell c2)] at c2
      have HX := Lib.hid hx
      have HS := Lib.hid (fun l' W2 hg hs hi => got_step (W2 := W2) (l' := l') (by rw [HN.out]; exact hlt) hx hh hn hm hb (below_alloc wr (box x1 x2)) hg hs hi)
      have HP := Lib.hid (heapPush (wr.alloc (box x1 x2)) w.heap.size rb lk x1 x2 (hh.keep (below_alloc wr _)) (by omega) hi)
      clear hx hh hi hn hm hb
      go_wp2_with fail
      refine HP.out.mono ?_
      rintro e W2 ⟨rfl, l', hg, hs, hi⟩
      have HR := Lib.hid (HS.out l' W2 hg hs hi)
      clear hg hs hi
      go_wp2
      go_roundw
      case rel => exact ⟨k + 1, by go_num, by omega, HR.out⟩
      case measure => simp [intOf]; omega
    · obtain rfl : k = N := by omega
      have hB : w.heap.size < wr.heap.size := hh.pb_lt
      have HrB := Lib.hid (show ∀ g, rb = some g → w.heap.size < g ∧ g < wr.heap.size from hh.rb_lt)
      have HL := Lib.hid (show Left w l wr.heap.size rb (.slice none 0 0) k wr from ⟨[], lk, hh, hi, hn, World.ownsRow_nil _ _ _ _, List.Pairwise.nil, by rw [HN.out]; simp, fun y => by rw [hm, ← HN.out, List.take_length]; simp, fun x hx => absurd hx (by simp), hb, Nat.le_refl _⟩)
      obtain ⟨B, hBe⟩ : ∃ B, wr.heap.size = B := ⟨_, rfl⟩
      rw [hBe] at hB HrB HL
      clear hh hi hn hm hb hBe HA HG
      go_wp2_with fail
      go_loopg [6, 7, 8] k (fun gm vs _ _ wz => ∃ n : Nat, n ≤ gm ∧ Left w l B rb vs n wz)
      case atStart => exact ⟨k, Nat.le_refl _, HL.out⟩
      case round =>
        obtain ⟨n, hng, out, lk, hh, hi, hn, hown, hrise, hlen, hmem, hord, hb, hBw⟩ := hrel
        have hlenC := lenH _ _ _ _ hh
        rw [hn] at hlenC
        have HC := Lib.hid hlenC
        clear hlenC
        cases n with
        | zero =>
          have HD := Lib.hid (show SortDone w l (.returned _) _ from ⟨_, out, rfl, own_base hown (Nat.le_of_lt hB), hrise, fun y => by rw [hmem, List.eq_nil_of_length_eq_zero hn]; simp, hb⟩)
          clear hh hi hn hown hrise hlen hmem hord hb hBw
          go_wp2_with fail
          refine HC.out.mono ?_
          rintro e wq ⟨rfl, rfl⟩
          go_wp2
          go_ret
          exact HD.out
        | succ n =>
          have HT := Lib.hid (takeH wr w.heap.size rb lk n hh (by have := HN.out; omega) hn (by rw [hn] at hi; exact hi))
          have HMo := Lib.hid (fun w1 x1 x2 l' h1 hk hi => mid_of (wr := wr) (w1 := w1) (x1 := x1) (x2 := x2) (l' := l') hB HrB.out hown hb hBw h1 hk hi)
          obtain ⟨av, cv, rfl⟩ := (Spans.of_own hown).shape
          obtain ⟨M, hM⟩ : ∃ M, out.length = M := ⟨_, rfl⟩
          have HM := Lib.hid hM
          have hM1 : M + (n + 1) ≤ 1000 := by have := HN.out; omega
          rw [hM] at HMo
          rw [hM]
          have HR := Lib.hid hrise
          have HLn := Lib.hid hlen
          have HMe := Lib.hid hmem
          have HO := Lib.hid hord
          have Hn := Lib.hid hn
          clear hh hi hn hown hrise hlen hmem hord hb hBw hM
          go_wp2_with fail
          refine HC.out.mono ?_
          rintro e wq ⟨rfl, rfl⟩
          go_wp2_with fail
          refine HT.out.mono ?_
          rintro e w1 ⟨x1, x2, l', rfl, h1, hk, hl1, hi1, hlk, hmin⟩
          have HMi := Lib.hid (HMo.out w1 x1 x2 l' h1 hk hi1)
          have Hl1 := Lib.hid (show l'.length = n by have := Hn.out; omega)
          have Hlk := Lib.hid hlk
          have Hmin := Lib.hid hmin
          clear h1 hk hl1 hi1 hlk hmin HT HMo HC
          cases M with
          | zero =>
            go_wp2_with fail
            go_quiet (fail)
            have hMid : Mid w B rb (.slice av 0 cv) out l' x1 x2 w1.heap.size ((w1.alloc (.cells #[.int .i64 x1, .int .i64 x2] 23)).drewN nq) := HMi.out nq
            generalize (w1.alloc (.cells #[.int .i64 x1, .int .i64 x2] 23)).drewN nq = wq at hMid ⊢
            have HMd := Lib.hid hMid
            obtain ⟨-, -, m3, m4, m5, -, m7⟩ := hMid
            go_wp2_with (at_builtin; refine wpList_append_span rfl _ _ rfl B (.slice av 0 cv) out x1 x2 rfl m3 rfl (by have := HM.out; omega) m7 ?_; intro v' W' hown' hg')
            have HQ := Lib.hid (left_put (n := n) hB HrB.out HMd.out hown' hg' HR.out (by have := HLn.out; have := HM.out; omega) Hl1.out HMe.out HO.out Hlk.out Hmin.out (fun y hy => by rw [List.eq_nil_of_length_eq_zero HM.out] at hy; cases hy))
            clear hown' hg' m3 m4 m5 m7
            go_wp2
            go_roundg n
            case measure => omega
            case rel => exact ⟨n, Nat.le_refl _, HQ.out⟩
          | succ M =>
            have hm0 : Mid w B rb (.slice av (M + 1) cv) out l' x1 x2 w1.heap.size (w1.alloc (.cells #[.int .i64 x1, .int .i64 x2] 23)) := HMi.out 0
            have sp := Spans.of_own hm0.2.2.1
            have b4 := hm0.2.2.2.1
            have b5 := hm0.2.2.2.2.1
            rw [← HM.out] at sp
            obtain ⟨bb, off, rfl, d0, d1⟩ := Spans.at_ sp M (by have := HM.out; omega)
            obtain ⟨z, hz⟩ : ∃ z, Hp.at_ out M = z := ⟨_, rfl⟩
            obtain ⟨z1, z2⟩ := z
            rw [hz] at d0 d1
            dsimp only at d0 d1
            have HZ := Lib.hid hz
            have g0 : (((M : Int) + 1) == 0) = false := by simp; omega
            have hM0 : (0 : Int) ≤ (M : Int) := by omega
            have hM2 : (M : Int) < (M : Int) + 1 := by omega
            have gs := guard_span
            clear sp hm0 hz
            by_cases he : z1 = x1 ∧ z2 = x2
            · obtain ⟨e1, e2⟩ := he
              subst e1
              subst e2
              have hneq : ∀ W, (binOp .neq 23 (.agg #[.int .i64 z1, .int .i64 z2]) (.agg #[.int .i64 z1, .int .i64 z2])).run Try.prog W = .ok (.bool false) W := fun W => by rw [neq_span]; simp
              go_wp2_with fail
              go_quiet (fail)
              have hMid : Mid w B rb (.slice (some ⟨bb, off, none⟩) (M + 1) cv) out l' z1 z2 w1.heap.size ((w1.alloc (.cells #[.int .i64 z1, .int .i64 z2] 23)).drewN nq) := HMi.out nq
              generalize (w1.alloc (.cells #[.int .i64 z1, .int .i64 z2] 23)).drewN nq = wq at hMid ⊢
              have HMd := Lib.hid hMid
              have HQ := Lib.hid (left_skip (n := n) HMd.out HR.out (by have := HLn.out; have := HM.out; omega) Hl1.out HMe.out HO.out Hlk.out (mem_at.2 ⟨M, by rw [HM.out]; omega, HZ.out⟩))
              clear hMid b4 b5 d0 d1 hneq
              go_wp2
              go_roundg n
              case measure => omega
              case rel => exact ⟨n, Nat.le_refl _, HQ.out⟩
            · have hb : ((z1 == x1) && (z2 == x2)) = false := by simpa using he
              have hneq : ∀ W, (binOp .neq 23 (.agg #[.int .i64 z1, .int .i64 z2]) (.agg #[.int .i64 x1, .int .i64 x2])).run Try.prog W = .ok (.bool true) W := fun W => by rw [neq_span, hb]; rfl
              go_wp2_with fail
              go_quiet (fail)
              have hMid : Mid w B rb (.slice (some ⟨bb, off, none⟩) (M + 1) cv) out l' x1 x2 w1.heap.size ((w1.alloc (.cells #[.int .i64 x1, .int .i64 x2] 23)).drewN nq) := HMi.out nq
              generalize (w1.alloc (.cells #[.int .i64 x1, .int .i64 x2] 23)).drewN nq = wq at hMid ⊢
              have HMd := Lib.hid hMid
              obtain ⟨-, -, m3, m4, m5, -, m7⟩ := hMid
              clear b4 b5 d0 d1 hneq
              go_wp2_with (at_builtin; refine wpList_append_span rfl _ _ rfl B (.slice (some ⟨bb, off, none⟩) (M + 1) cv) out x1 x2 rfl m3 rfl (by have := HM.out; omega) m7 ?_; intro v' W' hown' hg')
              have HQ := Lib.hid (left_put (n := n) hB HrB.out HMd.out hown' hg' HR.out (by have := HLn.out; have := HM.out; omega) Hl1.out HMe.out HO.out Hlk.out Hmin.out (all_other HR.out HM.out HO.out ((Hlk.out _).2 (.inr rfl)) (by rw [HZ.out]; intro e; exact he (by injection e with e1 e2; exact ⟨e1, e2⟩))))
              clear hown' hg' m3 m4 m5 m7
              go_wp2
              go_roundg n
              case measure => omega
              case rel => exact ⟨n, Nat.le_refl _, HQ.out⟩
end Go.Proofs.Ytfikgocaidaheaa
