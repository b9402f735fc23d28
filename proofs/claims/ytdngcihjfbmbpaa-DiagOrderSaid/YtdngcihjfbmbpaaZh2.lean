/- container/heap over the heap of diagnostics: down, Pop; take. -/
import Derived.Test.YtdngcihjfbmbpaaZh1
namespace Go.Proofs.Ytdngcihjfbmbpaa.Zm
open Go.RowKit
open Go.Proofs.Ytdngcihjfbmbpaa.Sq
open Go.Proofs.Ytdngcihjfbmbpaa.Zd

/-- All that is said of the heap behind down. -/
def DownDone (pb : Nat) (rb : Option Nat) (n : Nat) (w : World) (l : List Dg) (e : Ending) (w' : World) : Prop :=
  ∃ (b : Bool) (l' : List Dg), e = .returned (.bool b) ∧ HeapAt w' pb rb l' ∧ Keep pb rb w w' ∧ Same l l' ∧ IsHeap l' n ∧ ∀ k, n ≤ k → at_ l' k = at_ l k
set_option maxHeartbeats 4000000 in
set_option maxRecDepth 10000000 in
theorem heapDown (w : World) (pb : Nat) (rb : Option Nat) (l : List Dg) (n : Nat) (h : HeapAt w pb rb l) (hl : l.length ≤ 1000000) (hn : n ≤ l.length) (hu : DnInv l n 0) :
    Calls Try.prog 19 #[.iface 32 (.pointer (some ⟨pb, 0, none⟩)), .int .i64 0, .int .i64 n] w (DownDone pb rb n w l) := by
  have mLess := m_less ⟨pb, 0, none⟩
  have mSwap := m_swap ⟨pb, 0, none⟩
  obtain ⟨N, hN⟩ : ∃ N, l.length = N := ⟨_, rfl⟩
  have HN := Lib.hid hN
  rw [hN] at hl hn
  clear hN
  go_enter Try.func19, Try.ntmps19
  go_wp2_with fail
  go_loopw [7, 8, 9, 10] (fun is _ _ _ wr => ∃ (i : Nat) (lk : List Dg), is = .int .i64 i ∧ i ≤ n ∧ HeapAt wr pb rb lk ∧ Keep pb rb w wr ∧ Same l lk ∧ DnInv lk n i ∧ ∀ k, n ≤ k → at_ lk k = at_ l k) (fun is _ _ _ _ => n - (intOf is).toNat)
  case atStart => exact ⟨0, l, rfl, Nat.zero_le _, h, Keep.refl _ _ _, Same.refl _, hu, fun _ _ => rfl⟩
  case round =>
    obtain ⟨i, lk, rfl, hi, hh, hkeep, hsame, hinv, hstay⟩ := hrel
    have HL := Lib.hid (hsame.1.symm.trans HN.out)
    have HI := Lib.hid hinv
    have HS := Lib.hid hsame
    have HT := Lib.hid hstay
    clear hinv hsame hstay h hu
    obtain ⟨j1, hj1⟩ : ∃ j1, 2 * i + 1 = j1 := ⟨_, rfl⟩
    have e1 : 2 * (i : Int) + 1 = (j1 : Int) := by omega
    have hneg : ¬ ((j1 : Int) < 0) := by omega
    by_cases t1 : n ≤ j1
    · have t1' : (n : Int) ≤ (j1 : Int) := by omega
      have HJ := Lib.hid hj1
      clear hj1
      go_wp2
      go_ret
      exact ⟨_, lk, rfl, hh, hkeep, HS.out, dn_none HI.out (by have := HJ.out; omega), HT.out⟩
    · have t1' : ¬ ((n : Int) ≤ (j1 : Int)) := by omega
      obtain ⟨j2, hj2⟩ : ∃ j2, j1 + 1 = j2 := ⟨_, rfl⟩
      have e2 : (j1 : Int) + 1 = (j2 : Int) := by omega
      have hij1 : i < j1 := by omega
      have hij2 : i < j2 := by omega
      have HJ := Lib.hid hj1
      have HJ2 := Lib.hid hj2
      clear hj1 hj2
      by_cases t2 : j2 < n
      · have t2' : (j2 : Int) < (n : Int) := by omega
        obtain ⟨ma, hma⟩ : ∃ m, less (at_ lk j2) (at_ lk j1) = m := ⟨_, rfl⟩
        have Hma := Lib.hid hma
        have hlma := fun w hh => lessH w pb rb lk j2 j1 hh (by rw [HL.out]; omega) (by rw [HL.out]; omega)
        rw [hma] at hlma
        have HLA := Lib.hid hlma
        clear hma hlma
        cases ma with
        | false =>
          go_wp2_with fail
          refine (HLA.out _ hh).mono ?_
          rintro e wx ⟨rfl, hbx⟩
          have hhx := hh.keep hbx
          have hkx := hkeep.trans (Keep.of_below (rb := rb) hbx) (.inl rfl)
          clear hh hkeep hbx HLA
          obtain ⟨mb, hmb⟩ : ∃ m, less (at_ lk j1) (at_ lk i) = m := ⟨_, rfl⟩
          have Hmb := Lib.hid hmb
          have hlmb := fun w hh => lessH w pb rb lk j1 i hh (by rw [HL.out]; omega) (by rw [HL.out]; omega)
          rw [hmb] at hlmb
          have HLB := Lib.hid hlmb
          clear hmb hlmb
          have HC : Child lk n i j1 := by
            have q1 := HJ.out
            have q2 := HJ2.out
            have e0 : j1 = 2 * i + 1 := by omega
            rw [e0]
            exact child_left (by omega) (fun _ => by have := Hma.out; rw [show j2 = 2 * i + 2 from by omega, show j1 = 2 * i + 1 from by omega] at this; exact this)
          have HCh := Lib.hid HC
          clear HC
          cases mb with
          | false =>
            go_wp2_with fail
            refine (HLB.out _ hhx).mono ?_
            rintro e w8 ⟨rfl, hb8⟩
            go_wp2
            go_ret
            exact ⟨_, lk, rfl, hhx.keep hb8, hkx.trans (Keep.of_below hb8) (.inl rfl), HS.out, dn_stop HI.out HCh.out Hmb.out, HT.out⟩
          | true =>
            go_wp2_with fail
            refine (HLB.out _ hhx).mono ?_
            rintro e w8 ⟨rfl, hb8⟩
            have hh8 := hhx.keep hb8
            have hk8 := hkx.trans (Keep.of_below (rb := rb) hb8) (.inl rfl)
            clear hhx hkx hb8
            go_wp2_with fail
            refine (swapH w8 pb rb lk i j1 hh8 (by rw [HL.out]; omega) (by rw [HL.out]; omega)).mono ?_
            rintro e w9 ⟨rfl, hh9, hk9⟩
            have hk10 := hk8.trans hk9 (.inl rfl)
            clear hh8 hk8 hk9
            go_wp2
            go_roundw
            case rel =>
              refine ⟨j1, sw lk i j1, rfl, by omega, hh9, hk10, HS.out.trans (Same.sw (by rw [HL.out]; omega) (by rw [HL.out]; omega)), dn_step HI.out HCh.out (by rw [HL.out]; exact hn) Hmb.out, fun k hk => ?_⟩
              rw [sw_stay (n := n) (by omega) (by omega) (by rw [HL.out]; exact hn) hk]
              exact HT.out k hk
            case measure => simp [intOf]; omega
        | true =>
          go_wp2_with fail
          refine (HLA.out _ hh).mono ?_
          rintro e wx ⟨rfl, hbx⟩
          have hhx := hh.keep hbx
          have hkx := hkeep.trans (Keep.of_below (rb := rb) hbx) (.inl rfl)
          clear hh hkeep hbx HLA
          obtain ⟨mb, hmb⟩ : ∃ m, less (at_ lk j2) (at_ lk i) = m := ⟨_, rfl⟩
          have Hmb := Lib.hid hmb
          have hlmb := fun w hh => lessH w pb rb lk j2 i hh (by rw [HL.out]; omega) (by rw [HL.out]; omega)
          rw [hmb] at hlmb
          have HLB := Lib.hid hlmb
          clear hmb hlmb
          have HC : Child lk n i j2 := by
            have q1 := HJ.out
            have q2 := HJ2.out
            have e0 : j2 = 2 * i + 2 := by omega
            rw [e0]
            exact child_right (by omega) (by have := Hma.out; rw [show j2 = 2 * i + 2 from by omega, show j1 = 2 * i + 1 from by omega] at this; exact this)
          have HCh := Lib.hid HC
          clear HC
          cases mb with
          | false =>
            go_wp2_with fail
            refine (HLB.out _ hhx).mono ?_
            rintro e w8 ⟨rfl, hb8⟩
            go_wp2
            go_ret
            exact ⟨_, lk, rfl, hhx.keep hb8, hkx.trans (Keep.of_below hb8) (.inl rfl), HS.out, dn_stop HI.out HCh.out Hmb.out, HT.out⟩
          | true =>
            go_wp2_with fail
            refine (HLB.out _ hhx).mono ?_
            rintro e w8 ⟨rfl, hb8⟩
            have hh8 := hhx.keep hb8
            have hk8 := hkx.trans (Keep.of_below (rb := rb) hb8) (.inl rfl)
            clear hhx hkx hb8
            go_wp2_with fail
            refine (swapH w8 pb rb lk i j2 hh8 (by rw [HL.out]; omega) (by rw [HL.out]; omega)).mono ?_
            rintro e w9 ⟨rfl, hh9, hk9⟩
            have hk10 := hk8.trans hk9 (.inl rfl)
            clear hh8 hk8 hk9
            go_wp2
            go_roundw
            case rel =>
              refine ⟨j2, sw lk i j2, rfl, by omega, hh9, hk10, HS.out.trans (Same.sw (by rw [HL.out]; omega) (by rw [HL.out]; omega)), dn_step HI.out HCh.out (by rw [HL.out]; exact hn) Hmb.out, fun k hk => ?_⟩
              rw [sw_stay (n := n) (by omega) (by omega) (by rw [HL.out]; exact hn) hk]
              exact HT.out k hk
            case measure => simp [intOf]; omega
      · have t2' : ¬ ((j2 : Int) < (n : Int)) := by omega
        have hhx := hh
        have hkx := hkeep
        clear hh hkeep
        obtain ⟨mb, hmb⟩ : ∃ m, less (at_ lk j1) (at_ lk i) = m := ⟨_, rfl⟩
        have Hmb := Lib.hid hmb
        have hlmb := fun w hh => lessH w pb rb lk j1 i hh (by rw [HL.out]; omega) (by rw [HL.out]; omega)
        rw [hmb] at hlmb
        have HLB := Lib.hid hlmb
        clear hmb hlmb
        have HC : Child lk n i j1 := by
          have q1 := HJ.out
          have q2 := HJ2.out
          have e0 : j1 = 2 * i + 1 := by omega
          rw [e0]
          exact child_left (by omega) (fun hq => by omega)
        have HCh := Lib.hid HC
        clear HC
        cases mb with
        | false =>
          go_wp2_with fail
          refine (HLB.out _ hhx).mono ?_
          rintro e w8 ⟨rfl, hb8⟩
          go_wp2
          go_ret
          exact ⟨_, lk, rfl, hhx.keep hb8, hkx.trans (Keep.of_below hb8) (.inl rfl), HS.out, dn_stop HI.out HCh.out Hmb.out, HT.out⟩
        | true =>
          go_wp2_with fail
          refine (HLB.out _ hhx).mono ?_
          rintro e w8 ⟨rfl, hb8⟩
          have hh8 := hhx.keep hb8
          have hk8 := hkx.trans (Keep.of_below (rb := rb) hb8) (.inl rfl)
          clear hhx hkx hb8
          go_wp2_with fail
          refine (swapH w8 pb rb lk i j1 hh8 (by rw [HL.out]; omega) (by rw [HL.out]; omega)).mono ?_
          rintro e w9 ⟨rfl, hh9, hk9⟩
          have hk10 := hk8.trans hk9 (.inl rfl)
          clear hh8 hk8 hk9
          go_wp2
          go_roundw
          case rel =>
            refine ⟨j1, sw lk i j1, rfl, by omega, hh9, hk10, HS.out.trans (Same.sw (by rw [HL.out]; omega) (by rw [HL.out]; omega)), dn_step HI.out HCh.out (by rw [HL.out]; exact hn) Hmb.out, fun k hk => ?_⟩
            rw [sw_stay (n := n) (by omega) (by omega) (by rw [HL.out]; exact hn) hk]
            exact HT.out k hk
          case measure => simp [intOf]; omega
/-- All that is said of the heap behind a Pop: the least one is out. -/
def PopDone (pb : Nat) (rb : Option Nat) (w : World) (l : List Dg) (e : Ending) (w' : World) : Prop :=
  ∃ (x : Dg) (l' : List Dg), e = .returned (.iface 28 (.agg #[.int .i64 x.code, .int .i64 x.f, .int .i64 x.t])) ∧ HeapAt w' pb rb l' ∧ Keep pb rb w w' ∧ l'.length + 1 = l.length ∧ IsHeap l' l'.length ∧ (∀ y, y ∈ l ↔ y ∈ l' ∨ y = x) ∧ ∀ y ∈ l, less y x = false
set_option maxHeartbeats 100000000 in
set_option maxRecDepth 10000000 in
theorem heapPop (w : World) (pb : Nat) (rb : Option Nat) (l : List Dg) (n : Nat) (h : HeapAt w pb rb l) (hl : l.length ≤ 1000000) (hn : l.length = n + 1) (hh : IsHeap l (n + 1)) :
    Calls Try.prog 18 #[.iface 32 (.pointer (some ⟨pb, 0, none⟩))] w (PopDone pb rb w l) := by
  have mLen := m_len ⟨pb, 0, none⟩
  have mSwap := m_swap ⟨pb, 0, none⟩
  have mPop := m_pop ⟨pb, 0, none⟩
  have hlen := lenH w pb rb l h
  rw [hn] at hlen
  have HLn := Lib.hid hlen
  have HN := Lib.hid hn
  have HH := Lib.hid hh
  have hn1 : n + 1 ≤ 1000000 := by omega
  clear hlen hn hh hl
  go_enter Try.func18, Try.ntmps18
  go_wp2_with fail
  refine HLn.out.mono ?_
  rintro e w1 ⟨rfl, rfl⟩
  clear HLn
  go_wp2_with fail
  refine (swapH w pb rb l 0 n h (by rw [HN.out]; omega) (by rw [HN.out]; omega)).mono ?_
  rintro e w2 ⟨rfl, hh2, hk2⟩
  clear h
  go_wp2_with fail
  refine (heapDown w2 pb rb (sw l 0 n) n hh2 (by rw [sw_len, HN.out]; omega) (by rw [sw_len, HN.out]; omega) (dn_start HH.out HN.out.symm)).mono ?_
  rintro e w3 ⟨b, l3, rfl, hh3, hk3, hs3, hi3, ht3⟩
  have HN3 := Lib.hid (hs3.1.symm.trans ((sw_len l 0 n).trans HN.out))
  have HS3 := Lib.hid hs3
  have HI3 := Lib.hid hi3
  have HT3 := Lib.hid ht3
  have hk4 := hk2.trans hk3 (.inl rfl)
  clear hh2 hk2 hk3 hs3 hi3 ht3
  go_wp2_with fail
  refine (popH w3 pb rb l3 n hh3 HN3.out).mono ?_
  rintro e w4 ⟨rfl, hh4, hk5⟩
  have hlast : at_ l3 n = at_ l 0 := (HT3.out n (Nat.le_refl _)).trans (sw_last HN.out.symm)
  have HX := Lib.hid hlast
  clear hlast
  go_wp2
  go_ret
  have hln : (l3.take n).length = n := by rw [List.length_take, HN3.out]; omega
  refine ⟨at_ l3 n, l3.take n, rfl, hh4, hk4.trans hk5 (.inl rfl), by rw [hln, HN.out], ?_, fun y => ?_, fun y hy => ?_⟩
  · exact heap_take HI3.out (by rw [HN3.out]; omega)
  · rw [(Same.sw (l := l) (i := 0) (j := n) (by rw [HN.out]; omega) (by rw [HN.out]; omega)).2 y, HS3.out.2 y]
    exact mem_take_last HN3.out.symm y
  · rw [HX.out]
    obtain ⟨k, hk, rfl⟩ := mem_at.1 hy
    exact heap_top HH.out k (by rw [HN.out] at hk; exact hk)
theorem keep_here {W w' : World} {pb : Nat} {rb : Option Nat} {b o : Nat} {u : Value} (hk : Keep pb rb W w') (h1 : b ≠ pb) (h2 : rb ≠ some b) (h : Here W b o u) : Here w' b o u := by
  have e := hk.block b (lt_of_cell h.1) h1 h2
  exact ⟨(World.cell?_of_block (a := ⟨b, o, none⟩) e).trans h.1, (World.frozen?_of_block (a := ⟨b, o, none⟩) e).trans h.2⟩
theorem HeapAt.pb_lt {w : World} {pb : Nat} {rb : Option Nat} {l : List Dg} (h : HeapAt w pb rb l) : pb < w.heap.size := by
  obtain ⟨v, h1, _⟩ := h
  exact (Array.getElem?_eq_some_iff.1 h1).1
theorem HeapAt.rb_lt {w : World} {pb : Nat} {rb : Option Nat} {l : List Dg} (h : HeapAt w pb rb l) : ∀ g, rb = some g → pb < g ∧ g < w.heap.size := by
  rintro g rfl
  obtain ⟨v, _, h2, h3⟩ := h
  exact h2.lt g h3
/-- The heap stays where its two blocks do. -/
theorem HeapAt.same {w w' : World} {pb : Nat} {rb : Option Nat} {l : List Dg} (h : HeapAt w pb rb l) (hp : w'.heap[pb]? = w.heap[pb]?) (hr : ∀ g, rb = some g → w'.heap[g]? = w.heap[g]?) : HeapAt w' pb rb l := by
  obtain ⟨v, h1, h2, h3⟩ := h
  refine ⟨v, hp.trans h1, ⟨h2.1, ?_⟩, h3⟩
  rcases h2.2 with h0 | ⟨g, cap, cur, rfl, hg, hc, r⟩
  · exact .inl h0
  · exact .inr ⟨g, cap, cur, rfl, hg, (hr g h3.symm).trans hc, r⟩
theorem Keep.setNew {pb : Nat} {rb : Option Nat} {a w : World} (h : Keep pb rb a w) {b : Nat} (hb : a.heap.size ≤ b) (o : Nat) (v : Value) : Keep pb rb a (w.setCell ⟨b, o, none⟩ v) :=
  ⟨h.os, h.tape, h.output, by simpa using h.size, fun k hk h1 h2 => by rw [Below.heap_setCell _ _ _ _ (by simp only; omega)]; exact h.block k hk h1 h2⟩
theorem HeapAt.setOther {w : World} {pb : Nat} {rb : Option Nat} {l : List Dg} (h : HeapAt w pb rb l) {b : Nat} (h1 : b ≠ pb) (h2 : rb ≠ some b) (o : Nat) (v : Value) : HeapAt (w.setCell ⟨b, o, none⟩ v) pb rb l :=
  h.same (Below.heap_setCell _ _ _ _ (by simp only; omega)) (fun g hg => Below.heap_setCell _ _ _ _ (by simp only; intro e; exact h2 (by rw [hg, e])))
theorem Keep.below {pb : Nat} {rb : Option Nat} {w w' : World} (h : Keep pb rb w w') (hr : ∀ g, rb = some g → pb < g) (hp : pb ≤ w.heap.size) : Below pb w w' :=
  ⟨h.os, h.tape, h.output, h.size, fun k hk => h.block k (by omega) (by omega) (fun e => by have := hr k e; omega)⟩
/-- A row that is not the heap's stays over what turns the heap. -/
theorem own_keep {w w' : World} {pb : Nat} {rb : Option Nat} {B e size n : Nat} {v : Value} {xs : List Value} (h : w.ownsRow B e size v n xs) (hk : Keep pb rb w w') (hp : pb < B) (hr : ∀ g, rb = some g → g < B) : w'.ownsRow B e size v n xs := by
  refine ⟨h.1, ?_⟩
  rcases h.2 with h0 | ⟨g, cap, cur, hv, hbg, hg, rest⟩
  · exact .inl h0
  · have hlt : g < w.heap.size := (Array.getElem?_eq_some_iff.1 hg).1
    exact .inr ⟨g, cap, cur, hv, hbg, (hk.block g hlt (by omega) (fun e => by have := hr g e; omega)).trans hg, rest⟩
/-- The heap stays where a row that lies further up grows. -/
theorem HeapAt.grown {w w' : World} {pb : Nat} {rb : Option Nat} {l : List Dg} {B : Nat} {row : Option Nat} (h : HeapAt w pb rb l) (hg : w.grownBy w' row) (hp : pb < B) (hr : ∀ g, rb = some g → g < B) (hrow : ∀ k, row = some k → B ≤ k) : HeapAt w' pb rb l :=
  h.same (hg.block pb h.pb_lt (fun e => by have := hrow pb e.symm; omega)) (fun g e => hg.block g (h.rb_lt g e).2 (fun e2 => by have := hrow g e2.symm; have := hr g e; omega))
end Go.Proofs.Ytdngcihjfbmbpaa.Zm
