/- Package rows: the brackets that are open (a closure over one variable). -/
import Derived.Test.YtaokjeopmhbddaaRx
import Derived.Lib.MinMax
namespace Go.Proofs.Ytaokjeopmhbddaa.Rw
theorem opens_le (op k : Nat) : Sc.opens op k ≤ op + 1 := by
  unfold Sc.opens; split <;> (try split) <;> (try split) <;> omega
theorem opnL_le (ts : List Tk) : ∀ op, opnL op ts ≤ op + ts.length := by
  induction ts with
  | nil => intro op; exact Nat.le_refl _
  | cons x r ih =>
    intro op
    have h1 := opens_le op x.1
    have h2 := ih (Sc.opens op x.1)
    show opnL (Sc.opens op x.1) r ≤ _
    rw [List.length_cons]; omega
theorem opnL_next (op : Nat) (ts : List Tk) (k : Nat) (x : Tk) (h : ts[k]? = some x) : opnL op (ts.take (k + 1)) = Sc.opens (opnL op (ts.take k)) x.1 := by
  rw [List.take_add_one, h]
  exact opnL_snoc _ _ _
end Go.Proofs.Ytaokjeopmhbddaa.Rw
namespace Go.Proofs.Ytaokjeopmhbddaa
open Go.RowKit
open Go.Proofs.Ytaokjeopmhbddaa.Sg
open Go.Proofs.Ytaokjeopmhbddaa.Sq
set_option linter.unusedVariables false

theorem grownBy_trans {a b c : World} {r : Option Nat} (h1 : a.grownBy b r) (h2 : b.grownBy c r) : a.grownBy c r :=
  ⟨h2.os.trans h1.os, h2.tape.trans h1.tape, h2.output.trans h1.output, Nat.le_trans h1.size h2.size, fun k hk hne => (h2.block k (Nat.lt_of_lt_of_le hk h1.size) hne).trans (h1.block k hk hne)⟩
theorem grownBy_set (W : World) (b : Nat) (v : Value) : W.grownBy (W.setCell ⟨b, 0, none⟩ v) (some b) :=
  ⟨rfl, rfl, rfl, by simp [World.setCell], fun k _ hk => Below.heap_setCell _ _ _ k (fun e => hk (by rw [e]))⟩
/-- A block of one cell, and what a call may change. -/
theorem box_alloc {w wr : World} {p : Nat} {c : Value} {t : TypeId} (o : Obj) (hp : wr.heap[p]? = some (.cells #[c] t (0, 0))) (hg : w.grownBy wr (some p)) :
    (wr.alloc o).heap[p]? = some (.cells #[c] t (0, 0)) ∧ w.grownBy (wr.alloc o) (some p) :=
  ⟨(Below.heap_alloc _ _ _ (lt_of_block hp)).trans hp, grownBy_trans hg (World.grownBy_alloc _ _ _)⟩
theorem box_set {w wr : World} {p : Nat} {c u : Value} {t : TypeId} (hp : wr.heap[p]? = some (.cells #[c] t (0, 0))) (hg : w.grownBy wr (some p)) :
    (wr.setCell ⟨p, 0, none⟩ u).heap[p]? = some (.cells #[u] t (0, 0)) ∧ w.grownBy (wr.setCell ⟨p, 0, none⟩ u) (some p) :=
  ⟨one_setCell hp, grownBy_trans hg (grownBy_set _ _ _)⟩
/-- Tokens do not lie in a block of one cell. -/
theorem reads_past {w w' : World} {p : Nat} {c v : Value} {t : TypeId} {ts : List Tk} (h : Reads encT w v ts) (hp : w.heap[p]? = some (.cells #[c] t (0, 0))) (hg : w.grownBy w' (some p)) : Reads encT w' v ts := by
  rcases h with h | ⟨b, off, cap, h1, h2, h3, h4⟩
  · exact .inl h
  · refine .inr ⟨b, off, cap, h1, h2, h3, fun j x hj i u hu => ?_⟩
    have hbp : b ≠ p := by
      intro e
      subst e
      have := h4 j x hj 1 _ rfl
      simp [World.cell?, hp] at this
    exact hg.cell (h4 j x hj i u hu) (by simpa using hbp)

set_option maxHeartbeats 400000 in
theorem pBrackets (w : World) : Calls Try.prog 25 #[] w fun e w' => e = .returned (.func (.func 50) #[] #[.pointer (some ⟨w.heap.size, 0, none⟩)]) ∧ w' = w.alloc (.cells #[.int .i64 0] 3) := by
  have hmf : ∀ (fn : Fn) (first cap : Array Value) (w : World), (Instr.makeFunc fn first cap).run Try.prog w = .ok (.func fn first cap) w := fun _ _ _ _ => rfl
  go_enter Try.func25, Try.ntmps25
  go_wp2
  go_ret
  exact ⟨rfl, rfl⟩
/-- What the closure leaves: the brackets that are open behind these tokens. -/
def Withined (op : Nat) (ts : List Tk) (p : Nat) (w : World) (e : Ending) (w' : World) : Prop :=
  e = .returned (.bool (decide (0 < op))) ∧ w'.heap[p]? = some (.cells #[.int .i64 (Rw.opnL op ts : Nat)] 3 (0, 0)) ∧ w.grownBy w' (some p)
set_option maxHeartbeats 4000000 in
set_option maxRecDepth 100000 in
theorem pWithin (v : Value) (ts : List Tk) (op p : Nat) (w : World) (h : Reads encT w v ts) (hs : ts.length ≤ 1000000) (hop : op ≤ 1000000) (hp : w.heap[p]? = some (.cells #[.int .i64 op] 3 (0, 0))) :
    Calls Try.prog 50 #[v, .pointer (some ⟨p, 0, none⟩)] w (Withined op ts p w) := by
  obtain ⟨a, cap, rfl⟩ := h.shape
  have H := Lib.hid (fun W (hg : w.grownBy W (some p)) => reads_past h hp hg)
  have hlt0 := lt_of_block hp
  have HP0 := Lib.hid hp
  have cp := cell_of_one hp
  have HW := Lib.hid (fun e w' => show (e = .returned (.bool (decide (0 < op))) ∧ w'.heap[p]? = some (.cells #[.int .i64 (Rw.opnL op ts : Nat)] 3 (0, 0)) ∧ w.grownBy w' (some p)) → Withined op ts p w e w' from fun h => h)
  obtain ⟨Q, hQ⟩ : ∃ Q, Withined op ts p w = Q := ⟨_, rfl⟩
  rw [hQ] at HW ⊢
  have HLe := Lib.hid (fun k => show Rw.opnL op (ts.take k) ≤ op + k by
    have := Rw.opnL_le (ts.take k) op
    have := List.length_take_le k ts
    omega)
  have HSt := Lib.hid (Rw.opnL_next op ts)
  have hall : Rw.opnL op (ts.take ts.length) = Rw.opnL op ts := by rw [List.take_length]
  obtain ⟨N, hN⟩ : ∃ N, ts.length = N := ⟨_, rfl⟩
  have HN := Lib.hid hN
  rw [hN] at hs hall
  have HAll := Lib.hid hall
  rw [hN]
  clear h hN hp hQ hall
  go_enter Try.func50, Try.ntmps50
  go_wp2_with fail
  clear cp hlt0
  go_loopw [11] (fun iv wr => ∃ k : Nat, iv = .int .i64 k ∧ k ≤ N ∧ wr.heap[p]? = some (.cells #[.int .i64 (Rw.opnL op (ts.take k) : Nat)] 3 (0, 0)) ∧ w.grownBy wr (some p)) (fun iv _ => N - (intOf iv).toNat)
  case atStart => exact ⟨0, rfl, Nat.zero_le _, HP0.out, World.grownBy.refl _ _⟩
  case round =>
    obtain ⟨k, rfl, hk, hp, hg⟩ := hrel
    by_cases hlt : k < N
    · obtain ⟨x, hx⟩ : ∃ x, ts[k]? = some x := ⟨_, List.getElem?_eq_getElem (by rw [HN.out]; exact hlt)⟩
      obtain ⟨b, off, rfl, c0, c1, c2⟩ := toks_at (H.out wr hg) k x hx
      have hi : (k : Int) < (N : Int) := by omega
      have hst := HSt.out k x hx
      have hle := HLe.out k
      obtain ⟨o, ho⟩ : ∃ o, Rw.opnL op (ts.take k) = o := ⟨_, rfl⟩
      rw [ho] at hp hst hle
      have cp := cell_of_one hp
      have fp := free_of_one hp
      have hb := box_alloc (.cells #[.int .i64 x.1, .int .i64 x.2.1, .int .i64 x.2.2] 45) hp hg
      have cp2 := cell_of_one hb.1
      have fp2 := free_of_one hb.1
      have hpl := lt_of_block hp
      have HNx := Lib.hid (fun u (hu : u = Rw.opnL op (ts.take (k + 1))) => hu)
      have HB := Lib.hid hb
      have HP := Lib.hid (show _ ∧ _ from ⟨hp, hg⟩)
      obtain ⟨K, hK⟩ : ∃ K, x.1 = K := ⟨_, rfl⟩
      rw [hK] at hst c0 HB cp2 fp2
      clear hx hp hg hb HLe HSt HAll H HN HP0 HW ho hK
      by_cases q : K = 8
      · subst q
        have HR := Lib.hid (show Rw.opnL op (ts.take (k + 1)) = o + 1 from hst)
        clear hst
        go_wp2_with fail
        go_roundw
        case rel =>
          have h1 := box_set (u := .int .i64 ((o : Int) + 1)) HP.out.1 HP.out.2
          exact ⟨k + 1, by go_num, by omega, by rw [HR.out]; rw [show ((o + 1 : Nat) : Int) = (o : Int) + 1 from by omega]; exact (box_alloc _ h1.1 h1.2).1, (box_alloc _ h1.1 h1.2).2⟩
        case measure => simp [intOf]; omega
      have g8 : ((K : Int) == 8) = false := by simp; omega
      by_cases q2 : K = 9
      · subst q2
        have HR := Lib.hid (show Rw.opnL op (ts.take (k + 1)) = o + 1 from hst)
        clear hst q g8
        go_wp2_with fail
        go_roundw
        case rel =>
          have h1 := box_set (u := .int .i64 ((o : Int) + 1)) HP.out.1 HP.out.2
          exact ⟨k + 1, by go_num, by omega, by rw [HR.out]; rw [show ((o + 1 : Nat) : Int) = (o : Int) + 1 from by omega]; exact (box_alloc _ h1.1 h1.2).1, (box_alloc _ h1.1 h1.2).2⟩
        case measure => simp [intOf]; omega
      have g9 : ((K : Int) == 9) = false := by simp; omega
      have hmx : max ((o : Int) - 1) 0 = ((o - 1 : Nat) : Int) := by omega
      by_cases q3 : K = 10
      · subst q3
        have HR := Lib.hid (show Rw.opnL op (ts.take (k + 1)) = o - 1 from hst)
        clear hst q q2 g8 g9
        go_wp2_with fail
        go_roundw
        case rel =>
          have h1 := box_set (u := .int .i64 ((o - 1 : Nat) : Int)) HP.out.1 HP.out.2
          exact ⟨k + 1, by go_num, by omega, by rw [HR.out]; exact (box_alloc _ h1.1 h1.2).1, (box_alloc _ h1.1 h1.2).2⟩
        case measure => simp [intOf]; omega
      have g10 : ((K : Int) == 10) = false := by simp; omega
      by_cases q4 : K = 11
      · subst q4
        have HR := Lib.hid (show Rw.opnL op (ts.take (k + 1)) = o - 1 from hst)
        clear hst q q2 q3 g8 g9 g10
        go_wp2_with fail
        go_roundw
        case rel =>
          have h1 := box_set (u := .int .i64 ((o - 1 : Nat) : Int)) HP.out.1 HP.out.2
          exact ⟨k + 1, by go_num, by omega, by rw [HR.out]; exact (box_alloc _ h1.1 h1.2).1, (box_alloc _ h1.1 h1.2).2⟩
        case measure => simp [intOf]; omega
      have g11 : ((K : Int) == 11) = false := by simp; omega
      clear hmx
      by_cases q5 : K = 20
      · subst q5
        have HR := Lib.hid (show Rw.opnL op (ts.take (k + 1)) = 0 from hst)
        clear hst q q2 q3 q4 g8 g9 g10 g11
        go_wp2_with fail
        go_roundw
        case rel =>
          have h1 := box_set (u := .int .i64 0) HP.out.1 HP.out.2
          exact ⟨k + 1, by go_num, by omega, by rw [HR.out]; exact (box_alloc _ h1.1 h1.2).1, (box_alloc _ h1.1 h1.2).2⟩
        case measure => simp [intOf]; omega
      have g20 : ((K : Int) == 20) = false := by simp; omega
      by_cases q6 : K = 21
      · subst q6
        have HR := Lib.hid (show Rw.opnL op (ts.take (k + 1)) = 0 from hst)
        clear hst q q2 q3 q4 q5 g8 g9 g10 g11 g20
        go_wp2_with fail
        go_roundw
        case rel =>
          have h1 := box_set (u := .int .i64 0) HP.out.1 HP.out.2
          exact ⟨k + 1, by go_num, by omega, by rw [HR.out]; exact (box_alloc _ h1.1 h1.2).1, (box_alloc _ h1.1 h1.2).2⟩
        case measure => simp [intOf]; omega
      have g21 : ((K : Int) == 21) = false := by simp; omega
      have hst2 : Sc.opens o K = o := by unfold Sc.opens; rw [if_neg (by omega), if_neg (by omega), if_neg (by omega)]
      rw [hst2] at hst
      have HR := Lib.hid hst
      clear hst hst2 q q2 q3 q4 q5 q6
      go_wp2_with fail
      go_roundw
      case rel => exact ⟨k + 1, by go_num, by omega, by rw [HR.out]; exact HB.out.1, HB.out.2⟩
      case measure => simp [intOf]; omega
    · obtain rfl : k = N := by omega
      have hne : ¬ ((k : Int) < (k : Int)) := by omega
      rw [HAll.out] at hp
      have HD := Lib.hid (HW.out _ _ ⟨rfl, hp, hg⟩)
      clear hp hg hlt H HLe HSt HAll HN HP0 HW
      go_wp2_with fail
      exact HD.out
end Go.Proofs.Ytaokjeopmhbddaa
