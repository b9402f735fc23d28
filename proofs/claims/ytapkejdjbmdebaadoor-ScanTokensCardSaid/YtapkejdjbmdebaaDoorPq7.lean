/- Tokens as values; the scanner's functions that only read: endsKey, behindBlanks, sign. -/
import Derived.Test.YtapkejdjbmdebaaDoorPq4
import Derived.Test.YtapkejdjbmdebaaDoorSeq
import Derived.Test.YtapkejdjbmdebaaDoorCel
import Derived.WalkSmall
import Derived.BigQuiet
namespace Go.Proofs.YtapkejdjbmdebaaDoor
open Go.RowKit
open Go.Proofs.YtapkejdjbmdebaaDoor.Sg
open Go.Proofs.YtapkejdjbmdebaaDoor.Sq
set_option linter.unusedVariables false

/-- A token: its kind, from, to. -/
abbrev Tk := Nat × Nat × Nat
def tkCells (x : Tk) : List Value := [.int .i64 x.1, .int .i64 x.2.1, .int .i64 x.2.2]
def encT : Enc Tk := ⟨tkCells, 3, by decide, fun _ => rfl, fun x u hu => by
  cases hu with
  | head => rfl
  | tail _ hu => cases hu with
    | head => rfl
    | tail _ hu => cases hu with
      | head => rfl
      | tail _ hu => cases hu⟩
theorem tyT : Ty Tryd.prog encT 27 32 24 := Ty.of (z := .agg #[.int .i64 0, .int .i64 0, .int .i64 0]) Tryd.underlying27 (by kernel_rfl) (by kernel_rfl) rfl (fun w => by kernel_rfl)
theorem toks_at {w : World} {a : Option Addr} {cap : Nat} {l : List Tk} (h : Reads encT w (.slice a l.length cap) l) (j : Nat) (x : Tk) (hj : l[j]? = some x) :
    ∃ b off, a = some ⟨b, off, none⟩ ∧ w.cell? ⟨b, off + j * 3, none⟩ = some (.int .i64 x.1) ∧ w.cell? ⟨b, off + j * 3 + 1, none⟩ = some (.int .i64 x.2.1) ∧ w.cell? ⟨b, off + j * 3 + 2, none⟩ = some (.int .i64 x.2.2) := by
  obtain ⟨b, off, h1, h2⟩ := h.at_ j x hj
  exact ⟨b, off, h1, h2 0 _ rfl, h2 1 _ rfl, h2 2 _ rfl⟩

theorem key_at (op : Bool) (s : ByteArray) (h : 0 < s.size) : Sc.key op (Sc.nats s) = (Sc.part (Sc.nats s) || (op && Sc.flo (s[0]'h).toNat)) := by
  rw [row_cons s h]; rfl
set_option maxHeartbeats 1000000 in
theorem pEndsKey (b op : Nat) (s : ByteArray) (w : World) (hs : s.size ≤ maxLen) (c5 : w.cell? ⟨b, 5, none⟩ = some (.int .i64 op)) :
    Calls Tryd.prog 68 #[.pointer (some ⟨b, 0, none⟩), .string s] w fun e w' => e = .returned (.bool (Sc.key (decide (0 < op)) (Sc.nats s))) ∧ w' = w := by
  have hP := pParted s w hs
  by_cases h0 : 0 < s.size
  · rw [key_at _ s h0]
    have hF := pFlow (s[0]'h0).toNat w
    cases hp : Sc.part (Sc.nats s) with
    | true =>
      rw [hp] at hP
      have HP := Lib.hid hP
      clear hP hp hF
      go_enter Tryd.func68, Tryd.ntmps68
      go_wp2_with fail
      refine HP.out.mono ?_
      rintro e w1 ⟨rfl, rfl⟩
      go_wp2_with fail
      go_ret
      exact ⟨rfl, rfl⟩
    | false =>
      rw [hp] at hP
      have HP := Lib.hid hP
      by_cases ho : 0 < op
      · have hoI : (0 : Int) < (op : Int) := by omega
        rw [decide_eq_true ho]
        have HF := Lib.hid hF
        generalize Sc.flo (s[0]'h0).toNat = F at *
        clear hP hp hF
        go_enter Tryd.func68, Tryd.ntmps68
        go_wp2_with fail
        refine HP.out.mono ?_
        rintro e w1 ⟨rfl, rfl⟩
        go_wp2_with fail
        refine HF.out.mono ?_
        rintro e w1 ⟨rfl, rfl⟩
        go_wp2_with fail
        go_ret
        exact ⟨rfl, rfl⟩
      · obtain rfl : op = 0 := by omega
        clear hP hp hF ho
        go_enter Tryd.func68, Tryd.ntmps68
        go_wp2_with fail
        refine HP.out.mono ?_
        rintro e w1 ⟨rfl, rfl⟩
        go_wp2_with fail
        go_ret
        exact ⟨rfl, rfl⟩
  · obtain rfl := str_nil s (by omega)
    rw [show Sc.part (Sc.nats ⟨#[]⟩) = true from rfl] at hP
    have HP := Lib.hid hP
    clear hP h0
    go_enter Tryd.func68, Tryd.ntmps68
    go_wp2_with fail
    refine HP.out.mono ?_
    rintro e w1 ⟨rfl, rfl⟩
    go_wp2_with fail
    go_ret
    exact ⟨rfl, rfl⟩
set_option maxHeartbeats 1000000 in
theorem pBehind (b : Nat) (v : Value) (l : List Tk) (x : Tk) (w : World) (hl : (l ++ [x]).length ≤ 100000) (c1 : w.cell? ⟨b, 1, none⟩ = some v) (hR : Reads encT w v (l ++ [x])) :
    Calls Tryd.prog 52 #[.pointer (some ⟨b, 0, none⟩)] w fun e w' => e = .returned (.bool (x.1 == 2 || x.1 == 3)) ∧ Below w.heap.size w w' := by
  obtain ⟨a, cap, rfl⟩ := hR.shape
  obtain ⟨tb, off, rfl, d0, d1, d2⟩ := toks_at hR l.length x (by simp)
  obtain ⟨n, hn⟩ : ∃ n, l.length = n := ⟨_, rfl⟩
  have hN : (l ++ [x]).length = n + 1 := by simp [hn]
  rw [hn] at d0 d1 d2
  rw [hN] at c1 hl
  have e1 : ((n + 1 : Nat) : Int) - 1 = (n : Int) := by omega
  have i1 : (0 : Int) ≤ (n : Int) := by omega
  have i2 : (n : Int) < ((n + 1 : Nat) : Int) := by omega
  obtain ⟨k, f, t⟩ := x
  simp only at d0 d1 d2 ⊢
  have hk : ((k == 2 || k == 3) : Bool) = (((k : Int) == 2) || ((k : Int) == 3)) := by
    rw [Bool.eq_iff_iff]; simp; omega
  rw [hk]
  clear hR hn hN d1 d2 hk
  go_enter Tryd.func52, Tryd.ntmps52
  go_wp2_with fail
  go_big_quiet (fail)
  have hb := below_drewN (Below.refl w.heap.size w) nq
  cases g2 : ((k : Int) == 2)
  all_goals
    go_wp2_with fail
    go_ret
    exact ⟨by rw [g2]; rfl, hb⟩
end Go.Proofs.YtapkejdjbmdebaaDoor
