/- The statements' own small functions (correctorlaw6.known, within); a text's bytes handed to Tokens. -/
import Derived.Test.YtapkejdjbmdebaaDoorPqe
import Derived.Test.YtapkejdjbmdebaaDoorConv
import Derived.Lib.SlBytesConst
namespace Go.Proofs.YtapkejdjbmdebaaDoor
open Go.RowKit
open Go.Proofs.YtapkejdjbmdebaaDoor.Sg
open Go.Proofs.YtapkejdjbmdebaaDoor.Sq
set_option linter.unusedVariables false

/-- A number brought within n. -/
def wit (x n : Int) : Int := if x.tmod n < 0 then x.tmod n + n else x.tmod n
theorem wit_bd (x n : Int) (h : 0 < n) : 0 ≤ wit x n ∧ wit x n < n := by
  have h1 := Int.tmod_lt_of_pos x h
  have h2 : -n < x.tmod n := by
    have := Int.tmod_lt_of_pos (-x) h
    rw [Int.neg_tmod] at this
    omega
  unfold wit
  split <;> omega
set_option maxHeartbeats 400000 in
theorem within_any (x n : Int) (w : World) (h1 : 1 ≤ n) (h2 : n ≤ 1000) :
    Calls Tryd.prog 16 #[.int .i64 x, .int .i64 n] w fun e w' => e = .returned (.int .i64 (wit x n)) ∧ w = w' := by
  have hb1 := Int.tmod_lt_of_pos x (show 0 < n by omega)
  have hb2 : -n < x.tmod n := by
    have := Int.tmod_lt_of_pos (-x) (show 0 < n by omega)
    rw [Int.neg_tmod] at this
    omega
  have hz : (n == 0) = false := by simp; omega
  have hn1 : n ≠ 0 := by omega
  unfold wit
  by_cases hc : x.tmod n < 0
  · rw [if_pos hc]
    go_enter Tryd.func16, Tryd.ntmps16
    go_wp2
    go_ret
    exact ⟨rfl, rfl⟩
  · rw [if_neg hc]
    go_enter Tryd.func16, Tryd.ntmps16
    go_wp2
    go_ret
    exact ⟨rfl, rfl⟩
/-- within, as a place. -/
theorem within_nat (x : Int) (n : Nat) (h1 : 1 ≤ n) (h2 : n ≤ 1000) : ∃ k : Nat, k < n ∧ ∀ w : World, Calls Tryd.prog 16 #[.int .i64 x, .int .i64 n] w fun e w' => e = .returned (.int .i64 k) ∧ w = w' := by
  have hb := wit_bd x n (by omega)
  refine ⟨(wit x n).toNat, by omega, fun w => ?_⟩
  have := within_any x n w (by omega) (by omega)
  rw [show ((wit x n).toNat : Int) = wit x n from by omega]
  exact this
/-- The bytes of a short row that was just laid. -/
theorem bys_laid (w : World) (l : List UInt8) (C : Array Value) (n : Nat) (fr : Nat × Nat) (hn : l.length = n) (hl : n ≤ 1000) (hC : C = (l.map fun (x : UInt8) => Value.int .u8 (x.toNat : Int)).toArray) : Bys (w.alloc (.cells C 5 fr)) (.slice (some ⟨w.heap.size, 0, none⟩) n n) ⟨l.toArray⟩ := by
  subst hC
  refine .inr ⟨w.heap.size, 0, n, by rw [size_at, hn], by rw [size_at, hn]; exact Nat.le_refl _, by simp only [maxLen]; omega, fun j hj => ?_⟩
  rw [size_at] at hj
  rw [World.cell?_alloc_mark, Sg.get_at, List.getElem?_toArray, List.getElem?_map, Nat.zero_add, List.getElem?_eq_getElem hj, List.getD_eq_getElem?_getD, List.getElem?_eq_getElem hj]
  rfl
/-- What Tokens hands back, to be read. -/
theorem Gives.read {L : List Nat} {w w' : World} {e : Ending} (h : Gives L w e w') : ∃ a cap, e = .returned (.slice a (Sc.tokens L).length cap) ∧ Reads encT w' (.slice a (Sc.tokens L).length cap) (Sc.tokens L) ∧ Below w.heap.size w w' := by
  obtain ⟨u, rfl, hO, hB⟩ := h
  have hR := Reads.of_own (E := encT) hO
  obtain ⟨a, cap, rfl⟩ := hR.shape
  exact ⟨a, cap, rfl, hR, hB⟩
theorem reads_all {w : World} {a : Option Addr} {cap : Nat} {l : List Tk} (h : Reads encT w (.slice a l.length cap) l) (h0 : l ≠ []) :
    ∃ b off, a = some ⟨b, off, none⟩ ∧ ∀ j x, l[j]? = some x → w.cell? ⟨b, off + j * 3, none⟩ = some (.int .i64 x.1) ∧ w.cell? ⟨b, off + j * 3 + 1, none⟩ = some (.int .i64 x.2.1) ∧ w.cell? ⟨b, off + j * 3 + 2, none⟩ = some (.int .i64 x.2.2) := by
  obtain ⟨x0, r, rfl⟩ := List.exists_cons_of_ne_nil h0
  obtain ⟨b, off, rfl, -⟩ := toks_at h 0 x0 rfl
  refine ⟨b, off, rfl, fun j x hj => ?_⟩
  obtain ⟨b', off', h2, h3⟩ := toks_at h j x hj
  injection h2 with h2
  injection h2 with h4 h5
  subst h4 h5
  exact h3
theorem known_toks : Sc.tokens [45, 32, 97, 58, 32, 49] = [(5, 0, 1), (3, 1, 2), (15, 2, 3), (6, 3, 4), (3, 4, 5), (15, 5, 6)] := by decide +kernel
set_option maxHeartbeats 2000000 in
set_option maxRecDepth 100000 in
theorem known_true (w : World) (hT : Tabs w) :
    Calls Tryd.prog 10 #[] w fun e w' => e = .returned (.bool true) ∧ Below w.heap.size w w' := by
  have hB := bys_laid w [45, 32, 97, 58, 32, 49] #[.int .u8 45, .int .u8 32, .int .u8 97, .int .u8 58, .int .u8 32, .int .u8 49] 6 (6, 7) rfl (by decide) rfl
  have hA := below_alloc w (.cells #[.int .u8 45, .int .u8 32, .int .u8 97, .int .u8 58, .int .u8 32, .int .u8 49] 5 (6, 7))
  have hTk := pTokens _ _ _ hB (hT.below hA)
  rw [show Sc.nats ⟨([45, 32, 97, 58, 32, 49] : List UInt8).toArray⟩ = [45, 32, 97, 58, 32, 49] from rfl] at hTk
  have HTk := Lib.hid hTk
  have HA := Lib.hid hA
  have hcs := Lib.run_convert_bytes_const (P := Tryd.prog) w 23 5 #[.int .u8 45, .int .u8 32, .int .u8 97, .int .u8 58, .int .u8 32, .int .u8 49] 6 6 Tryd.underlying23 Tryd.underlying5
  clear hB hTk hT hA
  go_enter Tryd.func10, Tryd.ntmps10
  go_wp2_with fail
  refine HTk.out.mono ?_
  intro e w1 hg
  obtain ⟨a, cap, rfl, hR, hb⟩ := hg.read
  rw [known_toks] at hR ⊢
  obtain ⟨tb, off, rfl, hat⟩ := reads_all (l := [(5, 0, 1), (3, 1, 2), (15, 2, 3), (6, 3, 4), (3, 4, 5), (15, 5, 6)]) hR (by simp)
  have a0 : w1.cell? ⟨tb, off, none⟩ = some (.int .i64 5) := (hat 0 (5, 0, 1) rfl).1
  have a3 : w1.cell? ⟨tb, off + 9, none⟩ = some (.int .i64 6) := (hat 3 (6, 3, 4) rfl).1
  have a5 : w1.cell? ⟨tb, off + 15, none⟩ = some (.int .i64 15) := (hat 5 (15, 5, 6) rfl).1
  have hbb := HA.out.trans (hb.mono HA.out.size)
  clear hR hg hb hat
  simp only [List.length_cons, List.length_nil] at *
  go_wp2_with fail
  go_ret
  exact ⟨rfl, hbb⟩
end Go.Proofs.YtapkejdjbmdebaaDoor
