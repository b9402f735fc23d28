/- The statements' own small functions (correctorlaw9.known, within). -/
import Derived.Test.YtaokjeopmhbddaaEn5
import Derived.Test.YtaokjeopmhbddaaRz
import Derived.Test.YtaokjeopmhbddaaMd
import Derived.Test.YtaokjeopmhbddaaWit6
import Derived.Test.YtaokjeopmhbddaaTbd
namespace Go.Proofs.Ytaokjeopmhbddaa
open Go.RowKit
open Go.Proofs.Ytaokjeopmhbddaa.Sg
open Go.Proofs.Ytaokjeopmhbddaa.Sq
set_option linter.unusedVariables false

abbrev knownT : List Tk := [(5, 0, 1), (3, 1, 2), (5, 2, 3), (3, 3, 4), (15, 4, 5), (6, 5, 6), (3, 6, 7), (15, 7, 8)]
theorem known_toks : Sc.tokens [45, 32, 45, 32, 97, 58, 32, 49] = knownT := by decide +kernel
theorem known_rows : Rw.rowsN knownT = [⟨5, 0, 8, 0⟩] := by kernel_rfl
theorem known_ents : Rw.ents knownT ⟨5, 0, 8, 0⟩ = ([⟨true, 0, 0, 1⟩, ⟨true, 2, 2, 3⟩, ⟨false, 4, 4, 6⟩], 6) := by kernel_rfl
/-- Rows of a few that were handed back. -/
theorem rows_all {w : World} {a : Option Addr} {cap : Nat} {l : List Rw.R} (h : Reads encR w (.slice a l.length cap) l) (h0 : l ≠ []) :
    ∃ b off, a = some ⟨b, off, none⟩ ∧ ∀ j x, l[j]? = some x → w.cell? ⟨b, off + j * 4, none⟩ = some (.int .i64 x.kind) ∧ w.cell? ⟨b, off + j * 4 + 1, none⟩ = some (.int .i64 x.from') ∧ w.cell? ⟨b, off + j * 4 + 2, none⟩ = some (.int .i64 x.to) ∧ w.cell? ⟨b, off + j * 4 + 3, none⟩ = some (.int .i64 x.col) := by
  obtain ⟨x0, r, rfl⟩ := List.exists_cons_of_ne_nil h0
  obtain ⟨b, off, rfl, -⟩ := rows_at h 0 x0 rfl
  refine ⟨b, off, rfl, fun j x hj => ?_⟩
  obtain ⟨b', off', h2, h3⟩ := rows_at h j x hj
  injection h2 with h2
  injection h2 with h4 h5
  subst h4 h5
  exact h3
theorem ents_cells {w : World} {a : Option Addr} {cap : Nat} {l : List Rw.E} (h : Reads encE w (.slice a l.length cap) l) (h0 : l ≠ []) :
    ∃ b off, a = some ⟨b, off, none⟩ ∧ ∀ j x, l[j]? = some x → w.cell? ⟨b, off + j * 4, none⟩ = some (.bool x.dash) ∧ w.cell? ⟨b, off + j * 4 + 1, none⟩ = some (.int .i64 x.col) ∧ w.cell? ⟨b, off + j * 4 + 2, none⟩ = some (.int .i64 x.from') ∧ w.cell? ⟨b, off + j * 4 + 3, none⟩ = some (.int .i64 x.to) := by
  obtain ⟨x0, r, rfl⟩ := List.exists_cons_of_ne_nil h0
  obtain ⟨b, off, rfl, -⟩ := ents_at h 0 x0 rfl
  refine ⟨b, off, rfl, fun j x hj => ?_⟩
  obtain ⟨b', off', h2, h3⟩ := ents_at h j x hj
  injection h2 with h2
  injection h2 with h4 h5
  subst h4 h5
  exact h3
set_option maxHeartbeats 2000000 in
set_option maxRecDepth 100000 in
theorem known_true (w : World) :
    Calls Try.prog 9 #[] w fun e w' => e = .returned (.bool true) ∧ Below w.heap.size w w' := by
  have hB := bys_laid w [45, 32, 45, 32, 97, 58, 32, 49] #[.int .u8 45, .int .u8 32, .int .u8 45, .int .u8 32, .int .u8 97, .int .u8 58, .int .u8 32, .int .u8 49] 8 (8, 9) rfl (by decide) rfl
  have hA := below_alloc w (.cells #[.int .u8 45, .int .u8 32, .int .u8 45, .int .u8 32, .int .u8 97, .int .u8 58, .int .u8 32, .int .u8 49] 5 (8, 9))
  have hTk := rTokens _ _ _ hB
  rw [show Sc.nats ⟨([45, 32, 45, 32, 97, 58, 32, 49] : List UInt8).toArray⟩ = [45, 32, 45, 32, 97, 58, 32, 49] from rfl] at hTk
  have HTk := Lib.hid hTk
  have HA := Lib.hid hA
  have hcs := Lib.run_convert_bytes_const (P := Try.prog) w 23 5 #[.int .u8 45, .int .u8 32, .int .u8 45, .int .u8 32, .int .u8 97, .int .u8 58, .int .u8 32, .int .u8 49] 8 8 Try.underlying23 Try.underlying5
  clear hB hTk hA
  go_enter Try.func9, Try.ntmps9
  go_wp2_with fail
  refine HTk.out.mono ?_
  intro e w1 hg
  obtain ⟨a, cap, rfl, hR, hb⟩ := hg.read
  rw [known_toks] at hR ⊢
  have hrw := fun bv => pRows bv _ _ w1 hR (by decide) (by decide)
  rw [known_rows] at hrw
  have HRw := Lib.hid hrw
  have HR := Lib.hid hR
  have HB1 := Lib.hid (below_from HA.out hb)
  clear hR hg hb hrw
  go_wp2_with fail
  refine (HRw.out _).mono ?_
  intro e w2 hg
  obtain ⟨a2, cap2, rfl, hR2, hb2⟩ := hg.read
  obtain ⟨rb, ro, rfl, hat⟩ := rows_all (l := [⟨5, 0, 8, 0⟩]) hR2 (by simp)
  obtain ⟨r0, r1, r2, r3⟩ := hat 0 _ rfl
  have hen := fun bv => pEntries bv _ _ ⟨5, 0, 8, 0⟩ w2 (HR.out.below hb2) (by decide) (by decide) (by decide) (by decide)
  rw [known_ents] at hen
  have HEn := Lib.hid hen
  have HB2 := Lib.hid (below_from HB1.out hb2)
  simp only [Nat.zero_mul, Nat.add_zero] at r0 r1 r2 r3
  clear hR2 hg hb2 hat hen
  simp only [List.length_cons, List.length_nil] at *
  go_wp2_with fail
  refine (HEn.out _).mono ?_
  intro e w3 hg
  obtain ⟨a3, cap3, rfl, hR3, hb3⟩ := hg.read
  obtain ⟨eb, eo, rfl, hat⟩ := ents_cells (l := [⟨true, 0, 0, 1⟩, ⟨true, 2, 2, 3⟩, ⟨false, 4, 4, 6⟩]) hR3 (by simp)
  have e1 : w3.cell? ⟨eb, eo + 5, none⟩ = some (.int .i64 2) := (hat 1 _ rfl).2.1
  have e2 : w3.cell? ⟨eb, eo + 9, none⟩ = some (.int .i64 4) := (hat 2 _ rfl).2.1
  have e3 : w3.cell? ⟨eb, eo + 8, none⟩ = some (.bool false) := (hat 2 _ rfl).1
  have hbb := below_from HB2.out hb3
  clear hR3 hg hb3 hat
  simp only [List.length_cons, List.length_nil] at *
  go_wp2_with fail
  go_ret
  exact ⟨rfl, hbb⟩
/-- A number brought within n. -/
def wit (x n : Int) : Int := if x.tmod n < 0 then x.tmod n + n else x.tmod n
theorem wit_bd (x n : Int) (h : 0 < n) : 0 ≤ wit x n ∧ wit x n < n := by
  have h1 := Int.tmod_lt_of_pos x h
  have h2 : -n < x.tmod n := by
    have := Int.tmod_lt_of_pos (-x) h
    rw [Int.neg_tmod] at this
    omega
  unfold wit
  split <;> omega
set_option maxHeartbeats 400000 in
theorem within_any (x n : Int) (w : World) (h1 : 1 ≤ n) (h2 : n ≤ 1000) :
    Calls Try.prog 17 #[.int .i64 x, .int .i64 n] w fun e w' => e = .returned (.int .i64 (wit x n)) ∧ w = w' := by
  have hb1 := Int.tmod_lt_of_pos x (show 0 < n by omega)
  have hb2 : -n < x.tmod n := by
    have := Int.tmod_lt_of_pos (-x) (show 0 < n by omega)
    rw [Int.neg_tmod] at this
    omega
  have hz : (n == 0) = false := by simp; omega
  have hn1 : n ≠ 0 := by omega
  unfold wit
  by_cases hc : x.tmod n < 0
  · rw [if_pos hc]
    go_enter Try.func17, Try.ntmps17
    go_wp2
    go_ret
    exact ⟨rfl, rfl⟩
  · rw [if_neg hc]
    go_enter Try.func17, Try.ntmps17
    go_wp2
    go_ret
    exact ⟨rfl, rfl⟩
/-- within, as a place, the bound as it stands in the text. -/
theorem within_lit (x : Int) (n : Nat) (m : Int) (hm : m = (n : Int)) (h1 : 1 ≤ n) (h2 : n ≤ 1000) : ∃ k : Nat, k < n ∧ ((k : Int) = wit x n) ∧ ∀ w : World, Calls Try.prog 17 #[.int .i64 x, .int .i64 m] w fun e w' => e = .returned (.int .i64 k) ∧ w = w' := by
  subst hm
  have hb := wit_bd x n (by omega)
  have e : ((wit x n).toNat : Int) = wit x n := by omega
  refine ⟨(wit x n).toNat, by omega, e, fun w => ?_⟩
  have := within_any x n w (by omega) (by omega)
  rw [e]
  exact this
end Go.Proofs.Ytaokjeopmhbddaa
