/- The statements' own small functions (correctorlaw8.known, within, letters); texts laid as a literal list. -/
import Derived.Test.YtogiaaiphbamnaaBr
import Derived.Test.YtogiaaiphbamnaaStn
namespace Go.Proofs.Ytogiaaiphbamnaa
open Go.RowKit
open Go.Proofs.Ytogiaaiphbamnaa.Sq
open Go.Proofs.Ytogiaaiphbamnaa.Bk
set_option linter.unusedVariables false

theorem reads_lit (w : World) (l : List ByteArray) (t : TypeId) (hl : l.length ≤ 1000) : Reads encS (w.alloc (.cells (l.map Value.string).toArray t)) (.slice (some ⟨w.heap.size, 0, none⟩) l.length l.length) l :=
  (row_lit w l t).reads (by simp only [maxLen]; omega)
theorem known_said : said ⟨#[62]⟩ [⟨#[32, 32, 97, 10]⟩, ⟨#[32, 32, 98, 10]⟩] = ⟨#[97, 32, 98, 10]⟩ := ba_ext (by decide +kernel)
set_option maxHeartbeats 1000000 in
set_option maxRecDepth 100000 in
theorem known_true (w : World) :
    Calls Try.prog 8 #[] w fun e w' => e = .returned (.bool true) ∧ Below w.heap.size w w' := by
  have hb0 := below_alloc w (.cells ([(⟨#[32, 32, 97, 10]⟩ : ByteArray), ⟨#[32, 32, 98, 10]⟩].map Value.string).toArray 9)
  have h := bText ⟨#[62]⟩ _ _ _ (reads_lit w [⟨#[32, 32, 97, 10]⟩, ⟨#[32, 32, 98, 10]⟩] 9 (by decide)) (by decide)
  rw [known_said] at h
  have H := Lib.hid h
  have HB := Lib.hid hb0
  clear h hb0
  go_enter Try.func8, Try.ntmps8
  go_wp2_with fail
  refine H.out.mono ?_
  rintro e w1 ⟨rfl, hb⟩
  go_wp2
  go_ret
  exact ⟨rfl, HB.out.trans (hb.mono HB.out.size)⟩

/-- A number brought within n. -/
def wit (x n : Int) : Int := if x.tmod n < 0 then x.tmod n + n else x.tmod n
theorem wit_bd (x n : Int) (h : 0 < n) : 0 ≤ wit x n ∧ wit x n < n := by
  have h1 := Int.tmod_lt_of_pos x h
  have h2 : -n < x.tmod n := by
    have := Int.tmod_lt_of_pos (-x) h
    rw [Int.neg_tmod] at this
    omega
  unfold wit
  split <;> omega
set_option maxHeartbeats 400000 in
theorem within_any (x n : Int) (w : World) (h1 : 1 ≤ n) (h2 : n ≤ 1000) :
    Calls Try.prog 10 #[.int .i64 x, .int .i64 n] w fun e w' => e = .returned (.int .i64 (wit x n)) ∧ w = w' := by
  have hb1 := Int.tmod_lt_of_pos x (show 0 < n by omega)
  have hb2 : -n < x.tmod n := by
    have := Int.tmod_lt_of_pos (-x) (show 0 < n by omega)
    rw [Int.neg_tmod] at this
    omega
  have hz : (n == 0) = false := by simp; omega
  have hn1 : n ≠ 0 := by omega
  unfold wit
  by_cases hc : x.tmod n < 0
  · rw [if_pos hc]
    go_enter Try.func10, Try.ntmps10
    go_wp2
    go_ret
    exact ⟨rfl, rfl⟩
  · rw [if_neg hc]
    go_enter Try.func10, Try.ntmps10
    go_wp2
    go_ret
    exact ⟨rfl, rfl⟩
/-- within, as a place: the same number each time it is asked. -/
theorem within_nat (x : Int) (n : Nat) (h1 : 1 ≤ n) (h2 : n ≤ 1000) : ∃ k : Nat, k < n ∧ ((k : Int) = wit x n) ∧ ∀ w : World, Calls Try.prog 10 #[.int .i64 x, .int .i64 n] w fun e w' => e = .returned (.int .i64 k) ∧ w = w' := by
  have hb := wit_bd x n (by omega)
  have e : ((wit x n).toNat : Int) = wit x n := by omega
  refine ⟨(wit x n).toNat, by omega, e, fun w => ?_⟩
  have := within_any x n w (by omega) (by omega)
  rw [e]
  exact this
/-- The same, the bound as it stands in the text. -/
theorem within_lit (x : Int) (n : Nat) (m : Int) (hm : m = (n : Int)) (h1 : 1 ≤ n) (h2 : n ≤ 1000) : ∃ k : Nat, k < n ∧ ((k : Int) = wit x n) ∧ ∀ w : World, Calls Try.prog 10 #[.int .i64 x, .int .i64 m] w fun e w' => e = .returned (.int .i64 k) ∧ w = w' := by
  subst hm
  exact within_nat x n h1 h2
namespace Bk
def letB (c : UInt8) : Bool := decide (97 ≤ c.toNat) && decide (c.toNat ≤ 122)
/-- Letters alone. -/
def letA (s : ByteArray) : Bool := (tol s).all letB
theorem let_is (s : ByteArray) (h : ∀ j, j < s.size → letB (s.get! j) = true) : letA s = true := by
  unfold letA
  rw [List.all_eq_true]
  intro c hc
  obtain ⟨j, hj⟩ := List.getElem?_of_mem hc
  have := tol_get s j c hj
  rw [← this.1]
  exact h j this.2
theorem let_not (s : ByteArray) (k : Nat) (h : k < s.size) (hn : letB (s.get! k) = false) : letA s = false := by
  unfold letA
  rw [Bool.eq_false_iff]
  intro ha
  have := List.all_eq_true.1 ha _ (List.mem_of_getElem? (get_tol s k h))
  rw [hn] at this
  cases this
theorem let_word (s : ByteArray) (h : letA s = true) : ∀ c ∈ tol s, 97 ≤ c.toNat ∧ c.toNat ≤ 122 := fun c hc => by
  have := List.all_eq_true.1 h c hc
  simpa [letB] using this
end Bk
set_option maxHeartbeats 2000000 in
set_option maxRecDepth 100000 in
theorem letters_any (s : ByteArray) (w : World) (hs : s.size ≤ maxLen) :
    Calls Try.prog 9 #[.string s] w fun e w' => e = .returned (.bool (letA s)) ∧ w = w' := by
  unfold maxLen at hs
  have HR := Lib.hid (let_is s)
  have HN := Lib.hid (let_not s)
  obtain ⟨R0, hR0⟩ : ∃ R0, letA s = R0 := ⟨_, rfl⟩
  rw [hR0] at HR HN ⊢
  clear hR0
  go_enter Try.func9, Try.ntmps9
  go_wp2_with fail
  go_loopw [3] (fun kv wr => ∃ k : Nat, kv = .int .i64 k ∧ k ≤ s.size ∧ Hid (∀ j, j < k → letB (s.get! j) = true) ∧ wr = w) (fun kv _ => s.size - (intOf kv).toNat)
  case atStart => exact ⟨0, rfl, Nat.zero_le _, Lib.hid (fun j h => absurd h (Nat.not_lt_zero j)), rfl⟩
  case round =>
    obtain ⟨k, rfl, hk, HA, rfl⟩ := hrel
    by_cases hlt : k < s.size
    · have hi : (k : Int) < (s.size : Int) := by omega
      have hgi : (s[k]'hlt) = s.get! k := Sc.get_el s k hlt
      have hbt : (s.get! k).toNat < 256 := UInt8.toNat_lt _
      cases hl : letB (s.get! k) with
      | true =>
        have hl2 : 97 ≤ (s.get! k).toNat ∧ (s.get! k).toNat ≤ 122 := by simpa [letB] using hl
        have g1 : ¬ ((s.get! k).toNat : Int) < 97 := by omega
        have g2 : ¬ (122 : Int) < ((s.get! k).toNat : Int) := by omega
        have HA2 := Lib.hid (fun j (hj : j < k + 1) => show letB (s.get! j) = true by
          rcases Nat.lt_succ_iff_lt_or_eq.1 hj with h | h
          · exact HA.out j h
          · rw [h]; exact hl)
        clear hl hl2 HA HR HN
        go_wp2_with fail
        go_roundw
        case rel => exact ⟨k + 1, by go_num, by omega, HA2, trivial⟩
        case measure => simp [intOf]; omega
      | false =>
        have hres := HN.out k hlt hl
        subst hres
        by_cases h97 : (s.get! k).toNat < 97
        · have g1 : ((s.get! k).toNat : Int) < 97 := by omega
          clear hl HA HR HN
          go_wp2_with fail
          go_ret
          exact ⟨rfl, rfl⟩
        · have g1 : ¬ ((s.get! k).toNat : Int) < 97 := by omega
          have g2 : (122 : Int) < ((s.get! k).toNat : Int) := by
            have : ¬ (s.get! k).toNat ≤ 122 := fun h => by
              rw [show letB (s.get! k) = true from by simp [letB, h]; omega] at hl
              cases hl
            omega
          clear hl HA HR HN
          go_wp2_with fail
          go_ret
          exact ⟨rfl, rfl⟩
    · obtain rfl : k = s.size := by omega
      have hne : ¬ ((s.size : Int) < (s.size : Int)) := by omega
      have hres := HR.out HA.out
      subst hres
      clear HA HR HN
      go_wp2_with fail
      go_ret
      exact ⟨rfl, rfl⟩
namespace Bk
/-- So many spaces. -/
def sp (n : Nat) : ByteArray := ⟨(List.replicate n 32).toArray⟩
theorem tol_sp (n : Nat) : tol (sp n) = List.replicate n 32 := tol_mk _
theorem sp_size (n : Nat) : (sp n).size = n := by simp [sp, ByteArray.size]
end Bk
/-- The first k of m spaces. -/
theorem cut_sp (m k : Nat) (h : k ≤ m) : ∀ W : World, (Instr.slice 9 (.string (sp m)) none (some (.int .i64 (k : Int))) none).run Try.prog W = .ok (.string (sp k)) W := by
  intro W
  rw [run_slice_string_h W 9 (sp m) Try.underlying9 .i64 k (by omega) (by rw [sp_size]; omega)]
  have e : (sp m).extract 0 k = sp k := by
    refine ba_ext ?_
    have h1 := Lib.extract_data (sp m) 0 k
    show ((sp m).extract 0 k).data.toList = tol (sp k)
    rw [h1, List.drop_zero, Nat.sub_zero]
    show (tol (sp m)).take k = _
    rw [tol_sp, tol_sp, List.take_replicate, Nat.min_eq_left h]
  simp [e]
end Go.Proofs.Ytogiaaiphbamnaa
