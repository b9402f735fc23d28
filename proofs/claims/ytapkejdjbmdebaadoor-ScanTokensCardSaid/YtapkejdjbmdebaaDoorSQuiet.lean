/- The walk of correctorlaw6.quiet: what it makes opens no brackets and no texts. -/
import Derived.Test.YtapkejdjbmdebaaDoorAid6
import Derived.Test.YtapkejdjbmdebaaDoorRowArg
import Derived.Test.YtapkejdjbmdebaaDoorSp8
namespace Go.Proofs.YtapkejdjbmdebaaDoor
open Go.RowKit
open Go.Proofs.YtapkejdjbmdebaaDoor.Sg
open Go.Proofs.YtapkejdjbmdebaaDoor.Sq
set_option linter.unusedVariables false

theorem Nums.shape {k : IntKind} {w : World} {v : Value} {l : List Int} (h : Nums k w v l) : ∃ a cap, v = .slice a l.length cap := by
  rcases h.1 with ⟨h1, h2⟩ | ⟨b, off, cap, h1, _⟩
  · exact ⟨none, 0, by rw [h1, h2]; rfl⟩
  · exact ⟨_, _, h1⟩
theorem Nums.below {k : IntKind} {w w' : World} {v : Value} {l : List Int} (h : Nums k w v l) (hb : Below w.heap.size w w') : Nums k w' v l := by
  refine ⟨?_, h.2⟩
  rcases h.1 with h1 | ⟨b, off, cap, h1, h2, h3, h4⟩
  · exact .inl h1
  · refine .inr ⟨b, off, cap, h1, h2, h3, fun j hj => ?_⟩
    have h5 := h4 j hj
    rw [hb.cell (p := ⟨b, off + j, none⟩) (lt_of_cell h5)]
    exact h5
theorem Nums.at_ {k : IntKind} {w : World} {a : Option Addr} {l : List Int} {cap j : Nat} (h : Nums k w (.slice a l.length cap) l) (hj : j < l.length) :
    ∃ b off, a = some ⟨b, off, none⟩ ∧ l.length ≤ cap ∧ cap ≤ maxLen ∧ w.cell? ⟨b, off + j, none⟩ = some (.int k (l.getD j 0)) := by
  rcases h.1 with ⟨_, hz⟩ | ⟨b, off, cap', hv, g2, g3, g4⟩
  · rw [hz] at hj; exact absurd hj (Nat.not_lt_zero _)
  · obtain ⟨rfl, -, rfl⟩ := Value.slice.inj hv
    exact ⟨b, off, rfl, g2, g3, g4 j hj⟩
theorem Nums.len {k : IntKind} {w : World} {v : Value} {l : List Int} (h1 : Nums k w v l) : l.length ≤ 9223372036854775807 := by
  rcases h1.1 with ⟨_, hz⟩ | ⟨_, _, _, _, g2, g3, _⟩
  · rw [hz]; exact Nat.zero_le _
  · simp only [maxLen] at g3; omega
def stillB (c : Nat) : Bool := !(c == 91 || c == 123 || c == 124 || c == 62)
theorem still_of {c : Nat} (h : stillB c = true) : Sc.still c := by
  simp [stillB] at h; exact ⟨by omega, by omega, by omega, by omega⟩
def calmL : List (List UInt8) := [[97], [98, 58, 32], [45, 32], [10], [32, 32], [39, 120, 39], [35, 32, 99], [32], [107, 101, 121], [58], [45], [38, 97, 32], [42, 98, 32], [33, 116, 32]]
abbrev calmV : List Value := [.string ⟨#[97]⟩, .string ⟨#[98, 58, 32]⟩, .string ⟨#[45, 32]⟩, .string ⟨#[10]⟩, .string ⟨#[32, 32]⟩, .string ⟨#[39, 120, 39]⟩, .string ⟨#[35, 32, 99]⟩, .string ⟨#[32]⟩, .string ⟨#[107, 101, 121]⟩, .string ⟨#[58]⟩, .string ⟨#[45]⟩, .string ⟨#[38, 97, 32]⟩, .string ⟨#[42, 98, 32]⟩, .string ⟨#[33, 116, 32]⟩]
theorem calmV_eq : calmV = calmL.map fun p => .string ⟨p.toArray⟩ := rfl
theorem all_calm : ∀ k : Fin 14, ((calmL[k.val]?).map fun p => decide (p.length ≤ 4) && (p.map (·.toNat)).all stillB) = some true := by decide +kernel
theorem calm_at (k : Nat) (hk : k < 14) : ∃ X : ByteArray, X.size ≤ 4 ∧ (∀ c ∈ Sc.nats X, Sc.still c) ∧ calmV[k]? = some (.string X) := by
  have h := all_calm ⟨k, hk⟩
  simp only at h
  cases hp : calmL[k]? with
  | none => rw [hp] at h; cases h
  | some p =>
    rw [hp, Option.map_some] at h
    injection h with h
    simp only [Bool.and_eq_true, decide_eq_true_eq, List.all_eq_true] at h
    refine ⟨⟨p.toArray⟩, by show p.toArray.size ≤ 4; simp [h.1], fun c hc => still_of (h.2 c hc), ?_⟩
    rw [calmV_eq, List.getElem?_map, hp]; rfl
/-- What quiet gives. -/
def Quiet (w : World) (e : Ending) (w' : World) : Prop := ∃ S : ByteArray, e = .returned (.string S) ∧ S.size ≤ 100 ∧ (∀ c ∈ Sc.nats S, Sc.still c) ∧ Below w.heap.size w w'
set_option maxHeartbeats 4000000 in
set_option maxRecDepth 100000 in
theorem quiet_any (v : Value) (l : List Int) (w : World) (h : Nums .i64 w v l) :
    Calls Tryd.prog 15 #[v] w (Quiet w) := by
  obtain ⟨a, cap, rfl⟩ := h.shape
  have hl := h.len
  have H := Lib.hid h
  clear h
  obtain ⟨tc, htc⟩ : ∃ tc, tc = w.heap.size := ⟨_, rfl⟩
  obtain ⟨V, hV⟩ : ∃ V, V = w.alloc (.cells #[.string ⟨#[97]⟩, .string ⟨#[98, 58, 32]⟩, .string ⟨#[45, 32]⟩, .string ⟨#[10]⟩, .string ⟨#[32, 32]⟩, .string ⟨#[39, 120, 39]⟩, .string ⟨#[35, 32, 99]⟩, .string ⟨#[32]⟩, .string ⟨#[107, 101, 121]⟩, .string ⟨#[58]⟩, .string ⟨#[45]⟩, .string ⟨#[38, 97, 32]⟩, .string ⟨#[42, 98, 32]⟩, .string ⟨#[33, 116, 32]⟩] 9) := ⟨_, rfl⟩
  have hbV := hV ▸ below_alloc w (.cells #[.string ⟨#[97]⟩, .string ⟨#[98, 58, 32]⟩, .string ⟨#[45, 32]⟩, .string ⟨#[10]⟩, .string ⟨#[32, 32]⟩, .string ⟨#[39, 120, 39]⟩, .string ⟨#[35, 32, 99]⟩, .string ⟨#[32]⟩, .string ⟨#[107, 101, 121]⟩, .string ⟨#[58]⟩, .string ⟨#[45]⟩, .string ⟨#[38, 97, 32]⟩, .string ⟨#[42, 98, 32]⟩, .string ⟨#[33, 116, 32]⟩] 9)
  have HBV := Lib.hid hbV
  have HC := Lib.hid (show ∀ k X, calmV[k]? = some (.string X) → V.cell? ⟨tc, k, none⟩ = some (.string X) from by
    intro k X hX; rw [hV, htc, World.cell?_alloc_new]; show (calmV.toArray)[k]? = _; rw [List.getElem?_toArray]; exact hX)
  have HV := Lib.hid hV
  have HTc := Lib.hid htc
  clear hV htc hbV
  go_enter Tryd.func15, Tryd.ntmps15
  go_wp2_with fail
  rw [← HV.out, ← HTc.out]
  go_loopw [4, 5] (fun sv i wr => ∃ (k : Nat) (S : ByteArray), i = .int .i64 k ∧ k ≤ 25 ∧ sv = .string S ∧ S.size ≤ 4 * k ∧ Hid (∀ c ∈ Sc.nats S, Sc.still c) ∧ wr = V) (fun _ i _ => 25 - (intOf i).toNat)
  case atStart => exact ⟨0, ⟨#[]⟩, rfl, by omega, rfl, Nat.zero_le _, Lib.hid (fun c hc => absurd hc (by simp [Sc.nats])), rfl⟩
  case round =>
    obtain ⟨k, S, rfl, hk, rfl, hS, HS, rfl⟩ := hrel
    by_cases hlt : k < l.length ∧ k < 25
    · obtain ⟨hlt1, hlt2⟩ := hlt
      obtain ⟨b1, off1, rfl, q2, q3, hc1⟩ := (H.out.below HBV.out).at_ hlt1
      simp only [maxLen] at q3
      have hi1 : (k : Int) < (l.length : Int) := by omega
      have hi2 : (k : Int) < 25 := by omega
      generalize l.getD k 0 = y at *
      obtain ⟨m, hm, hwi⟩ := within_nat y 14 (by decide) (by decide)
      obtain ⟨X, hX4, hXs, h5⟩ := calm_at m hm
      have c0 := HC.out m X h5
      have HW := Lib.hid (hwi wr)
      have HX := Lib.hid hXs
      have hm0 : (m : Int) < 14 := by omega
      have hm1 : (0 : Int) ≤ (m : Int) := by omega
      have hz : ¬ (9223372036854775807 < S.size + X.size) := by omega
      have hz2 : (S ++ X).size ≤ 4 * (k + 1) := by rw [Sg.app_size]; omega
      have HN := Lib.hid (show ∀ c ∈ Sc.nats (S ++ X), Sc.still c from fun c hc => by
        rw [Sc.nats_app] at hc
        rcases List.mem_append.1 hc with hc | hc
        · exact HS.out c hc
        · exact HX.out c hc)
      obtain ⟨S', hS'⟩ : ∃ S', S ++ X = S' := ⟨_, rfl⟩
      rw [hS'] at hz2 HN
      clear h5 hwi hXs HS
      go_wp2_with fail
      refine HW.out.mono ?_
      rintro e w2 ⟨rfl, rfl⟩
      go_wp2_with fail
      go_roundw
      case rel => exact ⟨k + 1, S', by go_num, by omega, by first | rfl | rw [hS'], hz2, HN, by first | rfl | trivial⟩
      case measure => simp [intOf]; omega
    · by_cases hlt1 : k < l.length
      · have hi1 : (k : Int) < (l.length : Int) := by omega
        have hi2 : ¬ ((k : Int) < 25) := by omega
        go_wp2_with fail
        go_ret
        exact ⟨S, rfl, by omega, HS.out, HBV.out⟩
      · have hi1 : ¬ ((k : Int) < (l.length : Int)) := by omega
        go_wp2_with fail
        go_ret
        exact ⟨S, rfl, by omega, HS.out, HBV.out⟩
end Go.Proofs.YtapkejdjbmdebaaDoor
