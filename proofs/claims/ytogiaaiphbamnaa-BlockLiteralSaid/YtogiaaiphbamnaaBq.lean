/- package block: joined, emptyText, Text. -/
import Derived.Test.YtogiaaiphbamnaaBp
namespace Go.Proofs.Ytogiaaiphbamnaa
open Go.RowKit
open Go.Proofs.Ytogiaaiphbamnaa.Sq
open Go.Proofs.Ytogiaaiphbamnaa.Bk
set_option linter.unusedVariables false

namespace Bk
theorem join_is (sep : List UInt8) (cs : List (List UInt8)) (h : sep = [10]) : Lib.join cs sep = joinL cs := by
  subst h
  induction cs with
  | nil => rfl
  | cons c r ih =>
    cases r with
    | nil => rw [Lib.join_one, joinL]
    | cons d r =>
      rw [Lib.join_cons, joinL, ← ih, Lib.join_cons]
      simp [Lib.joinTail]
theorem sum_tol (l : List ByteArray) : ((l.map tol).map List.length).sum = rest l 0 := by
  unfold rest
  rw [List.drop_zero]
  congr 1
  rw [List.map_map]
  exact List.map_congr_left fun s _ => (size_tol s).symm
theorem rest_map (f : ByteArray → ByteArray) (hf : ∀ s, (f s).size ≤ s.size) (l : List ByteArray) : rest (l.map f) 0 ≤ rest l 0 := by
  unfold rest
  rw [List.drop_zero, List.drop_zero]
  induction l with
  | nil => exact Nat.le_refl _
  | cons x r ih => simp only [List.map_cons, List.sum_cons]; have := hf x; omega
theorem rest_take (l : List ByteArray) (n : Nat) : rest (l.take n) 0 ≤ rest l 0 := by
  unfold rest
  rw [List.drop_zero, List.drop_zero]
  induction l generalizing n with
  | nil => simp
  | cons x r ih =>
    cases n with
    | zero => simp
    | succ n => simp only [List.take_succ_cons, List.map_cons, List.sum_cons]; have := ih n; omega
theorem rest_mem (l : List ByteArray) (x : ByteArray) (h : x ∈ l) : x.size ≤ rest l 0 := by
  unfold rest
  rw [List.drop_zero]
  induction l with
  | nil => cases h
  | cons y r ih =>
    simp only [List.map_cons, List.sum_cons]
    rcases List.mem_cons.1 h with rfl | h
    · omega
    · have := ih h; omega
def isF (hd : ByteArray) : Bool := ([62] : List UInt8).isPrefixOf (tol hd)
def bodyC (f : Bool) (cs : List (List UInt8)) : List UInt8 := if f = true then foldC none 0 cs else joinL cs
theorem bodyC_is (f : Bool) (n : Nat) (l : List (List UInt8)) : bodyC f (l.map (strip n)) = bodyL f n l := by
  cases f with
  | true => rw [body_fold]; rfl
  | false => rw [body_join]; rfl
end Bk
set_option maxHeartbeats 2000000 in
set_option maxRecDepth 100000 in
theorem bJoined (hd : ByteArray) (v : Value) (l : List ByteArray) (w : World) (h : Reads encS w v l) (h0 : l ≠ []) (hM : 2 * l.length + rest l 0 ≤ 5000000) :
    Calls Try.prog 16 #[.string hd, v] w fun e w' => ∃ v', e = .returned v' ∧ ∃ t', Buf w' w.heap.size v' t' ∧ tol t' = bodyC (isF hd) (l.map tol) ∧ t'.size ≤ 5000000 ∧ Below w.heap.size w w' := by
  have HP := Lib.hid (show ∀ W, Calls Try.prog 23 #[.string hd, .string ⟨#[62]⟩] W fun e w' => e = .returned (.bool (isF hd)) ∧ w' = W from fun W => hasPre hd ⟨#[62]⟩ W)
  have hz : ∀ s ∈ l, s.size ≤ maxLen := fun s hs => by have := rest_mem l s hs; simp only [maxLen]; omega
  cases hf : isF hd with
  | true =>
    rw [hf] at HP
    have HF := Lib.hid (bFolded v l w h hz hM)
    clear h hz hM hf
    go_enter Try.func16, Try.ntmps16
    go_wp2_with fail
    refine (HP.out _).mono ?_
    rintro e w1 ⟨rfl, rfl⟩
    go_wp2_with fail
    refine HF.out.mono ?_
    rintro e w1 ⟨v1, rfl, t1, hO, hT, hs, hb⟩
    go_wp2_with fail
    go_ret
    exact ⟨_, rfl, t1, hO, hT, hs, hb⟩
  | false =>
    rw [hf] at HP
    have hj := join_is [10] (l.map tol) rfl
    have hlen : (joinL (l.map tol)).length ≤ 5000000 := by
      have h1 := joinL_len (l.map tol)
      rw [sum_tol, List.length_map] at h1
      omega
    rcases h with ⟨_, h⟩ | ⟨b, off, cap, rfl, h2, h3, h4⟩
    · exact absurd h h0
    · have hcell : ∀ (j : Nat) x, l[j]? = some x → w.cell? ⟨b, off + j, none⟩ = some (.string x) := fun j x hj => by
        have := h4 j x hj 0 (.string x) rfl
        rw [show off + j * encS.k + 0 = off + j from by show off + j * 1 + 0 = off + j; omega] at this
        exact this
      have hbk : b < w.heap.size := by
        cases l with
        | nil => exact absurd rfl h0
        | cons x r => exact lt_of_cell (hcell 0 x rfl)
      have HJ := Lib.hid (show Calls Try.prog 25 #[.slice (some ⟨b, off, none⟩) l.length cap, .string ⟨#[10]⟩] w fun e w' => e = .returned (.string ⟨(Lib.join (l.map tol) [10]).toArray⟩) ∧ Below w.heap.size w w' from
        join_any b off cap l ⟨#[10]⟩ w hcell hbk (by omega) h2 (by show (Lib.join (l.map tol) [10]).length ≤ _; rw [hj]; omega))
      rw [hj] at HJ
      obtain ⟨T, hT⟩ : ∃ T : ByteArray, (⟨(joinL (l.map tol)).toArray⟩ : ByteArray) = T := ⟨_, rfl⟩
      have hTl : tol T = joinL (l.map tol) := by rw [← hT]; exact tol_mk _
      rw [hT] at HJ
      have hTz : T.size ≤ 5000000 := by rw [size_tol, hTl]; exact hlen
      have HT := Lib.hid (show tol T = bodyC false (l.map tol) from hTl)
      clear hTl hT hj hlen hcell h4 hz hM hf
      go_enter Try.func16, Try.ntmps16
      go_wp2_with fail
      refine (HP.out _).mono ?_
      rintro e w1 ⟨rfl, rfl⟩
      go_wp2_with fail
      refine HJ.out.mono ?_
      rintro e w2 ⟨rfl, hb2⟩
      obtain ⟨c3, w3, hcv, hr, hb3⟩ := conv_str T w2 (by simp only [maxLen]; omega)
      have hO := Buf.of_str hr hb2.size
      clear hr
      go_wp2_with fail
      go_ret
      exact ⟨_, rfl, T, hO, HT.out, hTz, hb2.trans (hb3.mono hb2.size)⟩
namespace Bk
def noneB (p : Bool) (n : Nat) : ByteArray := if p = true then lf n else ⟨#[]⟩
theorem rep_is (n : Nat) : Lib.repeatL [10] n = feeds n := by
  induction n with
  | zero => rfl
  | succ n ih => rw [Lib.repeatL, ih]; rfl
end Bk
set_option maxHeartbeats 2000000 in
set_option maxRecDepth 100000 in
theorem bNone (hd : ByteArray) (n : Nat) (w : World) (hn : n ≤ 5000000) :
    Calls Try.prog 15 #[.string hd, .int .i64 (n : Nat)] w fun e w' => e = .returned (.string (noneB ((tol hd).contains 43) n)) ∧ Below w.heap.size w w' := by
  have HP := Lib.hid (fun W => bHas hd 43 W)
  cases hp : (tol hd).contains 43 with
  | true =>
    rw [hp] at HP
    have hr := repeat_any ⟨#[10]⟩ n w (by omega) (by show 1 * n ≤ _; omega)
    rw [show (⟨#[10]⟩ : ByteArray).data.toList = [10] from rfl, rep_is] at hr
    have HR := Lib.hid hr
    clear hr hp
    rw [show noneB true n = lf n from rfl]
    unfold lf
    go_enter Try.func15, Try.ntmps15
    go_wp2_with fail
    refine (HP.out _).mono ?_
    rintro e w1 ⟨rfl, rfl⟩
    go_wp2_with fail
    refine HR.out.mono ?_
    rintro e w1 ⟨rfl, hb⟩
    go_wp2_with fail
    go_ret
    exact ⟨rfl, hb⟩
  | false =>
    rw [hp] at HP
    rw [show noneB false n = ⟨#[]⟩ from rfl]
    go_enter Try.func15, Try.ntmps15
    go_wp2_with fail
    refine (HP.out _).mono ?_
    rintro e w1 ⟨rfl, rfl⟩
    go_wp2_with fail
    go_ret
    exact ⟨rfl, Below.refl _ _⟩
end Go.Proofs.Ytogiaaiphbamnaa
