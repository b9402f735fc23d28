/- package quote: appendWritten: a byte as a TDouble has it; Write. -/
import Derived.Test.YtmkchfpmlidaiaaAid7
import Derived.Test.YtmkchfpmlidaiaaStp
import Derived.Deep.RegionHeld3
import Derived.Laws.BitsLemmas
namespace Go.Proofs.Ytmkchfpmlidaiaa
open Go.RowKit
open Go.Proofs.Ytmkchfpmlidaiaa.Sg
open Go.Proofs.Ytmkchfpmlidaiaa.Qo
set_option linter.unusedVariables false

/-- The bytes of a short row that was just laid. -/
theorem bys_laid (w : World) (l : List UInt8) (C : Array Value) (n : Nat) (fr : Nat × Nat) (hn : l.length = n) (hl : n ≤ 1000) (hC : C = (l.map fun (x : UInt8) => Value.int .u8 (x.toNat : Int)).toArray) : Bys (w.alloc (.cells C 5 fr)) (.slice (some ⟨w.heap.size, 0, none⟩) n n) ⟨l.toArray⟩ := by
  subst hC
  refine .inr ⟨w.heap.size, 0, n, by rw [size_at, hn], by rw [size_at, hn]; exact Nat.le_refl _, by simp only [maxLen]; omega, fun j hj => ?_⟩
  rw [size_at] at hj
  rw [World.cell?_alloc_mark, Sg.get_at, List.getElem?_toArray, List.getElem?_map, Nat.zero_add, List.getElem?_eq_getElem hj, List.getD_eq_getElem?_getD, List.getElem?_eq_getElem hj]
  rfl
/-- What a byte put behind a row of the call's own leaves. -/
def Writ (B : Nat) (w : World) (T : ByteArray) (e : Ending) (w' : World) : Prop := ∃ v, e = .returned v ∧ w'.ownsRow B 5 1 v T.size (cellsOf T) ∧ Below B w w'
theorem hex_key : ∀ k : Fin 16, ((⟨#[48, 49, 50, 51, 52, 53, 54, 55, 56, 57, 97, 98, 99, 100, 101, 102]⟩ : ByteArray).get! k.val).toNat = (dig k.val).toNat := by decide +kernel
theorem hex_at (k : Nat) (h : k < 16) (W : World) : (Instr.index 9 (.string ⟨#[48, 49, 50, 51, 52, 53, 54, 55, 56, 57, 97, 98, 99, 100, 101, 102]⟩) (.int .u8 (k : Int))).run Try.prog W = .ok (.int .u8 ((dig k).toNat : Int)) W := by
  rw [run_index_string W 9 ⟨#[48, 49, 50, 51, 52, 53, 54, 55, 56, 57, 97, 98, 99, 100, 101, 102]⟩ .u8 (k : Int) Try.underlying9, dif_pos (show 0 ≤ (k : Int) ∧ (k : Int) < ((⟨#[48, 49, 50, 51, 52, 53, 54, 55, 56, 57, 97, 98, 99, 100, 101, 102]⟩ : ByteArray).size : Int) from ⟨by omega, by show (k : Int) < 16; omega⟩)]
  have h1 := hex_key ⟨k, h⟩
  rw [← h1, ← Sc.get_el]
  rfl
theorem and15 (x : Int) (h0 : 0 ≤ x) (h1 : x < 256) : bits .and .u8 x 15 = x % 16 := bits_mask .u8 8 (by decide) wraps_u8 4 (by decide) x h0 h1
set_option maxHeartbeats 1000000 in
set_option maxRecDepth 100000 in
theorem writ_34 (k : Nat) (V : Value) (out : ByteArray) (B : Nat) (w : World) (hk : k = 34) (hO : w.ownsRow B 5 1 V out.size (cellsOf out)) (hB : B ≤ w.heap.size) (ho : out.size ≤ 1000000) :
    Calls Try.prog 22 #[V, .int .u8 (k : Int)] w (Writ B w (out ++ ⟨#[92, 34]⟩)) := by
  obtain ⟨i1, hj, hy0, hy1, hy2⟩ := info_parts infoByte
  have HJ := Lib.hid (And.intro hj (And.intro hy0 (And.intro hy1 hy2)))
  clear hj hy0 hy1 hy2
  have HO1 := Lib.hid (hO.alloc (.cells #[.int .u8 92, .int .u8 34] 5))
  have HB1 := Lib.hid ((Below.refl B w).alloc hB (.cells #[.int .u8 92, .int .u8 34] 5))
  have HN := Lib.hid (cells_new w [.int .u8 92, .int .u8 34] 5)
  obtain rfl : k = 34 := hk
  clear hO
  go_enter Try.func22, Try.ntmps22
  go_wp2_with (at_builtin; go_must (refine wpList_append_own _ rfl (.tmp 9) (.tmp 11) 34 rfl B 5 i1 (.int .u8 0) 1 1 Try.underlying34 HJ.out.1 HJ.out.2.1 HJ.out.2.2.1 HJ.out.2.2.2 rfl (by decide) V out.size (cellsOf out) rfl HO1.out ⟨w.heap.size, 0, none⟩ 2 2 [.int .u8 92, .int .u8 34] rfl rfl HN.out (by intro u hu; simp at hu; rcases hu with rfl | rfl <;> rfl) (by unfold maxLen; omega) (by omega) (Nat.le_trans hB HB1.out.size) ?_; intro v3 w3 hown3 hg3 hnil3; have HO2 := Lib.hid (own_join (x := ⟨#[92, 34]⟩) hown3); have HB2 := Lib.hid (own_grown HB1.out hg3 (fun g h => (HO1.out.lt g h).1) (Nat.le_trans hB HB1.out.size)); clear hown3 hg3 hnil3))
  go_ret
  exact ⟨v3, rfl, HO2.out, HB2.out⟩
set_option maxHeartbeats 1000000 in
set_option maxRecDepth 100000 in
theorem writ_92 (k : Nat) (V : Value) (out : ByteArray) (B : Nat) (w : World) (hk : k = 92) (hO : w.ownsRow B 5 1 V out.size (cellsOf out)) (hB : B ≤ w.heap.size) (ho : out.size ≤ 1000000) :
    Calls Try.prog 22 #[V, .int .u8 (k : Int)] w (Writ B w (out ++ ⟨#[92, 92]⟩)) := by
  obtain ⟨i1, hj, hy0, hy1, hy2⟩ := info_parts infoByte
  have HJ := Lib.hid (And.intro hj (And.intro hy0 (And.intro hy1 hy2)))
  clear hj hy0 hy1 hy2
  have HO1 := Lib.hid (hO.alloc (.cells #[.int .u8 92, .int .u8 92] 5))
  have HB1 := Lib.hid ((Below.refl B w).alloc hB (.cells #[.int .u8 92, .int .u8 92] 5))
  have HN := Lib.hid (cells_new w [.int .u8 92, .int .u8 92] 5)
  obtain rfl : k = 92 := hk
  clear hO
  go_enter Try.func22, Try.ntmps22
  go_wp2_with (at_builtin; go_must (refine wpList_append_own _ rfl (.tmp 9) (.tmp 11) 34 rfl B 5 i1 (.int .u8 0) 1 1 Try.underlying34 HJ.out.1 HJ.out.2.1 HJ.out.2.2.1 HJ.out.2.2.2 rfl (by decide) V out.size (cellsOf out) rfl HO1.out ⟨w.heap.size, 0, none⟩ 2 2 [.int .u8 92, .int .u8 92] rfl rfl HN.out (by intro u hu; simp at hu; rcases hu with rfl | rfl <;> rfl) (by unfold maxLen; omega) (by omega) (Nat.le_trans hB HB1.out.size) ?_; intro v3 w3 hown3 hg3 hnil3; have HO2 := Lib.hid (own_join (x := ⟨#[92, 92]⟩) hown3); have HB2 := Lib.hid (own_grown HB1.out hg3 (fun g h => (HO1.out.lt g h).1) (Nat.le_trans hB HB1.out.size)); clear hown3 hg3 hnil3))
  go_ret
  exact ⟨v3, rfl, HO2.out, HB2.out⟩
set_option maxHeartbeats 1000000 in
set_option maxRecDepth 100000 in
theorem writ_0 (k : Nat) (V : Value) (out : ByteArray) (B : Nat) (w : World) (hk : k = 0) (hO : w.ownsRow B 5 1 V out.size (cellsOf out)) (hB : B ≤ w.heap.size) (ho : out.size ≤ 1000000) :
    Calls Try.prog 22 #[V, .int .u8 (k : Int)] w (Writ B w (out ++ ⟨#[92, 48]⟩)) := by
  obtain rfl : k = 0 := hk
  have HO := Lib.hid hO
  clear hO
  have hz : out.size + (⟨#[92, 48]⟩ : ByteArray).size ≤ 140737488355328 := by show out.size + 2 ≤ _; omega
  go_enter Try.func22, Try.ntmps22
  go_wp2_with (at_builtin; go_must (refine wpList_append_text rfl (.tmp 15) (.const (.string ⟨#[92, 48]⟩)) rfl B V out.size (cellsOf out) rfl HO.out ⟨#[92, 48]⟩ rfl hz hB ?_; intro v3 w3 hown3 hg3; have HO2 := Lib.hid (own_join hown3); have HB2 := Lib.hid (own_grown (Below.refl B w) hg3 (fun g h => (HO.out.lt g h).1) hB); clear hown3 hg3))
  go_ret
  exact ⟨v3, rfl, HO2.out, HB2.out⟩
set_option maxHeartbeats 1000000 in
set_option maxRecDepth 100000 in
theorem writ_9 (k : Nat) (V : Value) (out : ByteArray) (B : Nat) (w : World) (hk : k = 9) (hO : w.ownsRow B 5 1 V out.size (cellsOf out)) (hB : B ≤ w.heap.size) (ho : out.size ≤ 1000000) :
    Calls Try.prog 22 #[V, .int .u8 (k : Int)] w (Writ B w (out ++ ⟨#[92, 116]⟩)) := by
  obtain rfl : k = 9 := hk
  have HO := Lib.hid hO
  clear hO
  have hz : out.size + (⟨#[92, 116]⟩ : ByteArray).size ≤ 140737488355328 := by show out.size + 2 ≤ _; omega
  go_enter Try.func22, Try.ntmps22
  go_wp2_with (at_builtin; go_must (refine wpList_append_text rfl (.tmp 19) (.const (.string ⟨#[92, 116]⟩)) rfl B V out.size (cellsOf out) rfl HO.out ⟨#[92, 116]⟩ rfl hz hB ?_; intro v3 w3 hown3 hg3; have HO2 := Lib.hid (own_join hown3); have HB2 := Lib.hid (own_grown (Below.refl B w) hg3 (fun g h => (HO.out.lt g h).1) hB); clear hown3 hg3))
  go_ret
  exact ⟨v3, rfl, HO2.out, HB2.out⟩
set_option maxHeartbeats 1000000 in
set_option maxRecDepth 100000 in
theorem writ_10 (k : Nat) (V : Value) (out : ByteArray) (B : Nat) (w : World) (hk : k = 10) (hO : w.ownsRow B 5 1 V out.size (cellsOf out)) (hB : B ≤ w.heap.size) (ho : out.size ≤ 1000000) :
    Calls Try.prog 22 #[V, .int .u8 (k : Int)] w (Writ B w (out ++ ⟨#[92, 110]⟩)) := by
  obtain rfl : k = 10 := hk
  have HO := Lib.hid hO
  clear hO
  have hz : out.size + (⟨#[92, 110]⟩ : ByteArray).size ≤ 140737488355328 := by show out.size + 2 ≤ _; omega
  go_enter Try.func22, Try.ntmps22
  go_wp2_with (at_builtin; go_must (refine wpList_append_text rfl (.tmp 23) (.const (.string ⟨#[92, 110]⟩)) rfl B V out.size (cellsOf out) rfl HO.out ⟨#[92, 110]⟩ rfl hz hB ?_; intro v3 w3 hown3 hg3; have HO2 := Lib.hid (own_join hown3); have HB2 := Lib.hid (own_grown (Below.refl B w) hg3 (fun g h => (HO.out.lt g h).1) hB); clear hown3 hg3))
  go_ret
  exact ⟨v3, rfl, HO2.out, HB2.out⟩
set_option maxHeartbeats 1000000 in
set_option maxRecDepth 100000 in
theorem writ_13 (k : Nat) (V : Value) (out : ByteArray) (B : Nat) (w : World) (hk : k = 13) (hO : w.ownsRow B 5 1 V out.size (cellsOf out)) (hB : B ≤ w.heap.size) (ho : out.size ≤ 1000000) :
    Calls Try.prog 22 #[V, .int .u8 (k : Int)] w (Writ B w (out ++ ⟨#[92, 114]⟩)) := by
  obtain rfl : k = 13 := hk
  have HO := Lib.hid hO
  clear hO
  have hz : out.size + (⟨#[92, 114]⟩ : ByteArray).size ≤ 140737488355328 := by show out.size + 2 ≤ _; omega
  go_enter Try.func22, Try.ntmps22
  go_wp2_with (at_builtin; go_must (refine wpList_append_text rfl (.tmp 27) (.const (.string ⟨#[92, 114]⟩)) rfl B V out.size (cellsOf out) rfl HO.out ⟨#[92, 114]⟩ rfl hz hB ?_; intro v3 w3 hown3 hg3; have HO2 := Lib.hid (own_join hown3); have HB2 := Lib.hid (own_grown (Below.refl B w) hg3 (fun g h => (HO.out.lt g h).1) hB); clear hown3 hg3))
  go_ret
  exact ⟨v3, rfl, HO2.out, HB2.out⟩
set_option maxHeartbeats 1000000 in
set_option maxRecDepth 100000 in
theorem writ_self (k : Nat) (V : Value) (out : ByteArray) (B : Nat) (w : World) (h1 : k ≠ 34) (h2 : k ≠ 92) (h3 : 32 ≤ k) (h4 : k < 256) (hO : w.ownsRow B 5 1 V out.size (cellsOf out)) (hB : B ≤ w.heap.size) (ho : out.size ≤ 1000000) :
    Calls Try.prog 22 #[V, .int .u8 (k : Int)] w (Writ B w (out ++ ba [UInt8.ofNat k])) := by
  obtain ⟨i1, hj, hy0, hy1, hy2⟩ := info_parts infoByte
  have HJ := Lib.hid (And.intro hj (And.intro hy0 (And.intro hy1 hy2)))
  clear hj hy0 hy1 hy2
  have HO1 := Lib.hid (hO.alloc (.cells #[.int .u8 (k : Int)] 5))
  have HB1 := Lib.hid ((Below.refl B w).alloc hB (.cells #[.int .u8 (k : Int)] 5))
  have HN := Lib.hid (cells_new w [.int .u8 (k : Int)] 5)
  have g92 : ((k : Int) == 92) = false := beq_eq_false_iff_ne.2 (by omega)
  have g34 : ((k : Int) == 34) = false := beq_eq_false_iff_ne.2 (by omega)
  have g0 : ((k : Int) == 0) = false := beq_eq_false_iff_ne.2 (by omega)
  have g9 : ((k : Int) == 9) = false := beq_eq_false_iff_ne.2 (by omega)
  have g10 : ((k : Int) == 10) = false := beq_eq_false_iff_ne.2 (by omega)
  have g13 : ((k : Int) == 13) = false := beq_eq_false_iff_ne.2 (by omega)
  have g7 : ¬ ((k : Int) < 32) := by omega
  have HT := Lib.hid (show cellsOf (ba [UInt8.ofNat k]) = [.int .u8 (k : Int)] from by simp [cellsOf, ba]; omega)
  clear hO h1 h2 h3
  go_enter Try.func22, Try.ntmps22
  go_wp2_with (at_builtin; go_must (refine wpList_append_own _ rfl (.tmp 40) (.tmp 42) 34 rfl B 5 i1 (.int .u8 0) 1 1 Try.underlying34 HJ.out.1 HJ.out.2.1 HJ.out.2.2.1 HJ.out.2.2.2 rfl (by decide) V out.size (cellsOf out) rfl HO1.out ⟨w.heap.size, 0, none⟩ 1 1 [.int .u8 (k : Int)] rfl rfl HN.out (by intro u hu; simp at hu; rcases hu with rfl <;> rfl) (by unfold maxLen; omega) (by omega) (Nat.le_trans hB HB1.out.size) ?_; intro v3 w3 hown3 hg3 hnil3; have HO2 := Lib.hid (own_join (out := out) (x := ba [UInt8.ofNat k]) (show w3.ownsRow B 5 1 v3 (out.size + 1) (cellsOf out ++ cellsOf (ba [UInt8.ofNat k])) from HT.out ▸ hown3)); have HB2 := Lib.hid (own_grown HB1.out hg3 (fun g h => (HO1.out.lt g h).1) (Nat.le_trans hB HB1.out.size)); clear hown3 hg3 hnil3))
  go_ret
  exact ⟨v3, rfl, HO2.out, HB2.out⟩
set_option maxHeartbeats 1000000 in
set_option maxRecDepth 100000 in
theorem writ_hex (k : Nat) (V : Value) (out : ByteArray) (B : Nat) (w : World) (hk : k < 32) (h0 : k ≠ 0) (h9 : k ≠ 9) (h10 : k ≠ 10) (h13 : k ≠ 13) (hO : w.ownsRow B 5 1 V out.size (cellsOf out)) (hB : B ≤ w.heap.size) (ho : out.size ≤ 1000000) :
    Calls Try.prog 22 #[V, .int .u8 (k : Int)] w (Writ B w (out ++ ba [92, 120, dig (k / 16), dig (k % 16)])) := by
  obtain ⟨i1, hj, hy0, hy1, hy2⟩ := info_parts infoByte
  have HJ := Lib.hid (And.intro hj (And.intro hy0 (And.intro hy1 hy2)))
  clear hj hy0 hy1 hy2
  have HO1 := Lib.hid (show ((w.alloc (.cells #[.int .u8 92, .int .u8 120, .int .u8 ((dig (k / 16)).toNat : Int), .int .u8 ((dig (k % 16)).toNat : Int)] 5)).drew).ownsRow B 5 1 V out.size (cellsOf out) from hO.alloc _)
  have HB1 := Lib.hid (show Below B w (w.alloc (.cells #[.int .u8 92, .int .u8 120, .int .u8 ((dig (k / 16)).toNat : Int), .int .u8 ((dig (k % 16)).toNat : Int)] 5)).drew from ((Below.refl B w).alloc hB _).drew)
  have HBy := Lib.hid (show Bys (w.alloc (.cells #[.int .u8 92, .int .u8 120, .int .u8 ((dig (k / 16)).toNat : Int), .int .u8 ((dig (k % 16)).toNat : Int)] 5)).drew (.slice (some ⟨w.heap.size, 0, none⟩) 4 4) (ba [92, 120, dig (k / 16), dig (k % 16)]) from bys_laid w [92, 120, dig (k / 16), dig (k % 16)] _ 4 (0, 0) rfl (by decide) rfl)
  have HL1 := Lib.hid (show out.size + (ba [92, 120, dig (k / 16), dig (k % 16)]).size ≤ 140737488355328 by show out.size + 4 ≤ _; omega)
  have HL2 := Lib.hid (show B ≤ ((w.alloc (.cells #[.int .u8 92, .int .u8 120, .int .u8 ((dig (k / 16)).toNat : Int), .int .u8 ((dig (k % 16)).toNat : Int)] 5)).drew).heap.size from Nat.le_trans hB HB1.out.size)
  have hx1 := hex_at (k / 16) (by omega)
  have hx2 := hex_at (k % 16) (by omega)
  have e1 : ((k / 16 : Nat) : Int) = (k : Int) / 16 := by omega
  have e2 : ((k % 16 : Nat) : Int) = (k : Int) % 16 := by omega
  rw [e1] at hx1
  rw [e2] at hx2
  have ha := and15 (k : Int) (by omega) (by omega)
  have g92 : ((k : Int) == 92) = false := beq_eq_false_iff_ne.2 (by omega)
  have g34 : ((k : Int) == 34) = false := beq_eq_false_iff_ne.2 (by omega)
  have g0 : ((k : Int) == 0) = false := beq_eq_false_iff_ne.2 (by omega)
  have g9 : ((k : Int) == 9) = false := beq_eq_false_iff_ne.2 (by omega)
  have g10 : ((k : Int) == 10) = false := beq_eq_false_iff_ne.2 (by omega)
  have g13 : ((k : Int) == 13) = false := beq_eq_false_iff_ne.2 (by omega)
  have g7 : (k : Int) < 32 := by omega
  clear hO h0 h9 h10 h13 e1 e2
  go_enter Try.func22, Try.ntmps22
  go_wp2_with fail
  go_region_held3 (fun wx => True) (exact trivial)
    (((refine step_append_bys rfl (.tmp 31) (.tmp 38) rfl B V out.size (cellsOf out) rfl HO1.out (.slice (some ⟨w.heap.size, 0, none⟩) 4 4) (ba [92, 120, dig (k / 16), dig (k % 16)]) rfl HBy.out HL1.out HL2.out ?_; intro v3 w3 hown3 hg3; have HO2 := Lib.hid (own_join hown3); have HB2 := Lib.hid (own_grown HB1.out hg3 (fun g h => (HO1.out.lt g h).1) HL2.out); clear hown3 hg3)))
  all_goals
    go_wp2
    go_ret
    exact ⟨v3, rfl, HO2.out, HB2.out⟩
/-- Any byte. -/
theorem writ_any (c : UInt8) (V : Value) (out : ByteArray) (B : Nat) (w : World) (hO : w.ownsRow B 5 1 V out.size (cellsOf out)) (hB : B ≤ w.heap.size) (ho : out.size ≤ 1000000) :
    Calls Try.prog 22 #[V, .int .u8 (c.toNat : Int)] w (Writ B w (out ++ ba (one c))) := by
  have hlt := UInt8.toNat_lt c
  unfold one
  by_cases q1 : c = 34
  · subst q1; exact writ_34 34 V out B w rfl hO hB ho
  rw [if_neg q1]
  by_cases q2 : c = 92
  · subst q2; exact writ_92 92 V out B w rfl hO hB ho
  rw [if_neg q2]
  by_cases q3 : c = 0
  · subst q3; exact writ_0 0 V out B w rfl hO hB ho
  rw [if_neg q3]
  by_cases q4 : c = 9
  · subst q4; exact writ_9 9 V out B w rfl hO hB ho
  rw [if_neg q4]
  by_cases q5 : c = 10
  · subst q5; exact writ_10 10 V out B w rfl hO hB ho
  rw [if_neg q5]
  by_cases q6 : c = 13
  · subst q6; exact writ_13 13 V out B w rfl hO hB ho
  rw [if_neg q6]
  have n1 : c.toNat ≠ 34 := fun h => q1 (u8_eq c 34 h)
  have n2 : c.toNat ≠ 92 := fun h => q2 (u8_eq c 92 h)
  have n3 : c.toNat ≠ 0 := fun h => q3 (u8_eq c 0 h)
  have n4 : c.toNat ≠ 9 := fun h => q4 (u8_eq c 9 h)
  have n5 : c.toNat ≠ 10 := fun h => q5 (u8_eq c 10 h)
  have n6 : c.toNat ≠ 13 := fun h => q6 (u8_eq c 13 h)
  by_cases q7 : c < 32
  · rw [if_pos q7]
    exact writ_hex c.toNat V out B w ((u8_lt c 32 (by decide)).1 q7) n3 n4 n5 n6 hO hB ho
  · rw [if_neg q7]
    have h := writ_self c.toNat V out B w n1 n2 (Nat.le_of_not_lt fun h => q7 ((u8_lt c 32 (by decide)).2 h)) hlt hO hB ho
    rw [UInt8.ofNat_toNat] at h
    exact h
/-- What has been written. -/
theorem body_snoc (l : List UInt8) (c : UInt8) : body (l ++ [c]) = body l ++ one c := by simp [body]
theorem one_len (c : UInt8) : (one c).length ≤ 4 := by unfold one; (repeat' split) <;> simp
theorem body_len (l : List UInt8) : (body l).length ≤ 4 * l.length := by
  induction l with
  | nil => exact Nat.le_refl _
  | cons c l ih => rw [body_cons, List.length_append, List.length_cons]; have := one_len c; omega
theorem take_snoc (s : ByteArray) (p : Nat) (h : p < s.size) : s.data.toList.take (p + 1) = s.data.toList.take p ++ [s.get! p] := by
  have h3 : p < s.data.toList.length := by rw [← Lib.size_eq]; exact h
  rw [List.take_add_one, List.getElem?_eq_getElem h3, Option.toList_some, ← Lib.getD_get!', List.getD_eq_getElem?_getD, List.getElem?_eq_getElem h3]
  rfl
/-- The bytes that have been written of the first p. -/
def wrt (s : ByteArray) (p : Nat) : ByteArray := ba (34 :: body (s.data.toList.take p))
theorem ba_app (a b : List UInt8) : ba a ++ ba b = ba (a ++ b) := by
  apply ByteArray.ext; simp [ba]
theorem wr_next (s : ByteArray) (p : Nat) (h : p < s.size) : wrt s p ++ ba (one (s.get! p)) = wrt s (p + 1) := by
  unfold wrt
  rw [ba_app, take_snoc s p h, body_snoc]; rfl
theorem wr_size (s : ByteArray) (p : Nat) : (wrt s p).size ≤ 4 * p + 1 := by
  have h1 := body_len (s.data.toList.take p)
  have h2 : (s.data.toList.take p).length ≤ p := by rw [List.length_take]; omega
  have h3 : (wrt s p).size = (body (s.data.toList.take p)).length + 1 := by simp [wrt, ba, ByteArray.size]
  omega
theorem wr_end (s : ByteArray) : wrt s s.size ++ ⟨#[34]⟩ = ba (writeT s.data.toList) := by
  have h : s.data.toList.take s.size = s.data.toList := List.take_of_length_le (by rw [← Lib.size_eq]; exact Nat.le_refl _)
  unfold wrt writeT
  rw [h]
  exact ba_app (34 :: body s.data.toList) [34]
end Go.Proofs.Ytmkchfpmlidaiaa
