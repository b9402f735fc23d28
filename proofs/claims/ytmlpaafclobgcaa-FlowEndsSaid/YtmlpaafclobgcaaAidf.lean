/- correctorlaw11.Flow: pieces of brackets by numbers. -/
import Derived.Test.YtmlpaafclobgcaaAidw
import Derived.Test.YtmlpaafclobgcaaNumb
namespace Go.Proofs.Ytmlpaafclobgcaa
open Go.RowKit
open Go.Proofs.Ytmlpaafclobgcaa.Sg
open Go.Proofs.Ytmlpaafclobgcaa.Sq
open Go.Proofs.Ytmlpaafclobgcaa.Ar
set_option linter.unusedVariables false

def flowL : List (List UInt8) := [[91], [93], [123], [125], [44, 32], [97], [98, 58, 32], [99], [39, 113, 39], [38, 110, 32], [42, 110], [33, 116, 32], [58], [32], [10, 32], [35, 32, 99, 10], [34, 122, 34], [49], [44], [45, 45, 45, 10], [10, 45, 45, 45, 10]]
abbrev flowV : List Value := [Value.string ⟨#[91]⟩, Value.string ⟨#[93]⟩, Value.string ⟨#[123]⟩, Value.string ⟨#[125]⟩, Value.string ⟨#[44, 32]⟩, Value.string ⟨#[97]⟩, Value.string ⟨#[98, 58, 32]⟩, Value.string ⟨#[99]⟩, Value.string ⟨#[39, 113, 39]⟩, Value.string ⟨#[38, 110, 32]⟩, Value.string ⟨#[42, 110]⟩, Value.string ⟨#[33, 116, 32]⟩, Value.string ⟨#[58]⟩, Value.string ⟨#[32]⟩, Value.string ⟨#[10, 32]⟩, Value.string ⟨#[35, 32, 99, 10]⟩, Value.string ⟨#[34, 122, 34]⟩, Value.string ⟨#[49]⟩, Value.string ⟨#[44]⟩, Value.string ⟨#[45, 45, 45, 10]⟩, Value.string ⟨#[10, 45, 45, 45, 10]⟩]
theorem flowV_eq : flowV = flowL.map fun p => Value.string ⟨p.toArray⟩ := rfl
theorem all_flow : ∀ k : Fin 21, ((flowL[k.val]?).map fun p => decide (p.length ≤ 5) && p.all (fun c => !(c == 124) && !(c == 62))) = some true := by decide +kernel
theorem flow_at (k : Nat) (hk : k < 21) : ∃ X : ByteArray, X.size ≤ 5 ∧ Tame (Sc.nats X) ∧ flowV[k]? = some (.string X) := by
  have h := all_flow ⟨k, hk⟩
  simp only at h
  cases hp : flowL[k]? with
  | none => rw [hp] at h; cases h
  | some p =>
    rw [hp, Option.map_some] at h
    injection h with h
    rw [Bool.and_eq_true] at h
    refine ⟨⟨p.toArray⟩, by show p.toArray.size ≤ 5; simpa using h.1, fun x hx => ?_, by rw [flowV_eq, List.getElem?_map, hp]; rfl⟩
    have hx : x ∈ p.map UInt8.toNat := hx
    rw [List.mem_map] at hx
    obtain ⟨c, hc, rfl⟩ := hx
    have h2 := List.all_eq_true.1 h.2 c hc
    rw [Bool.and_eq_true] at h2
    constructor
    · intro e
      have : c = 124 := UInt8.toNat_inj.1 e
      subst this; simp at h2
    · intro e
      have : c = 62 := UInt8.toNat_inj.1 e
      subst this; simp at h2
/-- What Flow hands back. -/
def Flows (w : World) (e : Ending) (w' : World) : Prop := ∃ v, ∃ X : ByteArray, e = .returned v ∧ Bys w' v X ∧ 0 < X.size ∧ X.size ≤ 201 ∧ Tame (Sc.nats X) ∧ Below w.heap.size w w'
set_option maxHeartbeats 2000000 in
set_option maxRecDepth 100000 in
theorem flow_any (v : Value) (l : List Int) (w : World) (hl : Nums .i64 w v l) :
    Calls Try.prog 9 #[v] w (Flows w) := by
  have hmx := hl.len
  obtain ⟨a, cap, rfl⟩ := hl.shape
  obtain ⟨M, hM⟩ : ∃ M, l.length = M := ⟨_, rfl⟩
  obtain ⟨V, hV⟩ : ∃ V, w.alloc (.cells flowV.toArray 9) = V := ⟨_, rfl⟩
  have hbV : Below w.heap.size w V := hV ▸ below_alloc w (.cells flowV.toArray 9)
  have HL1 := Lib.hid (show ∀ j, j < M → ∃ b off, a = some ⟨b, off, none⟩ ∧ M ≤ cap ∧ cap ≤ maxLen ∧ V.cell? ⟨b, off + j, none⟩ = some (.int .i64 (l.getD j 0)) from fun j hj => by
    obtain ⟨b, off, h1, h2, h3, h4⟩ := (hl.below hbV).at_ (j := j) (by rw [hM]; exact hj)
    exact ⟨b, off, h1, by rw [← hM]; exact h2, h3, h4⟩)
  have HP := Lib.hid (show ∀ k X, flowV[k]? = some (.string X) → V.cell? ⟨w.heap.size, k, none⟩ = some (.string X) from fun k X h => by
    rw [← hV, World.cell?_alloc_new]; show (flowV.toArray)[k]? = _; rw [List.getElem?_toArray]; exact h)
  rw [hM] at hmx ⊢
  have HBV := Lib.hid hbV
  have HV := Lib.hid hV
  have HQ := Lib.hid (fun v X w' (h1 : Bys w' v X) (h2 : 0 < X.size) (h3 : X.size ≤ 201) (h4 : Tame (Sc.nats X)) (h5 : Below w.heap.size w w') => show Flows w (.returned v) w' from ⟨v, X, rfl, h1, h2, h3, h4, h5⟩)
  obtain ⟨Q, hQ⟩ : ∃ Q, Flows w = Q := ⟨_, rfl⟩
  rw [hQ] at HQ ⊢
  clear hl hM hbV hV hQ
  go_enter Try.func9, Try.ntmps9
  go_upto_region 2 with fail
  rw [HV.out]
  go_upto_region 4 with fail
  clear HV
  go_loopw [4, 5] (fun sv iv wr => ∃ (i : Nat) (S : ByteArray), iv = .int .i64 (i : Int) ∧ i ≤ 40 ∧ sv = .string S ∧ Hid (Tame (Sc.nats S)) ∧ 0 < S.size ∧ S.size ≤ 1 + 5 * i ∧ wr = V) (fun _ iv _ => 40 - (intOf iv).toNat)
  case atStart => exact ⟨0, ⟨#[91]⟩, rfl, by omega, rfl, Lib.hid (fun x hx => by have hx : x ∈ [91] := hx; rw [List.mem_singleton] at hx; omega), by show 0 < 1; omega, by show 1 ≤ 1 + 5 * 0; omega, rfl⟩
  case round =>
    obtain ⟨i, S, rfl, hi, rfl, HS, hs0, hs1, rfl⟩ := hrel
    by_cases hlt : i < M ∧ i < 40
    · obtain ⟨hlt1, hlt2⟩ := hlt
      have g1 : (i : Int) < (M : Int) := by omega
      have g2 : (i : Int) < 40 := by omega
      obtain ⟨b, off, rfl, q2, q3, q⟩ := HL1.out i hlt1
      simp only [maxLen] at q3
      obtain ⟨y, hy⟩ : ∃ y, l.getD i 0 = y := ⟨_, rfl⟩
      rw [hy] at q
      obtain ⟨k, hk, hwi⟩ := within_lit y 21 21 rfl (by decide) (by decide)
      obtain ⟨X, hX1, hX2, hX3⟩ := flow_at k hk
      have c1 := HP.out k X hX3
      have HW := Lib.hid hwi
      have hk0 : (k : Int) < 21 := by omega
      have y1 : ¬ (9223372036854775807 < S.size + X.size) := by omega
      have HN := Lib.hid (show Tame (Sc.nats (S ++ X)) from fun x hx => by
        rw [Sc.nats_app, List.mem_append] at hx
        rcases hx with h | h
        · exact HS.out x h
        · exact hX2 x h)
      have hz : (S ++ X).size = S.size + X.size := Sg.app_size S X
      have HZ := Lib.hid hz
      clear hwi hX2 hX3 hy hz
      go_wp2_with fail
      refine (HW.out _).mono ?_
      rintro e w2 ⟨rfl, rfl⟩
      go_wp2_with fail
      go_roundw
      case rel => exact ⟨i + 1, S ++ X, by go_num, by omega, rfl, HN, by have := HZ.out; omega, by have := HZ.out; omega, trivial⟩
      case measure => simp [intOf]; omega
    · have hout : (¬ ((i : Int) < (M : Int))) ∨ ((i : Int) < (M : Int) ∧ ¬ ((i : Int) < 40)) := by omega
      obtain ⟨cap0, w3, hcv, hrow, hb3⟩ := conv_str S wr (by unfold maxLen; omega)
      have HD := Lib.hid (HQ.out _ S w3 hrow.bys hs0 (by omega) HS.out (below_from HBV.out hb3))
      clear hlt hrow hb3
      rcases hout with g1 | ⟨g1, g2⟩
      all_goals (
        go_wp2_with fail
        try simp only [Exit.jump]
        exact HD.out)
end Go.Proofs.Ytmlpaafclobgcaa
