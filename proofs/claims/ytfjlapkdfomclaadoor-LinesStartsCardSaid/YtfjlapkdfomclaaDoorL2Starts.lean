/- The walk of correctorlaw2.LinesStarts: lines begin where the document says, by each kind of break. -/
import Derived.Test.YtfjlapkdfomclaaDoorAid2
namespace Go.Proofs.YtfjlapkdfomclaaDoor
open Go.RowKit
open Go.Proofs.YtfjlapkdfomclaaDoor.Sg

set_option maxHeartbeats 2000000 in
set_option maxRecDepth 100000 in
theorem walk_LinesStarts (v0 : Value) (s : ByteArray) (v1 : Value) (l : List Int) (w : World) (h0 : Bys w v0 s) (h1 : Nums .i64 w v1 l) (hT : Tabs w) :
    Calls Tryd.prog 3 #[v0, v1] w fun e w' => e = .returned (.bool true) ∧ Below w.heap.size w w' := by
  have HK := Lib.hid (known2_true w hT)
  obtain ⟨a, cap, rfl⟩ := h0.shape
  obtain ⟨a1, cap1, rfl⟩ := h1.shape
  go_enter Tryd.func3, Tryd.ntmps3
  go_wp2_with fail
  refine HK.out.mono ?_
  rintro e w1 ⟨rfl, hb⟩
  have k0 := h0.below hb
  have k1 := h1.below hb
  have hT1 := hT.below hb
  clear h0 h1 hT HK
  go_wp2_with fail
  refine (text_any s a cap l a1 cap1 w1 k0 k1).mono ?_
  rintro e w2 ⟨v2, rfl, t, hown, hts, hb2⟩
  have hT2 := hT1.below hb2
  have hB2 := hb.trans (hb2.mono hb.size)
  have kt := Bys.own hown
  obtain ⟨a2, c2, rfl⟩ := kt.shape
  have kt' : Bys (w2.alloc (.cells #[] 5)) (.slice a2 t.size c2) t := kt.below ((Below.refl _ w2).alloc (Nat.le_refl _) _)
  clear k0 k1 hT1 hown hb hb2
  go_wp2_with (at_builtin; go_must (refine wpList_append_bys rfl (.tmp 14) (.tmp 15) rfl w2.heap.size _ 0 [] rfl (own_empty w2) _ t rfl kt' (by omega) (by simp) ?_; intro v3 w3 hown3 hg3))
  rw [Nat.zero_add, List.nil_append] at hown3
  have hA : Below w2.heap.size w2 w3 := ((Below.refl _ w2).alloc (Nat.le_refl _) _).grown hg3 (by simp) (fun k hk => Nat.le_of_eq (Option.some.inj hk))
  have k3 := kt.below hA
  have hT3 := hT2.below hA
  have hB3 : Below w.heap.size w w3 := hB2.trans (hA.mono hB2.size)
  have kx := Bys.own hown3
  obtain ⟨a3, c3, rfl⟩ := kx.shape
  clear kt kt' hT2 hg3 hA hB2 hown3
  go_wp2_with fail
  refine (lnStarts t a3 c3 w3 kx hT3 (by omega)).mono ?_
  rintro e w4 ⟨v4, rfl, hown4, hb4⟩
  have k4 := k3.below hb4
  have hB4 := hB3.trans (hb4.mono hB3.size)
  clear kx hT3 k3 hb4 hB3
  go_wp2_with fail
  refine (refStarts t _ w4 k4 (by omega)).mono ?_
  rintro e w5 ⟨v5, rfl, hown5, hb5⟩
  have hI4 := (Ints.of_own hown4).below hb5
  have hI5 := Ints.of_own hown5
  have hB5 := hB4.trans (hb5.mono hB4.size)
  have hpos : 1 ≤ (st t).length := stN_pos t t.size
  have hlen : (st t).length ≤ t.size + 1 := stN_len t t.size
  have hml : ((st t).map fun (p : Nat) => (p : Int)).length = (st t).length := List.length_map _
  clear hown4 hown5 hb5 hB4 k4
  rw [Ints, hml] at hI4 hI5
  generalize ((st t).map fun (p : Nat) => (p : Int)) = M at *
  generalize (st t).length = N at *
  obtain ⟨b4, o4, d4, rfl, e41, e42, e43⟩ := hI4.resolve_left (fun h => by rw [h.2] at hml; simp at hml; omega)
  obtain ⟨b5, o5, d5, rfl, e51, e52, e53⟩ := hI5.resolve_left (fun h => by rw [h.2] at hml; simp at hml; omega)
  have C4 := Lib.hid e43
  have C5 := Lib.hid e53
  have HB := Lib.hid hB5
  have hne : ((N : Int) != (N : Int)) = false := by simp
  clear e43 e53 hI4 hI5 hml hB5
  go_wp2
  go_loopw [8] (fun i wr => ∃ k : Nat, i = .int .i64 k ∧ k ≤ N ∧ ∃ q, wr = w5.drewN q) (fun i _ => N - (intOf i).toNat)
  case atStart => exact ⟨0, rfl, Nat.zero_le _, 0, rfl⟩
  case round =>
    obtain ⟨k, rfl, hk, q, rfl⟩ := hrel
    by_cases hlt : k < N
    · have g4 := C4.out k hlt
      have g5 := C5.out k hlt
      have hi : (k : Int) < (N : Int) := by omega
      generalize M.getD k 0 = x at *
      have hxx : (x != x) = false := by simp
      go_wp2_with fail
      go_quiet (fail)
      go_wp2
      go_roundw
      case rel => exact ⟨k + 1, by go_num, by omega, q + _, rfl⟩
      case measure => simp [intOf]; omega
    · have hge : ¬ ((k : Int) < (N : Int)) := by omega
      go_wp2
      go_ret
      exact ⟨rfl, below_drewN HB.out q⟩
end Go.Proofs.YtfjlapkdfomclaaDoor
