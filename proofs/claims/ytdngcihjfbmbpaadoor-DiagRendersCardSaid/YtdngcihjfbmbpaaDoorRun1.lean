/- What runes.Next answers of any bytes: the first sign, and its length (the library's decoder by the kit's contract). -/
import Derived.Test.YtdngcihjfbmbpaaDoorLays
import Derived.Test.YtdngcihjfbmbpaaDoorWorld
import Derived.Test.YtdngcihjfbmbpaaDoorChecked
import Derived.WalkLawsBesides
import Derived.WalkSpells
import Derived.OwnWalk
import Derived.Outline
import Derived.LoopTactic
import Derived.Lib.Hide
namespace Go.Proofs.YtdngcihjfbmbpaaDoor
open Go.RowKit
open Go.Proofs.YtdngcihjfbmbpaaDoor.Sg

/-- The two tables of package utf8 lie as they must. -/
def Tabs (w : World) : Prop := Lib.Utf8Tabs 1 2 w

theorem decodeRune (s : ByteArray) (b off cap : Nat) (w : World) (hT : Tabs w) (hp : ∀ j, j < s.size → w.cell? ⟨b, off + j, none⟩ = some (.int .u8 (s.get! j).toNat)) :
    Calls Tryd.prog 32 #[.slice (some ⟨b, off, none⟩) s.size cap] w fun e w' => e = .returned (.tuple #[.int .i32 (Lib.decodeGo s).1, .int .i64 (Lib.decodeGo s).2]) ∧ Below w.heap.size w w' :=
  Any7.utf8_DecodeRune dec_lays s b off cap w hT hp
theorem decodeRune_nil (w : World) :
    Calls Tryd.prog 32 #[.slice none 0 0] w fun e w' => e = .returned (.tuple #[.int .i32 65533, .int .i64 0]) ∧ w' = w :=
  Any7.utf8_DecodeRune_nil dec_lays w

theorem nx_go (s : ByteArray) : nx s 0 = if (Lib.decodeGo s).1 = 65533 ∧ (Lib.decodeGo s).2 < 2 then (-1, (Lib.decodeGo s).2) else (((Lib.decodeGo s).1 : Int), (Lib.decodeGo s).2) := by
  unfold nx nxN Lib.decodeGo
  rw [Nat.sub_zero]
  by_cases h : s.size = 0
  · rw [if_pos h, if_pos h, if_pos (by simp)]
  · rw [if_neg h, if_neg h, Lib.decode_at]
    rfl
theorem go_bd (s : ByteArray) : (Lib.decodeGo s).1 ≤ 1114111 ∧ (Lib.decodeGo s).2 ≤ 4 := by
  unfold Lib.decodeGo
  by_cases h : s.size = 0
  · rw [if_pos h]; simp
  · rw [if_neg h, Lib.decode_at]
    generalize (s.get! 0).toNat = b0, (s.get! (0 + 1)).toNat = b1, (s.get! (0 + 2)).toNat = b2, (s.get! (0 + 3)).toNat = b3
    unfold Lib.decodeN
    (repeat' split) <;> (dsimp only; omega)

set_option maxHeartbeats 1000000 in
set_option maxRecDepth 100000 in
theorem runesNext_on (v : Value) (r k : Nat) (Q : World → World → Prop) (w : World) (hr : r ≤ 1114111) (hk : k ≤ 4)
    (c : Calls Tryd.prog 32 #[v] w fun e w' => e = .returned (.tuple #[.int .i32 r, .int .i64 k]) ∧ Q w w') :
    Calls Tryd.prog 29 #[v] w fun e w' => e = .returned (.tuple #[.int .i32 (if r = 65533 ∧ k < 2 then (-1, k) else ((r : Int), k)).1, .int .i64 (if r = 65533 ∧ k < 2 then (-1, k) else ((r : Int), k)).2]) ∧ Q w w' := by
  have C := Lib.hid c
  clear c
  by_cases h1 : r = 65533
  · subst h1
    by_cases h2 : k < 2
    · rw [if_pos ⟨rfl, h2⟩]
      go_enter Tryd.func29, Tryd.ntmps29
      go_wp2_with fail
      refine C.out.mono ?_
      rintro e w' ⟨rfl, hq⟩
      go_wp2
      go_ret2
      exact ⟨rfl, hq⟩
    · rw [if_neg (fun h => h2 h.2)]
      go_enter Tryd.func29, Tryd.ntmps29
      go_wp2_with fail
      refine C.out.mono ?_
      rintro e w' ⟨rfl, hq⟩
      go_wp2
      go_ret2
      exact ⟨rfl, hq⟩
  · rw [if_neg (fun h => h1 h.1)]
    have hb : ((r : Int) == 65533) = false := by simp; omega
    clear h1
    go_enter Tryd.func29, Tryd.ntmps29
    go_wp2_with fail
    refine C.out.mono ?_
    rintro e w' ⟨rfl, hq⟩
    go_wp2
    go_ret2
    exact ⟨rfl, hq⟩

/-- runes.Next at a row of cells. -/
theorem runesNext (s : ByteArray) (n b off cap : Nat) (w : World) (hn : s.size = n) (hT : Tabs w) (hp : ∀ j, j < n → w.cell? ⟨b, off + j, none⟩ = some (.int .u8 (s.get! j).toNat)) :
    Calls Tryd.prog 29 #[.slice (some ⟨b, off, none⟩) n cap] w fun e w' => e = .returned (.tuple #[.int .i32 (nx s 0).1, .int .i64 (nx s 0).2]) ∧ Below w.heap.size w w' := by
  subst hn
  rw [nx_go]
  exact runesNext_on _ _ _ (fun w w' => Below w.heap.size w w') w (go_bd s).1 (go_bd s).2 (decodeRune s b off cap w hT hp)
theorem runesNext_nil (w : World) :
    Calls Tryd.prog 29 #[.slice none 0 0] w fun e w' => e = .returned (.tuple #[.int .i32 (-1), .int .i64 0]) ∧ w' = w :=
  runesNext_on _ 65533 0 (fun w w' => w' = w) w (by omega) (by omega) (decodeRune_nil w)
theorem Tabs.below {w w' : World} (h : Tabs w) (hb : Below w.heap.size w w') : Tabs w' := by
  refine ⟨fun c hc => ?_, fun i hi => ⟨?_, ?_⟩⟩
  · have h0 := h.1 c hc
    rw [hb.cell (p := ⟨1, c, none⟩) (lt_of_cell h0)]
    exact h0
  · have h0 := (h.2 i hi).1
    rw [hb.cell (p := ⟨2, 2 * i, none⟩) (lt_of_cell h0)]
    exact h0
  · have h0 := (h.2 i hi).2
    rw [hb.cell (p := ⟨2, 2 * i + 1, none⟩) (lt_of_cell h0)]
    exact h0
end Go.Proofs.YtdngcihjfbmbpaaDoor
