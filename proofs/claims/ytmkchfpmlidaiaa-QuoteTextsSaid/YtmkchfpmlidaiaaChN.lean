/- chars.number: the sign whose number some digits tell (eight of them at most). -/
import Derived.Test.YtmkchfpmlidaiaaChS
namespace Go.Proofs.Ytmkchfpmlidaiaa
open Go.RowKit
open Go.Proofs.Ytmkchfpmlidaiaa.Es

theorem drop_at (t : ByteArray) (p : Nat) (h : p < t.size) : t.data.toList.drop p = t[p] :: t.data.toList.drop (p + 1) := by
  have hl : p < t.data.toList.length := by rw [← Lib.size_eq]; exact h
  rw [List.drop_eq_getElem_cons hl]
  rfl
theorem drop_end (t : ByteArray) (p : Nat) (h : t.size ≤ p) : t.data.toList.drop p = [] := List.drop_eq_nil_of_le (by rw [← Lib.size_eq]; exact h)
/-- Where the number stands: as it is, or below 0 where it is beyond 31 bits. -/
def Stands (r v : Int) : Prop := (r = v ∧ v < 2147483648) ∨ (r < 0 ∧ 2147483648 ≤ v)
theorem sign_of_num {l : List UInt8} {v : Int} (h : num l 0 = some v) : sign l = if Utf8.valid v then some v else none := by rw [sign, h]
theorem sign_of_none {l : List UInt8} (h : num l 0 = none) : sign l = none := by rw [sign, h]
theorem stands_valid {r v : Int} (h : Stands r v) : Utf8.valid r = Utf8.valid v := by
  rcases h with ⟨rfl, _⟩ | ⟨h1, h2⟩
  · rfl
  · have a : Utf8.valid r = false := by simp [Utf8.valid]; omega
    have b : Utf8.valid v = false := by simp [Utf8.valid]; omega
    rw [a, b]
theorem pow_small (v : Int) (pos : Nat) (hp : pos ≤ 7) (h : v < 16 ^ pos) : v < 268435456 := by
  have h2 : (16 : Int) ^ pos ≤ 16 ^ 7 := by
    have := Nat.pow_le_pow_right (n := 16) (by decide) hp
    exact_mod_cast this
  omega
theorem pow_next (v d : Int) (pos : Nat) (hd : d ≤ 15) (h : v < 16 ^ pos) : 16 * v + d < 16 ^ (pos + 1) := by
  rw [Int.pow_succ]; omega
theorem stands_le {r v : Int} (h : Stands r v) : r ≤ 2147483647 := by
  rcases h with ⟨rfl, _⟩ | ⟨h1, h2⟩ <;> omega

set_option maxHeartbeats 4000000 in
set_option maxRecDepth 100000 in
theorem number_any (t : ByteArray) (w : World) (ht : t.size ≤ 8) :
    Calls Try.prog 51 #[.string t] w fun e w' => e = .returned (optR (sign t.data.toList)) ∧ Below w.heap.size w w' := by
  go_enter Try.func51, Try.ntmps51
  go_wp2
  go_loopg [4] t.size (fun gf r wr => ∃ (pos : Nat) (x v : Int), r = .int .i32 x ∧ wr.heap[w.heap.size]? = some (.stringIter t pos) ∧ Below w.heap.size w wr ∧ num t.data.toList 0 = num (t.data.toList.drop pos) v ∧ pos ≤ t.size ∧ t.size ≤ pos + gf ∧ 0 ≤ v ∧ v < 16 ^ pos ∧ Stands x v)
  case atStart => exact ⟨0, 0, 0, rfl, World.iter_heap w t 0, (Below.refl _ w).alloc (Nat.le_refl _) _, rfl, Nat.zero_le _, by omega, by omega, by decide, .inl ⟨rfl, by decide⟩⟩
  case round =>
    obtain ⟨pos, x, v, rfl, hit, hbw, hn, hp, hf, hv0, hv1, hst⟩ := hrel
    by_cases hlt : pos < t.size
    · obtain ⟨g', rfl⟩ : ∃ g', gk = g' + 1 := ⟨gk - 1, by omega⟩
      have hv2 := pow_small v pos (by omega) hv1
      obtain ⟨rfl, _⟩ : x = v ∧ v < 2147483648 := by rcases hst with h | h <;> omega
      rw [drop_at t pos hlt] at hn
      cases hx : hexI (t[pos]).toNat with
      | none =>
        have hd : num t.data.toList 0 = none := by rw [hn, num, hx]
        have hR : hexI (Utf8.decode t pos).1 = none := by
          by_cases ha : (t[pos]).toNat < 128
          · rw [decode_ascii t pos hlt ha]; exact hx
          · exact hexI_high (by have := (decode_high t pos hlt (by omega)).1; omega)
        have hR2 := decode_le t pos
        have hnx : ∀ ty, (Instr.next (.pointer (some ⟨w.heap.size, 0, none⟩)) true ty).run Try.prog wr = _ := fun ty => Lib.run_next_any_at wr w.heap.size t pos ty hit hlt
        have hb2 := Lib.below_iterAt hbw (k := w.heap.size) (Nat.le_refl _) t (pos + (Utf8.decode t pos).2)
        have HS := Lib.hid (sign_of_none hd)
        generalize (Utf8.decode t pos).1 = R at *
        generalize wr.iterAt w.heap.size t (pos + (Utf8.decode t pos).2) = W at *
        have HR := Lib.hid hR
        clear hit hbw hn hx hd hR hst
        go_wp2_with fail
        refine (digit_none _ _ (by omega) (by omega) HR.out).mono ?_
        rintro e w1 ⟨rfl, rfl⟩
        go_wp2
        go_ret2
        exact ⟨by rw [HS.out]; rfl, hb2⟩
      | some d =>
        have hdb := hexI_bd hx
        have ha : (t[pos]).toNat < 128 := by omega
        have hd : num t.data.toList 0 = num (t.data.toList.drop (pos + 1)) (16 * x + d) := by rw [hn, num, hx]
        have hnx : ∀ ty, (Instr.next (.pointer (some ⟨w.heap.size, 0, none⟩)) true ty).run Try.prog wr = _ := fun ty => Lib.run_next_ascii_at wr w.heap.size t pos ty hit hlt ha
        have hit2 := Lib.iterAt_heap wr w.heap.size t pos (pos + 1) hit
        have hb2 := Lib.below_iterAt hbw (k := w.heap.size) (Nat.le_refl _) t (pos + 1)
        have hp2 := pow_next x d pos (by omega) hv1
        generalize wr.iterAt w.heap.size t (pos + 1) = W at *
        generalize (t[pos]).toNat = b at *
        have HX := Lib.hid hx
        have HD := Lib.hid hd
        have HI := Lib.hid hit2
        clear hit hbw hn hx hd hst hit2
        by_cases hs : x < 134217728
        · have o1 := or_low x d hv0 hs (by omega) (by omega)
          have o2 := wrap_low x hv0 hs
          go_wp2_with fail
          refine (digit_some _ d _ (by omega) (by omega) HX.out).mono ?_
          rintro e w1 ⟨rfl, rfl⟩
          go_wp2
          go_roundg g'
          case measure => omega
          case rel => exact ⟨pos + 1, 16 * x + d, 16 * x + d, by rw [Int.mul_comm 16 x], HI.out, hb2, HD.out, by omega, by omega, by omega, hp2, .inl ⟨rfl, by omega⟩⟩
        · have o1 := or_high x d (by omega) hv2 (by omega) (by omega)
          rw [show IntKind.i32.wrap (x * 16) = wrap32 (x * 16) from IntWalk.i32_left _] at o1
          go_wp2_with fail
          refine (digit_some _ d _ (by omega) (by omega) HX.out).mono ?_
          rintro e w1 ⟨rfl, rfl⟩
          go_wp2
          go_roundg g'
          case measure => omega
          case rel => exact ⟨pos + 1, _, 16 * x + d, rfl, HI.out, hb2, HD.out, by omega, by omega, by omega, hp2, .inr ⟨o1, by omega⟩⟩
    · rw [drop_end t pos (by omega)] at hn
      have hnx : ∀ ty, (Instr.next (.pointer (some ⟨w.heap.size, 0, none⟩)) true ty).run Try.prog wr = _ := fun ty => Lib.run_next_end_at wr w.heap.size t pos ty hit hlt
      have hs := sign_of_num hn
      have hval := stands_valid hst
      have hle := stands_le hst
      cases hb : Utf8.valid v with
      | false =>
        rw [hb] at hs hval
        have HS := Lib.hid hs
        have HV := Lib.hid hval
        clear hs hval hn hit hb hst
        go_wp2_with fail
        refine (valid_no _ _ hle HV.out).mono ?_
        rintro e w1 ⟨rfl, rfl⟩
        go_wp2
        go_ret2
        exact ⟨by rw [HS.out]; rfl, hbw⟩
      | true =>
        obtain rfl : x = v := by
          rcases hst with h | h
          · exact h.1
          · simp [Utf8.valid] at hb; omega
        rw [hb] at hs
        have HS := Lib.hid hs
        have HV := Lib.hid hb
        clear hs hval hn hit hb hst
        go_wp2_with fail
        refine (valid_yes _ _ hle HV.out).mono ?_
        rintro e w1 ⟨rfl, rfl⟩
        go_wp2
        go_ret2
        exact ⟨by rw [HS.out]; rfl, hbw⟩
end Go.Proofs.Ytmkchfpmlidaiaa
