/- Plain facts between bytes in an array and their list of numbers; classes; runs; the first sign of a piece. -/
import Derived.Test.YtaokjeopmhbddaaSk
import Derived.Test.YtaokjeopmhbddaaBrk
namespace Go.Proofs.Ytaokjeopmhbddaa.Sc
open Go.Proofs.Ytaokjeopmhbddaa.Sg

theorem nats_len (s : ByteArray) : (nats s).length = s.size := by
  unfold nats; rw [List.length_map, Lib.size_eq]
theorem nats_getD (s : ByteArray) (i : Nat) : (nats s).getD i 0 = (s.get! i).toNat := by
  unfold nats
  rw [List.getD_eq_getElem?_getD, List.getElem?_map, ← Lib.getD_get!', List.getD_eq_getElem?_getD]
  cases s.data.toList[i]? <;> rfl
theorem drop_len (s : ByteArray) (i : Nat) : ((nats s).drop i).length = s.size - i := by rw [List.length_drop, nats_len]
theorem drop_getD (s : ByteArray) (i j : Nat) : ((nats s).drop i).getD j 0 = (s.get! (i + j)).toNat := by
  rw [List.getD_eq_getElem?_getD, List.getElem?_drop, ← List.getD_eq_getElem?_getD, nats_getD]
theorem drop_cons (s : ByteArray) (i : Nat) (h : i < s.size) : (nats s).drop i = (s.get! i).toNat :: (nats s).drop (i + 1) := by
  rw [List.drop_eq_getElem_cons (by rw [nats_len]; exact h)]
  congr 1
  have h2 := nats_getD s i
  rw [List.getD_eq_getElem?_getD, List.getElem?_eq_getElem (by rw [nats_len]; exact h)] at h2
  exact h2
theorem drop_nil (s : ByteArray) (i : Nat) (h : s.size ≤ i) : (nats s).drop i = [] := List.drop_eq_nil_of_le (by rw [nats_len]; exact h)
theorem get_el (s : ByteArray) (i : Nat) (h : i < s.size) : (s[i]'h) = s.get! i := by
  have e := Lib.getD_get!' s i
  rw [← e, List.getD_eq_getElem?_getD, List.getElem?_eq_getElem (by rw [← Lib.size_eq]; exact h)]
  rfl
theorem nats_ext (s : ByteArray) (a b : Nat) : nats (s.extract a b) = ((nats s).drop a).take (b - a) := by
  unfold nats
  rw [Lib.extract_data, List.map_take, List.map_drop]
theorem nats_tail (s : ByteArray) (a : Nat) : nats (s.extract a s.size) = (nats s).drop a := by
  rw [nats_ext, List.take_of_length_le (by rw [drop_len]; exact Nat.le_refl _)]
theorem nats_head (s : ByteArray) (b : Nat) : nats (s.extract 0 b) = (nats s).take b := by rw [nats_ext, List.drop_zero, Nat.sub_zero]
theorem nats_app (a b : ByteArray) : nats (a ++ b) = nats a ++ nats b := by
  unfold nats; rw [app_list, List.map_append]
theorem nats_lt (s : ByteArray) : ∀ c ∈ nats s, c < 256 := by
  intro c hc
  unfold nats at hc
  rw [List.mem_map] at hc
  obtain ⟨x, _, rfl⟩ := hc
  exact UInt8.toNat_lt x
theorem nx_list (s : ByteArray) (i : Nat) : nx s i = nxL ((nats s).drop i) := by
  unfold nx nxL
  rw [drop_len, drop_getD, drop_getD, drop_getD, drop_getD]
  rfl
theorem run_le (p : Nat → Bool) (l : List Nat) : run p l ≤ l.length := by
  induction l with
  | nil => exact Nat.le_refl _
  | cons c r ih => rw [run]; split <;> simp <;> omega
theorem run_end (p : Nat → Bool) (l : List Nat) (k : Nat) (h : ∀ j, j < k → p (l.getD j 0) = true) (hk : k = l.length ∨ (k < l.length ∧ p (l.getD k 0) = false)) : run p l = k := by
  induction l generalizing k with
  | nil =>
    rcases hk with h | ⟨h, _⟩
    · exact h.symm
    · exact absurd h (by simp)
  | cons c r ih =>
    cases k with
    | zero =>
      rcases hk with h | ⟨_, h⟩
      · simp at h
      · rw [run, if_neg (by simpa using h)]
    | succ k =>
      have h0 := h 0 (by omega)
      rw [run, if_pos (by simpa using h0), ih k (fun j hj => by simpa using h (j + 1) (by omega)) (by simpa using hk)]
theorem run_all (p : Nat → Bool) (l : List Nat) : ∀ j, j < run p l → p (l.getD j 0) = true := by
  induction l with
  | nil => intro j h; simp [run] at h
  | cons c r ih =>
    intro j h
    rw [run] at h
    split at h
    · rename_i hc
      cases j with
      | zero => simpa using hc
      | succ j => simpa using ih j (by omega)
    · omega
theorem run_stop (p : Nat → Bool) (l : List Nat) (h : run p l < l.length) : p (l.getD (run p l) 0) = false := by
  induction l with
  | nil => simp [run] at h
  | cons c r ih =>
    rw [run] at h ⊢
    split
    · rename_i hc
      rw [if_pos hc] at h
      simpa using ih (by simpa using h)
    · rename_i hc
      simpa using hc
end Go.Proofs.Ytaokjeopmhbddaa.Sc
