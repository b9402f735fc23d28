/- Plain facts on lines (no program text): which bytes end a line, where lines begin, and what lies between; in how many steps a piece between two signs is gone through. -/
import Derived.Test.YtdngcihjfbmbpaaDoorText
namespace Go.Proofs.YtdngcihjfbmbpaaDoor.Sg
open Go.Lib

/-- A line ends behind place p of the bytes s. -/
def ends (s : ByteArray) (p : Nat) : Prop := p < s.size ∧ ((s.get! p).toNat = 10 ∨ ((s.get! p).toNat = 13 ∧ ¬ (p + 1 < s.size ∧ (s.get! (p + 1)).toNat = 10)))
instance (s : ByteArray) (p : Nat) : Decidable (ends s p) := by unfold ends; infer_instance
/-- The places up to k at which lines begin. -/
def stN (s : ByteArray) : Nat → List Nat
  | 0 => [0]
  | k + 1 => stN s k ++ if ends s k then [k + 1] else []
/-- The last one of them. -/
def ls (s : ByteArray) : Nat → Nat
  | 0 => 0
  | k + 1 => if ends s k then k + 1 else ls s k
/-- The places at which lines begin. -/
def st (s : ByteArray) : List Nat := stN s s.size

theorem stN_pos (s : ByteArray) : ∀ k, 1 ≤ (stN s k).length
  | 0 => by simp [stN]
  | k + 1 => by have := stN_pos s k; rw [stN, List.length_append]; omega
theorem stN_len (s : ByteArray) : ∀ k, (stN s k).length ≤ k + 1
  | 0 => by simp [stN]
  | k + 1 => by
    have := stN_len s k
    rw [stN, List.length_append]
    split <;> simp <;> omega
theorem ls_le (s : ByteArray) : ∀ k, ls s k ≤ k
  | 0 => Nat.le_refl _
  | k + 1 => by
    have := ls_le s k
    rw [ls]; split <;> omega
theorem stN_last (s : ByteArray) : ∀ k, ∃ l, stN s k = l ++ [ls s k]
  | 0 => ⟨[], rfl⟩
  | k + 1 => by
    obtain ⟨l, hl⟩ := stN_last s k
    rw [stN, ls]
    split
    · exact ⟨stN s k, rfl⟩
    · rw [List.append_nil]; exact ⟨l, hl⟩
theorem stN_front (s : ByteArray) (k : Nat) : ∀ d, ∃ r, stN s (k + d) = stN s k ++ r ∧ ∀ x ∈ r, k < x ∧ x ≤ k + d
  | 0 => ⟨[], by simp, by simp⟩
  | d + 1 => by
    obtain ⟨r, h1, h2⟩ := stN_front s k d
    refine ⟨r ++ if ends s (k + d) then [k + d + 1] else [], ?_, ?_⟩
    · rw [← Nat.add_assoc, stN, h1, List.append_assoc]
    · intro x hx
      rcases List.mem_append.1 hx with h | h
      · have := h2 x h; omega
      · split at h
        · simp at h; omega
        · cases h
theorem stN_mem (s : ByteArray) : ∀ k, ∀ x ∈ stN s k, x ≤ k
  | 0 => by simp [stN]
  | k + 1 => by
    intro x hx
    rw [stN] at hx
    rcases List.mem_append.1 hx with h | h
    · have := stN_mem s k x h; omega
    · split at h
      · simp at h; omega
      · cases h
/-- Of the starts up to m those up to k are the first ones. -/
theorem st_at (s : ByteArray) (k m j : Nat) (hk : k ≤ m) (hj : j < (stN s m).length) : (stN s m).getD j 0 ≤ k ↔ j < (stN s k).length := by
  obtain ⟨d, rfl⟩ : ∃ d, m = k + d := ⟨m - k, by omega⟩
  obtain ⟨r, h1, h2⟩ := stN_front s k d
  rw [h1] at hj ⊢
  rw [List.getD_eq_getElem?_getD]
  by_cases h : j < (stN s k).length
  · rw [List.getElem?_append_left h, List.getElem?_eq_getElem h]
    have := stN_mem s k _ (List.getElem_mem h)
    simp [h]; exact this
  · rw [List.getElem?_append_right (by omega)]
    rw [List.length_append] at hj
    have hlt : j - (stN s k).length < r.length := by omega
    rw [List.getElem?_eq_getElem hlt]
    have := h2 _ (List.getElem_mem hlt)
    simp only [Option.getD_some]
    constructor
    · intro hh; omega
    · intro hh; omega
theorem st_lastAt (s : ByteArray) (k m : Nat) (hk : k ≤ m) : (stN s m).getD ((stN s k).length - 1) 0 = ls s k := by
  obtain ⟨d, rfl⟩ : ∃ d, m = k + d := ⟨m - k, by omega⟩
  obtain ⟨r, h1, _⟩ := stN_front s k d
  obtain ⟨l, hl⟩ := stN_last s k
  rw [h1, hl, List.length_append, List.length_singleton, Nat.add_sub_cancel, List.append_assoc, List.getD_eq_getElem?_getD, List.getElem?_append_right (Nat.le_refl _)]
  simp
theorem st_zero (s : ByteArray) : ∀ k, (stN s k).getD 0 0 = 0
  | 0 => rfl
  | k + 1 => by
    have h := st_zero s k
    have hp := stN_pos s k
    rw [stN, List.getD_eq_getElem?_getD, List.getElem?_append_left (by omega), ← List.getD_eq_getElem?_getD]
    exact h
theorem skip (s : ByteArray) (p : Nat) : ∀ d, (∀ i, p ≤ i → i < p + d → ¬ ends s i) → stN s (p + d) = stN s p ∧ ls s (p + d) = ls s p
  | 0, _ => ⟨rfl, rfl⟩
  | d + 1, h => by
    have ih := skip s p d (fun i h1 h2 => h i h1 (by omega))
    have hn := h (p + d) (by omega) (by omega)
    rw [← Nat.add_assoc, stN, ls, if_neg hn, if_neg hn, List.append_nil]
    exact ih
theorem not_ends_of (s : ByteArray) (i : Nat) (h : 128 ≤ (s.get! i).toNat) : ¬ ends s i := by
  unfold ends; omega
/-- From a place over K bytes, of which the later ones belong to a sign of several. -/
theorem over (s : ByteArray) (p K : Nat) (hK : 1 ≤ K) (h : ∀ i, p < i → i < p + K → 128 ≤ (s.get! i).toNat) :
    stN s (p + K) = stN s p ++ (if ends s p then [p + 1] else []) ∧ ls s (p + K) = if ends s p then p + 1 else ls s p := by
  obtain ⟨d, rfl⟩ : ∃ d, K = 1 + d := ⟨K - 1, by omega⟩
  have := skip s (p + 1) d (fun i h1 h2 => not_ends_of s i (h i (by omega) (by omega)))
  rw [← Nat.add_assoc, this.1, this.2]
  exact ⟨rfl, rfl⟩

theorem nx_first (s : ByteArray) (p : Nat) (h : p < s.size) :
    ((s.get! p).toNat < 128 → nx s p = (((s.get! p).toNat : Int), 1)) ∧ (128 ≤ (s.get! p).toNat → ((nx s p).1 = -1 ∨ 128 ≤ (nx s p).1) ∧ ∀ i, p < i → i < p + (nx s p).2 → 128 ≤ (s.get! i).toNat) := by
  have l0 := (s.get! p).toNat_lt
  have l1 := (s.get! (p + 1)).toNat_lt
  have l2 := (s.get! (p + 2)).toNat_lt
  have l3 := (s.get! (p + 3)).toNat_lt
  have hpos : 0 < s.size - p := by omega
  refine ⟨fun hb => by unfold nx; exact nx_ascii _ _ _ _ _ hpos hb, fun hb => ?_⟩
  have key : ∀ K : Nat, (2 ≤ K → 128 ≤ (s.get! (p + 1)).toNat) → (3 ≤ K → 128 ≤ (s.get! (p + 2)).toNat) → (4 ≤ K → 128 ≤ (s.get! (p + 3)).toNat) → K ≤ 4 → ∀ i, p < i → i < p + K → 128 ≤ (s.get! i).toNat := by
    intro K k1 k2 k3 k4 i h1 h2
    rcases (by omega : i = p + 1 ∨ i = p + 2 ∨ i = p + 3) with rfl | rfl | rfl
    · exact k1 (by omega)
    · exact k2 (by omega)
    · exact k3 (by omega)
  by_cases c2 : (s.get! p).toNat < 192
  · have e : nx s p = (-1, 1) := by unfold nx; exact nx_bad _ _ _ _ _ hpos hb (.inl c2)
    rw [e]
    exact ⟨.inl rfl, fun i h1 h2 => by dsimp only at h2; omega⟩
  by_cases c3 : (s.get! p).toNat < 224
  · have e : nx s p = sg2 (s.size - p) ((s.get! p).toNat % 32) (s.get! (p + 1)).toNat := by unfold nx; exact nx_two _ _ _ _ _ hpos (by omega) c3 l1
    rw [e]
    refine ⟨?_, key _ ?_ ?_ ?_ ?_⟩ <;> unfold sg2 <;> (repeat' split) <;> dsimp only at * <;> omega
  by_cases c4 : (s.get! p).toNat < 240
  · have e : nx s p = sg3 (s.size - p) ((s.get! p).toNat % 16) (s.get! (p + 1)).toNat (s.get! (p + 2)).toNat := by unfold nx; exact nx_three _ _ _ _ _ hpos (by omega) c4 l1 l2
    rw [e]
    refine ⟨?_, key _ ?_ ?_ ?_ ?_⟩ <;> unfold sg3 <;> (repeat' split) <;> dsimp only at * <;> omega
  by_cases c5 : (s.get! p).toNat < 248
  · have e : nx s p = sg4 (s.size - p) ((s.get! p).toNat % 8) (s.get! (p + 1)).toNat (s.get! (p + 2)).toNat (s.get! (p + 3)).toNat := by unfold nx; exact nx_four _ _ _ _ _ hpos (by omega) c5 l1 l2 l3
    rw [e]
    refine ⟨?_, key _ ?_ ?_ ?_ ?_⟩ <;> unfold sg4 <;> (repeat' split) <;> dsimp only at * <;> omega
  · have e : nx s p = (-1, 1) := by unfold nx; exact nx_bad _ _ _ _ _ hpos hb (.inr (by omega))
    rw [e]
    exact ⟨.inl rfl, fun i h1 h2 => by dsimp only at h2; omega⟩
theorem nx_over (s : ByteArray) (p : Nat) (h : p < s.size) : ∀ i, p < i → i < p + (nx s p).2 → 128 ≤ (s.get! i).toNat := by
  have hf := nx_first s p h
  by_cases hb : (s.get! p).toNat < 128
  · rw [hf.1 hb]; intro i h1 h2; dsimp only at h2; omega
  · exact (hf.2 (by omega)).2
theorem nx_is (s : ByteArray) (p c : Nat) (h : p < s.size) (hc : c < 128) : (nx s p).1 = (c : Int) ↔ (s.get! p).toNat = c := by
  have hf := nx_first s p h
  by_cases hb : (s.get! p).toNat < 128
  · rw [hf.1 hb]; dsimp only; omega
  · have := (hf.2 (by omega)).1
    constructor <;> intro hh <;> omega
theorem dec_is (s : ByteArray) (p c : Nat) (h : p < s.size) (hc : c < 128) : (Utf8.decode s p).1 = c ↔ (s.get! p).toNat = c := by
  have hi := nx_is s p c h hc
  by_cases hr : (Utf8.decode s p).1 = 65533
  · have h1 : (nx s p).1 = -1 ∨ (nx s p).1 = 65533 := by
      rw [nx_dec s p h]; split
      · exact .inl rfl
      · exact .inr (by dsimp only; omega)
    constructor
    · intro hh; omega
    · intro hh; have := hi.2 hh; omega
  · rw [nx_neg s p h hr] at hi
    constructor
    · intro hh; exact hi.1 (by omega)
    · intro hh; have := hi.2 hh; omega
theorem ext_size (s : ByteArray) (a i : Nat) (h : i ≤ s.size) : (s.extract a i).size = i - a := by
  rw [ByteArray.size_extract]; omega
theorem ext_get (s : ByteArray) (a i j : Nat) (h : a + j < i) : (s.extract a i).get! j = s.get! (a + j) := by
  rw [← getD_get!', ← getD_get!', extract_data, List.getD_eq_getElem?_getD, List.getD_eq_getElem?_getD, List.getElem?_take, if_pos (by omega), List.getElem?_drop]
theorem ext_out (s : ByteArray) (a i j : Nat) (hi : i ≤ s.size) (h : i ≤ a + j) : (s.extract a i).get! j = 0 := by
  rw [← getD_get!', List.getD_eq_getElem?_getD, List.getElem?_eq_none (by rw [← size_eq, ext_size s a i hi]; omega)]
  rfl
theorem sg2_or (n v b1 : Nat) : sg2 n v b1 = (-1, 1) ∨ (sg2 n v b1).2 = 2 := by
  unfold sg2; (repeat' split) <;> first | exact .inl rfl | exact .inr rfl
theorem sg3_or (n v b1 b2 : Nat) : sg3 n v b1 b2 = (-1, 1) ∨ (sg3 n v b1 b2).2 = 3 := by
  unfold sg3; (repeat' split) <;> first | exact .inl rfl | exact .inr rfl
theorem sg4_or (n v b1 b2 b3 : Nat) : sg4 n v b1 b2 b3 = (-1, 1) ∨ (sg4 n v b1 b2 b3).2 = 4 := by
  unfold sg4; (repeat' split) <;> first | exact .inl rfl | exact .inr rfl
/-- A sign that ends ahead of a cut is the same with the cut. -/
theorem nx_cut (n m b0 b1 b2 b3 c1 c2 c3 : Nat) (hm : 0 < m) (hn : m ≤ n) (h : (nxN n b0 b1 b2 b3).2 ≤ m) (h0 : b0 < 256) (l1 : b1 < 256) (l2 : b2 < 256) (l3 : b3 < 256)
    (e1 : 1 < m → c1 = b1) (e2 : 2 < m → c2 = b2) (e3 : 3 < m → c3 = b3) (k1 : m ≤ 1 → c1 = 0) (k2 : m ≤ 2 → c2 = 0) (k3 : m ≤ 3 → c3 = 0) : nxN m b0 c1 c2 c3 = nxN n b0 b1 b2 b3 := by
  have j1 : c1 < 256 := by omega
  have j2 : c2 < 256 := by omega
  have j3 : c3 < 256 := by omega
  by_cases c1' : b0 < 128
  · rw [nx_ascii _ _ _ _ _ hm c1', nx_ascii _ _ _ _ _ (by omega) c1']
  by_cases c2' : b0 < 192
  · rw [nx_bad _ _ _ _ _ hm (by omega) (.inl c2'), nx_bad _ _ _ _ _ (by omega) (by omega) (.inl c2')]
  by_cases c3' : b0 < 224
  · rw [nx_two _ _ _ _ _ (by omega) (by omega) c3' l1] at h
    rw [nx_two _ _ _ _ _ hm (by omega) c3' j1, nx_two _ _ _ _ _ (by omega) (by omega) c3' l1]
    by_cases q : 1 < m
    · rw [e1 q]; unfold sg2; rw [if_neg (show ¬ m < 2 by omega), if_neg (show ¬ n < 2 by omega)]
    · rcases sg2_or n (b0 % 32) b1 with e | e
      · rw [e]; unfold sg2; rw [if_pos (show m < 2 by omega)]
      · omega
  by_cases c4' : b0 < 240
  · rw [nx_three _ _ _ _ _ (by omega) (by omega) c4' l1 l2] at h
    rw [nx_three _ _ _ _ _ hm (by omega) c4' j1 j2, nx_three _ _ _ _ _ (by omega) (by omega) c4' l1 l2]
    by_cases q : 2 < m
    · rw [e1 (by omega), e2 q]; unfold sg3; rw [if_neg (show ¬ m < 3 by omega), if_neg (show ¬ n < 3 by omega)]
    · rcases sg3_or n (b0 % 16) b1 b2 with e | e
      · rw [e]; unfold sg3; rw [if_pos (show m < 3 by omega)]
      · omega
  by_cases c5' : b0 < 248
  · rw [nx_four _ _ _ _ _ (by omega) (by omega) c5' l1 l2 l3] at h
    rw [nx_four _ _ _ _ _ hm (by omega) c5' j1 j2 j3, nx_four _ _ _ _ _ (by omega) (by omega) c5' l1 l2 l3]
    by_cases q : 3 < m
    · rw [e1 (by omega), e2 (by omega), e3 q]; unfold sg4; rw [if_neg (show ¬ m < 4 by omega), if_neg (show ¬ n < 4 by omega)]
    · rcases sg4_or n (b0 % 8) b1 b2 b3 with e | e
      · rw [e]; unfold sg4; rw [if_pos (show m < 4 by omega)]
      · omega
  · rw [nx_bad _ _ _ _ _ hm (by omega) (.inr (by omega)), nx_bad _ _ _ _ _ (by omega) (by omega) (.inr (by omega))]
theorem nx_ext (s : ByteArray) (a i p : Nat) (hi : i ≤ s.size) (hp : a + p + (nx s (a + p)).2 ≤ i) (hlt : a + p < i) : nx (s.extract a i) p = nx s (a + p) := by
  have hg : ∀ k, a + (p + k) < i → ((s.extract a i).get! (p + k)).toNat = (s.get! (a + p + k)).toNat := fun k hk => by rw [ext_get s a i _ hk, ← Nat.add_assoc]
  have ho : ∀ k, i ≤ a + (p + k) → ((s.extract a i).get! (p + k)).toNat = 0 := fun k hk => by rw [ext_out s a i _ hi hk]; rfl
  have h0 : ((s.extract a i).get! p).toNat = (s.get! (a + p)).toNat := hg 0 hlt
  unfold nx at hp ⊢
  rw [ext_size s a i hi, h0]
  exact nx_cut _ _ _ _ _ _ _ _ _ (by omega) (by omega) (by omega) (s.get! (a + p)).toNat_lt (s.get! (a + p + 1)).toNat_lt (s.get! (a + p + 2)).toNat_lt (s.get! (a + p + 3)).toNat_lt
    (fun q => hg 1 (by omega)) (fun q => hg 2 (by omega)) (fun q => hg 3 (by omega)) (fun q => ho 1 (by omega)) (fun q => ho 2 (by omega)) (fun q => ho 3 (by omega))

/-- From a over n whole signs one comes to p. -/
inductive Reach (s : ByteArray) (a : Nat) : Nat → Nat → Prop
  | here : Reach s a a 0
  | step {p n : Nat} : Reach s a p n → p < s.size → Reach s a (p + (nx s p).2) (n + 1)
theorem Reach.le {s : ByteArray} {a p n : Nat} (h : Reach s a p n) : a ≤ p ∧ (a ≤ s.size → p ≤ s.size) ∧ n ≤ p - a := by
  induction h with
  | here => exact ⟨Nat.le_refl _, id, Nat.zero_le _⟩
  | step h hlt ih =>
    have h1 := nx_le s _ hlt
    have h2 := nx_pos s _ hlt
    refine ⟨by omega, fun _ => h1, by omega⟩
theorem Reach.steps {s : ByteArray} {a p n : Nat} (h : Reach s a p n) : ∀ i f, p ≤ i → i ≤ s.size → i - a ≤ f → ∃ g, i - p ≤ g ∧ cntF (s.extract a i) f 0 = n + cntF (s.extract a i) g (p - a) := by
  induction h with
  | here => intro i f _ _ hf; exact ⟨f, hf, by rw [Nat.sub_self, Nat.zero_add]⟩
  | @step p n h hlt ih =>
    intro i f hpi hi hf
    have hw := nx_pos s p hlt
    have hle := h.le.1
    obtain ⟨g, hg, he⟩ := ih i f (by omega) hi hf
    obtain ⟨g', rfl⟩ : ∃ g', g = g' + 1 := ⟨g - 1, by omega⟩
    have hnx : nx (s.extract a i) (p - a) = nx s p := by
      have := nx_ext s a i (p - a) hi (by rw [show a + (p - a) = p from by omega]; exact hpi) (by omega)
      rw [this, show a + (p - a) = p from by omega]
    refine ⟨g', by omega, ?_⟩
    rw [he, cntF_step _ _ _ (by rw [ext_size s a i hi]; omega), hnx, show p + (nx s p).2 - a = p - a + (nx s p).2 from by omega]
    omega
/-- In so many steps the bytes between are gone through. -/
theorem Reach.cnt {s : ByteArray} {a p n : Nat} (h : Reach s a p n) (hp : p ≤ s.size) : cnt (s.extract a p) = n := by
  obtain ⟨g, _, he⟩ := h.steps p (p - a) (Nat.le_refl _) hp (Nat.le_refl _)
  unfold Sg.cnt
  rw [ext_size s a p hp, he, cntF_end _ _ _ (by rw [ext_size s a p hp]; omega)]
  rfl
/-- Behind bytes that do not begin with a line feed nothing is other. -/
theorem ends_front (a b : ByteArray) (hb : (b.get! 0).toNat ≠ 10) (p : Nat) (h : p < a.size) : ends (a ++ b) p ↔ ends a p := by
  unfold ends
  rw [app_size, get_l a b p h]
  by_cases h1 : p + 1 < a.size
  · rw [get_l a b (p + 1) h1]
    omega
  · have : p + 1 = a.size + 0 := by omega
    rw [this, get_r]
    omega
theorem stN_app (a b : ByteArray) (hb : (b.get! 0).toNat ≠ 10) : ∀ k, k ≤ a.size → stN (a ++ b) k = stN a k
  | 0, _ => rfl
  | k + 1, h => by
    have h1 := ends_front a b hb k (by omega)
    rw [stN, stN, stN_app a b hb k (by omega)]
    by_cases hc : ends a k
    · rw [if_pos hc, if_pos (h1.2 hc)]
    · rw [if_neg hc, if_neg (fun x => hc (h1.1 x))]
theorem ends_back (a b : ByteArray) (p : Nat) : ends (a ++ b) (a.size + p) ↔ ends b p := by
  unfold ends
  rw [app_size, Nat.add_assoc, get_r, get_r]
  omega
/-- What a piece behind adds. -/
def adds (b : ByteArray) : Nat → Nat
  | 0 => 0
  | k + 1 => adds b k + if ends b k then 1 else 0
theorem stN_adds (a b : ByteArray) (hb : (b.get! 0).toNat ≠ 10) : ∀ k, (stN (a ++ b) (a.size + k)).length = (stN a a.size).length + adds b k
  | 0 => by rw [Nat.add_zero, stN_app a b hb _ (Nat.le_refl _)]; rfl
  | k + 1 => by
    have h1 := ends_back a b k
    rw [← Nat.add_assoc, stN, List.length_append, stN_adds a b hb k, adds]
    by_cases hc : ends b k
    · rw [if_pos hc, if_pos (h1.2 hc)]; rfl
    · rw [if_neg hc, if_neg (fun x => hc (h1.1 x))]; rfl
theorem st_adds (a b : ByteArray) (hb : (b.get! 0).toNat ≠ 10) : (st (a ++ b)).length = (st a).length + adds b b.size := by
  unfold st; rw [app_size, stN_adds a b hb]
end Go.Proofs.YtdngcihjfbmbpaaDoor.Sg
