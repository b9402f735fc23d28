/- Plain facts on texts of whole signs: what is written of a sign is read as it; bytes behind such a text have their bad places and their steps as they have alone (no program text). -/
import Derived.Test.YtdngcihjfbmbpaaDoorSteps
namespace Go.Proofs.YtdngcihjfbmbpaaDoor.Sg
open Go.Lib

theorem app_size (a b : ByteArray) : (a ++ b).size = a.size + b.size := ByteArray.size_append
theorem app_list (a b : ByteArray) : (a ++ b).data.toList = a.data.toList ++ b.data.toList := by simp
theorem get_l (a b : ByteArray) (i : Nat) (h : i < a.size) : (a ++ b).get! i = a.get! i := by
  rw [← getD_get!', ← getD_get!', app_list, List.getD_eq_getElem?_getD, List.getElem?_append_left (by rw [← size_eq]; exact h), ← List.getD_eq_getElem?_getD]
theorem get_r (a b : ByteArray) (i : Nat) : (a ++ b).get! (a.size + i) = b.get! i := by
  rw [← getD_get!', ← getD_get!', app_list, List.getD_eq_getElem?_getD, List.getElem?_append_right (by rw [← size_eq]; omega), ← size_eq, Nat.add_sub_cancel_left, ← List.getD_eq_getElem?_getD]
theorem nx_app (a b : ByteArray) (i : Nat) : nx (a ++ b) (a.size + i) = nx b i := by
  unfold nx
  rw [app_size, Nat.add_assoc, Nat.add_assoc, Nat.add_assoc, get_r, get_r, get_r, get_r, show a.size + b.size - (a.size + i) = b.size - i from by omega]

theorem get_at (l : List UInt8) (i : Nat) : (⟨l.toArray⟩ : ByteArray).get! i = l.getD i 0 := by rw [← getD_get!']
theorem size_at (l : List UInt8) : (⟨l.toArray⟩ : ByteArray).size = l.length := by simp [ByteArray.size]

/-- The sign that is written: itself, or FFFD where it is none. -/
def sgn (r : Int) : Nat := if Utf8.valid r then r.toNat else 65533
theorem sgn_bd (r : Int) : sgn r < 55296 ∨ (57344 ≤ sgn r ∧ sgn r ≤ 1114111) := by
  unfold sgn
  split
  · rename_i h
    simp [Utf8.valid] at h
    omega
  · omega
theorem sgn_valid {r : Int} (h : Utf8.valid r = true) : (sgn r : Int) = r := by
  unfold sgn
  rw [if_pos h]
  simp [Utf8.valid] at h
  omega
def enc1 (c : Nat) : List UInt8 := [UInt8.ofNat c]
def enc2 (c : Nat) : List UInt8 := [UInt8.ofNat (192 + c / 64), UInt8.ofNat (128 + c % 64)]
def enc3 (c : Nat) : List UInt8 := [UInt8.ofNat (224 + c / 4096), UInt8.ofNat (128 + c / 64 % 64), UInt8.ofNat (128 + c % 64)]
def enc4 (c : Nat) : List UInt8 := [UInt8.ofNat (240 + c / 262144), UInt8.ofNat (128 + c / 4096 % 64), UInt8.ofNat (128 + c / 64 % 64), UInt8.ofNat (128 + c % 64)]
/-- A sign's bytes. -/
def encL (c : Nat) : List UInt8 := if c < 128 then enc1 c else if c < 2048 then enc2 c else if c < 65536 then enc3 c else enc4 c
theorem encode_eq (r : Int) : Utf8.encode r = ⟨(encL (sgn r)).toArray⟩ := by
  have h : Utf8.encode r = (if sgn r < 128 then ⟨(enc1 (sgn r)).toArray⟩ else if sgn r < 2048 then ⟨(enc2 (sgn r)).toArray⟩ else if sgn r < 65536 then ⟨(enc3 (sgn r)).toArray⟩ else ⟨(enc4 (sgn r)).toArray⟩) := rfl
  rw [h]
  unfold encL
  by_cases c1 : sgn r < 128
  · rw [if_pos c1, if_pos c1]
  by_cases c2 : sgn r < 2048
  · rw [if_neg c1, if_pos c2, if_neg c1, if_pos c2]
  by_cases c3 : sgn r < 65536
  · rw [if_neg c1, if_neg c2, if_pos c3, if_neg c1, if_neg c2, if_pos c3]
  · rw [if_neg c1, if_neg c2, if_neg c3, if_neg c1, if_neg c2, if_neg c3]
theorem byte_of (n : Nat) (h : n < 256) : (UInt8.ofNat n).toNat = n := by simp; omega

theorem nx_enc (r : Int) (b : ByteArray) : nx (Utf8.encode r ++ b) 0 = ((sgn r : Int), (encL (sgn r)).length) := by
  have hb := sgn_bd r
  rw [encode_eq]
  generalize sgn r = c at hb
  have hlt : ∀ k, (((⟨(encL c).toArray⟩ : ByteArray) ++ b).get! k).toNat < 256 := fun k => UInt8.toNat_lt _
  have hg : ∀ k, k < (encL c).length → ((⟨(encL c).toArray⟩ : ByteArray) ++ b).get! k = (encL c).getD k 0 := fun k hk => by
    rw [get_l _ _ _ (by rw [size_at]; exact hk), get_at]
  unfold nx
  rw [app_size, size_at, Nat.sub_zero, Nat.zero_add, Nat.zero_add, Nat.zero_add]
  have l1 := hlt 1
  have l2 := hlt 2
  have l3 := hlt 3
  clear hlt
  by_cases c1 : c < 128
  · have e : encL c = enc1 c := by unfold encL; rw [if_pos c1]
    rw [e] at hg l1 l2 l3 ⊢
    rw [hg 0 (by simp [enc1])]
    show nxN _ (UInt8.ofNat c).toNat _ _ _ = _
    rw [byte_of _ (by omega), nx_ascii _ _ _ _ _ (by simp [enc1]; omega) c1]
    rfl
  by_cases c2 : c < 2048
  · have e : encL c = enc2 c := by unfold encL; rw [if_neg c1, if_pos c2]
    rw [e] at hg l1 l2 l3 ⊢
    rw [hg 0 (by simp [enc2]), hg 1 (by simp [enc2])]
    show nxN _ (UInt8.ofNat (192 + c / 64)).toNat (UInt8.ofNat (128 + c % 64)).toNat _ _ = _
    rw [byte_of _ (by omega), byte_of _ (by omega), nx_two _ _ _ _ _ (by simp [enc2]; omega) (by omega) (by omega) (by omega)]
    unfold sg2
    rw [if_neg (by simp [enc2]), if_neg (by omega), show (192 + c / 64) % 32 * 64 + (128 + c % 64) % 64 = c from by omega, if_neg (by omega)]
    rfl
  by_cases c3 : c < 65536
  · have e : encL c = enc3 c := by unfold encL; rw [if_neg c1, if_neg c2, if_pos c3]
    rw [e] at hg l1 l2 l3 ⊢
    rw [hg 0 (by simp [enc3]), hg 1 (by simp [enc3]), hg 2 (by simp [enc3])]
    show nxN _ (UInt8.ofNat (224 + c / 4096)).toNat (UInt8.ofNat (128 + c / 64 % 64)).toNat (UInt8.ofNat (128 + c % 64)).toNat _ = _
    rw [byte_of _ (by omega), byte_of _ (by omega), byte_of _ (by omega), nx_three _ _ _ _ _ (by simp [enc3]; omega) (by omega) (by omega) (by omega) (by omega)]
    unfold sg3
    rw [if_neg (by simp [enc3]), if_neg (by omega), if_neg (by omega), show ((224 + c / 4096) % 16 * 64 + (128 + c / 64 % 64) % 64) * 64 + (128 + c % 64) % 64 = c from by omega, if_neg (by omega)]
    rfl
  · have e : encL c = enc4 c := by unfold encL; rw [if_neg c1, if_neg c2, if_neg c3]
    rw [e] at hg l1 l2 l3 ⊢
    rw [hg 0 (by simp [enc4]), hg 1 (by simp [enc4]), hg 2 (by simp [enc4]), hg 3 (by simp [enc4])]
    show nxN _ (UInt8.ofNat (240 + c / 262144)).toNat (UInt8.ofNat (128 + c / 4096 % 64)).toNat (UInt8.ofNat (128 + c / 64 % 64)).toNat (UInt8.ofNat (128 + c % 64)).toNat = _
    rw [byte_of _ (by omega), byte_of _ (by omega), byte_of _ (by omega), byte_of _ (by omega), nx_four _ _ _ _ _ (by simp [enc4]; omega) (by omega) (by omega) (by omega) (by omega) (by omega)]
    unfold sg4
    rw [if_neg (by simp [enc4]), if_neg (by omega), if_neg (by omega), if_neg (by omega), show (((240 + c / 262144) % 8 * 64 + (128 + c / 4096 % 64) % 64) * 64 + (128 + c / 64 % 64) % 64) * 64 + (128 + c % 64) % 64 = c from by omega, if_neg (by omega)]
    rfl
theorem encL_len (c : Nat) : 1 ≤ (encL c).length ∧ (encL c).length ≤ 4 := by
  unfold encL
  (repeat' split) <;> simp [enc1, enc2, enc3, enc4]
theorem encode_size (r : Int) : (Utf8.encode r).size = (encL (sgn r)).length := by rw [encode_eq, size_at]

/-- The text of these signs. -/
def text : List Int → ByteArray
  | [] => ⟨#[]⟩
  | r :: l => Utf8.encode r ++ text l
theorem ba_nil (a : ByteArray) : (⟨#[]⟩ : ByteArray) ++ a = a := by
  cases a; simp [ByteArray.ext_iff]
theorem ba_nil_r (a : ByteArray) : a ++ (⟨#[]⟩ : ByteArray) = a := by
  cases a; simp [ByteArray.ext_iff]
theorem text_size (l : List Int) : l.length ≤ (text l).size ∧ (text l).size ≤ 4 * l.length := by
  induction l with
  | nil => exact ⟨Nat.le_refl _, Nat.le_refl _⟩
  | cons r l ih =>
    have := encL_len (sgn r)
    rw [text, app_size, encode_size, List.length_cons]
    omega
theorem text_snoc (l : List Int) (r : Int) : text (l ++ [r]) = text l ++ Utf8.encode r := by
  induction l with
  | nil =>
    show Utf8.encode r ++ (⟨#[]⟩ : ByteArray) = (⟨#[]⟩ : ByteArray) ++ Utf8.encode r
    rw [ba_nil, ba_nil_r]
  | cons x l ih => rw [List.cons_append, text, ih, text, ByteArray.append_assoc]

/-- Through a text of whole signs that stands behind pre and ahead of b: no place is bad; each sign is a step. -/
theorem through (l : List Int) : ∀ (pre b : ByteArray) (f : Nat), (pre ++ (text l ++ b)).size ≤ pre.size + f →
    badF (pre ++ (text l ++ b)) f pre.size = badF (pre ++ (text l ++ b)) f (pre.size + (text l).size) ∧
    cntF (pre ++ (text l ++ b)) f pre.size = l.length + cntF (pre ++ (text l ++ b)) f (pre.size + (text l).size) := by
  induction l with
  | nil =>
    intro pre b f _
    rw [show text [] = ⟨#[]⟩ from rfl, show (⟨#[]⟩ : ByteArray).size = 0 from rfl, Nat.add_zero, List.length_nil, Nat.zero_add]
    exact ⟨rfl, rfl⟩
  | cons r l ih =>
    intro pre b f hf
    have hn : nx (pre ++ (text (r :: l) ++ b)) pre.size = ((sgn r : Int), (encL (sgn r)).length) := by
      have := nx_app pre (text (r :: l) ++ b) 0
      rw [Nat.add_zero] at this
      rw [this, text, ByteArray.append_assoc, nx_enc]
    have hl := encL_len (sgn r)
    have hz : (pre ++ (text (r :: l) ++ b)).size = pre.size + ((encL (sgn r)).length + (text l).size + b.size) := by
      rw [app_size, app_size, text, app_size, encode_size]
    obtain ⟨g, rfl⟩ : ∃ g, f = g + 1 := ⟨f - 1, by omega⟩
    have hlt : pre.size < (pre ++ (text (r :: l) ++ b)).size := by omega
    have ih2 := ih (pre ++ Utf8.encode r) b g
    have hs : pre ++ Utf8.encode r ++ (text l ++ b) = pre ++ (text (r :: l) ++ b) := by
      rw [text]; simp only [ByteArray.append_assoc]
    rw [hs, app_size pre (Utf8.encode r), encode_size] at ih2
    have ih3 := ih2 (by omega)
    rw [badF_step _ _ _ hlt, cntF_step _ _ _ hlt, hn, if_neg (by simp), List.nil_append, ih3.1, ih3.2]
    have hp : pre.size + (text (r :: l)).size = pre.size + (encL (sgn r)).length + (text l).size := by rw [text, app_size, encode_size]; omega
    rw [hp]
    constructor
    · exact badF_fuel _ _ _ _ (by omega) (by omega)
    · rw [cntF_fuel _ (g + 1) g _ (by omega) (by omega), List.length_cons]
      omega
theorem badF_app (a b : ByteArray) : ∀ f p, badF (a ++ b) f (a.size + p) = (badF b f p).map (a.size + ·)
  | 0, _ => rfl
  | f + 1, p => by
    by_cases h : p < b.size
    · rw [badF_step _ _ _ h, badF_step _ _ _ (by rw [app_size]; omega), nx_app, Nat.add_assoc, badF_app a b f]
      split <;> simp
    · rw [badF_end _ _ _ h, badF_end _ _ _ (by rw [app_size]; omega)]; rfl
theorem cntF_app (a b : ByteArray) : ∀ f p, cntF (a ++ b) f (a.size + p) = cntF b f p
  | 0, _ => rfl
  | f + 1, p => by
    by_cases h : p < b.size
    · rw [cntF_step _ _ _ h, cntF_step _ _ _ (by rw [app_size]; omega), nx_app, Nat.add_assoc, cntF_app a b f]
    · rw [cntF_end _ _ _ h, cntF_end _ _ _ (by rw [app_size]; omega)]
/-- Bytes behind a text of whole signs have their bad places, and as many steps more as the text has signs. -/
theorem behind (l : List Int) (b : ByteArray) : bad (text l ++ b) = (bad b).map ((text l).size + ·) ∧ cnt (text l ++ b) = l.length + cnt b := by
  have h := through l ⟨#[]⟩ b (text l ++ b).size (by rw [ba_nil]; omega)
  rw [ba_nil] at h
  simp only [show (⟨#[]⟩ : ByteArray).size = 0 from rfl, Nat.zero_add] at h
  have e1 := badF_app (text l) b (text l ++ b).size 0
  have e2 := cntF_app (text l) b (text l ++ b).size 0
  rw [Nat.add_zero] at e1 e2
  unfold bad cnt
  rw [h.1, h.2, e1, e2, badF_fuel b (text l ++ b).size b.size 0 (by rw [app_size]; omega) (by omega), cntF_fuel b (text l ++ b).size b.size 0 (by rw [app_size]; omega) (by omega)]
  exact ⟨rfl, rfl⟩
theorem text_alone (l : List Int) : bad (text l) = [] ∧ cnt (text l) = l.length := by
  have h := behind l ⟨#[]⟩
  rw [ba_nil_r] at h
  exact ⟨h.1, h.2⟩
end Go.Proofs.YtdngcihjfbmbpaaDoor.Sg
