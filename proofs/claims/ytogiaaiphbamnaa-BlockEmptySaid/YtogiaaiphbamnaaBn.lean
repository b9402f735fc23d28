/- package block, lists of lines: ownOfEach, upToLast, indent, contents. -/
import Derived.Test.YtogiaaiphbamnaaBm
import Derived.Test.YtogiaaiphbamnaaStw
import Derived.Deep.QuietTactic
import Derived.BigQuiet
import Derived.Lib.MinMax
namespace Go.Proofs.Ytogiaaiphbamnaa
open Go.RowKit
open Go.Proofs.Ytogiaaiphbamnaa.Sq
open Go.Proofs.Ytogiaaiphbamnaa.Bk
set_option linter.unusedVariables false

namespace Bk
/-- Texts as lists of bytes. -/
def tol (s : ByteArray) : List UInt8 := s.data.toList
def ownB (s : ByteArray) : ByteArray := ⟨(ownL (tol s)).toArray⟩
def stripB (n : Nat) (s : ByteArray) : ByteArray := ⟨(strip n (tol s)).toArray⟩
theorem tol_own (s : ByteArray) : tol (ownB s) = ownL (tol s) := by simp [tol, ownB]
theorem tol_strip (n : Nat) (s : ByteArray) : tol (stripB n s) = strip n (tol s) := by simp [tol, stripB]
theorem size_tol (s : ByteArray) : s.size = (tol s).length := Lib.size_eq s
theorem own_size (s : ByteArray) : (ownB s).size ≤ s.size := by rw [size_tol, tol_own, size_tol]; exact own_len _
theorem strip_size (n : Nat) (s : ByteArray) : (stripB n s).size ≤ s.size := by rw [size_tol, tol_strip, size_tol]; exact strip_len _ _
end Bk
set_option maxHeartbeats 2000000 in
set_option maxRecDepth 100000 in
theorem bOwns (v : Value) (l : List ByteArray) (w : World) (h : Reads encS w v l) (hz : ∀ s ∈ l, s.size ≤ maxLen) (hn : l.length ≤ 1000000) :
    Calls Try.prog 13 #[v] w fun e w' => ∃ v', e = .returned v' ∧ Reads encS w' v' (l.map ownB) ∧ Below w.heap.size w w' := by
  obtain ⟨a, cap, rfl⟩ := h.shape
  have hmk := make_ms l.length w hn
  have hrow := row_ms l.length w
  rw [← laid_zero ownB l] at hrow
  have hb0 := below_alloc w (.cells (ms l.length) 9)
  have H := Lib.hid h
  have HR0 := Lib.hid hrow
  have HZ := Lib.hid hz
  clear h hrow hz
  generalize ms l.length = C at *
  go_enter Try.func13, Try.ntmps13
  go_wp2_with fail
  obtain ⟨w0, hw0⟩ : ∃ w0, w0 = w.alloc (.cells C 9) := ⟨_, rfl⟩
  rw [← hw0] at hb0 HR0 hmk ⊢
  clear hw0
  go_loopw [11] (fun kv wr => ∃ k : Nat, kv = .int .i64 k ∧ k ≤ l.length ∧ Hid (Row wr w.heap.size (laid ownB l k)) ∧ Below w.heap.size w wr) (fun kv _ => l.length - (intOf kv).toNat)
  case atStart => exact ⟨0, rfl, Nat.zero_le _, HR0, hb0⟩
  case round =>
    obtain ⟨k, rfl, hk, HR, hb⟩ := hrel
    by_cases hlt : k < l.length
    · have hi : (k : Int) < (l.length : Int) := by omega
      have hx := List.getElem?_eq_getElem hlt
      obtain ⟨x, hxx⟩ : ∃ x, l[k] = x := ⟨_, rfl⟩
      rw [hxx] at hx
      obtain ⟨b, off, rfl, hc⟩ := strs_at (H.out.below hb) k x hx
      have HC := Lib.hid (show Calls Try.prog 19 #[.string x] wr fun e w' => e = .returned (.string (ownB x)) ∧ Below wr.heap.size wr w' from bOwn x wr (HZ.out x (List.mem_of_getElem? hx)))
      have HX := Lib.hid hx
      clear hx hxx
      go_wp2_with fail
      refine HC.out.mono ?_
      rintro e w1 ⟨rfl, hb1⟩
      have hR1 := HR.out.below hb1
      have hlen := laid_len ownB l k hk
      obtain ⟨y, hy⟩ : ∃ y, (laid ownB l k)[k]? = some y := ⟨_, List.getElem?_eq_getElem (by rw [hlen]; exact hlt)⟩
      obtain ⟨hc1, hf1⟩ := hR1 k y hy
      have hS := hR1.set (k := k) (by rw [hlen]; exact hlt) (ownB x)
      rw [laid_set ownB l k x HX.out] at hS
      have HS := Lib.hid hS
      have hb2 := (hb.trans (hb1.mono hb.size)).setCell (p := ⟨w.heap.size, k, none⟩) (Nat.le_refl _) (.string (ownB x))
      clear hR1 HR hS hlen hb1 hc hy
      generalize ownB x = B at *
      go_wp2_with fail
      go_roundw
      case rel => exact ⟨k + 1, by go_num, by omega, HS, hb2⟩
      case measure => simp [intOf]; omega
    · obtain rfl : k = l.length := by omega
      have hne : ¬ ((l.length : Int) < (l.length : Int)) := by omega
      have hr := HR.out
      rw [laid_all] at hr
      have hrd := hr.reads (by rw [List.length_map]; simp only [maxLen]; omega)
      rw [List.length_map] at hrd
      have HD := Lib.hid hrd
      clear hr hrd HR
      go_wp2_with fail
      go_ret
      exact ⟨_, rfl, HD.out, hb⟩
theorem tol_at {l : List ByteArray} {k : Nat} {x : ByteArray} (h : l[k]? = some x) : (l.map tol)[k]? = some (tol x) := by rw [List.getElem?_map, h]; rfl
set_option maxHeartbeats 2000000 in
set_option maxRecDepth 100000 in
theorem bUp (v : Value) (l : List ByteArray) (w : World) (h : Reads encS w v l) (hz : ∀ s ∈ l, s.size ≤ maxLen) :
    Calls Try.prog 14 #[v] w fun e w' => e = .returned (.int .i64 ((core (l.map tol)).length : Nat)) ∧ Below w.heap.size w w' := by
  obtain ⟨a, cap, rfl⟩ := h.shape
  have hm := h.size_le
  unfold maxLen at hm
  have H := Lib.hid h
  have HZ := Lib.hid hz
  clear h hz
  go_enter Try.func14, Try.ntmps14
  go_wp2_with fail
  go_loopw [3] (fun kv wr => ∃ k : Nat, kv = .int .i64 k ∧ k ≤ l.length ∧ Hid (core ((l.map tol).take k) = core (l.map tol)) ∧ Below w.heap.size w wr) (fun kv _ => (intOf kv).toNat)
  case atStart => exact ⟨l.length, rfl, Nat.le_refl _, Lib.hid (by rw [List.take_of_length_le (by rw [List.length_map]; exact Nat.le_refl _)]), Below.refl _ w⟩
  case round =>
    obtain ⟨k, rfl, hk, HK, hb⟩ := hrel
    cases k with
    | zero =>
      have hres := HK.out
      rw [List.take_zero, core] at hres
      have h0 : (core (l.map tol)).length = 0 := by rw [← hres]; rfl
      have HR := Lib.hid h0
      have hn : decide ((0 : Int) < (0 : Int)) = false := rfl
      clear hres h0 HK
      go_wp2_with fail
      go_ret
      exact ⟨by rw [HR.out]; rfl, hb⟩
    | succ k =>
      have hi : (0 : Int) < ((k + 1 : Nat) : Int) := by omega
      have hx := List.getElem?_eq_getElem (show k < l.length by omega)
      obtain ⟨x, hxx⟩ : ∃ x, l[k] = x := ⟨_, rfl⟩
      rw [hxx] at hx
      obtain ⟨b, off, rfl, hc⟩ := strs_at (H.out.below hb) k x hx
      have HC := Lib.hid (show Calls Try.prog 20 #[.string x] wr fun e w' => e = .returned (.bool (emptyL (tol x))) ∧ Below wr.heap.size wr w' from bEmpty x wr (HZ.out x (List.mem_of_getElem? hx)))
      have hw : IntKind.i64.wrap (((k + 1 : Nat) : Int) - 1) = (k : Int) := by rw [IntKind.wrap_i64]; omega
      have HB := Lib.hid (core_back (l.map tol) k (tol x) (tol_at hx))
      have HS := Lib.hid (core_stop (l.map tol) k (tol x) (tol_at hx))
      clear hx hxx
      cases he : emptyL (tol x) with
      | true =>
        rw [he] at HC
        have HK2 := Lib.hid ((HB.out he).symm.trans HK.out)
        clear HB HS HK he
        obtain ⟨K1, hK1⟩ : ∃ K1 : Nat, K1 = k + 1 := ⟨_, rfl⟩
        have HK1 := Lib.hid hK1
        rw [← hK1] at hi hw ⊢
        clear hK1
        go_wp2_with fail
        refine HC.out.mono ?_
        rintro e w1 ⟨rfl, hb1⟩
        have hb2 := hb.trans (hb1.mono hb.size)
        clear hc
        go_wp2_with fail
        go_roundw
        case rel => exact ⟨k, rfl, by omega, HK2, hb2⟩
        case measure => have := HK1.out; simp [intOf]; omega
      | false =>
        rw [he] at HC
        have hres := HK.out
        rw [HS.out he] at hres
        have h0 : (core (l.map tol)).length = k + 1 := by rw [← hres, List.length_take, List.length_map]; omega
        obtain ⟨K1, hK1⟩ : ∃ K1 : Nat, K1 = k + 1 := ⟨_, rfl⟩
        rw [← hK1] at h0 hi hw ⊢
        have HR := Lib.hid h0
        clear HB HS HK he h0 hres hK1
        go_wp2_with fail
        refine HC.out.mono ?_
        rintro e w1 ⟨rfl, hb1⟩
        have hb2 := hb.trans (hb1.mono hb.size)
        clear hc
        go_wp2_with fail
        go_ret
        exact ⟨by rw [HR.out]; rfl, hb2⟩
set_option maxHeartbeats 2000000 in
set_option maxRecDepth 100000 in
theorem bInd (v : Value) (l : List ByteArray) (w : World) (h : Reads encS w v l) (hz : ∀ s ∈ l, s.size ≤ maxLen) :
    Calls Try.prog 26 #[v] w fun e w' => e = .returned (.int .i64 (ind (l.map tol) : Nat)) ∧ Below w.heap.size w w' := by
  obtain ⟨a, cap, rfl⟩ := h.shape
  have hm := h.size_le
  unfold maxLen at hm
  have H := Lib.hid h
  have HZ := Lib.hid hz
  obtain ⟨R0, hR0⟩ : ∃ R0, ind (l.map tol) = R0 := ⟨_, rfl⟩
  have HR := Lib.hid hR0
  rw [hR0]
  clear h hz hR0
  go_enter Try.func26, Try.ntmps26
  go_wp2_with fail
  go_loopw [7] (fun kv wr => ∃ k : Nat, kv = .int .i64 k ∧ k ≤ l.length ∧ Hid (ind ((l.map tol).drop k) = R0) ∧ Below w.heap.size w wr) (fun kv _ => l.length - (intOf kv).toNat)
  case atStart => exact ⟨0, rfl, Nat.zero_le _, HR, Below.refl _ w⟩
  case round =>
    obtain ⟨k, rfl, hk, HK, hb⟩ := hrel
    by_cases hlt : k < l.length
    · have hi : (k : Int) < (l.length : Int) := by omega
      have hx := List.getElem?_eq_getElem hlt
      obtain ⟨x, hxx⟩ : ∃ x, l[k] = x := ⟨_, rfl⟩
      rw [hxx] at hx
      obtain ⟨b, off, rfl, hc⟩ := strs_at (H.out.below hb) k x hx
      have hzx := HZ.out x (List.mem_of_getElem? hx)
      have HC := Lib.hid (show Calls Try.prog 20 #[.string x] wr fun e w' => e = .returned (.bool (emptyL (tol x))) ∧ Below wr.heap.size wr w' from bEmpty x wr hzx)
      have hd := ind_drop (l.map tol) k (tol x) (tol_at hx)
      rw [HK.out] at hd
      clear hx hxx HK HR
      cases he : emptyL (tol x) with
      | true =>
        rw [he, if_pos rfl] at hd
        rw [he] at HC
        have HD := Lib.hid hd.symm
        clear hd he hzx
        go_wp2_with fail
        refine HC.out.mono ?_
        rintro e w1 ⟨rfl, hb1⟩
        have hb2 := hb.trans (hb1.mono hb.size)
        clear hc
        go_wp2_with fail
        go_roundw
        case rel => exact ⟨k + 1, by go_num, by omega, HD, hb2⟩
        case measure => simp [intOf]; omega
      | false =>
        rw [he, if_neg (by decide)] at hd
        rw [he] at HC
        subst hd
        have HS := Lib.hid (fun W => show Calls Try.prog 27 #[.string x] W fun e w' => e = .returned (.int .i64 (spaces (tol x) : Nat)) ∧ Below W.heap.size W w' from bSpaces x W hzx)
        clear he hzx
        go_wp2_with fail
        refine HC.out.mono ?_
        rintro e w1 ⟨rfl, hb1⟩
        have hb2 := hb.trans (hb1.mono hb.size)
        clear hc
        go_wp2_with fail
        refine (HS.out _).mono ?_
        rintro e w2 ⟨rfl, hb3⟩
        go_wp2_with fail
        go_ret
        exact ⟨rfl, hb2.trans (hb3.mono hb2.size)⟩
    · obtain rfl : k = l.length := by omega
      have hne : ¬ ((l.length : Int) < (l.length : Int)) := by omega
      have hres := HK.out
      rw [List.drop_of_length_le (by rw [List.length_map]; exact Nat.le_refl _), ind] at hres
      subst hres
      clear HK HR
      go_wp2_with fail
      go_ret
      exact ⟨rfl, hb⟩
theorem str_from (s : ByteArray) (n : Nat) (h : n ≤ s.size) : ∀ W : World, (Instr.slice 9 (.string s) (some (.int .i64 (n : Int))) none none).run Try.prog W = .ok (.string (s.extract n s.size)) W := by
  intro W
  rw [run_slice_string_l W 9 s Try.underlying9 .i64 n (by omega) (by omega)]
  simp
set_option maxHeartbeats 2000000 in
set_option maxRecDepth 100000 in
theorem bConts (v : Value) (l : List ByteArray) (w : World) (h : Reads encS w v l) (hz : ∀ s ∈ l, s.size ≤ maxLen) (hn : l.length ≤ 1000000) :
    Calls Try.prog 17 #[v] w fun e w' => ∃ v', e = .returned v' ∧ Reads encS w' v' (l.map (stripB (ind (l.map tol)))) ∧ Below w.heap.size w w' := by
  have HI := Lib.hid (bInd v l w h hz)
  obtain ⟨a, cap, rfl⟩ := h.shape
  obtain ⟨n, hnn⟩ : ∃ n, ind (l.map tol) = n := ⟨_, rfl⟩
  rw [hnn] at HI ⊢
  have H := Lib.hid h
  have HZ := Lib.hid hz
  clear h hz hnn
  go_enter Try.func17, Try.ntmps17
  go_wp2_with fail
  refine HI.out.mono ?_
  rintro e wa ⟨rfl, hba⟩
  have hmk := make_ms l.length wa hn
  have hrow := row_ms l.length wa
  rw [← laid_zero (stripB n) l] at hrow
  have hb0 := below_alloc wa (.cells (ms l.length) 9)
  have HR0 := Lib.hid hrow
  clear hrow HI
  generalize ms l.length = C at *
  go_wp2_with fail
  obtain ⟨w0, hw0⟩ : ∃ w0, w0 = wa.alloc (.cells C 9) := ⟨_, rfl⟩
  rw [← hw0] at hb0 HR0 hmk ⊢
  clear hw0
  go_loopw [14] (fun kv wr => ∃ k : Nat, kv = .int .i64 k ∧ k ≤ l.length ∧ Hid (Row wr wa.heap.size (laid (stripB n) l k)) ∧ Below wa.heap.size wa wr) (fun kv _ => l.length - (intOf kv).toNat)
  case atStart => exact ⟨0, rfl, Nat.zero_le _, HR0, hb0⟩
  case round =>
    obtain ⟨k, rfl, hk, HR, hb⟩ := hrel
    by_cases hlt : k < l.length
    · have hi : (k : Int) < (l.length : Int) := by omega
      have hx := List.getElem?_eq_getElem hlt
      obtain ⟨x, hxx⟩ : ∃ x, l[k] = x := ⟨_, rfl⟩
      rw [hxx] at hx
      obtain ⟨b, off, rfl, hc⟩ := strs_at ((H.out.below hba).below hb) k x hx
      have HC := Lib.hid (show Calls Try.prog 27 #[.string x] wr fun e w' => e = .returned (.int .i64 (spaces (tol x) : Nat)) ∧ Below wr.heap.size wr w' from bSpaces x wr (HZ.out x (List.mem_of_getElem? hx)))
      have HX := Lib.hid hx
      have hsl : spaces (tol x) ≤ x.size := by rw [size_tol]; exact spaces_le _
      obtain ⟨sp, hsp⟩ : ∃ sp, spaces (tol x) = sp := ⟨_, rfl⟩
      have hex : x.extract (min n sp) x.size = stripB n x := by
        refine ByteArray.ext ?_
        have h1 := Lib.extract_data x (min n sp) x.size
        rw [List.take_of_length_le (by rw [List.length_drop, ← Lib.size_eq]; exact Nat.le_refl _)] at h1
        have h2 : strip n (tol x) = x.data.toList.drop (min n sp) := by rw [strip_eq, hsp]; rfl
        show _ = (strip n (tol x)).toArray
        rw [h2, ← h1]
      rw [hsp] at HC hsl
      have hmin : min (n : Int) (sp : Int) = ((min n sp : Nat) : Int) := by omega
      have hcut := str_from x (min n sp) (by omega)
      rw [hex] at hcut
      generalize min n sp = m at *
      clear hx hxx hsp hex
      go_wp2_with fail
      refine HC.out.mono ?_
      rintro e w1 ⟨rfl, hb1⟩
      have hR1 := HR.out.below hb1
      have hlen := laid_len (stripB n) l k hk
      obtain ⟨y, hy⟩ : ∃ y, (laid (stripB n) l k)[k]? = some y := ⟨_, List.getElem?_eq_getElem (by rw [hlen]; exact hlt)⟩
      obtain ⟨hc1, hf1⟩ := hR1 k y hy
      have hS := hR1.set (k := k) (by rw [hlen]; exact hlt) (stripB n x)
      rw [laid_set (stripB n) l k x HX.out] at hS
      have HS := Lib.hid hS
      have hb2 := (hb.trans (hb1.mono hb.size)).setCell (p := ⟨wa.heap.size, k, none⟩) (Nat.le_refl _) (.string (stripB n x))
      clear hR1 HR hS hlen hb1 hc hy
      generalize stripB n x = B at *
      go_wp2_with fail
      go_roundw
      case rel => exact ⟨k + 1, by go_num, by omega, HS, hb2⟩
      case measure => simp [intOf]; omega
    · obtain rfl : k = l.length := by omega
      have hne : ¬ ((l.length : Int) < (l.length : Int)) := by omega
      have hr := HR.out
      rw [laid_all] at hr
      have hrd := hr.reads (by rw [List.length_map]; simp only [maxLen]; omega)
      rw [List.length_map] at hrd
      have HD := Lib.hid hrd
      clear hr hrd HR
      go_wp2_with fail
      go_ret
      exact ⟨_, rfl, HD.out, hba.trans (hb.mono hba.size)⟩
end Go.Proofs.Ytogiaaiphbamnaa
