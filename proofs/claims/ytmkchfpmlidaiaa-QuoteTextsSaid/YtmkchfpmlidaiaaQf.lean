/- The chapter's own words (correctorref7): single, double, Text. -/
import Derived.Test.YtmkchfpmlidaiaaQe
import Derived.Test.YtmkchfpmlidaiaaChF
namespace Go.Proofs.Ytmkchfpmlidaiaa
open Go.RowKit
open Go.Proofs.Ytmkchfpmlidaiaa.Sg
open Go.Proofs.Ytmkchfpmlidaiaa.Es
open Go.Proofs.Ytmkchfpmlidaiaa.Qo
set_option linter.unusedVariables false

/-- s[p:p+1]. -/
theorem str_cut1 (s : ByteArray) (p : Nat) (h : p < s.size) : ∃ c : ByteArray, (∀ W : World, (Instr.slice 9 (.string s) (some (.int .i64 (p : Int))) (some (.int .i64 ((p : Int) + 1))) none).run Try.prog W = .ok (.string c) W) ∧ c.data.toList = [s.get! p] ∧ c.size = 1 := by
  have h2 : (s.extract p (p + 1)).data.toList = [s.get! p] := by
    rw [ext_tol, show p + 1 - p = 1 by omega]
    have h3 : p < s.data.toList.length := by rw [← Lib.size_eq]; exact h
    rw [List.drop_eq_getElem_cons h3, List.take_succ_cons, List.take_zero, ← Lib.getD_get!', List.getD_eq_getElem?_getD, List.getElem?_eq_getElem h3]
    rfl
  refine ⟨s.extract p (p + 1), fun W => ?_, h2, by rw [Lib.size_eq, h2]; rfl⟩
  rw [run_slice_string W 9 s .i64 .i64 p (p + 1) Try.underlying9 (by omega) (by omega) (by omega)]
  simp
theorem q_drop (s : ByteArray) (p : Nat) (h : p < s.size) : s.data.toList.drop p = s.get! p :: s.data.toList.drop (p + 1) := by
  have h3 : p < s.data.toList.length := by rw [← Lib.size_eq]; exact h
  rw [List.drop_eq_getElem_cons h3, ← Lib.getD_get!', List.getD_eq_getElem?_getD, List.getElem?_eq_getElem h3]
  rfl
theorem drop_none (s : ByteArray) (p : Nat) (h : s.size ≤ p) : s.data.toList.drop p = [] := List.drop_of_length_le (by rw [← Lib.size_eq]; exact h)
theorem St1.next {L T : List UInt8} {en : Bool} {p q : Nat} {out c : ByteArray} (h : St1 L T en p out) (e : sgT (L.drop p) = (c.data.toList ++ (sgT (L.drop q)).1, (sgT (L.drop q)).2)) : St1 L T en q (out ++ c) := by
  obtain ⟨h1, h2⟩ := h
  rw [e] at h1 h2
  exact ⟨by rw [tol_app', List.append_assoc]; exact h1, h2⟩
theorem St1.last {L T : List UInt8} {en b : Bool} {p : Nat} {out : ByteArray} (h : St1 L T en p out) (e : sgT (L.drop p) = ([], b)) : ba T = out ∧ en = b := by
  obtain ⟨h1, h2⟩ := h
  rw [e] at h1 h2
  simp only [List.append_nil] at h1
  exact ⟨ba_of h1, h2.symm⟩
theorem St2.next {L T : List UInt8} {bs : List Nat} {en : Bool} {p q : Nat} {out c : ByteArray} {acc : List Nat} (h : St2 L T bs en p out acc) (e : dbT p (L.drop p) = (c.data.toList ++ (dbT q (L.drop q)).1, (dbT q (L.drop q)).2)) : St2 L T bs en q (out ++ c) acc := by
  obtain ⟨h1, h2, h3⟩ := h
  rw [e] at h1 h2 h3
  exact ⟨by rw [tol_app', List.append_assoc]; exact h1, h2, h3⟩
theorem St2.bad {L T : List UInt8} {bs : List Nat} {en : Bool} {p q : Nat} {out c : ByteArray} {acc : List Nat} (h : St2 L T bs en p out acc) (e : dbT p (L.drop p) = (c.data.toList ++ (dbT q (L.drop q)).1, p :: (dbT q (L.drop q)).2.1, (dbT q (L.drop q)).2.2)) : St2 L T bs en q (out ++ c) (acc ++ [p]) := by
  obtain ⟨h1, h2, h3⟩ := h
  rw [e] at h1 h2 h3
  exact ⟨by rw [tol_app', List.append_assoc]; exact h1, by rw [List.append_assoc]; exact h2, h3⟩
theorem St2.last {L T : List UInt8} {bs : List Nat} {en b : Bool} {p : Nat} {out : ByteArray} {acc : List Nat} (h : St2 L T bs en p out acc) (e : dbT p (L.drop p) = ([], [], b)) : ba T = out ∧ acc = bs ∧ en = b := by
  obtain ⟨h1, h2, h3⟩ := h
  rw [e] at h1 h2 h3
  simp only [List.append_nil] at h1 h2
  exact ⟨ba_of h1, h2, h3.symm⟩
theorem ne39 {c : UInt8} (h : ¬ c.toNat = 39) : c ≠ 39 := fun e => h (by rw [e]; rfl)
set_option maxHeartbeats 2000000 in
set_option maxRecDepth 100000 in
theorem qSingle (s : ByteArray) (w : World) (hs : s.size ≤ 100000) (h1 : 1 ≤ s.size) :
    Calls Try.prog 20 #[.string s] w fun e w' => e = .returned (.tuple #[.string (ba (sgT (s.data.toList.drop 1)).1), .bool (sgT (s.data.toList.drop 1)).2]) ∧ Below w.heap.size w w' := by
  obtain ⟨T, hT⟩ : ∃ T, (sgT (s.data.toList.drop 1)).1 = T := ⟨_, rfl⟩
  obtain ⟨en, hen⟩ : ∃ en, (sgT (s.data.toList.drop 1)).2 = en := ⟨_, rfl⟩
  have H0 := Lib.hid (show St1 s.data.toList T en 1 ⟨#[]⟩ from ⟨hT, hen⟩)
  rw [hT, hen]
  clear hT hen
  have e39 : (⟨#[39]⟩ : ByteArray).size = 1 := rfl
  go_enter Try.func20, Try.ntmps20
  go_wp2_with fail
  go_loopw [4, 5] (fun ov av wr => ∃ (p : Nat) (out : ByteArray), .string out = ov ∧ av = .int .i64 p ∧ 1 ≤ p ∧ p ≤ s.size ∧ out.size ≤ p ∧ Hid (St1 s.data.toList T en p out) ∧ wr = w) (fun _ av _ => s.size - (intOf av).toNat)
  case atStart => exact ⟨1, ⟨#[]⟩, rfl, rfl, Nat.le_refl _, h1, by decide, H0, rfl⟩
  case round =>
    obtain ⟨p, out, rfl, rfl, hp1, hpN, hoz, HS, rfl⟩ := hrel
    by_cases hlt : p < s.size
    · have hpi : (p : Int) < (s.size : Int) := by omega
      obtain ⟨c, hcut, hcl, hcz⟩ := str_cut1 s p hlt
      have hg : (s[p]'hlt) = s.get! p := Sc.get_el s p hlt
      have hdr := q_drop s p hlt
      have hcat : ¬ (9223372036854775807 < out.size + c.size) := by omega
      by_cases h39 : (s.get! p).toNat = 39
      · have g : (((s[p]'hlt).toNat : Int) != 39) = false := by rw [hg, h39]; rfl
        rw [Qo.u8_eq _ 39 h39] at hdr
        change s.data.toList.drop p = 39 :: _ at hdr
        by_cases hlt2 : p + 1 < s.size
        · have hg2 : (s[p + 1]'hlt2) = s.get! (p + 1) := Sc.get_el s (p + 1) hlt2
          have hd2 := q_drop s (p + 1) hlt2
          have hge : ¬ ((s.size : Int) ≤ (p : Int) + 1) := by omega
          have dge : decide ((s.size : Int) ≤ (p : Int) + 1) = false := decide_eq_false hge
          by_cases h2 : (s.get! (p + 1)).toNat = 39
          · have g2 : (((s[p + 1]'hlt2).toNat : Int) != 39) = false := by rw [hg2, h2]; rfl
            rw [Qo.u8_eq _ 39 h2] at hd2
            change s.data.toList.drop (p + 1) = 39 :: _ at hd2
            have hS2 := HS.out.next (q := p + 2) (c := ⟨#[39]⟩) (by rw [hdr, hd2, sgT_two]; rfl)
            have HS2 := Lib.hid hS2
            have hcat2 : ¬ (9223372036854775807 < out.size + (⟨#[39]⟩ : ByteArray).size) := by rw [e39]; omega
            clear hdr hd2 hg hg2 h39 h2 hS2 hcl hcut HS
            go_wp2_with fail
            go_roundw
            case rel => exact ⟨p + 2, out ++ ⟨#[39]⟩, rfl, by go_num, by omega, by omega, by rw [Sg.app_size, e39]; omega, HS2, trivial⟩
            case measure => simp [intOf]; omega
          · have g2 : (((s[p + 1]'hlt2).toNat : Int) != 39) = true := by rw [bne_iff_ne, hg2]; omega
            obtain ⟨hT, rfl⟩ := HS.out.last (b := true) (by rw [hdr, hd2, sgT_end _ _ (ne39 h2)])
            have HT := Lib.hid hT
            clear hdr hd2 hg hg2 h39 h2 hcl hcut HS hT
            go_wp2_with fail
            go_ret2
            exact ⟨by rw [HT.out]; rfl, Below.refl _ _⟩
        · have dge : decide ((s.size : Int) ≤ (p : Int) + 1) = true := decide_eq_true (by omega)
          obtain ⟨hT, rfl⟩ := HS.out.last (b := true) (by rw [hdr, drop_none s (p + 1) (by omega)]; rfl)
          have HT := Lib.hid hT
          clear hdr hg h39 hcl hcut HS hT
          go_wp2_with fail
          go_ret2
          exact ⟨by rw [HT.out]; rfl, Below.refl _ _⟩
      · have g : (((s[p]'hlt).toNat : Int) != 39) = true := by rw [bne_iff_ne, hg]; omega
        have hS2 := HS.out.next (q := p + 1) (c := c) (by rw [hdr, sgT_on _ _ (ne39 h39), hcl]; rfl)
        have HS2 := Lib.hid hS2
        clear hdr hg h39 hS2 hcl HS
        go_wp2_with fail
        go_roundw
        case rel => exact ⟨p + 1, out ++ c, rfl, by go_num, by omega, by omega, by rw [Sg.app_size]; omega, HS2, trivial⟩
        case measure => simp [intOf]; omega
    · obtain rfl : p = s.size := by omega
      obtain ⟨hT, rfl⟩ := HS.out.last (b := false) (by rw [drop_none s s.size (Nat.le_refl _)]; rfl)
      have HT := Lib.hid hT
      clear HS hT
      go_wp2_with fail
      go_ret2
      exact ⟨by rw [HT.out]; rfl, Below.refl _ _⟩
theorem ne34 {c : UInt8} (h : ¬ c.toNat = 34) : c ≠ 34 := fun e => h (by rw [e]; rfl)
theorem ne92 {c : UInt8} (h : ¬ c.toNat = 92) : c ≠ 92 := fun e => h (by rw [e]; rfl)
set_option maxHeartbeats 4000000 in
set_option maxRecDepth 100000 in
theorem qDouble (s : ByteArray) (w : World) (hs : s.size ≤ 100000) (h1 : 1 ≤ s.size) :
    Calls Try.prog 21 #[.string s] w (Told (dbT 1 (s.data.toList.drop 1)) w) := by
  have HN := Lib.hid (fun p W => refEscape (s.extract p s.size) W (show (s.extract p s.size).size ≤ maxLen by rw [ByteArray.size_extract]; unfold maxLen; omega))
  obtain ⟨T, hT⟩ : ∃ T, (dbT 1 (s.data.toList.drop 1)).1 = T := ⟨_, rfl⟩
  obtain ⟨bs, hbs⟩ : ∃ bs, (dbT 1 (s.data.toList.drop 1)).2.1 = bs := ⟨_, rfl⟩
  obtain ⟨en, hen⟩ : ∃ en, (dbT 1 (s.data.toList.drop 1)).2.2 = en := ⟨_, rfl⟩
  have H0 := Lib.hid (show St2 s.data.toList T bs en 1 ⟨#[]⟩ [] from ⟨hT, hbs, hen⟩)
  rw [show dbT 1 (s.data.toList.drop 1) = (T, bs, en) from by rw [← hT, ← hbs, ← hen]]
  clear hT hbs hen
  obtain ⟨i0, hi, hz0, hz1, hz2⟩ := info_parts infoInt
  have HI := Lib.hid (And.intro hi (And.intro hz0 (And.intro hz1 hz2)))
  clear hi hz0 hz1 hz2
  go_enter Try.func21, Try.ntmps21
  go_wp2_with fail
  go_loopw [5, 6, 7] (fun ov bv av wr => ∃ (p : Nat) (out : ByteArray) (acc : List Nat) (B : Value), .string out = ov ∧ B = bv ∧ av = .int .i64 p ∧ 1 ≤ p ∧ p ≤ s.size ∧ out.size ≤ 2 * p ∧ acc.length ≤ p ∧ Hid (wr.ownsRow w.heap.size 3 1 B acc.length (places acc)) ∧ Hid (St2 s.data.toList T bs en p out acc) ∧ Below w.heap.size w wr) (fun _ _ av _ => s.size - (intOf av).toNat)
  case atStart => exact ⟨1, ⟨#[]⟩, [], _, rfl, rfl, rfl, Nat.le_refl _, h1, by decide, by decide, Lib.hid (own_nil_i w _), H0, Below.refl _ w⟩
  case round =>
    obtain ⟨p, out, acc, B, rfl, rfl, rfl, hp1, hpN, hoz, haz, HA, HS, hb⟩ := hrel
    by_cases hlt : p < s.size
    · have hpi : (p : Int) < (s.size : Int) := by omega
      obtain ⟨c, hcut, hcl, hcz⟩ := str_cut1 s p hlt
      have hg : (s[p]'hlt) = s.get! p := Sc.get_el s p hlt
      have hdr := q_drop s p hlt
      have hcat : ¬ (9223372036854775807 < out.size + c.size) := by omega
      by_cases h34 : (s.get! p).toNat = 34
      · have g : (((s[p]'hlt).toNat : Int) == 34) = true := by rw [hg, h34]; rfl
        rw [Qo.u8_eq _ 34 h34] at hdr
        change s.data.toList.drop p = 34 :: _ at hdr
        obtain ⟨hT, rfl, rfl⟩ := HS.out.last (b := true) (by rw [hdr, dbT_end])
        have HT := Lib.hid hT
        clear hdr hg h34 hcl hcut HS hT
        go_wp2_with fail
        go_ret3
        exact ⟨B, by show Ending.returned (.tuple #[.string out, B, .bool true]) = .returned (.tuple #[.string (ba T), B, .bool true]); rw [HT.out], HA.out, hb⟩
      · have g : (((s[p]'hlt).toNat : Int) == 34) = false := beq_eq_false_iff_ne.2 (by rw [hg]; omega)
        by_cases h92 : (s.get! p).toNat = 92
        · have g2 : (((s[p]'hlt).toNat : Int) != 92) = false := by rw [hg, h92]; rfl
          rw [Qo.u8_eq _ 92 h92] at hdr hcl
          change s.data.toList.drop p = 92 :: _ at hdr
          change c.data.toList = [92] at hcl
          have hn := HN.out p wr
          rw [ext_tail] at hn
          cases hE : esc (s.data.toList.drop p) with
          | none =>
            rw [hE] at hn
            have hS2 := HS.out.bad (q := p + 1) (c := c) (by rw [hcl, hdr]; rw [hdr] at hE; rw [dbT_bad p _ hE]; rfl)
            have HS2 := Lib.hid hS2
            have HC := Lib.hid (show Calls Try.prog 32 #[.string (s.extract p s.size)] wr fun e w' => e = .returned (.tuple #[.string ⟨#[]⟩, .int .i64 0]) ∧ Below wr.heap.size wr w' from hn)
            clear hdr hg h34 h92 hcl HS hS2 hn hE HN
            go_wp2_with fail
            refine HC.out.mono ?_
            rintro e w1 ⟨rfl, hb1⟩
            have hb2 := hb.trans (hb1.mono hb.size)
            have HB5 := Lib.hid (hb2.alloc hb2.size (.cells #[.int .i64 (p : Int)] 3))
            have HA5 := Lib.hid ((own_below HA.out hb1).alloc (.cells #[.int .i64 (p : Int)] 3))
            have HN5 := Lib.hid (cell_one_new w1 (.int .i64 (p : Int)) 3)
            clear hb hb1 hb2
            go_wp2_with (at_builtin; go_must (refine wpList_append_own _ rfl (.tmp 42) (.tmp 44) 22 rfl w.heap.size 3 i0 (.int .i64 0) 1 8 Try.underlying22 HI.out.1 HI.out.2.1 HI.out.2.2.1 HI.out.2.2.2 rfl (by decide) B acc.length (places acc) rfl HA5.out ⟨w1.heap.size, 0, none⟩ 1 1 [.int .i64 (p : Int)] rfl rfl HN5.out (by intro u hu; simp at hu; subst hu; rfl) (by unfold maxLen; omega) (by omega) HB5.out.size ?_; intro v3 w3 hown3 hg3 hnil3; have HA6 := Lib.hid hown3; have HB6 := Lib.hid (own_grown HB5.out hg3 (fun g h => (HA5.out.lt g h).1) HB5.out.size); clear hown3 hg3 hnil3))
            go_roundw
            case rel => exact ⟨p + 1, out ++ c, acc ++ [p], v3, rfl, rfl, by go_num, by omega, by omega, by rw [Sg.app_size]; omega, by rw [List.length_append]; show acc.length + 1 ≤ p + 1; omega, Lib.hid (by rw [List.length_append, places_snoc]; exact HA6.out), HS2, HB6.out⟩
            case measure => simp [intOf]; omega
          | some x =>
            obtain ⟨v, k⟩ := x
            have hk := Qo.esc_len hE
            have hkl : (s.data.toList.drop p).length = s.size - p := by rw [List.length_drop, ← Lib.size_eq]
            have h4 := enc_small v
            have hk0 : ((k : Int) == 0) = false := beq_eq_false_iff_ne.2 (by omega)
            rw [hE] at hn
            have hS2 := HS.out.next (q := p + k) (c := Utf8.encode v) (by rw [hdr]; rw [hdr] at hE; rw [dbT_esc p _ v k hE, ← hdr, List.drop_drop])
            have HS2 := Lib.hid hS2
            have HC := Lib.hid (show Calls Try.prog 32 #[.string (s.extract p s.size)] wr fun e w' => e = .returned (.tuple #[.string (Utf8.encode v), .int .i64 (k : Int)]) ∧ Below wr.heap.size wr w' from hn)
            clear hdr hg h34 h92 hcl HS hS2 hn hE HN hcut
            generalize Utf8.encode v = V at *
            have hcat2 : ¬ (9223372036854775807 < out.size + V.size) := by omega
            have hpk : p + k ≤ s.size := by omega
            clear hkl
            go_wp2_with fail
            refine HC.out.mono ?_
            rintro e w1 ⟨rfl, hb1⟩
            have hb2 := hb.trans (hb1.mono hb.size)
            have HA2 := Lib.hid (own_below HA.out hb1)
            go_wp2_with fail
            go_roundw
            case rel => exact ⟨p + k, out ++ V, acc, B, rfl, rfl, by go_num, by omega, hpk, by rw [Sg.app_size]; omega, by omega, HA2, HS2, hb2⟩
            case measure => simp [intOf]; omega
        · have g2 : (((s[p]'hlt).toNat : Int) != 92) = true := by rw [bne_iff_ne, hg]; omega
          have hS2 := HS.out.next (q := p + 1) (c := c) (by rw [hdr, dbT_on _ _ _ (ne34 h34) (ne92 h92), hcl]; rfl)
          have HS2 := Lib.hid hS2
          clear hdr hg h34 h92 hS2 hcl HS HN
          go_wp2_with fail
          go_roundw
          case rel => exact ⟨p + 1, out ++ c, acc, B, rfl, rfl, by go_num, by omega, by omega, by rw [Sg.app_size]; omega, by omega, HA, HS2, hb⟩
          case measure => simp [intOf]; omega
    · obtain rfl : p = s.size := by omega
      obtain ⟨hT, rfl, rfl⟩ := HS.out.last (b := false) (by rw [drop_none s s.size (Nat.le_refl _), dbT_nil])
      have HT := Lib.hid hT
      clear HS hT HN
      go_wp2_with fail
      go_ret3
      exact ⟨B, by show Ending.returned (.tuple #[.string out, B, .bool false]) = .returned (.tuple #[.string (ba T), B, .bool false]); rw [HT.out], HA.out, hb⟩
set_option maxHeartbeats 1000000 in
set_option maxRecDepth 100000 in
theorem rText (k : Int) (s : ByteArray) (w : World) (hs : s.size ≤ 100000) :
    Calls Try.prog 12 #[.int .i64 k, .string s] w (Told (textT k s.data.toList) w) := by
  by_cases h0 : s.size = 0
  · obtain rfl := str_zero s h0
    go_enter Try.func12, Try.ntmps12
    go_wp2
    go_ret3
    exact told_nil _ _ _ _ _ rfl (Below.refl _ _)
  · have h1 : 1 ≤ s.size := by omega
    obtain ⟨hE, hne⟩ := str_one s h1
    have r1 := qSingle s w hs h1
    have r2 := qDouble s w hs h1
    by_cases k1 : k = 15
    · subst k1
      rw [textT_15 _ hne]
      clear r1 r2
      go_enter Try.func12, Try.ntmps12
      go_wp2
      go_ret3
      exact told_nil _ _ _ _ _ rfl (Below.refl _ _)
    by_cases k2 : k = 16
    · subst k2
      rw [textT_16 _ hne]
      obtain ⟨x, hx⟩ : ∃ x, sgT (s.data.toList.drop 1) = x := ⟨_, rfl⟩
      rw [hx] at r1 ⊢
      have R1 := Lib.hid r1
      clear r1 r2 hx
      go_enter Try.func12, Try.ntmps12
      go_wp2_with fail
      refine R1.out.mono ?_
      rintro e w1 ⟨rfl, hb⟩
      go_wp2
      go_ret3
      exact told_nil _ _ _ _ _ rfl hb
    by_cases k3 : k = 17
    · subst k3
      rw [textT_17 _ hne]
      obtain ⟨x, hx⟩ : ∃ x, dbT 1 (s.data.toList.drop 1) = x := ⟨_, rfl⟩
      rw [hx] at r2 ⊢
      have R2 := Lib.hid r2
      clear r1 r2 hx
      go_enter Try.func12, Try.ntmps12
      go_wp2_with fail
      refine R2.out.mono ?_
      rintro e w1 ⟨v, rfl, hO, hb⟩
      go_wp2
      go_ret3
      exact ⟨v, rfl, hO, hb⟩
    rw [textT_o k _ k1 k2 k3]
    have g1 : (k == 15) = false := beq_eq_false_iff_ne.2 k1
    have g2 : (k == 16) = false := beq_eq_false_iff_ne.2 k2
    have g3 : (k == 17) = false := beq_eq_false_iff_ne.2 k3
    clear r1 r2
    go_enter Try.func12, Try.ntmps12
    go_wp2
    go_ret3
    exact told_nil _ _ _ _ _ rfl (Below.refl _ _)
end Go.Proofs.Ytmkchfpmlidaiaa
