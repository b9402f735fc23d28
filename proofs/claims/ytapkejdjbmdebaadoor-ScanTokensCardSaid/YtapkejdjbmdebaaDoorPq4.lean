/- scan.named, singleSize, doubleSize, quoted, headSize. -/
import Derived.Test.YtapkejdjbmdebaaDoorPq3
namespace Go.Proofs.YtapkejdjbmdebaaDoor
open Go.RowKit
open Go.Proofs.YtapkejdjbmdebaaDoor.Sg
set_option linter.unusedVariables false

/-- A row that is not empty: its first byte, what is behind it. -/
theorem row_cons (s : ByteArray) (h : 0 < s.size) : Sc.nats s = (s[0]'h).toNat :: Sc.nats (s.extract 1 s.size) := by
  have := Sc.drop_cons s 0 h
  rw [List.drop_zero] at this
  rw [this, Sc.get_el s 0 h, Sc.nats_tail]
theorem tail_max (s : ByteArray) (k : Nat) (h : s.size ≤ maxLen) : (s.extract k s.size).size ≤ maxLen := by rw [ByteArray.size_extract]; omega
theorem el_lt (s : ByteArray) (i : Nat) (h : i < s.size) : (s[i]'h).toNat < 256 := UInt8.toNat_lt _
set_option maxHeartbeats 2000000 in
theorem pNamed (s : ByteArray) (w : World) (hs : s.size ≤ 100000) (h0 : 0 < s.size) :
    Calls Tryd.prog 54 #[.string s] w fun e w' => e = .returned (.tuple #[.int .i64 (kI (Sc.named (Sc.nats s)).1), .int .i64 (Sc.named (Sc.nats s)).2]) ∧ Below w.heap.size w w' := by
  have hm : s.size ≤ maxLen := by unfold maxLen; omega
  have hz := tail_max s 1 hm
  have hN := runName (s.extract 1 s.size) w hz
  have hT := runInTag (s.extract 1 s.size) w hz
  have hb := el_lt s 0 h0
  have hlo : (1 : Int) ≤ (s.size : Int) := by omega
  have rN := Sc.run_le Sc.nam (Sc.nats (s.extract 1 s.size))
  have rT := Sc.run_le Sc.tgc (Sc.nats (s.extract 1 s.size))
  rw [Sc.nats_len, ByteArray.size_extract] at rN rT
  rw [row_cons s h0, Sc.named]
  generalize Sc.run Sc.nam (Sc.nats (s.extract 1 s.size)) = n at *
  generalize Sc.run Sc.tgc (Sc.nats (s.extract 1 s.size)) = t at *
  have hn2 : (n : Int) + 1 ≤ 100001 := by omega
  have ht2 : (t : Int) + 1 ≤ 100001 := by omega
  clear rN rT hm hz
  by_cases c1 : (s[0]'h0).toNat = 38
  · rw [if_pos c1]
    have g1 : (((s[0]'h0).toNat : Int) == 38) = true := by rw [c1]; rfl
    have HN := Lib.hid hN
    clear hN hT c1
    by_cases hn : n = 0
    · subst hn
      rw [if_pos rfl]
      go_enter Tryd.func54, Tryd.ntmps54
      go_wp2_with fail
      refine HN.out.mono ?_
      rintro e w1 ⟨rfl, hb⟩
      go_wp2_with fail
      go_ret2
      exact ⟨rfl, hb⟩
    · rw [if_neg hn]
      have g2 : ((n : Int) == 0) = false := beq_eq_false_iff_ne.2 (by omega)
      clear hn
      go_enter Tryd.func54, Tryd.ntmps54
      go_wp2_with fail
      refine HN.out.mono ?_
      rintro e w1 ⟨rfl, hb⟩
      go_wp2_with fail
      go_ret2
      exact ⟨by rw [Int.add_comm]; rfl, hb⟩
  · rw [if_neg c1]
    have g1 : (((s[0]'h0).toNat : Int) == 38) = false := beq_eq_false_iff_ne.2 (by omega)
    by_cases c2 : (s[0]'h0).toNat = 42
    · rw [if_pos c2]
      have g2 : (((s[0]'h0).toNat : Int) == 42) = true := by rw [c2]; rfl
      have HN := Lib.hid hN
      clear hN hT c1 c2
      by_cases hn : n = 0
      · subst hn
        rw [if_pos rfl]
        go_enter Tryd.func54, Tryd.ntmps54
        go_wp2_with fail
        refine HN.out.mono ?_
        rintro e w1 ⟨rfl, hb⟩
        go_wp2_with fail
        go_ret2
        exact ⟨rfl, hb⟩
      · rw [if_neg hn]
        have g2 : ((n : Int) == 0) = false := beq_eq_false_iff_ne.2 (by omega)
        clear hn
        go_enter Tryd.func54, Tryd.ntmps54
        go_wp2_with fail
        refine HN.out.mono ?_
        rintro e w1 ⟨rfl, hb⟩
        go_wp2_with fail
        go_ret2
        exact ⟨by rw [Int.add_comm]; rfl, hb⟩
    · rw [if_neg c2]
      have g2 : (((s[0]'h0).toNat : Int) == 42) = false := beq_eq_false_iff_ne.2 (by omega)
      by_cases c3 : (s[0]'h0).toNat = 33
      · rw [if_pos c3]
        have g3 : (((s[0]'h0).toNat : Int) == 33) = true := by rw [c3]; rfl
        have HT := Lib.hid hT
        clear hN hT c1 c2 c3
        go_enter Tryd.func54, Tryd.ntmps54
        go_wp2_with fail
        refine HT.out.mono ?_
        rintro e w1 ⟨rfl, hb⟩
        go_wp2_with fail
        go_ret2
        exact ⟨by rw [Int.add_comm]; rfl, hb⟩
      · rw [if_neg c3]
        have g3 : (((s[0]'h0).toNat : Int) == 33) = false := beq_eq_false_iff_ne.2 (by omega)
        clear hN hT c1 c2 c3
        go_enter Tryd.func54, Tryd.ntmps54
        go_wp2_with fail
        go_ret2
        exact ⟨rfl, Below.refl _ _⟩
theorem sing_at (s : ByteArray) (i : Nat) (h : i < s.size) : Sc.sing ((Sc.nats s).drop i) =
    if (s.get! i).toNat = 39 then (if i + 1 < s.size ∧ (s.get! (i + 1)).toNat = 39 then Sc.sing ((Sc.nats s).drop (i + 2)) + 2 else 1) else Sc.sing ((Sc.nats s).drop (i + 1)) + 1 := by
  rw [Sc.drop_cons s i h]
  by_cases h1 : i + 1 < s.size
  · rw [Sc.drop_cons s (i + 1) h1, Sc.sing]
    by_cases c : (s.get! i).toNat = 39
    · rw [if_pos c, if_pos c]
      by_cases d : (s.get! (i + 1)).toNat = 39
      · rw [if_pos d, if_pos ⟨h1, d⟩]
      · rw [if_neg d, if_neg (fun x => d x.2)]
    · rw [if_neg c, if_neg c]
  · rw [Sc.drop_nil s (i + 1) (by omega), Sc.sing]
    by_cases c : (s.get! i).toNat = 39
    · rw [if_pos c, if_neg (fun x => h1 x.1)]; rfl
    · rw [if_neg c]; rfl
theorem sing_end (s : ByteArray) (i : Nat) (h : s.size ≤ i) : Sc.sing ((Sc.nats s).drop i) = 0 := by rw [Sc.drop_nil s i h]; rfl
theorem doub_at (s : ByteArray) (i : Nat) (h : i < s.size) : Sc.doub ((Sc.nats s).drop i) =
    if (s.get! i).toNat = 34 then 1 else if (s.get! i).toNat = 92 then (if i + 1 < s.size then Sc.doub ((Sc.nats s).drop (i + 2)) + 2 else 1) else Sc.doub ((Sc.nats s).drop (i + 1)) + 1 := by
  rw [Sc.drop_cons s i h]
  by_cases h1 : i + 1 < s.size
  · rw [Sc.drop_cons s (i + 1) h1, Sc.doub]
    by_cases c : (s.get! i).toNat = 34
    · rw [if_pos c, if_pos c]
    · rw [if_neg c, if_neg c]
      by_cases d : (s.get! i).toNat = 92
      · rw [if_pos d, if_pos d, if_pos h1]
      · rw [if_neg d, if_neg d]
  · rw [Sc.drop_nil s (i + 1) (by omega), Sc.doub]
    by_cases c : (s.get! i).toNat = 34
    · rw [if_pos c]; rfl
    · rw [if_neg c]
      by_cases d : (s.get! i).toNat = 92
      · rw [if_pos d, if_neg h1]; rfl
      · rw [if_neg d]; rfl
theorem doub_end (s : ByteArray) (i : Nat) (h : s.size ≤ i) : Sc.doub ((Sc.nats s).drop i) = 0 := by rw [Sc.drop_nil s i h]; rfl
theorem pre39 (s : ByteArray) (i : Nat) (h : i < s.size) : ([39, 39] : List UInt8).isPrefixOf (s.extract i s.size).data.toList = decide (i + 1 < s.size ∧ (s.get! i).toNat = 39 ∧ (s.get! (i + 1)).toNat = 39) := by
  have := pre2 (s.extract i s.size) 39 39 (by decide) (by decide)
  rw [Lib.tail_size, Lib.tail_get!, Lib.tail_get!, Nat.add_zero] at this
  rw [show ([39, 39] : List UInt8) = [UInt8.ofNat 39, UInt8.ofNat 39] from rfl, this]
  congr 1
  exact propext ⟨fun x => ⟨by omega, x.2⟩, fun x => ⟨by omega, x.2⟩⟩
set_option maxHeartbeats 2000000 in
set_option maxRecDepth 100000 in
theorem pSingle (s : ByteArray) (w : World) (hs : s.size ≤ 100000) (h0 : 0 < s.size) :
    Calls Tryd.prog 71 #[.string s] w fun e w' => e = .returned (.int .i64 (Sc.sing ((Sc.nats s).drop 1) + 1 : Nat)) ∧ w' = w := by
  obtain ⟨R, hR⟩ : ∃ R, Sc.sing ((Sc.nats s).drop 1) + 1 = R := ⟨_, rfl⟩
  rw [hR]
  have HR := Lib.hid hR
  clear hR
  go_enter Tryd.func71, Tryd.ntmps71
  go_wp2
  go_loopg [3] s.size (fun gf i wr => ∃ (p : Nat), i = .int .i64 p ∧ wr = w ∧ 1 ≤ p ∧ p ≤ s.size + 1 ∧ s.size ≤ p + gf ∧ Hid (R = Sc.sing ((Sc.nats s).drop p) + min p s.size))
  case atStart => exact ⟨1, rfl, rfl, Nat.le_refl _, by omega, by omega, Lib.hid (by rw [← HR.out, Nat.min_eq_left (by omega)])⟩
  case round =>
    obtain ⟨p, rfl, rfl, hp1, hp2, hf, HE⟩ := hrel
    by_cases hlt : p < s.size
    · obtain ⟨g', rfl⟩ : ∃ g', gk = g' + 1 := ⟨gk - 1, by omega⟩
      have hi : (p : Int) < (s.size : Int) := by omega
      have hA := sing_at s p hlt
      have hm : min p s.size = p := Nat.min_eq_left (by omega)
      have hP := hasPre (s.extract p s.size) ⟨#[39, 39]⟩ wr
      rw [show ((⟨#[39, 39]⟩ : ByteArray).data.toList.isPrefixOf (s.extract p s.size).data.toList) = _ from pre39 s p hlt] at hP
      have hE := HE.out
      rw [hA, hm] at hE
      by_cases c : p + 1 < s.size ∧ (s.get! p).toNat = 39 ∧ (s.get! (p + 1)).toNat = 39
      · rw [decide_eq_true c] at hP
        rw [if_pos c.2.1, if_pos ⟨c.1, c.2.2⟩] at hE
        have HP := Lib.hid hP
        have HE2 := Lib.hid (show R = Sc.sing ((Sc.nats s).drop (p + 2)) + min (p + 2) s.size from by rw [hE, Nat.min_eq_left (by omega)]; omega)
        have hq : p + 2 ≤ s.size + 1 := by omega
        clear hA hP hE HE c hm
        go_wp2_with fail
        refine HP.out.mono ?_
        rintro e w1 ⟨rfl, rfl⟩
        go_wp2_with fail
        go_roundg g'
        case measure => omega
        case rel => exact ⟨p + 2, by go_num, rfl, by omega, hq, by omega, HE2⟩
      · rw [decide_eq_false c] at hP
        have HP := Lib.hid hP
        have hge := Sc.get_el s p hlt
        by_cases d : (s.get! p).toNat = 39
        · rw [if_pos d, if_neg (fun x => c ⟨x.1, d, x.2⟩)] at hE
          have g : (((s[p]'hlt).toNat : Int) == 39) = true := by rw [hge, d]; rfl
          have HE2 := Lib.hid hE
          clear hA hP hE HE c hm d hge
          go_wp2_with fail
          refine HP.out.mono ?_
          rintro e w1 ⟨rfl, rfl⟩
          go_wp2_with fail
          go_ret
          exact ⟨by rw [HE2.out]; simp; omega, rfl⟩
        · rw [if_neg d] at hE
          have g : (((s[p]'hlt).toNat : Int) == 39) = false := beq_eq_false_iff_ne.2 (by rw [hge]; omega)
          have HE2 := Lib.hid (show R = Sc.sing ((Sc.nats s).drop (p + 1)) + min (p + 1) s.size from by rw [hE, Nat.min_eq_left (by omega)]; omega)
          clear hA hP hE HE c hm d hge
          go_wp2_with fail
          refine HP.out.mono ?_
          rintro e w1 ⟨rfl, rfl⟩
          go_wp2_with fail
          go_roundg g'
          case measure => omega
          case rel => exact ⟨p + 1, by go_num, rfl, by omega, by omega, by omega, HE2⟩
    · have hi : ¬ ((p : Int) < (s.size : Int)) := by omega
      have hE := HE.out
      rw [sing_end s p (by omega), Nat.min_eq_right (by omega), Nat.zero_add] at hE
      have HE2 := Lib.hid hE
      clear hE HE
      go_wp2_with fail
      go_ret
      exact ⟨by rw [HE2.out]; rfl, rfl⟩
set_option maxHeartbeats 2000000 in
set_option maxRecDepth 100000 in
theorem pDouble (s : ByteArray) (w : World) (hs : s.size ≤ 100000) (h0 : 0 < s.size) :
    Calls Tryd.prog 72 #[.string s] w fun e w' => e = .returned (.int .i64 (Sc.doub ((Sc.nats s).drop 1) + 1 : Nat)) ∧ w' = w := by
  obtain ⟨R, hR⟩ : ∃ R, Sc.doub ((Sc.nats s).drop 1) + 1 = R := ⟨_, rfl⟩
  rw [hR]
  have HR := Lib.hid hR
  clear hR
  go_enter Tryd.func72, Tryd.ntmps72
  go_wp2
  go_loopg [3] s.size (fun gf i wr => ∃ (p : Nat), i = .int .i64 p ∧ wr = w ∧ 1 ≤ p ∧ p ≤ s.size + 1 ∧ s.size ≤ p + gf ∧ Hid (R = Sc.doub ((Sc.nats s).drop p) + min p s.size))
  case atStart => exact ⟨1, rfl, rfl, Nat.le_refl _, by omega, by omega, Lib.hid (by rw [← HR.out, Nat.min_eq_left (by omega)])⟩
  case round =>
    obtain ⟨p, rfl, rfl, hp1, hp2, hf, HE⟩ := hrel
    by_cases hlt : p < s.size
    · obtain ⟨g', rfl⟩ : ∃ g', gk = g' + 1 := ⟨gk - 1, by omega⟩
      have hi : (p : Int) < (s.size : Int) := by omega
      have hA := doub_at s p hlt
      have hm : min p s.size = p := Nat.min_eq_left (by omega)
      have hE := HE.out
      have hge := Sc.get_el s p hlt
      rw [hA, hm] at hE
      by_cases c : (s.get! p).toNat = 34
      · rw [if_pos c] at hE
        have g : (((s[p]'hlt).toNat : Int) == 92) = false := by rw [hge, c]; rfl
        have g2 : (((s[p]'hlt).toNat : Int) == 34) = true := by rw [hge, c]; rfl
        have HE2 := Lib.hid hE
        clear hA hE HE c hm hge
        go_wp2_with fail
        go_ret
        exact ⟨by rw [HE2.out]; simp; omega, rfl⟩
      · rw [if_neg c] at hE
        have g2 : (((s[p]'hlt).toNat : Int) == 34) = false := beq_eq_false_iff_ne.2 (by rw [hge]; omega)
        by_cases d : (s.get! p).toNat = 92
        · rw [if_pos d] at hE
          have g : (((s[p]'hlt).toNat : Int) == 92) = true := by rw [hge, d]; rfl
          have HE2 := Lib.hid (show R = Sc.doub ((Sc.nats s).drop (p + 2)) + min (p + 2) s.size from by
            rw [hE]
            by_cases q : p + 1 < s.size
            · rw [if_pos q, Nat.min_eq_left (by omega)]; omega
            · rw [if_neg q, Nat.min_eq_right (by omega), doub_end s _ (by omega)]; omega)
          clear hA hE HE c hm d hge
          go_wp2_with fail
          go_roundg g'
          case measure => omega
          case rel => exact ⟨p + 2, by go_num, rfl, by omega, by omega, by omega, HE2⟩
        · rw [if_neg d] at hE
          have g : (((s[p]'hlt).toNat : Int) == 92) = false := beq_eq_false_iff_ne.2 (by rw [hge]; omega)
          have HE2 := Lib.hid (show R = Sc.doub ((Sc.nats s).drop (p + 1)) + min (p + 1) s.size from by rw [hE, Nat.min_eq_left (by omega)]; omega)
          clear hA hE HE c hm d hge
          go_wp2_with fail
          go_roundg g'
          case measure => omega
          case rel => exact ⟨p + 1, by go_num, rfl, by omega, by omega, by omega, HE2⟩
    · have hi : ¬ ((p : Int) < (s.size : Int)) := by omega
      have hE := HE.out
      rw [doub_end s p (by omega), Nat.min_eq_right (by omega), Nat.zero_add] at hE
      have HE2 := Lib.hid hE
      clear hE HE
      go_wp2_with fail
      go_ret
      exact ⟨by rw [HE2.out]; rfl, rfl⟩
set_option maxHeartbeats 1000000 in
theorem pQuoted (s : ByteArray) (w : World) (hs : s.size ≤ 100000) (h0 : 0 < s.size) :
    Calls Tryd.prog 55 #[.string s] w fun e w' => e = .returned (.tuple #[.int .i64 (kI (Sc.quoted (Sc.nats s)).1), .int .i64 (Sc.quoted (Sc.nats s)).2]) ∧ w' = w := by
  have h1 := pSingle s w hs h0
  have h2 := pDouble s w hs h0
  have hb := el_lt s 0 h0
  rw [← Sc.nats_tail] at h1 h2
  rw [row_cons s h0, Sc.quoted]
  by_cases c1 : (s[0]'h0).toNat = 39
  · rw [if_pos c1]
    have g1 : (((s[0]'h0).toNat : Int) == 39) = true := by rw [c1]; rfl
    have H1 := Lib.hid h1
    clear h1 h2 c1
    generalize Sc.sing (Sc.nats (s.extract 1 s.size)) = n at *
    go_enter Tryd.func55, Tryd.ntmps55
    go_wp2_with fail
    refine H1.out.mono ?_
    rintro e w1 ⟨rfl, rfl⟩
    go_wp2_with fail
    go_ret2
    exact ⟨rfl, rfl⟩
  · rw [if_neg c1]
    have g1 : (((s[0]'h0).toNat : Int) == 39) = false := beq_eq_false_iff_ne.2 (by omega)
    by_cases c2 : (s[0]'h0).toNat = 34
    · rw [if_pos c2]
      have g2 : (((s[0]'h0).toNat : Int) == 34) = true := by rw [c2]; rfl
      have H2 := Lib.hid h2
      clear h1 h2 c1 c2
      generalize Sc.doub (Sc.nats (s.extract 1 s.size)) = n at *
      go_enter Tryd.func55, Tryd.ntmps55
      go_wp2_with fail
      refine H2.out.mono ?_
      rintro e w1 ⟨rfl, rfl⟩
      go_wp2_with fail
      go_ret2
      exact ⟨rfl, rfl⟩
    · rw [if_neg c2]
      have g2 : (((s[0]'h0).toNat : Int) == 34) = false := beq_eq_false_iff_ne.2 (by omega)
      clear h1 h2 c1 c2
      go_enter Tryd.func55, Tryd.ntmps55
      go_wp2_with fail
      go_ret2
      exact ⟨rfl, rfl⟩
end Go.Proofs.YtapkejdjbmdebaaDoor
