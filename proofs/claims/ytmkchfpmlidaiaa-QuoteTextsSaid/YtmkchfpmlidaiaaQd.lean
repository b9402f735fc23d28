/- package quote: read: what the pieces behind the first byte say. (Written by tools/gen_qd.py.) -/
import Derived.Test.YtmkchfpmlidaiaaQc
import Derived.Test.YtmkchfpmlidaiaaApt
import Derived.Test.YtmkchfpmlidaiaaCut
import Derived.Deep.DeepMust
namespace Go.Proofs.Ytmkchfpmlidaiaa
open Go.RowKit
open Go.Proofs.Ytmkchfpmlidaiaa.Sg
open Go.Proofs.Ytmkchfpmlidaiaa.Es
open Go.Proofs.Ytmkchfpmlidaiaa.Qo
set_option linter.unusedVariables false

/-- What a call hands back that tells a token's text, its bad places, whether it ends. -/
def Told (x : List UInt8 × List Nat × Bool) (w : World) (e : Ending) (w' : World) : Prop :=
  ∃ v, e = .returned (.tuple #[.string (ba x.1), v, .bool x.2.2]) ∧ w'.ownsRow w.heap.size 3 1 v x.2.1.length (places x.2.1) ∧ Below w.heap.size w w'
/-- What has been read, and what the rest says. -/
def St1 (L T : List UInt8) (en : Bool) (p : Nat) (out : ByteArray) : Prop := out.data.toList ++ (sgT (L.drop p)).1 = T ∧ (sgT (L.drop p)).2 = en
def St2 (L T : List UInt8) (bs : List Nat) (en : Bool) (p : Nat) (out : ByteArray) (acc : List Nat) : Prop := out.data.toList ++ (dbT p (L.drop p)).1 = T ∧ acc ++ (dbT p (L.drop p)).2.1 = bs ∧ (dbT p (L.drop p)).2.2 = en
theorem own_nil_b (w : World) (B : Nat) : w.ownsRow B 5 1 (.slice none 0 0) (⟨#[]⟩ : ByteArray).size (cellsOf ⟨#[]⟩) := World.ownsRow_nil _ _ _ _
theorem own_nil_i (w : World) (B : Nat) : w.ownsRow B 3 1 (.slice none 0 0) ([] : List Nat).length (places []) := World.ownsRow_nil _ _ _ _
theorem ne_iu : 3 ≠ 5 := by decide
theorem bys_own {w : World} {B : Nat} {v : Value} {out : ByteArray} (h : w.ownsRow B 5 1 v out.size (cellsOf out)) : Bys w v out := Bys.of_own h
set_option maxHeartbeats 4000000 in
set_option maxRecDepth 100000 in
theorem read1 (s : ByteArray) (w : World) (hs : s.size ≤ 100000) (h1 : 1 ≤ s.size) :
    Calls Try.prog 17 #[.string s, .func (.func 18) #[] #[]] w (Told ((sgT (s.data.toList.drop 1)).1, [], (sgT (s.data.toList.drop 1)).2) w) := by
  have HN := Lib.hid (fun p W h => nextS (s.extract p s.size) W (show (s.extract p s.size).size ≤ maxLen by rw [ByteArray.size_extract]; unfold maxLen; omega) h)
  obtain ⟨T, hT⟩ : ∃ T, (sgT (s.data.toList.drop 1)).1 = T := ⟨_, rfl⟩
  obtain ⟨en, hen⟩ : ∃ en, (sgT (s.data.toList.drop 1)).2 = en := ⟨_, rfl⟩
  have H0 := Lib.hid (show St1 s.data.toList T en 1 ⟨#[]⟩ from ⟨hT, hen⟩)
  rw [hT, hen]
  clear hT hen
  have k1 := asC_clo
  have k2 := asC_say
  have k3 := asF_say
  have k4 := asS_say
  go_enter Try.func17, Try.ntmps17
  go_wp2_with fail
  go_loopw [5, 7, 8] (fun bv ov av wr => ∃ (p : Nat) (out : ByteArray) (V : Value), bv = .slice none 0 0 ∧ V = ov ∧ av = .int .i64 p ∧ 1 ≤ p ∧ p ≤ s.size ∧ out.size ≤ 2 * p ∧ Hid (wr.ownsRow w.heap.size 5 1 V out.size (cellsOf out)) ∧ Hid (St1 s.data.toList T en p out) ∧ Below w.heap.size w wr) (fun _ _ av _ => s.size - (intOf av).toNat)
  case atStart => exact ⟨1, ⟨#[]⟩, _, rfl, rfl, rfl, Nat.le_refl _, by omega, by decide, Lib.hid (own_nil_b w _), H0, Below.refl _ w⟩
  case round =>
    obtain ⟨p, out, V, rfl, rfl, rfl, hp1, hpN, hoz, HO, HS, hb⟩ := hrel
    by_cases hlt : p < s.size
    · have hpi : (p : Int) < (s.size : Int) := by omega
      have hex : 0 < (s.extract p s.size).size := by rw [ByteArray.size_extract]; omega
      have hn := HN.out p wr hex
      cases hpc : pcS (s.extract p s.size) with
      | clo =>
        have hs1 := sg_clo _ hex hpc
        rw [ext_tail] at hs1
        obtain ⟨hT, hen⟩ := HS.out
        rw [hs1] at hT hen
        simp only [List.append_nil] at hT
        rw [hpc] at hn
        have HC := Lib.hid hn
        have HT := Lib.hid (ba_of hT)
        subst hen
        clear hn hpc hs1 hT hex HS HN
        go_wp2_with fail
        refine HC.out.mono ?_
        rintro e w1 ⟨rfl, hb1⟩
        have hb2 := hb.trans (hb1.mono hb.size)
        have hcv := conv_bys (bys_own ((own_below HO.out hb1).alloc (.cells #[] 53)))
        go_wp2_with fail
        go_ret3
        exact ⟨.slice none 0 0, by show Ending.returned (.tuple #[.string out, .slice none 0 0, .bool true]) = .returned (.tuple #[.string (ba T), .slice none 0 0, .bool true]); rw [HT.out], own_nil_i _ _, hb2.alloc hb2.size _⟩
      | bad => exact (sg_bad _ hpc).elim
      | say t n =>
        obtain ⟨hn1, hn2, hn3, hs1⟩ := sg_say _ hex t n hpc
        rw [ext_tail] at hs1
        rw [ByteArray.size_extract] at hn2
        obtain ⟨hT, hen⟩ := HS.out
        rw [hs1, List.drop_drop] at hT hen
        have HS2 := Lib.hid (show St1 s.data.toList T en (p + n) (out ++ t) from ⟨by rw [tol_app', List.append_assoc]; exact hT, hen⟩)
        rw [hpc] at hn
        have HC := Lib.hid (show Calls Try.prog 18 #[.string (s.extract p s.size)] wr fun e w' => e = .returned (.iface 58 (.agg #[.string t, .int .i64 (n : Int)])) ∧ Below wr.heap.size wr w' from hn)
        have hzb : out.size + t.size ≤ 1000000 := by omega
        have hpn : p + n ≤ s.size := by omega
        have hzn : out.size + t.size ≤ 2 * (p + n) := by omega
        clear hn hpc hs1 hT hen hex HS HN hn2 hn3 hoz
        go_wp2_with fail
        refine HC.out.mono ?_
        rintro e w1 ⟨rfl, hb1⟩
        have HB3 := Lib.hid (((hb.trans (hb1.mono hb.size)).alloc (hb.trans (hb1.mono hb.size)).size (.cells #[] 53)).alloc (by have := (hb.trans (hb1.mono hb.size)).size; simp; omega) (.cells #[] 55) |>.alloc (by have := (hb.trans (hb1.mono hb.size)).size; simp; omega) (.cells #[.string t, .int .i64 (n : Int)] 58))
        have hown1 := own_below HO.out hb1
        have HLt := Lib.hid (fun g (h : V.ownBlock = some g) => (hown1.lt g h).1)
        have HNe := Lib.hid (show some (w1.heap.size + 1 + 1) ≠ V.ownBlock from fun e => by have := (hown1.lt _ e.symm).2; omega)
        have HO3 := Lib.hid (((hown1.alloc (.cells #[] 53)).alloc (.cells #[] 55)).alloc (.cells #[.string t, .int .i64 (n : Int)] 58))
        have HZ := Lib.hid (show (((w1.alloc (.cells #[] 53)).alloc (.cells #[] 55)).alloc (.cells #[.string t, .int .i64 (n : Int)] 58)).cell? ⟨w1.heap.size + 1 + 1, 1, none⟩ = some (.int .i64 (n : Int)) from by
          have := at_new (W := (w1.alloc (.cells #[] 53)).alloc (.cells #[] 55)) (C := #[.string t, .int .i64 (n : Int)]) (t := 58) (k := 1) (u := .int .i64 (n : Int)) rfl
          rw [size_alloc, size_alloc] at this
          exact this)
        have HBs := Lib.hid (show w.heap.size ≤ (((w1.alloc (.cells #[] 53)).alloc (.cells #[] 55)).alloc (.cells #[.string t, .int .i64 (n : Int)] 58)).heap.size from HB3.out.size)
        have hzb2 : out.size + t.size ≤ 140737488355328 := by omega
        clear hown1 hb hb1
        go_wp2_with (at_builtin; go_must (refine wpList_append_text rfl (.tmp 50) (.tmp 52) rfl w.heap.size V out.size (cellsOf out) rfl HO3.out t rfl hzb2 HBs.out ?_; intro v2 w2 hown2 hg2; have q1 := hg2.cell HZ.out HNe.out; have HO4 := Lib.hid (own_join hown2); have HB4 := Lib.hid (own_grown HB3.out hg2 HLt.out HBs.out); clear hown2 hg2))
        go_roundw
        case rel => exact ⟨p + n, out ++ t, v2, rfl, rfl, by go_num, by omega, hpn, by rw [Sg.app_size]; exact hzn, HO4, HS2, HB4.out⟩
        case measure => simp [intOf]; omega
    · obtain rfl : p = s.size := by omega
      obtain ⟨hT, hen⟩ := HS.out
      rw [List.drop_of_length_le (by rw [← Lib.size_eq]; exact Nat.le_refl _), show sgT [] = ([], false) from rfl] at hT hen
      simp only [List.append_nil] at hT
      have HT := Lib.hid (ba_of hT)
      subst hen
      have hcv := conv_bys (bys_own HO.out)
      clear hT HS HN
      go_wp2_with fail
      go_ret3
      exact ⟨.slice none 0 0, by show Ending.returned (.tuple #[.string out, .slice none 0 0, .bool false]) = .returned (.tuple #[.string (ba T), .slice none 0 0, .bool false]); rw [HT.out], own_nil_i _ _, hb⟩
set_option maxHeartbeats 4000000 in
set_option maxRecDepth 100000 in
theorem read2 (s : ByteArray) (w : World) (hs : s.size ≤ 100000) (h1 : 1 ≤ s.size) :
    Calls Try.prog 17 #[.string s, .func (.func 19) #[] #[]] w (Told (dbT 1 (s.data.toList.drop 1)) w) := by
  have HN := Lib.hid (fun p W h => nextD (s.extract p s.size) W (show (s.extract p s.size).size ≤ maxLen by rw [ByteArray.size_extract]; unfold maxLen; omega) h)
  obtain ⟨T, hT⟩ : ∃ T, (dbT 1 (s.data.toList.drop 1)).1 = T := ⟨_, rfl⟩
  obtain ⟨bs, hbs⟩ : ∃ bs, (dbT 1 (s.data.toList.drop 1)).2.1 = bs := ⟨_, rfl⟩
  obtain ⟨en, hen⟩ : ∃ en, (dbT 1 (s.data.toList.drop 1)).2.2 = en := ⟨_, rfl⟩
  have H0 := Lib.hid (show St2 s.data.toList T bs en 1 ⟨#[]⟩ [] from ⟨hT, hbs, hen⟩)
  rw [show dbT 1 (s.data.toList.drop 1) = (T, bs, en) from by rw [← hT, ← hbs, ← hen]]
  clear hT hbs hen
  have k1 := asC_clo
  have k2 := asC_say
  have k3 := asF_say
  have k4 := asS_say
  have k5 := asC_bad
  have k6 := asF_bad
  obtain ⟨i0, hi, hz0, hz1, hz2⟩ := info_parts infoInt
  obtain ⟨i1, hj, hy0, hy1, hy2⟩ := info_parts infoByte
  have HI := Lib.hid (And.intro hi (And.intro hz0 (And.intro hz1 hz2)))
  have HJ := Lib.hid (And.intro hj (And.intro hy0 (And.intro hy1 hy2)))
  clear hi hz0 hz1 hz2 hj hy0 hy1 hy2
  go_enter Try.func17, Try.ntmps17
  go_wp2_with fail
  go_loopw [5, 7, 8] (fun bv ov av wr => ∃ (p : Nat) (out : ByteArray) (acc : List Nat) (V B : Value), B = bv ∧ V = ov ∧ av = .int .i64 p ∧ 1 ≤ p ∧ p ≤ s.size ∧ out.size ≤ 2 * p ∧ acc.length ≤ p ∧ Hid (wr.ownsRow w.heap.size 5 1 V out.size (cellsOf out)) ∧ Hid (wr.ownsRow w.heap.size 3 1 B acc.length (places acc)) ∧ Hid (St2 s.data.toList T bs en p out acc) ∧ Below w.heap.size w wr) (fun _ _ av _ => s.size - (intOf av).toNat)
  case atStart => exact ⟨1, ⟨#[]⟩, [], _, _, rfl, rfl, rfl, Nat.le_refl _, by omega, by decide, by decide, Lib.hid (own_nil_b w _), Lib.hid (own_nil_i w _), H0, Below.refl _ w⟩
  case round =>
    obtain ⟨p, out, acc, V, B, rfl, rfl, rfl, hp1, hpN, hoz, haz, HO, HA, HS, hb⟩ := hrel
    by_cases hlt : p < s.size
    · have hpi : (p : Int) < (s.size : Int) := by omega
      have hex : 0 < (s.extract p s.size).size := by rw [ByteArray.size_extract]; omega
      have hn := HN.out p wr hex
      cases hpc : pcD (s.extract p s.size) with
      | clo =>
        have hs1 := db_clo _ p hex hpc
        rw [ext_tail] at hs1
        obtain ⟨hT, hbs, hen⟩ := HS.out
        rw [hs1] at hT hbs hen
        simp only [List.append_nil] at hT hbs
        rw [hpc] at hn
        have HC := Lib.hid hn
        have HT := Lib.hid (ba_of hT)
        subst hen hbs
        clear hn hpc hs1 hT hex HS HN
        go_wp2_with fail
        refine HC.out.mono ?_
        rintro e w1 ⟨rfl, hb1⟩
        have hb2 := hb.trans (hb1.mono hb.size)
        have HA2 := Lib.hid ((own_below HA.out hb1).alloc (.cells #[] 53))
        have hcv := conv_bys (bys_own ((own_below HO.out hb1).alloc (.cells #[] 53)))
        go_wp2_with fail
        go_ret3
        exact ⟨B, by show Ending.returned (.tuple #[.string out, B, .bool true]) = .returned (.tuple #[.string (ba T), B, .bool true]); rw [HT.out], HA2.out, hb2.alloc hb2.size _⟩
      | bad =>
        have hs1 := db_bad _ p hex hpc
        rw [ext_tail, List.drop_drop] at hs1
        obtain ⟨hT, hbs, hen⟩ := HS.out
        rw [hs1] at hT hbs hen
        have HS2 := Lib.hid (show St2 s.data.toList T bs en (p + 1) (out ++ ⟨#[92]⟩) (acc ++ [p]) from ⟨by rw [tol_app', List.append_assoc]; exact hT, by rw [List.append_assoc]; exact hbs, hen⟩)
        rw [hpc] at hn
        have HC := Lib.hid hn
        clear hn hpc hs1 hT hbs hen hex HS HN
        go_wp2_with fail
        refine HC.out.mono ?_
        rintro e w1 ⟨rfl, hb1⟩
        have hb2 := hb.trans (hb1.mono hb.size)
        have hb3 := hb2.alloc hb2.size (.cells #[] 53)
        have hb4 := hb3.alloc hb3.size (.cells #[] 55)
        have hb5 := hb4.alloc hb4.size (.cells #[.int .i64 (p : Int)] 3)
        have HB5 := Lib.hid hb5
        have HO5 := Lib.hid ((((own_below HO.out hb1).alloc (.cells #[] 53)).alloc (.cells #[] 55)).alloc (.cells #[.int .i64 (p : Int)] 3))
        have HA5 := Lib.hid ((((own_below HA.out hb1).alloc (.cells #[] 53)).alloc (.cells #[] 55)).alloc (.cells #[.int .i64 (p : Int)] 3))
        have hN5 := cell_one_new ((w1.alloc (.cells #[] 53)).alloc (.cells #[] 55)) (.int .i64 (p : Int)) 3
        rw [size_alloc, size_alloc] at hN5
        have HN5 := Lib.hid hN5
        clear hN5
        clear hb hb1 hb2 hb3 hb4 hb5
        have tok : True := trivial
        go_wp2_with (first
          | (at_builtin; have _t := tok; clear tok; go_must (refine wpList_append_own _ rfl (.tmp 39) (.tmp 41) 22 rfl w.heap.size 3 i0 (.int .i64 0) 1 8 Try.underlying22 HI.out.1 HI.out.2.1 HI.out.2.2.1 HI.out.2.2.2 rfl (by decide) B acc.length (places acc) rfl HA5.out ⟨w1.heap.size + 1 + 1, 0, none⟩ 1 1 [.int .i64 (p : Int)] rfl rfl HN5.out (by intro u hu; simp at hu; subst hu; rfl) (by unfold maxLen; omega) (by omega) HB5.out.size ?_; intro v3 w3 hown3 hg3 hnil3; have HO6 := Lib.hid (HO5.out.kept hg3 (rows_apart HO5.out HA5.out ne_iu.symm)); have HA6 := Lib.hid hown3; have HB6 := Lib.hid (own_grown HB5.out hg3 (fun g h => (HA5.out.lt g h).1) HB5.out.size); clear hown3 hg3 hnil3))
          | (at_builtin; go_must (refine wpList_append_own _ rfl (.tmp 43) (.tmp 44) 34 rfl w.heap.size 5 i1 (.int .u8 0) 1 1 Try.underlying34 HJ.out.1 HJ.out.2.1 HJ.out.2.2.1 HJ.out.2.2.2 rfl (by decide) V out.size (cellsOf out) rfl (HO6.out.alloc (.cells #[.int .u8 92] 5)) ⟨w3.heap.size, 0, none⟩ 1 1 [.int .u8 92] rfl rfl (cell_one_new w3 (.int .u8 92) 5) (by intro u hu; simp at hu; subst hu; rfl) (by unfold maxLen; omega) (by omega) (by rw [size_alloc]; exact Nat.le_succ_of_le HB6.out.size) ?_; intro v4 w4 hown4 hg4 hnil4; have HA7 := Lib.hid ((HA6.out.alloc (.cells #[.int .u8 92] 5)).kept hg4 (rows_apart (HA6.out.alloc (.cells #[.int .u8 92] 5)) (HO6.out.alloc (.cells #[.int .u8 92] 5)) ne_iu)); have HO7 := Lib.hid (own_join (x := ⟨#[92]⟩) hown4); have HB7 := Lib.hid (own_grown (HB6.out.alloc HB6.out.size (.cells #[.int .u8 92] 5)) hg4 (fun g h => (HO6.out.lt g h).1) (by rw [size_alloc]; exact Nat.le_succ_of_le HB6.out.size)); clear hown4 hg4 hnil4)))
        go_roundw
        case rel => exact ⟨p + 1, out ++ ⟨#[92]⟩, acc ++ [p], v4, v3, rfl, rfl, by go_num, by omega, by omega, by rw [Sg.app_size]; show out.size + 1 ≤ 2 * (p + 1); omega, by rw [List.length_append]; show acc.length + 1 ≤ p + 1; omega, HO7, Lib.hid (by rw [List.length_append, places_snoc]; exact HA7.out), HS2, HB7.out⟩
        case measure => simp [intOf]; omega
      | say t n =>
        obtain ⟨hn1, hn2, hn3, hs1⟩ := db_say _ p hex t n hpc
        rw [ext_tail] at hs1
        rw [ByteArray.size_extract] at hn2
        obtain ⟨hT, hbs, hen⟩ := HS.out
        rw [hs1, List.drop_drop] at hT hbs hen
        have HS2 := Lib.hid (show St2 s.data.toList T bs en (p + n) (out ++ t) acc from ⟨by rw [tol_app', List.append_assoc]; exact hT, hbs, hen⟩)
        rw [hpc] at hn
        have HC := Lib.hid (show Calls Try.prog 19 #[.string (s.extract p s.size)] wr fun e w' => e = .returned (.iface 58 (.agg #[.string t, .int .i64 (n : Int)])) ∧ Below wr.heap.size wr w' from hn)
        have hzb : out.size + t.size ≤ 1000000 := by omega
        have hpn : p + n ≤ s.size := by omega
        have hzn : out.size + t.size ≤ 2 * (p + n) := by omega
        clear hn hpc hs1 hT hbs hen hex HS HN hn2 hn3 hoz
        go_wp2_with fail
        refine HC.out.mono ?_
        rintro e w1 ⟨rfl, hb1⟩
        have HB3 := Lib.hid (((hb.trans (hb1.mono hb.size)).alloc (hb.trans (hb1.mono hb.size)).size (.cells #[] 53)).alloc (by have := (hb.trans (hb1.mono hb.size)).size; simp; omega) (.cells #[] 55) |>.alloc (by have := (hb.trans (hb1.mono hb.size)).size; simp; omega) (.cells #[.string t, .int .i64 (n : Int)] 58))
        have hown1 := own_below HO.out hb1
        have HLt := Lib.hid (fun g (h : V.ownBlock = some g) => (hown1.lt g h).1)
        have HNe := Lib.hid (show some (w1.heap.size + 1 + 1) ≠ V.ownBlock from fun e => by have := (hown1.lt _ e.symm).2; omega)
        have HO3 := Lib.hid (((hown1.alloc (.cells #[] 53)).alloc (.cells #[] 55)).alloc (.cells #[.string t, .int .i64 (n : Int)] 58))
        have HA3 := Lib.hid ((((own_below HA.out hb1).alloc (.cells #[] 53)).alloc (.cells #[] 55)).alloc (.cells #[.string t, .int .i64 (n : Int)] 58))
        have HZ := Lib.hid (show (((w1.alloc (.cells #[] 53)).alloc (.cells #[] 55)).alloc (.cells #[.string t, .int .i64 (n : Int)] 58)).cell? ⟨w1.heap.size + 1 + 1, 1, none⟩ = some (.int .i64 (n : Int)) from by
          have := at_new (W := (w1.alloc (.cells #[] 53)).alloc (.cells #[] 55)) (C := #[.string t, .int .i64 (n : Int)]) (t := 58) (k := 1) (u := .int .i64 (n : Int)) rfl
          rw [size_alloc, size_alloc] at this
          exact this)
        have HBs := Lib.hid (show w.heap.size ≤ (((w1.alloc (.cells #[] 53)).alloc (.cells #[] 55)).alloc (.cells #[.string t, .int .i64 (n : Int)] 58)).heap.size from HB3.out.size)
        have hzb2 : out.size + t.size ≤ 140737488355328 := by omega
        clear hown1 hb hb1
        go_wp2_with (at_builtin; go_must (refine wpList_append_text rfl (.tmp 50) (.tmp 52) rfl w.heap.size V out.size (cellsOf out) rfl HO3.out t rfl hzb2 HBs.out ?_; intro v2 w2 hown2 hg2; have q1 := hg2.cell HZ.out HNe.out; have HO4 := Lib.hid (own_join hown2); have HA4 := Lib.hid (HA3.out.kept hg2 (rows_apart HA3.out HO3.out ne_iu)); have HB4 := Lib.hid (own_grown HB3.out hg2 HLt.out HBs.out); clear hown2 hg2))
        go_roundw
        case rel => exact ⟨p + n, out ++ t, acc, v2, B, rfl, rfl, by go_num, by omega, hpn, by rw [Sg.app_size]; exact hzn, by omega, HO4, HA4, HS2, HB4.out⟩
        case measure => simp [intOf]; omega
    · obtain rfl : p = s.size := by omega
      obtain ⟨hT, hbs, hen⟩ := HS.out
      rw [List.drop_of_length_le (by rw [← Lib.size_eq]; exact Nat.le_refl _), dbT_nil] at hT hbs hen
      simp only [List.append_nil] at hT hbs
      have HT := Lib.hid (ba_of hT)
      subst hen hbs
      have hcv := conv_bys (bys_own HO.out)
      clear hT HS HN
      go_wp2_with fail
      go_ret3
      exact ⟨B, by show Ending.returned (.tuple #[.string out, B, .bool false]) = .returned (.tuple #[.string (ba T), B, .bool false]); rw [HT.out], HA.out, hb⟩
end Go.Proofs.Ytmkchfpmlidaiaa
