/- The scanner's plainSize: how far a plain text goes (leaf by leaf; written by tools/gen_pq9.py). -/
import Derived.Test.YtapkejdjbmdebaaDoorPq6
import Derived.Test.YtapkejdjbmdebaaDoorPq7
import Derived.Test.YtapkejdjbmdebaaDoorSm
import Derived.Test.YtapkejdjbmdebaaDoorIdy
namespace Go.Proofs.YtapkejdjbmdebaaDoor
open Go.RowKit
open Go.Proofs.YtapkejdjbmdebaaDoor.Sg
set_option linter.unusedVariables false

theorem trimRight_any (s : ByteArray) (w : World) (hs : s.size ≤ 100000) :
    Calls Tryd.prog 75 #[.string s, .string ⟨#[32, 9]⟩] w fun e w' => ∃ t : ByteArray, e = .returned (.string t) ∧ t.size = Sc.trim (Sc.nats s) ∧ Below w.heap.size w w' := by
  have h := Any.strings_TrimRight_laid (L := tr_lays) (by kernel_rfl) s ⟨#[32, 9]⟩ w (by omega) (by decide) (ascii_of_all (by decide))
  refine Calls.mono h ?_
  rintro e w' ⟨rfl, hb⟩
  refine ⟨_, rfl, ?_, hb⟩
  rw [size_at]
  exact Sc.trim_lib _
/-- How far a plain text goes that begins with its first sign. -/
def plN (op : Bool) (s : ByteArray) : Nat := (nx s 0).2 + Sc.goesN op (s.get! ((nx s 0).2 - 1)).toNat ((Sc.nats s).drop (nx s 0).2)
theorem plN_eq (op : Bool) (s : ByteArray) : Sc.plainN op (Sc.nats s) = Sc.trim ((Sc.nats s).take (plN op s)) := by
  have h := Sc.nx_list s 0
  rw [List.drop_zero] at h
  rw [Sc.plainN_eq, ← h, Sc.nats_getD]; rfl
/-- What is known at a place of the row. -/
def At (op : Bool) (s : ByteArray) (N p : Nat) : Prop := p = 0 ∨ (0 < p ∧ N = p + Sc.goesN op (s.get! (p - 1)).toNat ((Sc.nats s).drop p))
theorem at_on (op : Bool) (s : ByteArray) (p : Nat) (h : p < s.size) (hA : At op s (plN op s) p) (hs : 0 < p → Sc.stop op (Sc.blk (s.get! (p - 1)).toNat) ((Sc.nats s).drop p) = false) : At op s (plN op s) (p + (nx s p).2) := by
  have hk := nx_pos s p h
  rcases hA with rfl | ⟨h1, h2⟩
  · right
    rw [Nat.zero_add]
    exact ⟨by omega, rfl⟩
  · right
    refine ⟨by omega, ?_⟩
    rw [h2, Sc.goesN_on _ _ _ (hs h1), ← Sc.nx_list, Sc.drop_getD, List.drop_drop, show p + ((nx s p).2 - 1) = p + (nx s p).2 - 1 from by omega, Nat.add_assoc]
theorem at_stop (op : Bool) (s : ByteArray) (p : Nat) (hp : 0 < p) (hA : At op s (plN op s) p) (hs : Sc.stop op (Sc.blk (s.get! (p - 1)).toNat) ((Sc.nats s).drop p) = true) : plN op s = p := by
  rcases hA with rfl | ⟨h1, h2⟩
  · omega
  · rw [Sc.goesN_stop _ _ _ hs] at h2; exact h2
theorem at_end (op : Bool) (s : ByteArray) (h0 : 0 < s.size) (hA : At op s (plN op s) s.size) : plN op s = s.size := by
  rcases hA with h | ⟨h1, h2⟩
  · omega
  · rw [Sc.drop_nil s s.size (Nat.le_refl _), Sc.goesN_stop _ _ _ rfl] at h2; exact h2
theorem plN_le (op : Bool) (s : ByteArray) (h0 : 0 < s.size) : ∀ p, p ≤ s.size → At op s (plN op s) p → True := fun _ _ _ => trivial
theorem ext_drop (s : ByteArray) (p : Nat) : Sc.nats (s.extract p s.size) = (Sc.nats s).drop p := Sc.nats_tail s p
/-- The tests of one round, by the sign at the place. -/
structure Tests (op : Bool) (s : ByteArray) (p R : Nat) : Prop where
  bad : R ≠ 65533 → Sc.bad ((Sc.nats s).drop p) = false
  high : R = 65533 → 128 ≤ (s.get! p).toNat
  colon : R = 58 ↔ (s.get! p).toNat = 58
  hash : R = 35 ↔ (s.get! p).toNat = 35
theorem tests (op : Bool) (s : ByteArray) (p : Nat) (h : p < s.size) : Tests op s p (Utf8.decode s p).1 := by
  refine ⟨fun hR => ?_, fun hR => ?_, dec_is s p 58 h (by decide), dec_is s p 35 h (by decide)⟩
  · rw [Sc.bad_at, nx_dec s p h, if_neg (fun x => hR x.1)]
    exact decide_eq_false (by dsimp only; omega)
  · rcases Nat.lt_or_ge (s.get! p).toNat 128 with hl | hl
    · have := (dec_is s p (s.get! p).toNat h hl).2 rfl
      omega
    · exact hl
theorem st_on {a b c d e f g : Bool} (h1 : a = false) (h2 : b = false ∨ c = false) (h3 : d = false ∨ e = false) (h4 : f = false ∨ g = false) : (a || (b && c) || (d && e) || (f && g)) = false := by
  subst h1
  rcases h2 with rfl | rfl <;> rcases h3 with rfl | rfl <;> rcases h4 with rfl | rfl <;> simp
theorem st_1 {a b c d e f g : Bool} (h : a = true) : (a || (b && c) || (d && e) || (f && g)) = true := by subst h; simp
theorem st_2 {a b c d e f g : Bool} (h : b = true) (h2 : c = true) : (a || (b && c) || (d && e) || (f && g)) = true := by subst h; subst h2; simp
theorem st_3 {a b c d e f g : Bool} (h : d = true) (h2 : e = true) : (a || (b && c) || (d && e) || (f && g)) = true := by subst h; subst h2; simp
theorem st_4 {a b c d e f g : Bool} (h : f = true) (h2 : g = true) : (a || (b && c) || (d && e) || (f && g)) = true := by subst h; subst h2; simp
theorem flo_high (c : Nat) (h : 128 ≤ c) : Sc.flo c = false := by simp [Sc.flo]; omega
set_option maxHeartbeats 16000000 in
set_option maxRecDepth 100000 in
theorem pPlain (b op : Nat) (s : ByteArray) (w : World) (hs : s.size ≤ 100000) (h0 : 0 < s.size) (hT : Tabs w) (c5 : w.cell? ⟨b, 5, none⟩ = some (.int .i64 op))
    (n1 : Sc.bad (Sc.nats s) = false) (n2 : ¬ ((s.get! 0).toNat = 58 ∧ Sc.key (decide (0 < op)) ((Sc.nats s).drop 1) = true)) (n3 : 0 < op → Sc.flo (s.get! 0).toNat = false) :
    Calls Tryd.prog 58 #[.pointer (some ⟨b, 0, none⟩), .string s] w fun e w' => e = .returned (.int .i64 (Sc.plainN (decide (0 < op)) (Sc.nats s))) ∧ Below w.heap.size w w' := by
  rw [plN_eq]
  have HT := Lib.hid (fun W (hb : Below w.heap.size w W) => hT.below hb)
  have HC5 := Lib.hid (fun W (hb : Below w.heap.size w W) => at_below hb c5)
  have HBad := Lib.hid (fun p W (hb : Below w.heap.size w W) (hp : p < s.size) => pBad (s.extract p s.size) W (by rw [ByteArray.size_extract]; omega) (by rw [ByteArray.size_extract]; omega) (hT.below hb))
  have HKey := Lib.hid (fun p W (hb : Below w.heap.size w W) => pEndsKey b op (s.extract p s.size) W (by unfold maxLen; rw [ByteArray.size_extract]; omega) (at_below hb c5))
  have HOn := Lib.hid (fun p h hA hst => at_on (decide (0 < op)) s p h hA hst)
  have HStop := Lib.hid (fun p hp hA hst => at_stop (decide (0 < op)) s p hp hA hst)
  have HEnd := Lib.hid (fun hA => at_end (decide (0 < op)) s h0 hA)
  have HTr := Lib.hid (fun N W (hN : N ≤ s.size) => trimRight_any (s.extract 0 N) W (by rw [ByteArray.size_extract]; omega))
  have HTrS := Lib.hid (fun W => trimRight_any s W hs)
  have HN1 := Lib.hid n1
  have HN2 := Lib.hid n2
  have HN3 := Lib.hid n3
  have HSt := Lib.hid (fun pb p hp => Sc.stop_at (decide (0 < op)) pb s p hp)
  have HTs := Lib.hid (fun p hp => tests (decide (0 < op)) s p hp)
  obtain ⟨N, hN⟩ : ∃ N, plN (decide (0 < op)) s = N := ⟨_, rfl⟩
  have HOP : Hid (op = 0 ∨ 0 < op) := Lib.hid (by omega)
  rw [hN] at HOn HStop HEnd ⊢
  clear hN hT c5 n1 n2 n3
  go_enter Tryd.func58, Tryd.ntmps58
  go_wp2_with fail
  go_step3
  go_wp2_with fail
  go_step3
  go_wp2_with fail
  go_loopg [5] s.size (fun gf z wr => ∃ (p : Nat), z = .int .i64 s.size ∧ wr.heap[w.heap.size]? = some (.stringIter s p) ∧ Below w.heap.size w wr ∧ p ≤ s.size ∧ s.size ≤ p + gf ∧ Hid (At (decide (0 < op)) s N p))
  case atStart => exact ⟨0, rfl, World.iter_heap w s 0, (Below.refl _ w).alloc (Nat.le_refl _) _, Nat.zero_le _, by omega, Lib.hid (.inl rfl)⟩
  case round =>
    obtain ⟨p, rfl, hit, hb, hps, hf, HA⟩ := hrel
    by_cases hlt : p < s.size
    · obtain ⟨g', rfl⟩ : ∃ g', gk = g' + 1 := ⟨gk - 1, by omega⟩
      have hnx : ∀ ty, (Instr.next (.pointer (some ⟨w.heap.size, 0, none⟩)) true ty).run Tryd.prog wr = _ := fun ty => Lib.run_next_any_at wr w.heap.size s p ty hit hlt
      have hwd := nx_pos s p hlt
      have hwn := nx_le s p hlt
      have hts := HTs.out p hlt
      have hon := HOn.out p hlt HA.out
      rw [← nx_width s p hlt] at hnx
      obtain ⟨K, hK⟩ : ∃ K, (nx s p).2 = K := ⟨_, rfl⟩
      obtain ⟨R, hR⟩ : ∃ R, (Utf8.decode s p).1 = R := ⟨_, rfl⟩
      rw [hK, hR] at hnx
      rw [hK] at hwd hwn hon
      rw [hR] at hts
      have hit2 := Lib.iterAt_heap wr w.heap.size s p (p + K) hit
      have hb2 := Lib.below_iterAt hb (k := w.heap.size) (Nat.le_refl _) s (p + K)
      obtain ⟨W, hWd⟩ : ∃ W, wr.iterAt w.heap.size s (p + K) = W := ⟨_, rfl⟩
      rw [hWd] at hnx hit2 hb2
      have hst := fun pb => HSt.out pb p hlt
      have hge := Sc.get_el s p hlt
      have hpI : (p : Int) < (s.size : Int) := by omega
      have hpJ : (p : Int) ≤ (s.size : Int) := by omega
      have hp1 : ((p : Int) + 1) ≤ (s.size : Int) := by omega
      have hp0 : (0 : Int) ≤ (p : Int) := by omega
      have HON := Lib.hid hon
      have HST := Lib.hid hst
      have HTS := Lib.hid hts
      have HIT := Lib.hid hit2
      have HGE := Lib.hid hge
      have hbad := HBad.out p W hb2 hlt
      rw [ext_drop] at hbad
      have hkey := fun (W' : World) (hb' : Below w.heap.size w W') => HKey.out (p + 1) W' hb'
      rw [ext_drop] at hkey
      have hflo := fun W' => pFlow (s[p]'hlt).toNat W'
      have HBD := Lib.hid hbad
      have HKY := Lib.hid hkey
      have HFL := Lib.hid hflo
      clear hit hb hK hR hWd hon hst hts hit2 hge hbad hkey hflo
      by_cases k1 : R = 65533
      · subst k1
        have hhi := HTS.out.high rfl
        have hfl0 : Sc.flo (s[p]'hlt).toNat = false := by rw [HGE.out]; exact flo_high _ hhi
        have q58 : ((s.get! p).toNat == 58) = false := beq_eq_false_iff_ne.2 (by omega)
        have q35 : ((s.get! p).toNat == 35) = false := beq_eq_false_iff_ne.2 (by omega)
        cases hbd : Sc.bad ((Sc.nats s).drop p) with
        | true =>
          rw [hbd] at HBD
          have hpp : 0 < p := by
            rcases Nat.eq_zero_or_pos p with h | h
            · subst h; rw [List.drop_zero, HN1.out] at hbd; cases hbd
            · exact h
          have HNP := Lib.hid (HStop.out p hpp HA.out (by rw [HST.out]; exact st_1 hbd))
          go_wp2_with fail
          refine (HBD.out).mono ?_
          rintro e w1 ⟨rfl, hc1⟩
          have hb3 := hb2.trans (hc1.mono hb2.size)
          have HIT2 := Lib.hid ((hc1.block _ (Array.getElem?_eq_some_iff.1 HIT.out).1).trans HIT.out)
          clear hc1
          go_wp2_with fail
          refine (HTr.out p _ hps).mono ?_
          rintro e w9 ⟨t, rfl, htz, hb9⟩
          have HTZ := Lib.hid htz
          clear htz
          go_wp2_with fail
          try rw [Exit.noGoto_ret]
          go_ret
          refine ⟨?_, hb3.trans (hb9.mono hb3.size)⟩
          rw [HNP.out, ← Sc.nats_head, ← HTZ.out]
          rfl
        | false =>
          rw [hbd] at HBD
          rcases HOP.out with ho | ho
          · subst ho
            have HAt := Lib.hid (HON.out (fun hpp => by rw [HST.out]; exact st_on hbd (.inl q58) (.inl q35) (.inl rfl)))
            go_wp2_with fail
            refine HBD.out.mono ?_
            rintro e w1 ⟨rfl, hc1⟩
            have hb3 := hb2.trans (hc1.mono hb2.size)
            have HIT2 := Lib.hid ((hc1.block _ (Array.getElem?_eq_some_iff.1 HIT.out).1).trans HIT.out)
            have c5 := HC5.out _ hb3
            clear hc1
            go_wp2_with fail
            go_roundg g'
            case measure => omega
            case rel => exact ⟨p + K, rfl, HIT2.out, hb3, by omega, by omega, HAt⟩
          · have hoI : (0 : Int) < (op : Int) := by omega
            have HF := Lib.hid (fun W' => by have := HFL.out W'; rw [hfl0] at this; exact this)
            have HAt := Lib.hid (HON.out (fun hpp => by rw [HST.out]; exact st_on hbd (.inl q58) (.inl q35) (.inr (by rw [← HGE.out]; exact hfl0))))
            go_wp2_with fail
            refine HBD.out.mono ?_
            rintro e w1 ⟨rfl, hc1⟩
            have hb3 := hb2.trans (hc1.mono hb2.size)
            have HIT2 := Lib.hid ((hc1.block _ (Array.getElem?_eq_some_iff.1 HIT.out).1).trans HIT.out)
            have c5 := HC5.out _ hb3
            clear hc1
            go_wp2_with fail
            refine (HF.out _).mono ?_
            rintro e w2 ⟨rfl, rfl⟩
            go_wp2_with fail
            go_roundg g'
            case measure => omega
            case rel => exact ⟨p + K, rfl, HIT2.out, hb3, by omega, by omega, HAt⟩
      have hbd := HTS.out.bad k1
      have g65533 : ((R : Int) == 65533) = false := beq_eq_false_iff_ne.2 (by omega)
      by_cases k2 : R = 58
      · subst k2
        have hch := HTS.out.colon.1 rfl
        have q35 : ((s.get! p).toNat == 35) = false := beq_eq_false_iff_ne.2 (by omega)
        have HKW := Lib.hid (HKY.out W hb2)
        cases hky : Sc.key (decide (0 < op)) ((Sc.nats s).drop (p + 1)) with
        | true =>
          rw [hky] at HKW
          have hpp : 0 < p := by
            rcases Nat.eq_zero_or_pos p with h | h
            · subst h; exact absurd ⟨hch, hky⟩ HN2.out
            · exact h
          have HNP := Lib.hid (HStop.out p hpp HA.out (by rw [HST.out]; exact st_2 (beq_iff_eq.2 hch) hky))
          go_wp2_with fail
          refine (HKW.out).mono ?_
          rintro e w1 ⟨rfl, rfl⟩
          go_wp2_with fail
          refine (HTr.out p _ hps).mono ?_
          rintro e w9 ⟨t, rfl, htz, hb9⟩
          have HTZ := Lib.hid htz
          clear htz
          go_wp2_with fail
          try rw [Exit.noGoto_ret]
          go_ret
          refine ⟨?_, hb2.trans (hb9.mono hb2.size)⟩
          rw [HNP.out, ← Sc.nats_head, ← HTZ.out]
          rfl
        | false =>
          rw [hky] at HKW
          rcases HOP.out with ho | ho
          · subst ho
            have HIT2 := HIT
            have c5 := HC5.out _ hb2
            have HAt := Lib.hid (HON.out (fun hpp => by rw [HST.out]; exact st_on hbd (.inr hky) (.inl q35) (.inl rfl)))
            go_wp2_with fail
            refine (HKW.out).mono ?_
            rintro e w1 ⟨rfl, rfl⟩
            go_wp2_with fail
            go_roundg g'
            case measure => omega
            case rel => exact ⟨p + K, rfl, HIT2.out, hb2, by omega, by omega, HAt⟩
          · have hoI : (0 : Int) < (op : Int) := by omega
            have hod : decide (0 < op) = true := decide_eq_true ho
            have hfl : Sc.flo (s[p]'hlt).toNat = false := by rw [HGE.out, hch]; rfl
            have HF := Lib.hid (fun W' => by have := HFL.out W'; rw [hfl] at this; exact this)
            have HIT2 := HIT
            have c5 := HC5.out _ hb2
            have HAt := Lib.hid (HON.out (fun hpp => by rw [HST.out]; exact st_on hbd (.inr hky) (.inl q35) (.inr (by rw [← HGE.out]; exact hfl))))
            go_wp2_with fail
            refine (HKW.out).mono ?_
            rintro e w1 ⟨rfl, rfl⟩
            go_wp2_with fail
            refine (HF.out _).mono ?_
            rintro e w2 ⟨rfl, rfl⟩
            go_wp2_with fail
            go_roundg g'
            case measure => omega
            case rel => exact ⟨p + K, rfl, HIT2.out, hb2, by omega, by omega, HAt⟩
      have g58 : ((R : Int) == 58) = false := beq_eq_false_iff_ne.2 (by omega)
      have q58 : ((s.get! p).toNat == 58) = false := beq_eq_false_iff_ne.2 (fun h => k2 (HTS.out.colon.2 h))
      by_cases k3 : R = 35
      · subst k3
        have hch := HTS.out.hash.1 rfl
        have hfl : Sc.flo (s[p]'hlt).toNat = false := by rw [HGE.out, hch]; rfl
        by_cases hpp0 : 0 < p
        · have hpI0 : (0 : Int) < (p : Int) := by omega
          have hpr : p - 1 < s.size := by omega
          have hprI : (p : Int) - 1 = ((p - 1 : Nat) : Int) := by omega
          have hpr0 : (0 : Int) ≤ ((p - 1 : Nat) : Int) := by omega
          have hpr1 : ((p - 1 : Nat) : Int) < (s.size : Int) := by omega
          have HBK := Lib.hid (fun W' => pBlank (s[p - 1]'hpr).toNat W')
          have HGP := Lib.hid (Sc.get_el s (p - 1) hpr)
          cases hbk : Sc.blk (s[p - 1]'hpr).toNat with
          | true =>
            rw [hbk] at HBK
            have hpp := hpp0
            rw [HGP.out] at hbk
            have HNP := Lib.hid (HStop.out p hpp HA.out (by rw [HST.out]; exact st_3 (beq_iff_eq.2 hch) hbk))
            go_wp2_with fail
            refine (HBK.out _).mono ?_
            rintro e w1 ⟨rfl, rfl⟩
            go_wp2_with fail
            refine (HTr.out p _ hps).mono ?_
            rintro e w9 ⟨t, rfl, htz, hb9⟩
            have HTZ := Lib.hid htz
            clear htz
            go_wp2_with fail
            try rw [Exit.noGoto_ret]
            go_ret
            refine ⟨?_, hb2.trans (hb9.mono hb2.size)⟩
            rw [HNP.out, ← Sc.nats_head, ← HTZ.out]
            rfl
          | false =>
            rw [hbk] at HBK
            rw [HGP.out] at hbk
            rcases HOP.out with ho | ho
            · subst ho
              have HIT2 := HIT
              have c5 := HC5.out _ hb2
              have HAt := Lib.hid (HON.out (fun hpp => by rw [HST.out]; exact st_on hbd (.inl q58) (.inr hbk) (.inl rfl)))
              go_wp2_with fail
              refine (HBK.out _).mono ?_
              rintro e w1 ⟨rfl, rfl⟩
              go_wp2_with fail
              go_roundg g'
              case measure => omega
              case rel => exact ⟨p + K, rfl, HIT2.out, hb2, by omega, by omega, HAt⟩
            · have hoI : (0 : Int) < (op : Int) := by omega
              have hod : decide (0 < op) = true := decide_eq_true ho
              have hfl := hfl
              have HF := Lib.hid (fun W' => by have := HFL.out W'; rw [hfl] at this; exact this)
              have HIT2 := HIT
              have c5 := HC5.out _ hb2
              have HAt := Lib.hid (HON.out (fun hpp => by rw [HST.out]; exact st_on hbd (.inl q58) (.inr hbk) (.inr (by rw [← HGE.out]; exact hfl))))
              go_wp2_with fail
              refine (HBK.out _).mono ?_
              rintro e w1 ⟨rfl, rfl⟩
              go_wp2_with fail
              refine (HF.out _).mono ?_
              rintro e w2 ⟨rfl, rfl⟩
              go_wp2_with fail
              go_roundg g'
              case measure => omega
              case rel => exact ⟨p + K, rfl, HIT2.out, hb2, by omega, by omega, HAt⟩
        · have hpI0 : ¬ ((0 : Int) < (p : Int)) := by omega
          rcases HOP.out with ho | ho
          · subst ho
            have HIT2 := HIT
            have c5 := HC5.out _ hb2
            have HAt := Lib.hid (HON.out (fun hpp => absurd hpp hpp0))
            go_wp2_with fail
            go_roundg g'
            case measure => omega
            case rel => exact ⟨p + K, rfl, HIT2.out, hb2, by omega, by omega, HAt⟩
          · have hoI : (0 : Int) < (op : Int) := by omega
            have HIT2 := HIT
            have c5 := HC5.out _ hb2
            have HF := Lib.hid (fun W' => by have := HFL.out W'; rw [hfl] at this; exact this)
            have HAt := Lib.hid (HON.out (fun hpp => absurd hpp hpp0))
            go_wp2_with fail
            refine (HF.out _).mono ?_
            rintro e w2 ⟨rfl, rfl⟩
            go_wp2_with fail
            go_roundg g'
            case measure => omega
            case rel => exact ⟨p + K, rfl, HIT2.out, hb2, by omega, by omega, HAt⟩
      have g35 : ((R : Int) == 35) = false := beq_eq_false_iff_ne.2 (by omega)
      have q35 : ((s.get! p).toNat == 35) = false := beq_eq_false_iff_ne.2 (fun h => k3 (HTS.out.hash.2 h))
      rcases HOP.out with ho | ho
      · subst ho
        have HIT2 := HIT
        have c5 := HC5.out _ hb2
        have HAt := Lib.hid (HON.out (fun hpp => by rw [HST.out]; exact st_on hbd (.inl q58) (.inl q35) (.inl rfl)))
        go_wp2_with fail
        go_roundg g'
        case measure => omega
        case rel => exact ⟨p + K, rfl, HIT2.out, hb2, by omega, by omega, HAt⟩
      · have hoI : (0 : Int) < (op : Int) := by omega
        have hod : decide (0 < op) = true := decide_eq_true ho
        cases hfl : Sc.flo (s[p]'hlt).toNat with
        | false =>
          have HF := Lib.hid (fun W' => by have := HFL.out W'; rw [hfl] at this; exact this)
          have HIT2 := HIT
          have c5 := HC5.out _ hb2
          have HAt := Lib.hid (HON.out (fun hpp => by rw [HST.out]; exact st_on hbd (.inl q58) (.inl q35) (.inr (by rw [← HGE.out]; exact hfl))))
          go_wp2_with fail
          refine (HF.out _).mono ?_
          rintro e w1 ⟨rfl, rfl⟩
          go_wp2_with fail
          go_roundg g'
          case measure => omega
          case rel => exact ⟨p + K, rfl, HIT2.out, hb2, by omega, by omega, HAt⟩
        | true =>
          have hpp : 0 < p := by
            rcases Nat.eq_zero_or_pos p with h | h
            · subst h; rw [HGE.out, HN3.out ho] at hfl; cases hfl
            · exact h
          have HF := Lib.hid (fun W' => by have := HFL.out W'; rw [hfl] at this; exact this)
          have c5 := HC5.out _ hb2
          have HNP := Lib.hid (HStop.out p hpp HA.out (by rw [HST.out]; exact st_4 hod (by rw [← HGE.out]; exact hfl)))
          go_wp2_with fail
          refine (HF.out _).mono ?_
          rintro e w1 ⟨rfl, rfl⟩
          go_wp2_with fail
          refine (HTr.out p _ hps).mono ?_
          rintro e w9 ⟨t, rfl, htz, hb9⟩
          have HTZ := Lib.hid htz
          clear htz
          go_wp2_with fail
          try rw [Exit.noGoto_ret]
          go_ret
          refine ⟨?_, hb2.trans (hb9.mono hb2.size)⟩
          rw [HNP.out, ← Sc.nats_head, ← HTZ.out]
          rfl
    · have hnx : ∀ ty, (Instr.next (.pointer (some ⟨w.heap.size, 0, none⟩)) true ty).run Tryd.prog wr = _ := fun ty => Lib.run_next_end_at wr w.heap.size s p ty hit hlt
      obtain rfl : p = s.size := by omega
      have HNP := Lib.hid (HEnd.out HA.out)
      clear hlt hps hf hit
      go_wp2_with fail
      with_reducible refine (HTrS.out _).mono ?_
      rintro e w9 ⟨t, rfl, htz, hb9⟩
      have HTZ := Lib.hid htz
      clear htz
      go_wp2_with fail
      try rw [Exit.noGoto_ret]
      go_ret
      refine ⟨?_, hb.trans (hb9.mono hb.size)⟩
      rw [HNP.out, List.take_of_length_le (by rw [Sc.nats_len]; exact Nat.le_refl _), ← HTZ.out]
      rfl
end Go.Proofs.YtapkejdjbmdebaaDoor
