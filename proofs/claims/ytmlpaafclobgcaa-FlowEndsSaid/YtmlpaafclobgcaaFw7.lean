/- Package flow: value. (Written by tools/gen_fw7.py.) -/
import Derived.Test.YtmlpaafclobgcaaFw6
namespace Go.Proofs.Ytmlpaafclobgcaa.Fl
open Go.Proofs.Ytmlpaafclobgcaa.Ar
theorem lead_fuel (l : List Tk) (e : Nat) : ∀ (f g : Nat) (o : Option (Nat × Nat)) (i : Nat), e ≤ i + f → e ≤ i + g → lead l e f o i = lead l e g o i
  | 0, 0, o, i => fun _ _ => rfl
  | 0, g + 1, o, i => fun h _ => by
    rw [lead, lead, if_neg]
    have : kd l e i = 0 := by unfold kd; rw [if_pos (.inl (by omega))]
    rw [this]; decide
  | f + 1, 0, o, i => fun _ h => by
    rw [lead, lead, if_neg]
    have : kd l e i = 0 := by unfold kd; rw [if_pos (.inl (by omega))]
    rw [this]; decide
  | f + 1, g + 1, o, i => fun h1 h2 => by
    rw [lead, lead]
    by_cases hp : isProp' (kd l e i) = true
    · rw [if_pos hp, if_pos hp]
      have h0 : kd l e i ≠ 0 := fun h => by rw [h] at hp; exact absurd hp (by decide)
      have := blanks_in (l := l) (e := e) (i := i + 1) (kd_lt h0).1
      exact lead_fuel l e f g _ _ (by omega) (by omega)
    · rw [if_neg hp, if_neg hp]
/-- Where a value's first part is looked for: at place h, m behind the last of the parts ahead (or i0, if none is). -/
def VSt (l : List Tk) (i0 h m : Nat) (O : Option (Nat × Nat)) (I : Nat) : Prop :=
  i0 ≤ h ∧ h ≤ l.length ∧ m ≤ h ∧ ((m = i0 ∧ h = i0 ∧ lead l l.length (l.length - h) none h = (O, I)) ∨ (i0 < m ∧ lead l l.length (l.length - h) (some (i0, m - 1)) h = (O, I)))
theorem VSt.start {l : List Tk} {i0 : Nat} (h : i0 ≤ l.length) {O : Option (Nat × Nat)} {I : Nat} (hl : lead l l.length (l.length - i0) none i0 = (O, I)) : VSt l i0 i0 i0 O I := ⟨Nat.le_refl _, h, Nat.le_refl _, .inl ⟨rfl, rfl, hl⟩⟩
theorem VSt.next {l : List Tk} {i0 h m : Nat} {O : Option (Nat × Nat)} {I : Nat} (hv : VSt l i0 h m O I) (hp : isProp' (kd l l.length h) = true) : VSt l i0 (blanks l l.length (h + 1)) (h + 1) O I ∧ h < blanks l l.length (h + 1) := by
  obtain ⟨h1, h2, h3, h4⟩ := hv
  have h0 : kd l l.length h ≠ 0 := fun h => by rw [h] at hp; exact absurd hp (by decide)
  have hl := (kd_lt h0).1
  have hb := blanks_in (l := l) (e := l.length) (i := h + 1) hl
  have hst : ∀ o, lead l l.length (l.length - h) o h = lead l l.length (l.length - blanks l l.length (h + 1)) (some (firstOf o h, h)) (blanks l l.length (h + 1)) := fun o => by
    rw [show l.length - h = (l.length - (h + 1)) + 1 by omega, lead, if_pos hp]
    exact lead_fuel l l.length _ _ _ _ (by omega) (by omega)
  refine ⟨⟨by omega, hb.2, hb.1, .inr ⟨by omega, ?_⟩⟩, by omega⟩
  rw [Nat.add_sub_cancel]
  rcases h4 with ⟨_, e2, h4⟩ | ⟨_, h4⟩
  · rw [hst] at h4
    have : firstOf none h = i0 := e2
    rw [this] at h4
    exact h4
  · rw [hst] at h4
    exact h4
theorem VSt.stop {l : List Tk} {i0 h m : Nat} {O : Option (Nat × Nat)} {I : Nat} (hv : VSt l i0 h m O I) (hp : isProp' (kd l l.length h) = false) : I = h ∧ ((m = i0 ∧ O = none ∧ h = i0) ∨ (i0 < m ∧ O = some (i0, m - 1))) ∧ firstOf O I = i0 := by
  have hst : ∀ o, lead l l.length (l.length - h) o h = (o, h) := fun o => by
    cases hf : l.length - h with
    | zero => rfl
    | succ f => rw [lead, if_neg (by simp [hp])]
  obtain ⟨h1, h2, h3, h4⟩ := hv
  rcases h4 with ⟨e1, e2, h4⟩ | ⟨e1, h4⟩
  · rw [hst] at h4
    injection h4 with a b
    subst a b
    exact ⟨rfl, .inl ⟨e1, rfl, e2⟩, e2⟩
  · rw [hst] at h4
    injection h4 with a b
    subst a b
    exact ⟨rfl, .inr ⟨e1, rfl⟩, rfl⟩
/-- What a collection does, at a depth. -/
def colO (l : List Tk) (e : Nat) : Nat → Option (Nat → Nat → PSt → Nat × PSt)
  | 0 => none
  | d + 1 => some (fun c op s => pcolF l e (pvalN l e d) c op (e - op) (op + 1) false s)
theorem pvalN_eq (l : List Tk) (e d : Nat) : pvalN l e d = pvalF l e (colO l e d) := by
  cases d <;> rfl
end Go.Proofs.Ytmlpaafclobgcaa.Fl
namespace Go.Proofs.Ytmlpaafclobgcaa
open Go.RowKit
open Go.Proofs.Ytmlpaafclobgcaa.Sq
open Go.Proofs.Ytmlpaafclobgcaa.Ar
open Go.Proofs.Ytmlpaafclobgcaa.Fl (kx)
set_option linter.unusedVariables false

def LiveV (rb p d i0 h m : Nat) (up : Int) (a : Act) : Prop := a.defers = [] ∧ a.tmps.size = 82 ∧ a.tmps.getD 0 undef = RP rb ∧ a.tmps.getD 1 undef = .int .i64 up ∧ a.tmps.getD 2 undef = .int .i64 p ∧ a.tmps.getD 3 undef = .int .i64 d ∧ a.tmps.getD 4 undef = undef ∧ a.tmps.getD 5 undef = undef ∧ a.tmps.getD 6 undef = undef ∧ a.tmps.getD 7 undef = undef ∧ a.tmps.getD 8 undef = .int .i64 0 ∧ a.tmps.getD 9 undef = .int .i64 i0 ∧ a.tmps.getD 10 undef = .int .i64 h ∧ a.tmps.getD 11 undef = .int .i64 m
theorem LiveV.is {rb p d i0 h m : Nat} {up : Int} {a : Act} (hl : LiveV rb p d i0 h m up a) : ∃ u : Nat → Value, a = { tmps := #[RP rb, .int .i64 up, .int .i64 p, .int .i64 d, undef, undef, undef, undef, .int .i64 0, .int .i64 i0, .int .i64 h, .int .i64 m, u 12, u 13, u 14, u 15, u 16, u 17, u 18, u 19, u 20, u 21, u 22, u 23, u 24, u 25, u 26, u 27, u 28, u 29, u 30, u 31, u 32, u 33, u 34, u 35, u 36, u 37, u 38, u 39, u 40, u 41, u 42, u 43, u 44, u 45, u 46, u 47, u 48, u 49, u 50, u 51, u 52, u 53, u 54, u 55, u 56, u 57, u 58, u 59, u 60, u 61, u 62, u 63, u 64, u 65, u 66, u 67, u 68, u 69, u 70, u 71, u 72, u 73, u 74, u 75, u 76, u 77, u 78, u 79, u 80, u 81], defers := [] } := by
  obtain ⟨t, df⟩ := a
  obtain ⟨h1, h2, g0, g1, g2, g3, g4, g5, g6, g7, g8, g9, g10, g11⟩ := hl
  dsimp only at h1 h2 g0 g1 g2 g3 g4 g5 g6 g7 g8 g9 g10 g11
  subst h1
  refine ⟨fun k => t.getD k undef, ?_⟩
  have h3 := tmps_is t 82 h2
  have h4 : (List.range 82).map (fun k => t.getD k undef) = [t.getD 0 undef, t.getD 1 undef, t.getD 2 undef, t.getD 3 undef, t.getD 4 undef, t.getD 5 undef, t.getD 6 undef, t.getD 7 undef, t.getD 8 undef, t.getD 9 undef, t.getD 10 undef, t.getD 11 undef, t.getD 12 undef, t.getD 13 undef, t.getD 14 undef, t.getD 15 undef, t.getD 16 undef, t.getD 17 undef, t.getD 18 undef, t.getD 19 undef, t.getD 20 undef, t.getD 21 undef, t.getD 22 undef, t.getD 23 undef, t.getD 24 undef, t.getD 25 undef, t.getD 26 undef, t.getD 27 undef, t.getD 28 undef, t.getD 29 undef, t.getD 30 undef, t.getD 31 undef, t.getD 32 undef, t.getD 33 undef, t.getD 34 undef, t.getD 35 undef, t.getD 36 undef, t.getD 37 undef, t.getD 38 undef, t.getD 39 undef, t.getD 40 undef, t.getD 41 undef, t.getD 42 undef, t.getD 43 undef, t.getD 44 undef, t.getD 45 undef, t.getD 46 undef, t.getD 47 undef, t.getD 48 undef, t.getD 49 undef, t.getD 50 undef, t.getD 51 undef, t.getD 52 undef, t.getD 53 undef, t.getD 54 undef, t.getD 55 undef, t.getD 56 undef, t.getD 57 undef, t.getD 58 undef, t.getD 59 undef, t.getD 60 undef, t.getD 61 undef, t.getD 62 undef, t.getD 63 undef, t.getD 64 undef, t.getD 65 undef, t.getD 66 undef, t.getD 67 undef, t.getD 68 undef, t.getD 69 undef, t.getD 70 undef, t.getD 71 undef, t.getD 72 undef, t.getD 73 undef, t.getD 74 undef, t.getD 75 undef, t.getD 76 undef, t.getD 77 undef, t.getD 78 undef, t.getD 79 undef, t.getD 80 undef, t.getD 81 undef] := rfl
  rw [h4, g0, g1, g2, g3, g4, g5, g6, g7, g8, g9, g10, g11] at h3
  exact congrArg (fun t => ({ tmps := t, defers := [] } : Act)) h3
set_option maxHeartbeats 16000000 in
set_option maxRecDepth 100000 in
theorem fValue (w0 : World) (rb : Nat) (tv : Value) (l : List Tk) (d : Nat) (hT : TokOk l) (hds : d ≤ 1000) (hV : ∀ d', d = d' + 1 → ValH w0 rb tv l d') : ValH w0 rb tv l d := by
  intro w up p s R hS hu1 hu2 hp hz
  have hR := hS.rt
  have hls := hR.size
  have hb0 := Fl.blanks_in (l := l) hp
  have HB0 := Lib.hid (hR.blank p hp)
  obtain ⟨RES, hRES⟩ : ∃ RES, Fl.pvalN l l.length d up p s = RES := ⟨_, rfl⟩
  rw [hRES]
  rw [Fl.pvalN_eq] at hRES
  unfold Fl.pvalF at hRES
  dsimp only at hRES
  obtain ⟨i0, hi0⟩ : ∃ i0, Fl.blanks l l.length p = i0 := ⟨_, rfl⟩
  rw [hi0] at hRES HB0 hb0
  obtain ⟨OI, hOI⟩ : ∃ OI, Fl.lead l l.length (l.length - i0) none i0 = OI := ⟨_, rfl⟩
  obtain ⟨O, I⟩ := OI
  rw [hOI] at hRES
  dsimp only at hRES
  have HV0 := Lib.hid (Fl.VSt.start hb0.2 hOI)
  have HRES := Lib.hid hRES
  have HTok := Lib.hid hT
  have HK := Lib.hid (fun j (hj : j ≤ l.length) => hR.kind j hj)
  have HBl := Lib.hid (fun j (hj : j ≤ l.length) => hR.blank j hj)
  have HLf := Lib.hid (fun k f t => fLeaf w0 w rb tv l s R up k f t hS hu1 hu2 hz.room)
  have HTx := Lib.hid (fun i (hi : i < l.length) hk => fTexts rb tv l i w hR hT hi hk)
  have HBr := Lib.hid (fun i ho => fBrackets rb tv l i w hR hT ho)
  have HFa := Lib.hid (fun f t (hf : f < l.length) (h0 : 0 < t) (ht : t ≤ l.length) => fFault w0 w rb tv l s R up 10 f t hS hu1 hu2 hz.room (by have := hz.d; omega) hf h0 ht)
  have HCo := Lib.hid (fun d' (hd : d = d' + 1) op (h1 : p ≤ op) (h2 : op < l.length) (hk : Fl.raw l op = 8 ∨ Fl.raw l op = 9) => fCollection w0 w rb tv l d' s R (hV d' hd) hT up i0 op hS hu1 hu2 (hz.on h1 (by omega)) h2 hk (by omega))
  have hpi := hb0.1
  obtain ⟨Q, hQ⟩ : ∃ Q, Goes w0 w rb tv l R (.int .i64 RES.1) RES.2 = Q := ⟨_, rfl⟩
  have HQ := Lib.hid (fun (w3 : World) (t : Nat) (s' : Fl.PSt) (he : (t, s') = RES) (h : ∃ R', RS w0 w3 rb tv l s' R' ∧ FP w w3 rb R R') => show Q (.returned (.int .i64 t)) w3 by rw [← hQ, ← he]; exact ⟨rfl, h⟩)
  have HQ0 := Lib.hid (show (p, s) = RES → Q (.returned (.int .i64 p)) w from fun he => by rw [← hQ, ← he]; exact ⟨rfl, R, hS, FP.refl w rb R⟩)
  rw [hQ]
  have HLs := Lib.hid hls
  have HDs := Lib.hid hds
  have HPi := Lib.hid hpi
  clear hV hT hds hS hu1 hu2 hp hz hR hls hb0 hi0 hOI hRES hQ hpi
  go_enter Try.func22, Try.ntmps22
  go_wp2
  refine wp_scope_once 0 (fun a' w' => w' = w ∧ ∃ (h m : Nat), LiveV rb p d i0 h m up a' ∧ Hid (Fl.VSt l i0 h m O I)) (fun a' _ => l.length - (intOf (a'.tmps.getD 10 undef)).toNat) rfl ?_ ?_
  · rintro a' w' ⟨rfl, h, m, hlive, HVs⟩
    obtain ⟨u, rfl⟩ := hlive.is
    have HI0 := Lib.hid (show p ≤ i0 ∧ i0 ≤ h from ⟨HPi.out, HVs.out.1⟩)
    clear hlive HB0 HV0
    have hls := HLs.out
    have hds := HDs.out
    have hhl := HVs.out.2.1
    have hcall := HK.out h hhl
    have hkd := Fl.kd_kx hhl
    have hk0 := kx_pos HTok.out h
    have hkl : kx l h ≠ 21 → h < l.length := fun h2 => by
      unfold Fl.kx at h2
      split at h2
      · assumption
      · exact absurd rfl h2
    have hraw : kx l h ≠ 20 → kx l h ≠ 21 → Fl.raw l h = kx l h := fun h1 h2 => by
      have := Fl.kd_lt (l := l) (e := l.length) (i := h) (by rw [hkd, if_neg (fun h => h.elim h1 h2)]; exact hk0)
      rw [this.2, hkd, if_neg (fun h => h.elim h1 h2)]
    obtain ⟨K, hK⟩ : ∃ K, kx l h = K := ⟨_, rfl⟩
    rw [hK] at hcall hkd hk0 hkl hraw
    have H1 := Lib.hid hcall
    have hhs : h ≤ 100000 := by omega
    have HK0 := Lib.hid hk0
    have HKd := Lib.hid hkd
    have HKl := Lib.hid hkl
    have HRw := Lib.hid hraw
    clear hcall hK hkd hk0 hkl hraw hls
    by_cases q12 : K = 12
    · subst q12
      have hp2 : Fl.isProp' (Fl.kd l l.length h) = true := by rw [HKd.out]; rfl
      have hhN := HKl.out (by decide)
      obtain ⟨hn1, hn2⟩ := HVs.out.next hp2
      have H2 := HBl.out (h + 1) (by omega)
      obtain ⟨t, ht⟩ : ∃ t, Fl.blanks l l.length (h + 1) = t := ⟨_, rfl⟩
      rw [ht] at hn1 hn2 H2
      rw [show ((h + 1 : Nat) : Int) = (h : Int) + 1 from by omega] at H2
      have H2 := Lib.hid H2
      have HJ := Lib.hid hn1
      have htN := hn1.2.1
      clear HK HBl HLf HTx HBr HFa HCo HQ HQ0 HRES HVs HTok HLs HDs HPi HK0 HKd HKl HRw hp2 hn1 ht hds
      go_wp2_with fail
      refine H1.out.mono ?_
      rintro e wi ⟨rfl, rfl⟩
      go_wp2_with fail
      refine H2.out.mono ?_
      rintro e wi ⟨rfl, rfl⟩
      go_wp2_with fail
      go_step3
      refine ⟨rfl, ⟨rfl, t, h + 1, ⟨rfl, rfl, rfl, rfl, rfl, rfl, rfl, rfl, rfl, rfl, rfl, rfl, rfl, rfl⟩, HJ⟩, ?_⟩
      show l.length - ((t : Nat) : Int).toNat < l.length - ((h : Nat) : Int).toNat
      omega
    have g12 : ((K : Int) == 12) = false := by simp; omega
    by_cases q14 : K = 14
    · subst q14
      have hp2 : Fl.isProp' (Fl.kd l l.length h) = true := by rw [HKd.out]; rfl
      have hhN := HKl.out (by decide)
      obtain ⟨hn1, hn2⟩ := HVs.out.next hp2
      have H2 := HBl.out (h + 1) (by omega)
      obtain ⟨t, ht⟩ : ∃ t, Fl.blanks l l.length (h + 1) = t := ⟨_, rfl⟩
      rw [ht] at hn1 hn2 H2
      rw [show ((h + 1 : Nat) : Int) = (h : Int) + 1 from by omega] at H2
      have H2 := Lib.hid H2
      have HJ := Lib.hid hn1
      have htN := hn1.2.1
      clear HK HBl HLf HTx HBr HFa HCo HQ HQ0 HRES HVs HTok HLs HDs HPi HK0 HKd HKl HRw hp2 hn1 ht hds
      go_wp2_with fail
      refine H1.out.mono ?_
      rintro e wi ⟨rfl, rfl⟩
      go_wp2_with fail
      refine H2.out.mono ?_
      rintro e wi ⟨rfl, rfl⟩
      go_wp2_with fail
      go_step3
      refine ⟨rfl, ⟨rfl, t, h + 1, ⟨rfl, rfl, rfl, rfl, rfl, rfl, rfl, rfl, rfl, rfl, rfl, rfl, rfl, rfl⟩, HJ⟩, ?_⟩
      show l.length - ((t : Nat) : Int).toNat < l.length - ((h : Nat) : Int).toNat
      omega
    have g14 : ((K : Int) == 14) = false := by simp; omega
    have hnp : Fl.isProp' (Fl.kd l l.length h) = false := by
      rw [HKd.out]
      split
      · rfl
      · unfold Fl.isProp'; simp; omega
    obtain ⟨hI, hO, hfO⟩ := HVs.out.stop hnp
    have hres := HRES.out
    rw [hfO, hI, HKd.out] at hres
    clear HBl HRES HVs hnp hfO hI
    by_cases q15 : K = 15
    · subst q15
      rw [if_neg (by decide), if_pos (by decide)] at hres
      have H2 := HLf.out 7 i0 (h + 1)
      have HQ2 := Lib.hid (fun w3 R3 hS3 hF3 => HQ.out w3 (h + 1) _ hres ⟨R3, hS3, hF3⟩)
      rw [show ((h + 1 : Nat) : Int) = (h : Int) + 1 from by omega] at H2 HQ2
      have H2 := Lib.hid H2
      clear HK HLf HTx HBr HFa HCo HQ HQ0 HTok HLs HDs HPi HK0 HKd HKl HRw hds hres hO
      go_wp2_with fail
      refine H1.out.mono ?_
      rintro e wi ⟨rfl, rfl⟩
      go_wp2_with fail
      refine H2.out.mono ?_
      rintro e w3 ⟨rfl, R3, hS3, hF3⟩
      have HD := Lib.hid (HQ2.out w3 R3 hS3 hF3)
      clear hS3 hF3 HQ2 H2
      go_wp2_with fail
      try simp only [Exit.jump]
      exact HD.out
    have g15 : ((K : Int) == 15) = false := by simp; omega
    by_cases q16 : K = 16
    · subst q16
      rw [if_neg (by decide), if_pos (by decide)] at hres
      have H2 := HLf.out 7 i0 (h + 1)
      have HQ2 := Lib.hid (fun w3 R3 hS3 hF3 => HQ.out w3 (h + 1) _ hres ⟨R3, hS3, hF3⟩)
      rw [show ((h + 1 : Nat) : Int) = (h : Int) + 1 from by omega] at H2 HQ2
      have H2 := Lib.hid H2
      clear HK HLf HTx HBr HFa HCo HQ HQ0 HTok HLs HDs HPi HK0 HKd HKl HRw hds hres hO
      go_wp2_with fail
      refine H1.out.mono ?_
      rintro e wi ⟨rfl, rfl⟩
      go_wp2_with fail
      refine H2.out.mono ?_
      rintro e w3 ⟨rfl, R3, hS3, hF3⟩
      have HD := Lib.hid (HQ2.out w3 R3 hS3 hF3)
      clear hS3 hF3 HQ2 H2
      go_wp2_with fail
      try simp only [Exit.jump]
      exact HD.out
    have g16 : ((K : Int) == 16) = false := by simp; omega
    by_cases q17 : K = 17
    · subst q17
      rw [if_neg (by decide), if_pos (by decide)] at hres
      have H2 := HLf.out 7 i0 (h + 1)
      have HQ2 := Lib.hid (fun w3 R3 hS3 hF3 => HQ.out w3 (h + 1) _ hres ⟨R3, hS3, hF3⟩)
      rw [show ((h + 1 : Nat) : Int) = (h : Int) + 1 from by omega] at H2 HQ2
      have H2 := Lib.hid H2
      clear HK HLf HTx HBr HFa HCo HQ HQ0 HTok HLs HDs HPi HK0 HKd HKl HRw hds hres hO
      go_wp2_with fail
      refine H1.out.mono ?_
      rintro e wi ⟨rfl, rfl⟩
      go_wp2_with fail
      refine H2.out.mono ?_
      rintro e w3 ⟨rfl, R3, hS3, hF3⟩
      have HD := Lib.hid (HQ2.out w3 R3 hS3 hF3)
      clear hS3 hF3 HQ2 H2
      go_wp2_with fail
      try simp only [Exit.jump]
      exact HD.out
    have g17 : ((K : Int) == 17) = false := by simp; omega
    by_cases q13 : K = 13
    · subst q13
      rw [if_pos (by decide)] at hres
      have H2 := HLf.out 8 i0 (h + 1)
      have HQ2 := Lib.hid (fun w3 R3 hS3 hF3 => HQ.out w3 (h + 1) _ hres ⟨R3, hS3, hF3⟩)
      rw [show ((h + 1 : Nat) : Int) = (h : Int) + 1 from by omega] at H2 HQ2
      have H2 := Lib.hid H2
      clear HK HLf HTx HBr HFa HCo HQ HQ0 HTok HLs HDs HPi HK0 HKd HKl HRw hds hres hO
      go_wp2_with fail
      refine H1.out.mono ?_
      rintro e wi ⟨rfl, rfl⟩
      go_wp2_with fail
      refine H2.out.mono ?_
      rintro e w3 ⟨rfl, R3, hS3, hF3⟩
      have HD := Lib.hid (HQ2.out w3 R3 hS3 hF3)
      clear hS3 hF3 HQ2 H2
      go_wp2_with fail
      try simp only [Exit.jump]
      exact HD.out
    have g13 : ((K : Int) == 13) = false := by simp; omega
    by_cases q18 : K = 18
    · subst q18
      rw [if_neg (by decide), if_neg (by decide), if_pos (by decide)] at hres
      have H2 := Lib.hid (HTx.out h (HKl.out (by decide)) (HRw.out (by decide) (by decide)))
      obtain ⟨t, ht⟩ : ∃ t, Fl.text l l.length h = t := ⟨_, rfl⟩
      rw [ht] at hres H2
      have H3 := Lib.hid (HLf.out 7 i0 t)
      have HQ2 := Lib.hid (fun w3 R3 hS3 hF3 => HQ.out w3 t _ hres ⟨R3, hS3, hF3⟩)
      clear HK HLf HTx HBr HFa HCo HQ HQ0 HTok HLs HDs HPi HK0 HKd HKl HRw hds hres hO ht
      go_wp2_with fail
      refine H1.out.mono ?_
      rintro e wi ⟨rfl, rfl⟩
      go_wp2_with fail
      refine H2.out.mono ?_
      rintro e wi ⟨rfl, rfl⟩
      go_wp2_with fail
      refine H3.out.mono ?_
      rintro e w3 ⟨rfl, R3, hS3, hF3⟩
      have HD := Lib.hid (HQ2.out w3 R3 hS3 hF3)
      clear hS3 hF3 HQ2 H2 H3
      go_wp2_with fail
      try simp only [Exit.jump]
      exact HD.out
    have g18 : ((K : Int) == 18) = false := by simp; omega
    by_cases q8 : K = 8
    · subst q8
      rw [if_neg (by decide), if_neg (by decide), if_neg (by decide), if_pos (by decide)] at hres
      have hhN := HKl.out (by decide)
      have hrw := HRw.out (by decide) (by decide)
      have hph := HPi.out
      cases d with
      | zero =>
        have ho : Fl.opens (Fl.kd l l.length h) = true := by rw [HKd.out]; rfl
        have hbi := Fl.balanced_in ho
        have H2 := HBr.out h ho
        obtain ⟨t, ht⟩ : ∃ t, Fl.balanced l l.length h = t := ⟨_, rfl⟩
        rw [ht] at hbi H2
        have hres2 : (t, Fl.pErr l s up i0 t 10) = RES := by rw [← ht]; exact hres
        have H2 := Lib.hid H2
        have H3 := Lib.hid (HFa.out i0 t (by have := HI0.out; omega) (by omega) hbi.2.1)
        have HQ2 := Lib.hid (fun w3 R3 hS3 hF3 => HQ.out w3 t _ hres2 ⟨R3, hS3, hF3⟩)
        clear HK HLf HTx HBr HFa HCo HQ HQ0 HTok HLs HDs HPi HK0 HKd HKl HRw hds hres hO ht hres2 hbi ho hrw hhN hph
        go_wp2_with fail
        refine H1.out.mono ?_
        rintro e wi ⟨rfl, rfl⟩
        go_wp2_with fail
        refine H2.out.mono ?_
        rintro e wi ⟨rfl, rfl⟩
        go_wp2_with fail
        refine H3.out.mono ?_
        rintro e w3 ⟨rfl, R3, hS3, hF3⟩
        have HD := Lib.hid (HQ2.out w3 R3 hS3 hF3)
        clear hS3 hF3 HQ2 H2 H3
        go_wp2_with fail
        try simp only [Exit.jump]
        exact HD.out
      | succ d =>
        have H2 := HCo.out d rfl h (by have := HI0.out; omega) hhN (by rw [hrw]; omega)
        have hres2 : Fl.pcolF l l.length (Fl.pvalN l l.length d) s.q.length h (l.length - h) (h + 1) false ⟨Fl.qPut s.q up (if Fl.raw l h = 9 then 10 else 9) i0, s.d⟩ = RES := by rw [hrw]; exact hres
        rw [hres2] at H2
        rw [show ((d + 1 : Nat) : Int) = (d : Int) + 1 from by omega] at H2
        have H2 := Lib.hid H2
        have gd : ((d : Int) + 1 == 0) = false := by simp; omega
        have HQ2 := Lib.hid (fun w3 R3 hS3 hF3 => HQ.out w3 RES.1 RES.2 rfl ⟨R3, hS3, hF3⟩)
        clear HK HLf HTx HBr HFa HCo HQ HQ0 HTok HLs HDs HPi HK0 HKd HKl HRw hds hres hO hres2 hrw hhN hph
        go_wp2_with fail
        refine H1.out.mono ?_
        rintro e wi ⟨rfl, rfl⟩
        go_wp2_with fail
        refine H2.out.mono ?_
        rintro e w3 ⟨rfl, R3, hS3, hF3⟩
        have HD := Lib.hid (HQ2.out w3 R3 hS3 hF3)
        clear hS3 hF3 HQ2 H2
        go_wp2_with fail
        try simp only [Exit.jump]
        exact HD.out
    have g8 : ((K : Int) == 8) = false := by simp; omega
    by_cases q9 : K = 9
    · subst q9
      rw [if_neg (by decide), if_neg (by decide), if_neg (by decide), if_pos (by decide)] at hres
      have hhN := HKl.out (by decide)
      have hrw := HRw.out (by decide) (by decide)
      have hph := HPi.out
      cases d with
      | zero =>
        have ho : Fl.opens (Fl.kd l l.length h) = true := by rw [HKd.out]; rfl
        have hbi := Fl.balanced_in ho
        have H2 := HBr.out h ho
        obtain ⟨t, ht⟩ : ∃ t, Fl.balanced l l.length h = t := ⟨_, rfl⟩
        rw [ht] at hbi H2
        have hres2 : (t, Fl.pErr l s up i0 t 10) = RES := by rw [← ht]; exact hres
        have H2 := Lib.hid H2
        have H3 := Lib.hid (HFa.out i0 t (by have := HI0.out; omega) (by omega) hbi.2.1)
        have HQ2 := Lib.hid (fun w3 R3 hS3 hF3 => HQ.out w3 t _ hres2 ⟨R3, hS3, hF3⟩)
        clear HK HLf HTx HBr HFa HCo HQ HQ0 HTok HLs HDs HPi HK0 HKd HKl HRw hds hres hO ht hres2 hbi ho hrw hhN hph
        go_wp2_with fail
        refine H1.out.mono ?_
        rintro e wi ⟨rfl, rfl⟩
        go_wp2_with fail
        refine H2.out.mono ?_
        rintro e wi ⟨rfl, rfl⟩
        go_wp2_with fail
        refine H3.out.mono ?_
        rintro e w3 ⟨rfl, R3, hS3, hF3⟩
        have HD := Lib.hid (HQ2.out w3 R3 hS3 hF3)
        clear hS3 hF3 HQ2 H2 H3
        go_wp2_with fail
        try simp only [Exit.jump]
        exact HD.out
      | succ d =>
        have H2 := HCo.out d rfl h (by have := HI0.out; omega) hhN (by rw [hrw]; omega)
        have hres2 : Fl.pcolF l l.length (Fl.pvalN l l.length d) s.q.length h (l.length - h) (h + 1) false ⟨Fl.qPut s.q up (if Fl.raw l h = 9 then 10 else 9) i0, s.d⟩ = RES := by rw [hrw]; exact hres
        rw [hres2] at H2
        rw [show ((d + 1 : Nat) : Int) = (d : Int) + 1 from by omega] at H2
        have H2 := Lib.hid H2
        have gd : ((d : Int) + 1 == 0) = false := by simp; omega
        have HQ2 := Lib.hid (fun w3 R3 hS3 hF3 => HQ.out w3 RES.1 RES.2 rfl ⟨R3, hS3, hF3⟩)
        clear HK HLf HTx HBr HFa HCo HQ HQ0 HTok HLs HDs HPi HK0 HKd HKl HRw hds hres hO hres2 hrw hhN hph
        go_wp2_with fail
        refine H1.out.mono ?_
        rintro e wi ⟨rfl, rfl⟩
        go_wp2_with fail
        refine H2.out.mono ?_
        rintro e w3 ⟨rfl, R3, hS3, hF3⟩
        have HD := Lib.hid (HQ2.out w3 R3 hS3 hF3)
        clear hS3 hF3 HQ2 H2
        go_wp2_with fail
        try simp only [Exit.jump]
        exact HD.out
    have g9 : ((K : Int) == 9) = false := by simp; omega
    have hnk : ∀ k : Nat, k = (if K = 20 ∨ K = 21 then 0 else K) → k ≠ 13 ∧ Fl.isScal k = false ∧ k ≠ 18 ∧ Fl.opens k = false := fun k hk => by
      have h1 : k ≠ 13 ∧ k ≠ 15 ∧ k ≠ 16 ∧ k ≠ 17 ∧ k ≠ 18 ∧ k ≠ 8 ∧ k ≠ 9 := by split at hk <;> omega
      refine ⟨h1.1, ?_, h1.2.2.2.2.1, ?_⟩
      · unfold Fl.isScal; simp; omega
      · unfold Fl.opens; simp; omega
    obtain ⟨n1, n2, n3, n4⟩ := hnk _ rfl
    rw [if_neg n1, if_neg (by rw [n2]; decide), if_neg n3, if_neg (by rw [n4]; decide)] at hres
    rcases hO with ⟨e1, e2, e3⟩ | ⟨e1, e2⟩
    · rw [e2] at hres
      have hres2 : (p, s) = RES := hres
      have HD := Lib.hid (HQ0.out hres2)
      subst e1
      clear HK HLf HTx HBr HFa HCo HQ HQ0 HTok HLs HDs HPi HK0 HKd HKl HRw hds hres hres2 e2 e3 hnk n1 n2 n3 n4
      go_wp2_with fail
      refine H1.out.mono ?_
      rintro e wi ⟨rfl, rfl⟩
      go_wp2_with fail
      try simp only [Exit.jump]
      exact HD.out
    · rw [e2] at hres
      have hres2 : (m - 1 + 1, (⟨Fl.qLeaf s.q up 7 i0 (m - 1 + 1), s.d⟩ : Fl.PSt)) = RES := hres
      rw [show m - 1 + 1 = m by omega] at hres2
      have gm : ((m : Int) == (i0 : Int)) = false := by simp; omega
      have H3 := Lib.hid (HLf.out 7 i0 m)
      have HQ2 := Lib.hid (fun w3 R3 hS3 hF3 => HQ.out w3 m _ hres2 ⟨R3, hS3, hF3⟩)
      clear HK HLf HTx HBr HFa HCo HQ HQ0 HTok HLs HDs HPi HK0 HKd HKl HRw hds hres hres2 e2 e1 hnk n1 n2 n3 n4
      go_wp2_with fail
      refine H1.out.mono ?_
      rintro e wi ⟨rfl, rfl⟩
      go_wp2_with fail
      refine H3.out.mono ?_
      rintro e w3 ⟨rfl, R3, hS3, hF3⟩
      have HD := Lib.hid (HQ2.out w3 R3 hS3 hF3)
      clear hS3 hF3 HQ2 H3
      go_wp2_with fail
      try simp only [Exit.jump]
      exact HD.out
  · intro hlab
    have HLab := Lib.hid hlab
    clear hlab
    go_wp2_with fail
    refine HB0.out.mono ?_
    rintro e wi ⟨rfl, rfl⟩
    go_wp2_with fail
    go_step3
    rename_i K hK
    exact hK _ _ (HLab.out _ _ ⟨rfl, i0, i0, ⟨rfl, rfl, rfl, rfl, rfl, rfl, rfl, rfl, rfl, rfl, rfl, rfl, rfl, rfl⟩, HV0⟩)
end Go.Proofs.Ytmlpaafclobgcaa
