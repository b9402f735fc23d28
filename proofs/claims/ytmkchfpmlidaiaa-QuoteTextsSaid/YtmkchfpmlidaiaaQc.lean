/- Plain facts: what the first piece of what is left says of the whole (no walk). -/
import Derived.Test.YtmkchfpmlidaiaaQb
import Derived.Test.YtmkchfpmlidaiaaBytes
import Derived.Lib.OwnKind
namespace Go.Proofs.Ytmkchfpmlidaiaa
open Go.RowKit
open Go.Proofs.Ytmkchfpmlidaiaa.Sg
open Go.Proofs.Ytmkchfpmlidaiaa.Es
open Go.Proofs.Ytmkchfpmlidaiaa.Qo
set_option linter.unusedVariables false

def ba (l : List UInt8) : ByteArray := ⟨l.toArray⟩
theorem ba_of {b : ByteArray} {l : List UInt8} (h : b.data.toList = l) : ba l = b := by
  subst h; rfl
theorem ba_list (l : List UInt8) : (ba l).data.toList = l := by simp [ba]
theorem tol_app' (a b : ByteArray) : (a ++ b).data.toList = a.data.toList ++ b.data.toList := Sg.app_list a b
theorem ext_tol (s : ByteArray) (a b : Nat) : (s.extract a b).data.toList = (s.data.toList.drop a).take (b - a) := Es.ext_list s a b
theorem ext_tail (s : ByteArray) (a : Nat) : (s.extract a s.size).data.toList = s.data.toList.drop a := by
  rw [ext_tol, List.take_of_length_le]
  rw [List.length_drop, ← Lib.size_eq]; exact Nat.le_refl _
theorem get_hd (s : ByteArray) (c : UInt8) (r : List UInt8) (h : s.data.toList = c :: r) : s.get! 0 = c := by
  rw [← Lib.getD_get!', h]; rfl
theorem tol_cons (s : ByteArray) (h : 0 < s.size) : ∃ r, s.data.toList = s.get! 0 :: r := by
  cases hl : s.data.toList with
  | nil => rw [Lib.size_eq, hl] at h; exact absurd h (by decide)
  | cons c r => exact ⟨r, by rw [get_hd s c r hl]⟩
/-- Signs that end no piece stand for themselves. -/
theorem sg_run (l : List UInt8) : sgT l = (l.take (Sc.run nq1 (l.map UInt8.toNat)) ++ (sgT (l.drop (Sc.run nq1 (l.map UInt8.toNat)))).1, (sgT (l.drop (Sc.run nq1 (l.map UInt8.toNat)))).2) := by
  induction l with
  | nil => rfl
  | cons c r ih =>
    rw [List.map_cons, Sc.run]
    cases hc : nq1 c.toNat with
    | false => rfl
    | true =>
      have h39 : c ≠ 39 := fun e => by subst e; exact absurd hc (by decide)
      rw [if_pos rfl, sgT_on c r h39]
      generalize Sc.run nq1 (r.map UInt8.toNat) = n at *
      rw [List.take_succ_cons, List.drop_succ_cons, ih]
      rfl
theorem db_run (l : List UInt8) : ∀ p, dbT p l = (l.take (Sc.run nq2 (l.map UInt8.toNat)) ++ (dbT (p + Sc.run nq2 (l.map UInt8.toNat)) (l.drop (Sc.run nq2 (l.map UInt8.toNat)))).1, (dbT (p + Sc.run nq2 (l.map UInt8.toNat)) (l.drop (Sc.run nq2 (l.map UInt8.toNat)))).2) := by
  induction l with
  | nil => intro p; rfl
  | cons c r ih =>
    intro p
    rw [List.map_cons, Sc.run]
    cases hc : nq2 c.toNat with
    | false => rfl
    | true =>
      have h34 : c ≠ 34 := fun e => by subst e; exact absurd hc (by decide)
      have h92 : c ≠ 92 := fun e => by subst e; exact absurd hc (by decide)
      rw [if_pos rfl, dbT_on p c r h34 h92]
      have ih := ih (p + 1)
      generalize Sc.run nq2 (r.map UInt8.toNat) = n at *
      rw [List.take_succ_cons, List.drop_succ_cons, ih, show p + 1 + n = p + (n + 1) by omega]
      rfl
theorem run_pos1 (s : ByteArray) (h : 0 < s.size) (h39 : (s.get! 0).toNat ≠ 39) : 1 ≤ Sc.run nq1 (Sc.nats s) := by
  obtain ⟨r, hr⟩ := tol_cons s h
  show 1 ≤ Sc.run nq1 (s.data.toList.map UInt8.toNat)
  rw [hr, List.map_cons, Sc.run, if_pos (by simp [nq1, isq1]; omega)]
  omega
theorem run_pos2 (s : ByteArray) (h : 0 < s.size) (h34 : (s.get! 0).toNat ≠ 34) (h92 : (s.get! 0).toNat ≠ 92) : 1 ≤ Sc.run nq2 (Sc.nats s) := by
  obtain ⟨r, hr⟩ := tol_cons s h
  show 1 ≤ Sc.run nq2 (s.data.toList.map UInt8.toNat)
  rw [hr, List.map_cons, Sc.run, if_pos (by simp [nq2, isq2]; omega)]
  omega
theorem run_size (p : Nat → Bool) (s : ByteArray) : Sc.run p (Sc.nats s) ≤ s.size := by
  rw [← Sc.nats_len]; exact Sc.run_le p _
theorem ext_sz (s : ByteArray) (n : Nat) (h : n ≤ s.size) : (s.extract 0 n).size = n := by
  rw [Sg.ext_size s 0 n h, Nat.sub_zero]
theorem enc_small (v : Int) : (Utf8.encode v).size ≤ 4 := by
  rw [Sg.encode_size]; exact (Sg.encL_len _).2
theorem sg_clo (s : ByteArray) (h : 0 < s.size) (e : pcS s = .clo) : sgT s.data.toList = ([], true) := by
  unfold pcS at e
  cases hp : ([39, 39] : List UInt8).isPrefixOf s.data.toList with
  | true => rw [hp, if_pos rfl] at e; cases e
  | false =>
    rw [hp, if_neg (by decide)] at e
    by_cases h39 : (s.get! 0).toNat = 39
    · obtain ⟨r, hr⟩ := tol_cons s h
      have hc : s.get! 0 = 39 := Qo.u8_eq _ 39 h39
      rw [hr, hc] at hp ⊢
      cases r with
      | nil => rfl
      | cons d t =>
        refine sgT_end d t fun hd => ?_
        subst hd
        simp [List.isPrefixOf] at hp
    · rw [if_neg h39] at e; cases e
theorem sg_bad (s : ByteArray) (e : pcS s = .bad) : False := by
  unfold pcS at e
  split at e
  · cases e
  · split at e <;> cases e
theorem sg_say (s : ByteArray) (h : 0 < s.size) (t : ByteArray) (n : Nat) (e : pcS s = .say t n) :
    1 ≤ n ∧ n ≤ s.size ∧ t.size ≤ 2 * n ∧ sgT s.data.toList = (t.data.toList ++ (sgT (s.data.toList.drop n)).1, (sgT (s.data.toList.drop n)).2) := by
  unfold pcS at e
  cases hp : ([39, 39] : List UInt8).isPrefixOf s.data.toList with
  | true =>
    rw [hp, if_pos rfl] at e
    injection e with e1 e2
    subst e1 e2
    obtain ⟨r, hr⟩ := List.isPrefixOf_iff_prefix.1 hp
    have hz : s.size = r.length + 2 := by rw [Lib.size_eq, ← hr]; simp
    refine ⟨by decide, by omega, by show (1 : Nat) ≤ 2 * 2; decide, ?_⟩
    rw [← hr]
    exact sgT_two r
  | false =>
    rw [hp, if_neg (by decide)] at e
    by_cases h39 : (s.get! 0).toNat = 39
    · rw [if_pos h39] at e; cases e
    · rw [if_neg h39] at e
      injection e with e1 e2
      have h1 := run_pos1 s h h39
      have h2 := run_size nq1 s
      have h3 := sg_run s.data.toList
      rw [show s.data.toList.map UInt8.toNat = Sc.nats s from rfl] at h3
      rw [e2] at h1 h2 h3 e1
      subst e1
      refine ⟨h1, h2, by rw [ext_sz s n h2]; omega, ?_⟩
      rw [ext_tol, List.drop_zero, Nat.sub_zero]
      exact h3
theorem db_clo (s : ByteArray) (p : Nat) (h : 0 < s.size) (e : pcD s = .clo) : dbT p s.data.toList = ([], [], true) := by
  unfold pcD at e
  by_cases h34 : (s.get! 0).toNat = 34
  · obtain ⟨r, hr⟩ := tol_cons s h
    rw [hr, Qo.u8_eq _ 34 h34]
    exact dbT_end p r
  · rw [if_neg h34] at e
    split at e
    · split at e <;> cases e
    · cases e
theorem db_bad (s : ByteArray) (p : Nat) (h : 0 < s.size) (e : pcD s = .bad) :
    dbT p s.data.toList = (92 :: (dbT (p + 1) (s.data.toList.drop 1)).1, p :: (dbT (p + 1) (s.data.toList.drop 1)).2.1, (dbT (p + 1) (s.data.toList.drop 1)).2.2) := by
  unfold pcD at e
  by_cases h34 : (s.get! 0).toNat = 34
  · rw [if_pos h34] at e; cases e
  · rw [if_neg h34] at e
    by_cases h92 : (s.get! 0).toNat = 92
    · rw [if_pos h92] at e
      obtain ⟨r, hr⟩ := tol_cons s h
      rw [Qo.u8_eq _ 92 h92] at hr
      change s.data.toList = 92 :: r at hr
      rw [hr] at e ⊢
      cases hE : esc (92 :: r) with
      | none => exact dbT_bad p r hE
      | some x => rw [hE] at e; cases e
    · rw [if_neg h92] at e; cases e
theorem db_say (s : ByteArray) (p : Nat) (h : 0 < s.size) (t : ByteArray) (n : Nat) (e : pcD s = .say t n) :
    1 ≤ n ∧ n ≤ s.size ∧ t.size ≤ 2 * n ∧ dbT p s.data.toList = (t.data.toList ++ (dbT (p + n) (s.data.toList.drop n)).1, (dbT (p + n) (s.data.toList.drop n)).2) := by
  unfold pcD at e
  by_cases h34 : (s.get! 0).toNat = 34
  · rw [if_pos h34] at e; cases e
  · rw [if_neg h34] at e
    by_cases h92 : (s.get! 0).toNat = 92
    · rw [if_pos h92] at e
      obtain ⟨r, hr⟩ := tol_cons s h
      rw [Qo.u8_eq _ 92 h92] at hr
      change s.data.toList = 92 :: r at hr
      have hz : s.size = r.length + 1 := by rw [Lib.size_eq, hr]; rfl
      rw [hr] at e ⊢
      cases hE : esc (92 :: r) with
      | none => rw [hE] at e; cases e
      | some x =>
        obtain ⟨v, k⟩ := x
        rw [hE] at e
        injection e with e1 e2
        subst e1 e2
        have hk := Qo.esc_len hE
        rw [List.length_cons] at hk
        have h4 := enc_small v
        exact ⟨by omega, by omega, by omega, dbT_esc p r v k hE⟩
    · rw [if_neg h92] at e
      injection e with e1 e2
      have h1 := run_pos2 s h h34 h92
      have h2 := run_size nq2 s
      have h3 := db_run s.data.toList p
      rw [show s.data.toList.map UInt8.toNat = Sc.nats s from rfl] at h3
      rw [e2] at h1 h2 h3 e1
      subst e1
      refine ⟨h1, h2, by rw [ext_sz s n h2]; omega, ?_⟩
      rw [ext_tol, List.drop_zero, Nat.sub_zero]
      exact h3
/-- Rows of two types do not meet. -/
theorem rows_apart {w : World} {B B' : Nat} {e e' : TypeId} {k k' n n' : Nat} {v v' : Value} {xs xs' : List Value} (h : w.ownsRow B e k v n xs) (h' : w.ownsRow B' e' k' v' n' xs') (hne : e ≠ e') : v.ownBlock = none ∨ v.ownBlock ≠ v'.ownBlock := by
  cases hv : v.ownBlock with
  | none => exact .inl rfl
  | some g =>
    refine .inr fun he => ?_
    obtain ⟨c, fz, h1⟩ := Lib.ownsRow_kind h g hv
    obtain ⟨c', fz', h2⟩ := Lib.ownsRow_kind h' g he.symm
    rw [h1] at h2
    injection h2 with h2
    injection h2 with h3 h4
    exact hne h4
theorem asC_clo (w : World) : (Instr.typeAssert (Pc.clo).val 20 53 true).run Try.prog w = .ok (.tuple #[.agg #[], .bool true]) w := by kernel_rfl
theorem asC_bad (w : World) : (Instr.typeAssert (Pc.bad).val 20 53 true).run Try.prog w = .ok (.tuple #[.agg #[], .bool false]) w := by kernel_rfl
theorem asC_say (v : Value) (w : World) : (Instr.typeAssert (.iface 58 v) 20 53 true).run Try.prog w = .ok (.tuple #[.agg #[], .bool false]) w := by kernel_rfl
theorem asF_bad (w : World) : (Instr.typeAssert (Pc.bad).val 20 55 true).run Try.prog w = .ok (.tuple #[.agg #[], .bool true]) w := by kernel_rfl
theorem asF_say (v : Value) (w : World) : (Instr.typeAssert (.iface 58 v) 20 55 true).run Try.prog w = .ok (.tuple #[.agg #[], .bool false]) w := by kernel_rfl
theorem asS_say (v : Value) (w : World) : (Instr.typeAssert (.iface 58 v) 20 58 false).run Try.prog w = .ok v w := by kernel_rfl
end Go.Proofs.Ytmkchfpmlidaiaa
