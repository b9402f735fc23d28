/- The statements' own small functions: same, has. -/
import Derived.Test.YtomihekgcnilhaaLa
namespace Go.Proofs.Ytomihekgcnilhaa
open Go.RowKit
open Go.Proofs.Ytomihekgcnilhaa.Sq

/-- Are two the same? -/
def eqE (x y : Et) : Bool := (x.f == y.f) && ((x.t == y.t) && decide (x.p.toList = y.p.toList))
theorem eqE_self (x : Et) : eqE x x = true := by simp [eqE]
theorem guard_edit : Try.prog.eqGuardType Try.prog.depth 41 = false := by kernel_rfl
theorem eql_edit (x y : Et) (w : World) : (binOp .eql 41 x.val y.val).run Try.prog w = .ok (.bool (eqE x y)) w := by
  obtain ⟨a, b, p⟩ := x
  obtain ⟨c, d, q⟩ := y
  have u3 := Try.underlying3
  have u9 := Try.underlying9
  have hS : Try.prog.underlying 41 = some (.struct (Try.prog.fieldsOf 41)) := by kernel_rfl
  have hp : Try.prog.stoodInHeld 41 = false := by kernel_rfl
  rw [run_eql_struct, show (10000 : Nat) = 9999 + 1 from rfl, run_equalIn_agg w 9999 41 _ _ hS hp]
  simp only [Program.fieldsOf, Try.underlying41]
  go_simp
  by_cases h1 : a = c <;> by_cases h2 : b = d <;> simp [h1, h2, eqE]
  split <;> rename_i h <;> simp [h]
theorem neq_edit (x y : Et) (w : World) : (binOp .neq 41 x.val y.val).run Try.prog w = .ok (.bool (!eqE x y)) w := by
  have h := eql_edit x y w
  rw [run_eql_struct] at h
  rw [run_neq_struct]
  revert h
  generalize (Op.equalIn 10000 41 x.val y.val).run Try.prog w = r
  intro h
  cases r with
  | ok x w1 =>
    simp only [Result.andThen_ok] at h ⊢
    injection h with h1 h2
    injection h1 with h1
    rw [h1, h2]
  | halt x w1 => simp [Result.andThen] at h
set_option maxHeartbeats 1600000 in
set_option maxRecDepth 100000 in
theorem same_true (va vb : Value) (l : List Et) (w : World) (ha : Edits w va l) (hb : Edits w vb l) :
    Calls Try.prog 22 #[va, vb] w fun e w' => e = .returned (.bool true) ∧ Below w.heap.size w w' := by
  have hsz := ha.size_le
  unfold maxLen at hsz
  obtain ⟨a1, cap1, rfl⟩ := ha.shape
  obtain ⟨a2, cap2, rfl⟩ := hb.shape
  obtain ⟨N, hN⟩ : ∃ N, l.length = N := ⟨_, rfl⟩
  have HA := Lib.hid (fun k x hk => edits_at ha k x hk)
  have HB := Lib.hid (fun k x hk => edits_at hb k x hk)
  have HN := Lib.hid hN
  rw [hN] at hsz
  rw [hN]
  have hg := guard_edit
  clear hN ha hb
  go_enter Try.func22, Try.ntmps22
  go_wp2_with fail
  go_loopw [5] (fun is wr => ∃ k : Nat, is = .int .i64 k ∧ k ≤ N ∧ Below w.heap.size w wr) (fun is _ => N - (intOf is).toNat)
  case atStart => exact ⟨0, rfl, Nat.zero_le _, Below.refl _ _⟩
  case round =>
    obtain ⟨k, rfl, hk, hbw⟩ := hrel
    by_cases hlt : k < N
    · have hkl : k < l.length := by rw [HN.out]; exact hlt
      have hj2 : (k : Int) < (N : Int) := by omega
      obtain ⟨x, hx⟩ : ∃ x, l[k]? = some x := ⟨_, List.getElem?_eq_getElem hkl⟩
      obtain ⟨b, off, rfl, c0, c1, c2⟩ := HA.out k x hx
      obtain ⟨b', off', rfl, d0, d1, d2⟩ := HB.out k x hx
      have c0 := cell_keep c0 hbw
      have c1 := cell_keep c1 hbw
      have c2 := cell_keep c2 hbw
      have d0 := cell_keep d0 hbw
      have d1 := cell_keep d1 hbw
      have d2 := cell_keep d2 hbw
      have he := neq_edit x x
      rw [eqE_self] at he
      obtain ⟨f, t, p⟩ := x
      have HBq := Lib.hid hbw
      clear hx hbw
      go_wp2_with fail
      go_quiet (fail)
      have HBn := Lib.hid (show Below w.heap.size w (wr.drewN nq) from ⟨HBq.out.os, HBq.out.tape, HBq.out.output, HBq.out.size, HBq.out.block⟩)
      clear c0 c1 c2 d0 d1 d2 he
      go_wp2
      go_roundw
      case rel => exact ⟨k + 1, by go_num, by omega, HBn.out⟩
      case measure => simp [intOf]; omega
    · obtain rfl : k = N := by omega
      go_wp2
      go_ret
      exact ⟨rfl, hbw⟩
/-- Is e among them? -/
def hasB (l : List Et) (e : Et) : Bool := l.any fun x => eqE x e
theorem has_mem {l : List Et} {e : Et} (h : e ∈ l) : hasB l e = true := List.any_eq_true.2 ⟨e, h, eqE_self e⟩
set_option maxHeartbeats 1600000 in
set_option maxRecDepth 100000 in
theorem has_any (v : Value) (l : List Et) (e : Et) (w : World) (h : Edits w v l) :
    Calls Try.prog 25 #[v, e.val] w fun r w' => r = .returned (.bool (hasB l e)) ∧ Below w.heap.size w w' := by
  have hsz := h.size_le
  unfold maxLen at hsz
  obtain ⟨a, cap, rfl⟩ := h.shape
  obtain ⟨N, hN⟩ : ∃ N, l.length = N := ⟨_, rfl⟩
  have HA := Lib.hid (fun k x hk => edits_at h k x hk)
  have HN := Lib.hid hN
  rw [hN] at hsz
  rw [hN]
  obtain ⟨R, hR⟩ : ∃ R, hasB l e = R := ⟨_, rfl⟩
  have HR := Lib.hid (show hasB (l.drop 0) e = R from hR)
  rw [hR]
  have HQ := Lib.hid (fun x W => eql_edit x e W)
  have HZ0 := Lib.hid (edit_new0 w e 41)
  have HZ1 := Lib.hid (edit_new1 w e 41)
  have HZ2 := Lib.hid (edit_new2 w e 41)
  have hg := guard_edit
  clear hN h hR
  obtain ⟨f, t, p⟩ := e
  go_enter Try.func25, Try.ntmps25
  go_wp2_with fail
  go_loopw [5] (fun is wr => ∃ k : Nat, is = .int .i64 k ∧ k ≤ N ∧ Hid (hasB (l.drop k) ⟨f, t, p⟩ = R) ∧ wr.cell? ⟨w.heap.size, 0, none⟩ = some (.int .i64 f) ∧ wr.cell? ⟨w.heap.size, 1, none⟩ = some (.int .i64 t) ∧ wr.cell? ⟨w.heap.size, 2, none⟩ = some (.string p) ∧ Below w.heap.size w wr) (fun is _ => N - (intOf is).toNat)
  case atStart => exact ⟨0, rfl, Nat.zero_le _, HR, HZ0.out, HZ1.out, HZ2.out, below_new _ _⟩
  case round =>
    obtain ⟨k, rfl, hk, HK, d0, d1, d2, hbw⟩ := hrel
    by_cases hlt : k < N
    · have hkl : k < l.length := by rw [HN.out]; exact hlt
      have hj2 : (k : Int) < (N : Int) := by omega
      obtain ⟨x, hx⟩ : ∃ x, l[k]? = some x := ⟨_, List.getElem?_eq_getElem hkl⟩
      obtain ⟨b, off, rfl, c0, c1, c2⟩ := HA.out k x hx
      have c0 := cell_keep c0 hbw
      have c1 := cell_keep c1 hbw
      have c2 := cell_keep c2 hbw
      have he := HQ.out x
      have hK := HK.out
      rw [drop_cons hx, hasB, List.any_cons] at hK
      obtain ⟨u, hu⟩ : ∃ u, eqE x ⟨f, t, p⟩ = u := ⟨_, rfl⟩
      rw [hu] at he hK
      have HK2 := Lib.hid (show (u || hasB (l.drop (k + 1)) ⟨f, t, p⟩) = R from hK)
      obtain ⟨f2, t2, p2⟩ := x
      have HBq := Lib.hid hbw
      have D0 := Lib.hid d0
      have D1 := Lib.hid d1
      have D2 := Lib.hid d2
      clear hx hbw hu hK
      cases u with
      | true =>
        go_wp2_with fail
        go_quiet (fail)
        have HBn := Lib.hid (show Below w.heap.size w (wr.drewN nq) from ⟨HBq.out.os, HBq.out.tape, HBq.out.output, HBq.out.size, HBq.out.block⟩)
        clear c0 c1 c2 d0 d1 d2 he
        go_wp2
        go_ret
        exact ⟨by rw [← HK2.out]; rfl, HBn.out⟩
      | false =>
        have HK3 := Lib.hid (show hasB (l.drop (k + 1)) ⟨f, t, p⟩ = R by rw [← HK2.out, Bool.false_or])
        go_wp2_with fail
        go_quiet (fail)
        have HBn := Lib.hid (show Below w.heap.size w (wr.drewN nq) from ⟨HBq.out.os, HBq.out.tape, HBq.out.output, HBq.out.size, HBq.out.block⟩)
        clear c0 c1 c2 d0 d1 d2 he
        go_wp2
        go_roundw
        case rel => exact ⟨k + 1, by go_num, by omega, HK3, D0.out, D1.out, D2.out, HBn.out⟩
        case measure => simp [intOf]; omega
    · obtain rfl : k = N := by omega
      have hK := HK.out
      rw [List.drop_of_length_le (by rw [HN.out]; exact Nat.le_refl _)] at hK
      have HRz := Lib.hid (show false = R from hK)
      clear hK HK
      go_wp2
      go_ret
      exact ⟨by rw [← HRz.out]; rfl, hbw⟩
end Go.Proofs.Ytomihekgcnilhaa
