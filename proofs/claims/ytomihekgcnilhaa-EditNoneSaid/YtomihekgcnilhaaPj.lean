/- package edit: join. -/
import Derived.Test.YtomihekgcnilhaaPi
namespace Go.Proofs.Ytomihekgcnilhaa
open Go.RowKit
open Go.Proofs.Ytomihekgcnilhaa.Sq

/-- append(row of bytes of the call's own, text...). -/
theorem wpList_append_text {w : World} {ops : Array Oper} {rest : List Oper} {o : Oper} {a : Act} {Q : Exit → Act → World → Prop} (hgd : o.guard = none) (x y : Operand)
    (ho : o.op = .call { callee := .builtin .append, args := #[x, y], argTypes := #[22, 9] })
    (base : Nat) (v : Value) (n : Nat) (xs : List Value) (hs : a.eval x = v) (hown : w.ownsRow base 5 1 v n xs) (s : ByteArray) (hy : a.eval y = .string s)
    (hlen : n + s.size ≤ 140737488355328) (hbase : base ≤ w.heap.size)
    (h : ∀ v' w', w'.ownsRow base 5 1 v' (n + s.size) (xs ++ cellsOf s) → w.grownBy w' v.ownBlock → wpList Try.prog ops Q rest (a.put o.dst v') w') : wpList Try.prog ops Q (o :: rest) a w := by
  obtain ⟨i0, hi, hz0, hz1, hz2⟩ := info_parts infoByte
  refine wpList_plain hgd fun K hK => ?_
  obtain ⟨v', w', hr, h2, h3, h4⟩ := Lib.run_append_own_string (P := Try.prog) (w := w) base 22 9 o.type 5 i0 Try.underlying22 (by kernel_rfl) hi hz0 hz1 hz2 v n xs hown s (by simp only [maxLen]; omega) hlen hbase
  unfold Oper.wp execOp
  simp only [ho, resolve, invoke, builtin, Sem.run_bind, Sem.run_pure, Result.andThen_ok, List.map_toArray, List.map_cons, List.map_nil, hs, hy, hr]
  exact hK _ _ (h v' w' h2 h3)
theorem cat_step {out x : ByteArray} {it : It} {r : List It} {R : List UInt8} (hx : it.text = x) (h : out.data.toList ++ cat (it :: r) = R) : (out ++ x).data.toList ++ cat r = R := by
  rw [← h, tol_app, ← hx]
  simp [cat]
/-- What join yields. -/
def Joined (w : World) (its : List It) (r : Ending) (w' : World) : Prop :=
  ∃ v t, r = .returned v ∧ t.data.toList = cat its ∧ w'.ownsRow w.heap.size 5 1 v t.size (cellsOf t) ∧ Below w.heap.size w w'
theorem out_len {out : ByteArray} {l R : List UInt8} (h : out.data.toList ++ l = R) : out.size + l.length = R.length := by
  rw [← h, List.length_append, ← Lib.size_eq]
theorem drop_it {l : List It} {k : Nat} {x : It} (h : l[k]? = some x) : l.drop k = x :: l.drop (k + 1) := by
  obtain ⟨hk, rfl⟩ := List.getElem?_eq_some_iff.1 h
  exact List.drop_eq_getElem_cons hk
theorem own_join {W : World} {B : Nat} {v : Value} {out x : ByteArray} (h : W.ownsRow B 5 1 v (out.size + x.size) (cellsOf out ++ cellsOf x)) : W.ownsRow B 5 1 v (out ++ x).size (cellsOf (out ++ x)) := by
  rw [Sg.app_size, cellsOf_app]; exact h
set_option maxHeartbeats 2000000 in
set_option maxRecDepth 100000 in
theorem join_any (rv : Value) (its : List It) (n : Nat) (w : World) (hR : Reads encI w rv its) (hOk : ∀ it ∈ its, it.Ok w) (hn : n ≤ 1000000) (hl : its.length ≤ 1000) (hc : (cat its).length ≤ 1000000) :
    Calls Try.prog 29 #[rv, .int .i64 (n : Int)] w (Joined w its) := by
  obtain ⟨a, cap, rfl⟩ := hR.shape
  obtain ⟨N, hN⟩ : ∃ N, its.length = N := ⟨_, rfl⟩
  have HA := Lib.hid (fun k y hk => items_at hR k y hk)
  have HN := Lib.hid hN
  have HOk := Lib.hid hOk
  rw [hN] at hl
  rw [hN]
  obtain ⟨R, hRR⟩ : ∃ R, cat its = R := ⟨_, rfl⟩
  have HR := Lib.hid hRR
  have HR0 := Lib.hid (show (⟨#[]⟩ : ByteArray).data.toList ++ cat (its.drop 0) = R from hRR)
  rw [hRR] at hc
  obtain ⟨i0, hi, hz0, hz1, hz2⟩ := info_parts infoByte
  obtain ⟨w0, hmk, hown0, hg0⟩ := run_make_own (P := Try.prog) w w.heap.size 22 5 i0 (.int .u8 0) 1 Try.underlying22 hi hz0 hz1 .i64 .i64 n (by rw [hz2]; omega) (by simp only [maxLen]; omega) (Nat.le_refl _)
  have HO0 := Lib.hid (show w0.ownsRow w.heap.size 5 1 (.slice (some ⟨w.heap.size, 0, none⟩) 0 n) (⟨#[]⟩ : ByteArray).size (cellsOf ⟨#[]⟩) from hown0)
  have HB0 := Lib.hid (own_grown (Below.refl w.heap.size w) hg0 (fun k hk => by cases hk) (Nat.le_refl _))
  clear hN hR hOk hRR hi hz0 hz1 hz2 hown0 hg0
  go_enter Try.func29, Try.ntmps29
  go_wp2_with fail
  clear hmk
  go_loopw [5, 14] (fun ts is wr => ∃ (k : Nat) (out : ByteArray) (V : Value), V = ts ∧ is = .int .i64 k ∧ k ≤ N ∧ Hid (wr.ownsRow w.heap.size 5 1 V out.size (cellsOf out)) ∧ Hid (out.data.toList ++ cat (its.drop k) = R) ∧ Below w.heap.size w wr) (fun _ is _ => N - (intOf is).toNat)
  case atStart => exact ⟨0, ⟨#[]⟩, _, rfl, rfl, Nat.zero_le _, HO0, HR0, HB0.out⟩
  case round =>
    obtain ⟨k, out, V, rfl, rfl, hk, HO, HK, hb⟩ := hrel
    have hlen := out_len HK.out
    have hos : out.size ≤ 1000000 := by omega
    by_cases hlt : k < N
    · have hkl : k < its.length := by rw [HN.out]; exact hlt
      have hj2 : (k : Int) < (N : Int) := by omega
      obtain ⟨x, hx⟩ : ∃ x, its[k]? = some x := ⟨_, List.getElem?_eq_getElem hkl⟩
      obtain ⟨b, off, rfl, c0⟩ := HA.out k x hx
      have c0 := cell_keep c0 hb
      have hok := HOk.out x (List.mem_of_getElem? hx)
      have hK := HK.out
      rw [drop_it hx] at hK hlen
      have hxs : out.size + x.text.size ≤ 1000000 := by
        have : (cat (x :: its.drop (k + 1))).length = x.text.size + (cat (its.drop (k + 1))).length := by simp [cat]
        omega
      clear hlen HK hx
      cases x with
      | stays v t =>
        have HK2 := Lib.hid (cat_step (x := t) rfl hK)
        have HBy := Lib.hid (Bys.below (show Bys w v t from hok) hb)
        have HLen := Lib.hid (show out.size + t.size ≤ 140737488355328 by have h : out.size + t.size ≤ 1000000 := hxs; omega)
        have h1 := assert_no v
        have h2 := assert_bys v
        have c1 : wr.cell? ⟨b, off + k, none⟩ = some (.iface 22 v) := c0
        have HB := Lib.hid hb
        clear hK hxs hok c0 hb
        go_wp2_with (at_builtin; go_must (refine wpList_append_bys rfl (.tmp 27) (.tmp 29) rfl w.heap.size V out.size (cellsOf out) rfl HO.out v t rfl HBy.out HLen.out HB.out.size ?_; intro v2 w2 hown2 hg2; have HB2 := Lib.hid (own_grown HB.out hg2 (fun j hj => (HO.out.lt j hj).1) HB.out.size); have HO2 := Lib.hid (own_join hown2); clear hg2 hown2))
        clear h1 h2 c1
        go_roundw
        case rel => exact ⟨k + 1, out ++ t, _, rfl, by go_num, by omega, HO2, HK2, HB2.out⟩
        case measure => simp [intOf]; omega
      | put t =>
        have HK2 := Lib.hid (cat_step (x := t) rfl hK)
        have HLen := Lib.hid (show out.size + t.size ≤ 140737488355328 by have h : out.size + t.size ≤ 1000000 := hxs; omega)
        have h1 := assert_str t
        have c1 : wr.cell? ⟨b, off + k, none⟩ = some (.iface 9 (.string t)) := c0
        have HB := Lib.hid hb
        clear hK hxs hok c0 hb
        go_wp2_with (at_builtin; go_must (refine wpList_append_text rfl (.tmp 24) (.tmp 25) rfl w.heap.size V out.size (cellsOf out) rfl HO.out t rfl HLen.out HB.out.size ?_; intro v2 w2 hown2 hg2; have HB2 := Lib.hid (own_grown HB.out hg2 (fun j hj => (HO.out.lt j hj).1) HB.out.size); have HO2 := Lib.hid (own_join hown2); clear hg2 hown2))
        clear h1 c1
        go_roundw
        case rel => exact ⟨k + 1, out ++ t, _, rfl, by go_num, by omega, HO2, HK2, HB2.out⟩
        case measure => simp [intOf]; omega
    · obtain rfl : k = N := by omega
      have hK := HK.out
      rw [List.drop_of_length_le (by rw [HN.out]; exact Nat.le_refl _)] at hK
      have HE := Lib.hid (show out.data.toList = cat its by rw [HR.out, ← hK]; simp [cat])
      clear hK hlen
      go_wp2
      go_ret
      exact ⟨_, out, rfl, HE.out, HO.out, hb⟩
end Go.Proofs.Ytomihekgcnilhaa
