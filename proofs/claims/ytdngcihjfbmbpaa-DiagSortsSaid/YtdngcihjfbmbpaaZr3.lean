/- correctorref14.Sort of any row. (Written by tools/gen_sra.py.) -/
import Derived.Test.YtdngcihjfbmbpaaZr2
import Derived.Laws.CopyRow
import Derived.Deep.DeepMust
import Derived.LoopTactic
import Derived.Deep.QuietTactic
import Derived.BigRegion
import Derived.Deep.RegionWith
import Derived.Outline
import Derived.WalkSmall
namespace Go
/-- copy between rows of elements of k cells each, all read ahead of the first that is written. -/
theorem run_copy_row_k {P : Program} (w : World) (dT sT ty elem : TypeId) (k g o dLen dCap : Nat) (a : Addr) (sLen sCap : Nat) (cur : Array Value) (t : TypeId) (cs : List Value)
    (hu : P.underlying dT = some (.slice elem)) (hs : (P.info? elem).map (·.size) = some k)
    (hg : w.heap[g]? = some (.cells cur t (0, 0))) (hn : cs.length = Nat.min sLen dLen * k)
    (hsrc : ∀ j v, cs[j]? = some v → w.cell? (a.add j) = some v) (hfit : o + cs.length ≤ cur.size) (h1 : ∀ v ∈ cs, v.oneCell' = true) :
    (Builtin.copy_ #[dT, sT] ty #[.slice (some ⟨g, o, none⟩) dLen dCap, .slice (some a) sLen sCap]).run P w =
      .ok (goInt (Nat.min sLen dLen)) (w.setRow g (cur.toList.take o ++ cs ++ cur.toList.drop (o + cs.length)).toArray) := by
  have hl := run_loadCells_list (P := P) w a cs hsrc
  have hst := run_storeCells_at P g o t cs 0 cur w hg (by simpa using hfit) h1
  cases hq : P.info? elem with
  | none => simp [hq] at hs
  | some i =>
    have hi : i.size = k := by simpa [hq] using hs
    simp [Builtin.copy_, run_underlying hu, Builtin.lenOf, Builtin.firstCells, sizeOf, typeInfo, hq, hi, ← hn, hl, hst]
end Go
namespace Go.Proofs.Ytdngcihjfbmbpaa.Zd

/-- Put in where it belongs. -/
theorem ins_at (x : Dg) : ∀ (O : List Dg) (n : Nat), Srt O → n ≤ O.length → (∀ j y, n ≤ j → O[j]? = some y → less x y = true) → (∀ k y, n = k + 1 → O[k]? = some y → less x y = false ∧ same y x = false) → insD x O = O.take n ++ x :: O.drop n
  | [], n => fun _ hn _ _ => by
    obtain rfl : n = 0 := by simpa using hn
    rfl
  | y :: r, 0 => fun _ _ h _ => by rw [insD, if_pos (h 0 y (Nat.le_refl _) rfl)]; rfl
  | y :: r, n + 1 => fun hs hn h1 h2 => by
    unfold Srt at hs
    obtain ⟨hs1, hs2⟩ := List.pairwise_cons.1 hs
    obtain ⟨z, hz⟩ : ∃ z, (y :: r)[n]? = some z := ⟨_, List.getElem?_eq_getElem (by omega)⟩
    obtain ⟨h3, h4⟩ := h2 n z rfl hz
    have hxy : less x y = false ∧ same x y = false := by
      cases n with
      | zero =>
        obtain rfl : y = z := by simpa using hz
        refine ⟨h3, ?_⟩
        rw [Bool.eq_false_iff]
        intro e
        rw [same_iff] at e
        subst e
        rw [(same_iff x x).2 rfl] at h4
        cases h4
      | succ k =>
        have hyz := hs1 z (List.mem_of_getElem? (by simpa using hz))
        constructor
        · rw [Bool.eq_false_iff]
          intro e
          rw [less_trans e hyz] at h3
          cases h3
        · rw [Bool.eq_false_iff]
          intro e
          rw [same_iff] at e
          subst e
          rw [hyz] at h3
          cases h3
    rw [insD, if_neg (by rw [hxy.1]; decide), if_neg (by rw [hxy.2]; decide), ins_at x r n hs2 (by simpa using hn) (fun j u hj hu => h1 (j + 1) u (by omega) (by simpa using hu)) (fun k u hk hu => h2 (k + 1) u (by omega) (by simpa using hu))]
    rfl
theorem ins_same (x : Dg) : ∀ (O : List Dg), Srt O → x ∈ O → insD x O = O
  | [] => fun _ h => by cases h
  | y :: r => fun hs hx => by
    unfold Srt at hs
    obtain ⟨hs1, hs2⟩ := List.pairwise_cons.1 hs
    rw [insD]
    rcases List.mem_cons.1 hx with rfl | hx
    · rw [if_neg (by rw [less_irr]; decide), if_pos ((same_iff x x).2 rfl)]
    · have h := hs1 x hx
      rw [if_neg (by rw [less_asym h]; decide), if_neg (fun e => by rw [same_iff] at e; subst e; rw [less_irr] at h; cases h), ins_same x r hs2 hx]
theorem ins_len (x : Dg) : ∀ O : List Dg, (insD x O).length ≤ O.length + 1
  | [] => Nat.le_refl _
  | y :: r => by
    rw [insD]
    split
    · exact Nat.le_refl _
    · split
      · simp
      · simp only [List.length_cons]; have := ins_len x r; omega
theorem sort_step (D : List Dg) (i : Nat) (x : Dg) (hx : D[i]? = some x) : sortD (D.take (i + 1)) = insD x (sortD (D.take i)) := by
  obtain ⟨h1, h2⟩ := List.getElem?_eq_some_iff.1 hx
  unfold sortD
  rw [List.take_succ_eq_append_getElem h1, h2, List.foldl_append]
  rfl
end Go.Proofs.Ytdngcihjfbmbpaa.Zd
namespace Go.Proofs.Ytdngcihjfbmbpaa.Zm
open Go.RowKit
open Go.Proofs.Ytdngcihjfbmbpaa.Sq
open Go.Proofs.Ytdngcihjfbmbpaa.Zd
set_option linter.unusedVariables false

theorem eql_same (a b : Dg) (w : World) : (binOp .eql 28 (.agg #[.int .i64 a.code, .int .i64 a.f, .int .i64 a.t]) (.agg #[.int .i64 b.code, .int .i64 b.f, .int .i64 b.t])).run Try.prog w = .ok (.bool (same a b)) w := by
  cases h : same a b with
  | false => exact eql_diff a b h w
  | true =>
    rw [same_iff] at h
    subst h
    rw [eql_diag]; simp
/-- A row of the call's own, from one place on laid over anew by cells. -/
theorem own_over_cells {α : Type} {E : Enc α} {w : World} {B e g n cap off : Nat} {L L' : List α} {cs : List Value} {cur : Array Value} (h : w.ownsRow B e E.k (.slice (some ⟨g, 0, none⟩) n cap) L.length (E.all L)) (hg : w.heap[g]? = some (.cells cur e (0, 0)))
    (hL : E.all L' = (E.all L).take off ++ cs) (hlen : L'.length = L.length) (hoff : off + cs.length = L.length * E.k) :
    (w.setRow g (cur.toList.take off ++ cs ++ cur.toList.drop (off + cs.length)).toArray).ownsRow B e E.k (.slice (some ⟨g, 0, none⟩) n cap) L'.length (E.all L') := by
  obtain ⟨h1, h2⟩ := h
  rcases h2 with ⟨h2, _⟩ | ⟨g', cap', cur', hv, hB, hh, hn, hcp, hcs, ht⟩
  · cases h2
  · obtain ⟨e1, e2, e3⟩ := Value.slice.inj hv
    injection e1 with e1
    injection e1 with e1
    subst e1 e3
    rw [hg] at hh
    injection hh with hh
    injection hh with hh
    subst hh
    have hsz : off + cs.length ≤ cur.toList.length := by
      rw [show cur.toList.length = cur.size from Array.length_toList, hcs, hoff]
      exact Nat.mul_le_mul_right _ hn
    refine ⟨by rw [all_len], .inr ⟨g, cap, (cur.toList.take off ++ cs ++ cur.toList.drop (off + cs.length)).toArray, by rw [hlen, ← e2], hB, setRow_heap w g cur _ e _ hg, by rw [hlen]; exact hn, hcp, ?_, ?_⟩⟩
    · rw [List.size_toArray, List.length_append, List.length_append, List.length_take, List.length_drop, ← hcs]
      have e9 : cur.toList.length = cur.size := Array.length_toList
      omega
    · rw [hlen, ← hoff, hL, ← ht]
      have ho : off ≤ L.length * E.k := by omega
      rw [List.take_append_of_le_length (by rw [List.length_append, List.length_take]; omega), List.take_of_length_le (by rw [List.length_append, List.length_take]; omega), List.take_take, Nat.min_eq_left ho]
theorem all_take {α : Type} (E : Enc α) : ∀ (L : List α) (i : Nat), (E.all L).take (i * E.k) = E.all (L.take i)
  | [], i => by simp [Enc.all]
  | x :: r, 0 => by simp [Enc.all]
  | x :: r, i + 1 => by
    rw [List.take_succ_cons, Enc.all, Enc.all, ← all_take E r i, show (i + 1) * E.k = (E.cells x).length + i * E.k from by rw [E.len, Nat.add_mul]; omega, List.take_length_add_append]
theorem put_in (O : List Dg) (n : Nat) (x z : Dg) (hn : n ≤ O.length) : (((O ++ [z]).take (n + 1) ++ O.drop n) : List Dg).set n x = O.take n ++ x :: O.drop n := by
  obtain ⟨u, hu⟩ : ∃ u, (O ++ [z])[n]? = some u := ⟨_, List.getElem?_eq_getElem (by simp; omega)⟩
  obtain ⟨h1, h2⟩ := List.getElem?_eq_some_iff.1 hu
  have hl : (O.take n).length = n := by rw [List.length_take]; omega
  rw [List.take_succ_eq_append_getElem h1, h2, List.take_append_of_le_length hn, List.append_assoc, List.set_append_right _ _ (by omega), hl, Nat.sub_self]
  rfl
theorem own_put3 {w : World} {B g N cap : Nat} {L : List Dg} {z : Dg} (n : Nat) (x : Dg) (hz : L[n]? = some z) (h : w.ownsRow B 28 3 (.slice (some ⟨g, 0, none⟩) N cap) L.length (encZ.all L)) :
    (((w.setCell ⟨g, n * 3, none⟩ (.int .i64 x.code)).setCell ⟨g, n * 3 + 1, none⟩ (.int .i64 x.f)).setCell ⟨g, n * 3 + 2, none⟩ (.int .i64 x.t)).ownsRow B 28 3 (.slice (some ⟨g, 0, none⟩) N cap) (L.set n x).length (encZ.all (L.set n x)) := by
  have hs := (List.getElem?_eq_some_iff.1 hz).1
  have h1 := own_set (E := encZ) h n 0 _ (⟨x.code, z.f, z.t⟩ : Dg) (.int .i64 x.code) hz rfl (by decide)
  have h2 := own_set (E := encZ) h1 n 1 _ (⟨x.code, x.f, z.t⟩ : Dg) (.int .i64 x.f) (List.getElem?_set_self hs) rfl (by decide)
  have h3 := own_set (E := encZ) h2 n 2 _ x (.int .i64 x.t) (List.getElem?_set_self (by rw [List.length_set]; exact hs)) rfl (by decide)
  rw [List.set_set, List.set_set] at h3
  exact h3
theorem step_copy_run {P : Program} {ops : Array Oper} {o : Oper} {a : Act} {w : World} {K : Act → World → Prop} {Q : Exit → Act → World → Prop} {E : Prop} (hgd : o.guard = none) (d s : Operand) (dT sT : TypeId)
    (ho : o.op = .call { callee := .builtin .copy, args := #[d, s], argTypes := #[dT, sT] }) (dv sv r : Value) (w' : World) (hd : a.eval d = dv) (hs : a.eval s = sv) (hrun : (Builtin.copy_ #[dT, sT] o.type #[dv, sv]).run P w = .ok r w') (h : K (a.put o.dst r) w') :
    if Region.wanted o (yielded ops a.tmps) = true then Oper.wp P o a w K Q else E := by
  have hw : Region.wanted o (yielded ops a.tmps) = true := by simp [Region.wanted, hgd]
  rw [if_pos hw]
  unfold Oper.wp
  simp [execOp, ho, resolve, invoke, builtin, hd, hs, hrun, Result.andThen]
  exact h
theorem all_drop {α : Type} (E : Enc α) : ∀ (L : List α) (i : Nat), (E.all L).drop (i * E.k) = E.all (L.drop i)
  | [], i => by simp [Enc.all]
  | x :: r, 0 => by simp
  | x :: r, i + 1 => by
    rw [List.drop_succ_cons, Enc.all, ← all_drop E r i, show (i + 1) * E.k = (E.cells x).length + i * E.k from by rw [E.len, Nat.add_mul]; omega, List.drop_length_add_append]
theorem World.ownsRow.drew' {w : World} {B e s n : Nat} {v : Value} {xs : List Value} (h : w.ownsRow B e s v n xs) : w.drew.ownsRow B e s v n xs := h
theorem diag_rest_at (g n cap l : Nat) (hl : l ≤ n) (hc : l < cap) (hb : n ≤ 1000000000000) (W : World) :
    (Instr.slice 22 (.slice (some ⟨g, 0, none⟩) n cap) (some (.int .i64 (l : Int))) none none).run Try.prog W = .ok (.slice (some ⟨g, l * 3, none⟩) (n - l) (cap - l)) W := by
  rw [run_slice_l W _ _ n cap elem_diags' .i64 l (by omega) (by omega), size_diags']
  simp only [Result.andThen, sliced, Int.toNat_natCast]
  rw [if_neg (by omega)]
  simp [Addr.add]
  intro e; exact e.symm
/-- All behind one place, one place on. -/
theorem copy_tail {W : World} {B g : Nat} (O : List Dg) (n M c c1 c2 : Nat) (hn : n < O.length) (hM : (O ++ [(⟨0, 0, 0⟩ : Dg)]).length = M)
    (h : W.ownsRow B 28 3 (.slice (some ⟨g, 0, none⟩) M c) M (encZ.all (O ++ [(⟨0, 0, 0⟩ : Dg)]))) :
    ∃ W', (∀ ty, (Builtin.copy_ #[22, 22] ty #[.slice (some ⟨g, (n + 1) * 3, none⟩) (M - (n + 1)) c1, .slice (some ⟨g, n * 3, none⟩) (M - n) c2]).run Try.prog W = .ok (goInt (Nat.min (M - n) (M - (n + 1)))) W') ∧
      W'.ownsRow B 28 3 (.slice (some ⟨g, 0, none⟩) (((O ++ [(⟨0, 0, 0⟩ : Dg)]).take (n + 1) ++ O.drop n) : List Dg).length c) (((O ++ [(⟨0, 0, 0⟩ : Dg)]).take (n + 1) ++ O.drop n) : List Dg).length (encZ.all ((O ++ [(⟨0, 0, 0⟩ : Dg)]).take (n + 1) ++ O.drop n)) ∧ (∀ w0, Below B w0 W → Below B w0 W') := by
  have hMO : O.length + 1 = M := by rw [← hM, List.length_append]; rfl
  have hcells := fun j v (hj : (encZ.all (O ++ [(⟨0, 0, 0⟩ : Dg)]))[j]? = some v) => h.cells (g := g) rfl j v hj
  have h0 := h
  obtain ⟨h1, h2⟩ := h
  rcases h2 with ⟨h2, _⟩ | ⟨g', c', cur, hv, hB, hh, hnc, hcp, hcs, ht⟩
  · cases h2
  obtain ⟨e1, e2, e3⟩ := Value.slice.inj hv
  injection e1 with e1
  injection e1 with e1
  subst e1 e3
  have hcl : (encZ.all (O.drop n)).length = (O.length - n) * 3 := by rw [all_len, List.length_drop]; rfl
  have hmin : Nat.min (M - n) (M - (n + 1)) = O.length - n := by show min (M - n) (M - (n + 1)) = _; omega
  have hll : (((O ++ [(⟨0, 0, 0⟩ : Dg)]).take (n + 1) ++ O.drop n) : List Dg).length = (O ++ [(⟨0, 0, 0⟩ : Dg)]).length := by rw [List.length_append, List.length_take, List.length_drop, hM]; omega
  refine ⟨_, fun ty => run_copy_row_k W _ _ ty _ 3 g ((n + 1) * 3) _ c1 ⟨g, n * 3, none⟩ _ c2 cur 28 (encZ.all (O.drop n)) Try.underlying22 (by kernel_rfl) hh (by rw [hcl, hmin]) (fun j v hj => ?_) ?_ (all_one encZ _), ?_, fun w0 hb => below_setRow hb hB _⟩
  · rw [add_addr]
    have h8 : (encZ.all (O ++ [(⟨0, 0, 0⟩ : Dg)]))[n * 3 + j]? = some v := ?_
    · have h7 := hcells _ _ h8
      rw [add_addr, Nat.zero_add] at h7
      exact h7
    rw [all_app, List.getElem?_append_left (by rw [all_len]; have h9 := (List.getElem?_eq_some_iff.1 hj).1; rw [hcl] at h9; show n * 3 + j < O.length * 3; omega), ← hj, ← all_drop encZ O n, List.getElem?_drop]
    rfl
  · rw [hcl, hcs]
    show (n + 1) * 3 + (O.length - n) * 3 ≤ c * 3
    omega
  · have h3 := own_over_cells (E := encZ) (L := O ++ [(⟨0, 0, 0⟩ : Dg)]) (L' := (O ++ [(⟨0, 0, 0⟩ : Dg)]).take (n + 1) ++ O.drop n) (off := (n + 1) * 3) (cs := encZ.all (O.drop n)) (cur := cur) (n := M) (by rw [hM]; exact h0) hh (by rw [all_app, ← all_take]; rfl) hll (by rw [hcl, hM]; show (n + 1) * 3 + (O.length - n) * 3 = M * 3; omega)
    rw [hll, hM] at h3 ⊢
    exact h3
set_option maxHeartbeats 8000000 in
set_option maxRecDepth 100000 in
theorem rSortAny (v : Value) (D : List Dg) (w : World) (h : Reads encZ w v D) (hsz : D.length ≤ 1000000000) :
    Calls Try.prog 9 #[v] w fun e w' => ∃ v', e = .returned v' ∧ w'.ownsRow w.heap.size 28 3 v' (sortD D).length (encZ.all (sortD D)) ∧ Below w.heap.size w w' := by
  obtain ⟨a, cap, rfl⟩ := h.shape
  have HX := Lib.hid (fun W (hW : Below w.heap.size w W) j x hx => diag_cells (h.below hW) j x hx)
  have HQ := Lib.hid (fun w' v' => show w'.ownsRow w.heap.size 28 3 v' (sortD D).length (encZ.all (sortD D)) → Below w.heap.size w w' → (fun e (w' : World) => ∃ v', e = Ending.returned v' ∧ w'.ownsRow w.heap.size 28 3 v' (sortD D).length (encZ.all (sortD D)) ∧ Below w.heap.size w w') (.returned v') w' from fun h1 h2 => ⟨v', rfl, h1, h2⟩)
  obtain ⟨Q, hQ⟩ : ∃ Q, (fun e (w' : World) => ∃ v', e = Ending.returned v' ∧ w'.ownsRow w.heap.size 28 3 v' (sortD D).length (encZ.all (sortD D)) ∧ Below w.heap.size w w') = Q := ⟨_, rfl⟩
  rw [hQ] at HQ ⊢
  obtain ⟨N, hN⟩ : ∃ N, D.length = N := ⟨_, rfl⟩
  rw [hN] at hsz ⊢
  have HN := Lib.hid hN
  obtain ⟨B, hB⟩ : ∃ B, w.heap.size = B := ⟨_, rfl⟩
  have HB := Lib.hid hB
  rw [hB] at HQ
  clear h hQ hN hB
  go_enter Try.func9, Try.ntmps9
  go_wp2_with fail
  go_loopw [3, 4] (fun ov iv wr => ∃ (i : Nat) (O : List Dg), iv = .int .i64 (i : Int) ∧ i ≤ N ∧ Hid (sortD (D.take i) = O) ∧ O.length ≤ i ∧ Hid (wr.ownsRow B 28 3 ov O.length (encZ.all O)) ∧ Hid (Below B w wr)) (fun _ iv _ => N - (intOf iv).toNat)
  case atStart => exact ⟨0, [], rfl, Nat.zero_le _, rfl, Nat.le_refl _, own_nil encZ w B, by rw [← HB.out]; exact Below.refl _ _⟩
  case round =>
    obtain ⟨i, O, rfl, hin, HSo, hOi, HO2, HBr⟩ := hrel
    by_cases hlt : i < N
    · obtain ⟨x, hx⟩ : ∃ x, D[i]? = some x := ⟨_, List.getElem?_eq_getElem (by rw [HN.out]; exact hlt)⟩
      obtain ⟨db, doff, rfl, x0, x1, x2⟩ := HX.out wr (by rw [HB.out]; exact HBr.out) i x hx
      have hii : (i : Int) < (N : Int) := by omega
      have HSt := Lib.hid (show sortD (D.take (i + 1)) = insD x O from by rw [sort_step D i x hx, HSo.out])
      have HSr := Lib.hid (show Srt O from by rw [← HSo.out]; exact srt_sort _)
      obtain ⟨oa, oc, rfl⟩ := (Reads.of_own (E := encZ) HO2.out).shape
      obtain ⟨m, hm⟩ : ∃ m, O.length = m := ⟨_, rfl⟩
      have HM := Lib.hid hm
      have HRd := Lib.hid (Reads.of_own (E := encZ) HO2.out)
      have HHx := Lib.hid hx
      rw [hm] at hOi ⊢
      clear hm hx HSo
      have HX0 := Lib.hid (show wr.cell? ⟨db, doff + i * 3, none⟩ = some (.int .i64 x.code) ∧ wr.cell? ⟨db, doff + i * 3 + 1, none⟩ = some (.int .i64 x.f) ∧ wr.cell? ⟨db, doff + i * 3 + 2, none⟩ = some (.int .i64 x.t) from ⟨x0, x1, x2⟩)
      clear x0 x1 x2
      go_wp2_with fail
      go_loopw [5] (fun nv wz => ∃ n : Nat, nv = .int .i64 (n : Int) ∧ n ≤ m ∧ Hid (∀ j y, n ≤ j → O[j]? = some y → less x y = true) ∧ Hid (Below wr.heap.size wr wz)) (fun nv _ => (intOf nv).toNat)
      case atStart => exact ⟨m, rfl, Nat.le_refl _, Lib.hid (fun j y h1 h2 => by have h9 := (List.getElem?_eq_some_iff.1 h2).1; rw [HM.out] at h9; omega), Lib.hid (Below.refl _ _)⟩
      case round =>
        obtain ⟨n, rfl, hn, HJ, HZ⟩ := hrel
        rename World => wz
        by_cases hn0 : n = 0
        · have g0 : decide ((0 : Int) < (n : Int)) = false := decide_eq_false (by omega)
          have g1 : decide (0 < n) = false := decide_eq_false (by omega)
          have HIn := Lib.hid (ins_at x O n HSr.out (by rw [HM.out]; exact hn) HJ.out (fun k y e _ => absurd e (by omega)))
          clear hn0 HJ
          go_wp2_with fail
          go_big_quiet (fail)
          have HB6 := Lib.hid (below_drewN HZ.out nq)
          clear HZ
          generalize World.drewN _ nq = wn at *
          go_wp2_with fail
          go_big_quiet (fail)
          have HB7 := Lib.hid (below_drewN HB6.out nq)
          generalize World.drewN _ nq = wm at *
          have hBr : B ≤ wr.heap.size := by have := HBr.out.size; rw [HB.out] at this; exact this
          have hBm : B ≤ wm.heap.size := Nat.le_trans hBr HB7.out.size
          have HOm := Lib.hid (own_below HO2.out HB7.out)
          have HBm := Lib.hid (HBr.out.trans (HB7.out.mono hBr))
          have HLt := Lib.hid (show ∀ k, (Value.slice oa m oc).ownBlock = some k → B ≤ k from fun k hk => (HOm.out.lt k (by rw [HM.out]; exact hk)).1)
          have hi1 : O.length + 1 ≤ maxLen := by rw [HM.out]; simp only [maxLen]; omega
          have hi2 : (O.length + 1) * 24 ≤ 140737488355328 := by rw [HM.out]; omega
          obtain ⟨M, hM⟩ : ∃ M, m + 1 = M := ⟨_, rfl⟩
          have HMm := Lib.hid hM
          have HMl := Lib.hid (show (O ++ [(⟨0, 0, 0⟩ : Dg)]).length = M from by rw [List.length_append, HM.out]; exact hM)
          have HL' := Lib.hid (show (((O ++ [(⟨0, 0, 0⟩ : Dg)]).take (n + 1) ++ O.drop n) : List Dg).length = M from by rw [List.length_append, List.length_take, List.length_drop, HMl.out, HM.out]; omega)
          have HPut := Lib.hid (show (((O ++ [(⟨0, 0, 0⟩ : Dg)]).take (n + 1) ++ O.drop n) : List Dg).set n x = insD x O from by rw [HIn.out]; exact put_in O n x _ (by rw [HM.out]; exact hn))
          obtain ⟨P, hP⟩ : ∃ P, n + 1 = P := ⟨_, rfl⟩
          have HP9 := Lib.hid hP
          have hw1 : IntKind.i64.wrap ((n : Int) + 1) = (P : Int) := by rw [← hP]; exact IntWalk.i64_in _ (by omega)
          have hPM : P ≤ M := by omega
          have hmM : m < M := by omega
          have hnP : n < P := by omega
          have hMs : n < M := by omega
          have hMb : M ≤ 1000000001 := by omega
          clear hM hP hBr HB6 HB7 HBr HRd
          go_wp2_with (at_builtin; go_must (refine append_one tyZ rfl (.tmp 44) (.tmp 46) rfl B _ O (⟨0, 0, 0⟩ : Dg) _ rfl rfl (by rw [HM.out]; have h9 := HOm.out; rw [HM.out] at h9; exact h9) rfl hi1 hi2 hBm ?_; intro v7 w7 hown7 hg7; obtain ⟨g, c7, rfl, hgB, -, hc7, -⟩ := own_at (E := encZ) hown7 (by rw [HMl.out]; omega); have HO7 := Lib.hid hown7; have HB8 := Lib.hid ((HBm.out.alloc hBm _).grown hg7 (Nat.le_trans hBm (by simp)) HLt.out); rw [HMl.out] at hc7 ⊢; clear hown7 hg7 hi1 hi2))
          by_cases hnm : n = m
          · subst hnm
            obtain ⟨a1, d1, hp1⟩ := diag_rest (some ⟨g, 0, none⟩) M c7 P hPM (by omega)
            obtain ⟨a2, d2, hp2⟩ := diag_rest (some ⟨g, 0, none⟩) M c7 n (by omega) (by omega)
            rw [show M - P = 0 from by rw [← HMm.out, ← HP9.out]; omega] at hp1
            rw [show M - n = 1 from by rw [← HMm.out]; omega] at hp2
            have hcp := copy_diags a1 a2 d1 d2
            have HEx := Lib.hid (show (((O ++ [(⟨0, 0, 0⟩ : Dg)]).take (n + 1) ++ O.drop n) : List Dg) = O ++ [(⟨0, 0, 0⟩ : Dg)] from by rw [List.take_of_length_le (by rw [HMl.out, ← HMm.out]; omega), List.drop_of_length_le (by rw [HM.out]; exact Nat.le_refl _), List.append_nil])
            go_wp2_with fail
            go_big_quiet (fail)
            have HB9 := Lib.hid (below_drewN (Below.refl w7.heap.size w7) nq)
            generalize World.drewN _ nq = w8 at *
            have HO8 := Lib.hid (own_below HO7.out HB9.out)
            rw [← HEx.out] at HO8
            have HB10 := Lib.hid (HB8.out.trans (HB9.out.mono (by have := HB8.out.size; rw [HB.out] at this; exact this)))
            clear hp1 hp2 hcp HO7 HB8 HB9 hgB
            obtain ⟨g', c8, e8, hgB, hfz, -, -⟩ := own_at (E := encZ) HO8.out (by rw [HL'.out]; omega)
            obtain ⟨e8, -, -⟩ := Value.slice.inj e8
            injection e8 with e8
            injection e8 with e8
            subst e8
            obtain ⟨z8, hz8⟩ : ∃ z, (((O ++ [(⟨0, 0, 0⟩ : Dg)]).take (n + 1) ++ O.drop n) : List Dg)[n]? = some z := ⟨_, List.getElem?_eq_getElem (by rw [HL'.out]; omega)⟩
            obtain ⟨p0, q0, hpq, s0, s1, s2⟩ := diag_cells (Reads.of_own (E := encZ) HO8.out) n z8 hz8
            injection hpq with hpq
            injection hpq with e1 e2
            subst e1 e2
            obtain ⟨p1, q1, hpq, x0, x1, x2⟩ := HX.out w8 (by rw [HB.out]; exact HB10.out) i x HHx.out
            injection hpq with hpq
            injection hpq with e1 e2
            subst e1 e2
            have f0 := hfz (n * 3)
            have f1 := hfz (n * 3 + 1)
            have f2 := hfz (n * 3 + 2)
            rw [Nat.zero_add] at s0 s1 s2
            have hp := own_put3 n x hz8 HO8.out
            rw [HPut.out] at hp
            have HP := Lib.hid hp
            have hnM : (n : Int) < (M : Int) := by omega
            clear hfz hp hz8
            go_wp2_with fail
            go_roundw
            case rel => exact ⟨i + 1, insD x O, by go_num, by omega, HSt.out, Nat.le_trans (ins_len x O) (by rw [HM.out]; omega), by have h9 := HP.out; rw [HL'.out] at h9; exact h9, ((HB10.out.setCell (p := ⟨g, n * 3, none⟩) hgB _).setCell (p := ⟨g, n * 3 + 1, none⟩) hgB _).setCell (p := ⟨g, n * 3 + 2, none⟩) hgB _⟩
            case measure => simp [intOf]; omega
          · have hnm2 : n < m := by omega
            obtain ⟨S1, hS1⟩ : ∃ S1, Value.slice (some ⟨g, P * 3, none⟩) (M - P) (c7 - P) = S1 := ⟨_, rfl⟩
            obtain ⟨S2, hS2⟩ : ∃ S2, Value.slice (some ⟨g, n * 3, none⟩) (M - n) (c7 - n) = S2 := ⟨_, rfl⟩
            have hp1 := diag_rest_at g M c7 P hPM (by have := HP9.out; omega) (by omega)
            have hp2 := diag_rest_at g M c7 n (by omega) (by omega) (by omega)
            obtain ⟨w8, hrun, hO8, hB8⟩ := copy_tail (W := w7.drew) O n M c7 (c7 - P) (c7 - n) (by rw [HM.out]; exact hnm2) HMl.out (by have h9 := World.ownsRow.drew' HO7.out; rw [HMl.out] at h9; exact h9)
            rw [HP9.out, hS1, hS2] at hrun
            rw [hS1] at hp1
            rw [hS2] at hp2
            have HRun := Lib.hid hrun
            have HO8 := Lib.hid hO8
            have HB10 := Lib.hid (hB8 w HB8.out.drew)
            clear hrun hO8 hB8 hS1 hS2 HO7 HB8 hgB hnm
            go_wp2_with fail
            refine wp_region_T (fun wx => True) 7 (by kernel_rfl) ?_
            have hH : (fun wx : World => True) w7.drew := trivial
            refine wpAnyT_take0 (i := 0) (oi := { dst := some 48, op := Op.move (Operand.tmp 3), type := 22, pos := _, after := #[], guard := none }) (v := .slice (some ⟨g, 0, none⟩) M c7) rfl (by kernel_rfl) (by kernel_rfl) (by kernel_rfl) (by kernel_rfl) (fun _ _ _ h => h) (Or.inl ⟨rfl, fun W hW => ?_⟩) (fun _ => hH) ?_
            · refine QuietRun.of_run ?_; go_simp
            try simp only [Act.put, List.setIfInBounds_toArray, List.set_cons_zero, List.set_cons_succ]
            refine wpAnyT_take0 (i := 1) (oi := { dst := some 49, op := Op.move (Operand.tmp 5), type := 3, pos := _, after := #[], guard := none }) (v := .int .i64 (n : Int)) rfl (by kernel_rfl) (by kernel_rfl) (by kernel_rfl) (by kernel_rfl) (fun _ _ _ h => h) (Or.inl ⟨rfl, fun W hW => ?_⟩) (fun _ => hH) ?_
            · refine QuietRun.of_run ?_; go_simp
            try simp only [Act.put, List.setIfInBounds_toArray, List.set_cons_zero, List.set_cons_succ]
            refine wpAnyT_take0 (i := 2) (oi := { dst := some 50, op := Op.binOp BinOp.add 3 (Operand.tmp 49) (Operand.const (Value.int IntKind.i64 1)) 3, type := 3, pos := _, after := #[{ on := 1, ground := Ground.data }], guard := none }) (v := .int .i64 (P : Int)) rfl (by kernel_rfl) (by kernel_rfl) (by kernel_rfl) (by kernel_rfl) (fun _ _ _ h => h) (Or.inl ⟨rfl, fun W hW => ?_⟩) (fun _ => hH) ?_
            · refine QuietRun.of_run ?_; go_simp
            try simp only [Act.put, List.setIfInBounds_toArray, List.set_cons_zero, List.set_cons_succ]
            refine wpAnyT_take (i := 3) (oi := { dst := some 51, op := Op.slice 22 (Operand.tmp 48) (some (Operand.tmp 50)) none none, type := 22, pos := _, after := #[{ on := 0, ground := Ground.data }, { on := 2, ground := Ground.data }], guard := none }) (v := S1) rfl (by kernel_rfl) (by kernel_rfl) (by kernel_rfl) (by kernel_rfl) (by kernel_rfl) (fun _ _ _ h => h) (Or.inl ⟨rfl, fun W hW => ?_⟩) hH ?_
            · refine QuietRun.of_run ?_; go_simp
            try simp only [Act.put, List.setIfInBounds_toArray, List.set_cons_zero, List.set_cons_succ]
            refine wpAnyT_take0 (i := 4) (oi := { dst := some 52, op := Op.move (Operand.tmp 3), type := 22, pos := _, after := #[], guard := none }) (v := .slice (some ⟨g, 0, none⟩) M c7) rfl (by kernel_rfl) (by kernel_rfl) (by kernel_rfl) (by kernel_rfl) (fun _ _ _ h => h) (Or.inl ⟨rfl, fun W hW => ?_⟩) (fun _ => hH) ?_
            · refine QuietRun.of_run ?_; go_simp
            try simp only [Act.put, List.setIfInBounds_toArray, List.set_cons_zero, List.set_cons_succ]
            refine wpAnyT_take0 (i := 5) (oi := { dst := some 53, op := Op.move (Operand.tmp 5), type := 3, pos := _, after := #[], guard := none }) (v := .int .i64 (n : Int)) rfl (by kernel_rfl) (by kernel_rfl) (by kernel_rfl) (by kernel_rfl) (fun _ _ _ h => h) (Or.inl ⟨rfl, fun W hW => ?_⟩) (fun _ => hH) ?_
            · refine QuietRun.of_run ?_; go_simp
            try simp only [Act.put, List.setIfInBounds_toArray, List.set_cons_zero, List.set_cons_succ]
            refine wpAnyT_take (i := 6) (oi := { dst := some 54, op := Op.slice 22 (Operand.tmp 52) (some (Operand.tmp 53)) none none, type := 22, pos := _, after := #[{ on := 4, ground := Ground.data }, { on := 5, ground := Ground.data }], guard := none }) (v := S2) rfl (by kernel_rfl) (by kernel_rfl) (by kernel_rfl) (by kernel_rfl) (by kernel_rfl) (fun _ _ _ h => h) (Or.inl ⟨rfl, fun W hW => ?_⟩) hH ?_
            · refine QuietRun.of_run ?_; go_simp
            try simp only [Act.put, List.setIfInBounds_toArray, List.set_cons_zero, List.set_cons_succ]
            refine wpAnyT_ready (rs := [7]) (by kernel_rfl) (by simp) ?_
            refine AllReadyT.cons (o := { dst := some 55, op := Op.call { callee := Callee.builtin Builtin.copy, args := #[Operand.tmp 51, Operand.tmp 54], argTypes := #[22, 22] }, type := 3, pos := _, after := #[{ on := 3, ground := Ground.data }, { on := 6, ground := Ground.data }], guard := none }) rfl (fun K hK => ?_) (AllReadyT.nil)
            refine step_copy_run rfl (.tmp 51) (.tmp 54) 22 22 rfl S1 S2 _ w8 rfl rfl (HRun.out _) ?_
            refine hK.out _ _ (fun h => absurd (h.symm.trans (show _ = true from by kernel_rfl)) (by decide)) (fun _ => ?_)
            clear hK K
            try simp only [Act.put, List.setIfInBounds_toArray, List.set_cons_zero, List.set_cons_succ]
            refine wpAnyT_done (by kernel_rfl) ?_ _
            obtain ⟨g', c8, e8, hgB, hfz, -, -⟩ := own_at (E := encZ) HO8.out (by rw [HL'.out]; omega)
            obtain ⟨e8, -, -⟩ := Value.slice.inj e8
            injection e8 with e8
            injection e8 with e8
            subst e8
            obtain ⟨z8, hz8⟩ : ∃ z, (((O ++ [(⟨0, 0, 0⟩ : Dg)]).take (n + 1) ++ O.drop n) : List Dg)[n]? = some z := ⟨_, List.getElem?_eq_getElem (by rw [HL'.out]; omega)⟩
            obtain ⟨p0, q0, hpq, s0, s1, s2⟩ := diag_cells (Reads.of_own (E := encZ) HO8.out) n z8 hz8
            injection hpq with hpq
            injection hpq with e1 e2
            subst e1 e2
            obtain ⟨p1, q1, hpq, x0, x1, x2⟩ := HX.out w8 (by rw [HB.out]; exact HB10.out) i x HHx.out
            injection hpq with hpq
            injection hpq with e1 e2
            subst e1 e2
            have f0 := hfz (n * 3)
            have f1 := hfz (n * 3 + 1)
            have f2 := hfz (n * 3 + 2)
            rw [Nat.zero_add] at s0 s1 s2
            have hp := own_put3 n x hz8 HO8.out
            rw [HPut.out] at hp
            have HP := Lib.hid hp
            have hnM : (n : Int) < (M : Int) := by omega
            clear hfz hp hz8
            go_wp2_with fail
            go_roundw
            case rel => exact ⟨i + 1, insD x O, by go_num, by omega, HSt.out, Nat.le_trans (ins_len x O) (by rw [HM.out]; omega), by have h9 := HP.out; rw [HL'.out] at h9; exact h9, ((HB10.out.setCell (p := ⟨g, n * 3, none⟩) hgB _).setCell (p := ⟨g, n * 3 + 1, none⟩) hgB _).setCell (p := ⟨g, n * 3 + 2, none⟩) hgB _⟩
            case measure => simp [intOf]; omega
        · obtain ⟨k, hk⟩ : ∃ k, n = k + 1 := ⟨n - 1, by omega⟩
          obtain ⟨y, hy⟩ : ∃ y, O[k]? = some y := ⟨_, List.getElem?_eq_getElem (by rw [HM.out]; omega)⟩
          have hRd := HRd.out
          obtain ⟨ob, oo, rfl, y0, y1, y2⟩ := diag_cells hRd k y hy
          have Y3 := Lib.hid (And.intro y0 (And.intro y1 y2))
          clear y0 y1 y2
          obtain ⟨x0, x1, x2⟩ := HX0.out
          obtain ⟨y0, y1, y2⟩ := Y3.out
          replace x0 := at_below HZ.out x0
          replace x1 := at_below HZ.out x1
          replace x2 := at_below HZ.out x2
          replace y0 := at_below HZ.out y0
          replace y1 := at_below HZ.out y1
          replace y2 := at_below HZ.out y2
          obtain ⟨LB, hLB⟩ : ∃ LB, less x y = LB := ⟨_, rfl⟩
          obtain ⟨SB, hSB⟩ : ∃ SB, same y x = SB := ⟨_, rfl⟩
          have HLe := Lib.hid (fun W => by have := rLess x y W; rw [hLB] at this; exact this)
          have HEq := Lib.hid (fun W => by have := eql_same y x W; rw [hSB] at this; exact this)
          have HLB := Lib.hid hLB
          have HSB := Lib.hid hSB
          have HY := Lib.hid hy
          have HK := Lib.hid hk
          have g0 : decide ((0 : Int) < (n : Int)) = true := decide_eq_true (by omega)
          have g1 : decide (0 < n) = true := decide_eq_true (by omega)
          have hw0 : IntKind.i64.wrap ((n : Int) - 1) = (k : Int) := by rw [show (n : Int) - 1 = (k : Int) from by omega]; exact IntWalk.i64_in _ (by omega)
          have gk : (k : Int) < (m : Int) := by omega
          have gk2 : k < m := by omega
          clear hk hn0 hLB hSB hy hRd
          go_wp2_with fail
          refine wp_region_T (fun wx => wx.cell? ⟨db, doff + i * 3, none⟩ = some (.int .i64 x.code) ∧ wx.cell? ⟨db, doff + i * 3 + 1, none⟩ = some (.int .i64 x.f) ∧ wx.cell? ⟨db, doff + i * 3 + 2, none⟩ = some (.int .i64 x.t) ∧ wx.cell? ⟨ob, oo + k * 3, none⟩ = some (.int .i64 y.code) ∧ wx.cell? ⟨ob, oo + k * 3 + 1, none⟩ = some (.int .i64 y.f) ∧ wx.cell? ⟨ob, oo + k * 3 + 2, none⟩ = some (.int .i64 y.t)) 12 (by kernel_rfl) ?_
          have hH : (fun wx : World => wx.cell? ⟨db, doff + i * 3, none⟩ = some (.int .i64 x.code) ∧ wx.cell? ⟨db, doff + i * 3 + 1, none⟩ = some (.int .i64 x.f) ∧ wx.cell? ⟨db, doff + i * 3 + 2, none⟩ = some (.int .i64 x.t) ∧ wx.cell? ⟨ob, oo + k * 3, none⟩ = some (.int .i64 y.code) ∧ wx.cell? ⟨ob, oo + k * 3 + 1, none⟩ = some (.int .i64 y.f) ∧ wx.cell? ⟨ob, oo + k * 3 + 2, none⟩ = some (.int .i64 y.t)) wz.drew := ⟨at_drew x0, at_drew x1, at_drew x2, at_drew y0, at_drew y1, at_drew y2⟩
          refine wpAnyT_take0 (i := 0) (oi := { dst := some 14, op := Op.move (Operand.tmp 5), type := 3, pos := _, after := #[], guard := none }) (v := .int .i64 (n : Int)) rfl (by kernel_rfl) (by kernel_rfl) (by kernel_rfl) (by kernel_rfl) (fun _ _ _ h => h) (Or.inl ⟨rfl, fun W hW => ?_⟩) (fun _ => hH) ?_
          · refine QuietRun.of_run ?_; go_simp
          try simp only [Act.put, List.setIfInBounds_toArray, List.set_cons_zero, List.set_cons_succ]
          refine wpAnyT_take0 (i := 1) (oi := { dst := some 15, op := Op.binOp BinOp.gtr 3 (Operand.tmp 14) (Operand.const (Value.int IntKind.i64 0)) 3, type := 4, pos := _, after := #[{ on := 0, ground := Ground.data }], guard := none }) (v := .bool true) rfl (by kernel_rfl) (by kernel_rfl) (by kernel_rfl) (by kernel_rfl) (fun _ _ _ h => h) (Or.inl ⟨rfl, fun W hW => ?_⟩) (fun _ => hH) ?_
          · refine QuietRun.of_run ?_; go_simp
          try simp only [Act.put, List.setIfInBounds_toArray, List.set_cons_zero, List.set_cons_succ]
          refine wpAnyT_take (i := 2) (oi := { dst := some 16, op := Op.move (Operand.tmp 15), type := 4, pos := _, after := #[{ on := 1, ground := Ground.data }], guard := none }) (v := .bool true) rfl (by kernel_rfl) (by kernel_rfl) (by kernel_rfl) (by kernel_rfl) (by kernel_rfl) (fun _ _ _ h => h) (Or.inl ⟨rfl, fun W hW => ?_⟩) hH ?_
          · refine QuietRun.of_run ?_; go_simp
          try simp only [Act.put, List.setIfInBounds_toArray, List.set_cons_zero, List.set_cons_succ]
          refine wpAnyT_take0 (i := 3) (oi := { dst := some 17, op := Op.move (Operand.tmp 0), type := 22, pos := _, after := #[{ on := 2, ground := Ground.guard }], guard := some (2, true) }) (v := .slice (some ⟨db, doff, none⟩) N cap) rfl (by kernel_rfl) (by kernel_rfl) (by kernel_rfl) (by kernel_rfl) (fun _ _ _ h => h) (Or.inl ⟨rfl, fun W hW => ?_⟩) (fun _ => hH) ?_
          · refine QuietRun.of_run ?_; go_simp
          try simp only [Act.put, List.setIfInBounds_toArray, List.set_cons_zero, List.set_cons_succ]
          refine wpAnyT_take0 (i := 4) (oi := { dst := some 18, op := Op.move (Operand.tmp 4), type := 3, pos := _, after := #[{ on := 2, ground := Ground.guard }], guard := some (2, true) }) (v := .int .i64 (i : Int)) rfl (by kernel_rfl) (by kernel_rfl) (by kernel_rfl) (by kernel_rfl) (fun _ _ _ h => h) (Or.inl ⟨rfl, fun W hW => ?_⟩) (fun _ => hH) ?_
          · refine QuietRun.of_run ?_; go_simp
          try simp only [Act.put, List.setIfInBounds_toArray, List.set_cons_zero, List.set_cons_succ]
          refine wpAnyT_take0 (i := 5) (oi := { dst := some 19, op := Op.indexAddr 22 (Operand.tmp 17) (Operand.tmp 18), type := 0, pos := _, after := #[{ on := 3, ground := Ground.data }, { on := 4, ground := Ground.data }, { on := 2, ground := Ground.guard }], guard := some (2, true) }) (v := .pointer (some ⟨db, doff + i * 3, none⟩)) rfl (by kernel_rfl) (by kernel_rfl) (by kernel_rfl) (by kernel_rfl) (fun _ _ _ h => h) (Or.inl ⟨rfl, fun W hW => ?_⟩) (fun _ => hH) ?_
          · refine QuietRun.of_run ?_; go_simp
          try simp only [Act.put, List.setIfInBounds_toArray, List.set_cons_zero, List.set_cons_succ]
          refine wpAnyT_take (i := 6) (oi := { dst := some 20, op := Op.load 28 (Operand.tmp 19), type := 28, pos := _, after := #[{ on := 5, ground := Ground.data }, { on := 2, ground := Ground.guard }], guard := some (2, true) }) (v := .agg #[.int .i64 x.code, .int .i64 x.f, .int .i64 x.t]) rfl (by kernel_rfl) (by kernel_rfl) (by kernel_rfl) (by kernel_rfl) (by kernel_rfl) (fun _ _ _ h => h) (Or.inl ⟨rfl, fun W hW => ?_⟩) hH ?_
          · refine QuietRun.of_run ?_; obtain ⟨z0, z1, z2, z3, z4, z5⟩ := hW; go_simp
          try simp only [Act.put, List.setIfInBounds_toArray, List.set_cons_zero, List.set_cons_succ]
          refine wpAnyT_take0 (i := 7) (oi := { dst := some 21, op := Op.move (Operand.tmp 3), type := 22, pos := _, after := #[{ on := 2, ground := Ground.guard }], guard := some (2, true) }) (v := .slice (some ⟨ob, oo, none⟩) m oc) rfl (by kernel_rfl) (by kernel_rfl) (by kernel_rfl) (by kernel_rfl) (fun _ _ _ h => h) (Or.inl ⟨rfl, fun W hW => ?_⟩) (fun _ => hH) ?_
          · refine QuietRun.of_run ?_; go_simp
          try simp only [Act.put, List.setIfInBounds_toArray, List.set_cons_zero, List.set_cons_succ]
          refine wpAnyT_take0 (i := 8) (oi := { dst := some 22, op := Op.move (Operand.tmp 5), type := 3, pos := _, after := #[{ on := 2, ground := Ground.guard }], guard := some (2, true) }) (v := .int .i64 (n : Int)) rfl (by kernel_rfl) (by kernel_rfl) (by kernel_rfl) (by kernel_rfl) (fun _ _ _ h => h) (Or.inl ⟨rfl, fun W hW => ?_⟩) (fun _ => hH) ?_
          · refine QuietRun.of_run ?_; go_simp
          try simp only [Act.put, List.setIfInBounds_toArray, List.set_cons_zero, List.set_cons_succ]
          refine wpAnyT_take0 (i := 9) (oi := { dst := some 23, op := Op.binOp BinOp.sub 3 (Operand.tmp 22) (Operand.const (Value.int IntKind.i64 1)) 3, type := 3, pos := _, after := #[{ on := 8, ground := Ground.data }, { on := 2, ground := Ground.guard }], guard := some (2, true) }) (v := .int .i64 (k : Int)) rfl (by kernel_rfl) (by kernel_rfl) (by kernel_rfl) (by kernel_rfl) (fun _ _ _ h => h) (Or.inl ⟨rfl, fun W hW => ?_⟩) (fun _ => hH) ?_
          · refine QuietRun.of_run ?_; go_simp
          try simp only [Act.put, List.setIfInBounds_toArray, List.set_cons_zero, List.set_cons_succ]
          refine wpAnyT_take0 (i := 10) (oi := { dst := some 24, op := Op.indexAddr 22 (Operand.tmp 21) (Operand.tmp 23), type := 0, pos := _, after := #[{ on := 7, ground := Ground.data }, { on := 9, ground := Ground.data }, { on := 2, ground := Ground.guard }], guard := some (2, true) }) (v := .pointer (some ⟨ob, oo + k * 3, none⟩)) rfl (by kernel_rfl) (by kernel_rfl) (by kernel_rfl) (by kernel_rfl) (fun _ _ _ h => h) (Or.inl ⟨rfl, fun W hW => ?_⟩) (fun _ => hH) ?_
          · refine QuietRun.of_run ?_; go_simp
          try simp only [Act.put, List.setIfInBounds_toArray, List.set_cons_zero, List.set_cons_succ]
          refine wpAnyT_take (i := 11) (oi := { dst := some 25, op := Op.load 28 (Operand.tmp 24), type := 28, pos := _, after := #[{ on := 10, ground := Ground.data }, { on := 2, ground := Ground.guard }], guard := some (2, true) }) (v := .agg #[.int .i64 y.code, .int .i64 y.f, .int .i64 y.t]) rfl (by kernel_rfl) (by kernel_rfl) (by kernel_rfl) (by kernel_rfl) (by kernel_rfl) (fun _ _ _ h => h) (Or.inl ⟨rfl, fun W hW => ?_⟩) hH ?_
          · refine QuietRun.of_run ?_; obtain ⟨z0, z1, z2, z3, z4, z5⟩ := hW; go_simp
          try simp only [Act.put, List.setIfInBounds_toArray, List.set_cons_zero, List.set_cons_succ]
          refine wpAnyT_ready (rs := [12]) (by kernel_rfl) (by simp) ?_
          refine AllReadyT.cons (o := { dst := some 26, op := Op.call { callee := Callee.value (Operand.func 16), args := #[Operand.tmp 20, Operand.tmp 25], argTypes := #[28, 28] }, type := 4, pos := _, after := #[{ on := 6, ground := Ground.data }, { on := 11, ground := Ground.data }, { on := 2, ground := Ground.chain }, { on := 2, ground := Ground.guard }], guard := some (2, true) }) rfl (fun K hK => ?_) (AllReadyT.nil)
          go_simp
          refine (HLe.out wz.drew).mono ?_
          rintro e w5 ⟨rfl, hb5⟩
          have HB6 := Lib.hid (below_from HZ.out (below_from (Below.refl _ wz).drew hb5))
          clear hb5
          refine hK.out _ _ (fun h => absurd (h.symm.trans (show _ = true from by kernel_rfl)) (by decide)) (fun _ => ?_)
          clear hK K
          try simp only [Act.put, List.setIfInBounds_toArray, List.set_cons_zero, List.set_cons_succ]
          refine wpAnyT_take0 (i := 13) (oi := { dst := some 27, op := Op.pick (Operand.tmp 16) (Operand.tmp 26) (Operand.const (Value.bool false)), type := 4, pos := _, after := #[{ on := 2, ground := Ground.data }, { on := 12, ground := Ground.data }], guard := none }) (v := .bool LB) rfl (by kernel_rfl) (by kernel_rfl) (by kernel_rfl) (by kernel_rfl) (fun _ _ _ h => h) (Or.inl ⟨rfl, fun W hW => ?_⟩) (fun h => absurd (h.symm.trans (show _ = true from by kernel_rfl)) (by decide)) ?_
          · refine QuietRun.of_run ?_; go_simp
          try simp only [Act.put, List.setIfInBounds_toArray, List.set_cons_zero, List.set_cons_succ]
          refine wpAnyT_done (by kernel_rfl) ?_ _
          clear x0 x1 x2 y0 y1 y2 HLe
          cases LB with
          | true =>
            have HJ2 := Lib.hid (show ∀ (j : Nat) (z : Dg), k ≤ j → O[j]? = some z → less x z = true from fun j z h1 h2 => by
              rcases Nat.lt_or_ge j n with h | h
              · obtain rfl : j = k := by have := HK.out; omega
                rw [HY.out] at h2
                injection h2 with h2
                subst h2
                exact HLB.out
              · exact HJ.out j z h h2)
            clear HJ HZ
            go_wp2_with fail
            go_roundw
            case rel => exact ⟨k, rfl, by omega, HJ2, HB6⟩
            case measure =>
              have h9 := HK.out
              simp [intOf]; omega
          | false =>
            obtain ⟨x0, x1, x2⟩ := HX0.out
            obtain ⟨y0, y1, y2⟩ := Y3.out
            replace x0 := at_below HB6.out x0
            replace x1 := at_below HB6.out x1
            replace x2 := at_below HB6.out x2
            replace y0 := at_below HB6.out y0
            replace y1 := at_below HB6.out y1
            replace y2 := at_below HB6.out y2
            have heq := HEq.out
            cases SB with
            | true =>
              have HSame := Lib.hid (show insD x O = O from ins_same x O HSr.out (by have h9 := (same_iff y x).1 HSB.out; subst h9; exact List.mem_of_getElem? HY.out))
              have HB9 := Lib.hid (fun nq => HBr.out.trans ((below_drewN HB6.out nq).mono (by have := HBr.out.size; rw [HB.out] at this; exact this)))
              have HO9 := Lib.hid (fun nq => own_below HO2.out (below_drewN HB6.out nq))
              clear HJ HZ
              go_wp2_with fail
              go_big_quiet (fail)
              have HBn := Lib.hid (HB9.out nq)
              have HOn := Lib.hid (HO9.out nq)
              clear x0 x1 x2 y0 y1 y2 heq HB9 HO9
              generalize World.drewN _ nq = wm at *
              go_wp2_with fail
              go_roundw
              case rel => exact ⟨i + 1, O, by go_num, by omega, Lib.hid (HSt.out.trans HSame.out), by rw [HM.out]; omega, by have h9 := HOn.out; rw [HM.out] at h9 ⊢; exact h9, HBn⟩
              case measure => simp [intOf]; omega
            | false =>
              have HIn := Lib.hid (ins_at x O n HSr.out (by rw [HM.out]; exact hn) HJ.out (fun k' z e hz => by
                obtain rfl : k' = k := by have := HK.out; omega
                rw [HY.out] at hz
                injection hz with hz
                subst hz
                exact ⟨HLB.out, HSB.out⟩))
              clear HJ HZ
              go_wp2_with fail
              go_big_quiet (fail)
              clear x0 x1 x2 y0 y1 y2 heq
              have HB7 := Lib.hid (below_drewN HB6.out nq)
              generalize World.drewN _ nq = wm at *
              have hBr : B ≤ wr.heap.size := by have := HBr.out.size; rw [HB.out] at this; exact this
              have hBm : B ≤ wm.heap.size := Nat.le_trans hBr HB7.out.size
              have HOm := Lib.hid (own_below HO2.out HB7.out)
              have HBm := Lib.hid (HBr.out.trans (HB7.out.mono hBr))
              have HLt := Lib.hid (show ∀ k, (Value.slice (some ⟨ob, oo, none⟩) m oc).ownBlock = some k → B ≤ k from fun k hk => (HOm.out.lt k (by rw [HM.out]; exact hk)).1)
              have hi1 : O.length + 1 ≤ maxLen := by rw [HM.out]; simp only [maxLen]; omega
              have hi2 : (O.length + 1) * 24 ≤ 140737488355328 := by rw [HM.out]; omega
              obtain ⟨M, hM⟩ : ∃ M, m + 1 = M := ⟨_, rfl⟩
              have HMm := Lib.hid hM
              have HMl := Lib.hid (show (O ++ [(⟨0, 0, 0⟩ : Dg)]).length = M from by rw [List.length_append, HM.out]; exact hM)
              have HL' := Lib.hid (show (((O ++ [(⟨0, 0, 0⟩ : Dg)]).take (n + 1) ++ O.drop n) : List Dg).length = M from by rw [List.length_append, List.length_take, List.length_drop, HMl.out, HM.out]; omega)
              have HPut := Lib.hid (show (((O ++ [(⟨0, 0, 0⟩ : Dg)]).take (n + 1) ++ O.drop n) : List Dg).set n x = insD x O from by rw [HIn.out]; exact put_in O n x _ (by rw [HM.out]; exact hn))
              obtain ⟨P, hP⟩ : ∃ P, n + 1 = P := ⟨_, rfl⟩
              have HP9 := Lib.hid hP
              have hw1 : IntKind.i64.wrap ((n : Int) + 1) = (P : Int) := by rw [← hP]; exact IntWalk.i64_in _ (by omega)
              have hPM : P ≤ M := by omega
              have hmM : m < M := by omega
              have hnP : n < P := by omega
              have hMs : n < M := by omega
              have hMb : M ≤ 1000000001 := by omega
              clear hM hP hBr HB6 HB7 HBr HRd
              go_wp2_with (at_builtin; go_must (refine append_one tyZ rfl (.tmp 44) (.tmp 46) rfl B _ O (⟨0, 0, 0⟩ : Dg) _ rfl rfl (by rw [HM.out]; have h9 := HOm.out; rw [HM.out] at h9; exact h9) rfl hi1 hi2 hBm ?_; intro v7 w7 hown7 hg7; obtain ⟨g, c7, rfl, hgB, -, hc7, -⟩ := own_at (E := encZ) hown7 (by rw [HMl.out]; omega); have HO7 := Lib.hid hown7; have HB8 := Lib.hid ((HBm.out.alloc hBm _).grown hg7 (Nat.le_trans hBm (by simp)) HLt.out); rw [HMl.out] at hc7 ⊢; clear hown7 hg7 hi1 hi2))
              by_cases hnm : n = m
              · subst hnm
                obtain ⟨a1, d1, hp1⟩ := diag_rest (some ⟨g, 0, none⟩) M c7 P hPM (by omega)
                obtain ⟨a2, d2, hp2⟩ := diag_rest (some ⟨g, 0, none⟩) M c7 n (by omega) (by omega)
                rw [show M - P = 0 from by rw [← HMm.out, ← HP9.out]; omega] at hp1
                rw [show M - n = 1 from by rw [← HMm.out]; omega] at hp2
                have hcp := copy_diags a1 a2 d1 d2
                have HEx := Lib.hid (show (((O ++ [(⟨0, 0, 0⟩ : Dg)]).take (n + 1) ++ O.drop n) : List Dg) = O ++ [(⟨0, 0, 0⟩ : Dg)] from by rw [List.take_of_length_le (by rw [HMl.out, ← HMm.out]; omega), List.drop_of_length_le (by rw [HM.out]; exact Nat.le_refl _), List.append_nil])
                go_wp2_with fail
                go_big_quiet (fail)
                have HB9 := Lib.hid (below_drewN (Below.refl w7.heap.size w7) nq)
                generalize World.drewN _ nq = w8 at *
                have HO8 := Lib.hid (own_below HO7.out HB9.out)
                rw [← HEx.out] at HO8
                have HB10 := Lib.hid (HB8.out.trans (HB9.out.mono (by have := HB8.out.size; rw [HB.out] at this; exact this)))
                clear hp1 hp2 hcp HO7 HB8 HB9 hgB
                obtain ⟨g', c8, e8, hgB, hfz, -, -⟩ := own_at (E := encZ) HO8.out (by rw [HL'.out]; omega)
                obtain ⟨e8, -, -⟩ := Value.slice.inj e8
                injection e8 with e8
                injection e8 with e8
                subst e8
                obtain ⟨z8, hz8⟩ : ∃ z, (((O ++ [(⟨0, 0, 0⟩ : Dg)]).take (n + 1) ++ O.drop n) : List Dg)[n]? = some z := ⟨_, List.getElem?_eq_getElem (by rw [HL'.out]; omega)⟩
                obtain ⟨p0, q0, hpq, s0, s1, s2⟩ := diag_cells (Reads.of_own (E := encZ) HO8.out) n z8 hz8
                injection hpq with hpq
                injection hpq with e1 e2
                subst e1 e2
                obtain ⟨p1, q1, hpq, x0, x1, x2⟩ := HX.out w8 (by rw [HB.out]; exact HB10.out) i x HHx.out
                injection hpq with hpq
                injection hpq with e1 e2
                subst e1 e2
                have f0 := hfz (n * 3)
                have f1 := hfz (n * 3 + 1)
                have f2 := hfz (n * 3 + 2)
                rw [Nat.zero_add] at s0 s1 s2
                have hp := own_put3 n x hz8 HO8.out
                rw [HPut.out] at hp
                have HP := Lib.hid hp
                have hnM : (n : Int) < (M : Int) := by omega
                clear hfz hp hz8
                go_wp2_with fail
                go_roundw
                case rel => exact ⟨i + 1, insD x O, by go_num, by omega, HSt.out, Nat.le_trans (ins_len x O) (by rw [HM.out]; omega), by have h9 := HP.out; rw [HL'.out] at h9; exact h9, ((HB10.out.setCell (p := ⟨g, n * 3, none⟩) hgB _).setCell (p := ⟨g, n * 3 + 1, none⟩) hgB _).setCell (p := ⟨g, n * 3 + 2, none⟩) hgB _⟩
                case measure => simp [intOf]; omega
              · have hnm2 : n < m := by omega
                obtain ⟨S1, hS1⟩ : ∃ S1, Value.slice (some ⟨g, P * 3, none⟩) (M - P) (c7 - P) = S1 := ⟨_, rfl⟩
                obtain ⟨S2, hS2⟩ : ∃ S2, Value.slice (some ⟨g, n * 3, none⟩) (M - n) (c7 - n) = S2 := ⟨_, rfl⟩
                have hp1 := diag_rest_at g M c7 P hPM (by have := HP9.out; omega) (by omega)
                have hp2 := diag_rest_at g M c7 n (by omega) (by omega) (by omega)
                obtain ⟨w8, hrun, hO8, hB8⟩ := copy_tail (W := w7.drew) O n M c7 (c7 - P) (c7 - n) (by rw [HM.out]; exact hnm2) HMl.out (by have h9 := World.ownsRow.drew' HO7.out; rw [HMl.out] at h9; exact h9)
                rw [HP9.out, hS1, hS2] at hrun
                rw [hS1] at hp1
                rw [hS2] at hp2
                have HRun := Lib.hid hrun
                have HO8 := Lib.hid hO8
                have HB10 := Lib.hid (hB8 w HB8.out.drew)
                clear hrun hO8 hB8 hS1 hS2 HO7 HB8 hgB hnm
                go_wp2_with fail
                refine wp_region_T (fun wx => True) 7 (by kernel_rfl) ?_
                have hH : (fun wx : World => True) w7.drew := trivial
                refine wpAnyT_take0 (i := 0) (oi := { dst := some 48, op := Op.move (Operand.tmp 3), type := 22, pos := _, after := #[], guard := none }) (v := .slice (some ⟨g, 0, none⟩) M c7) rfl (by kernel_rfl) (by kernel_rfl) (by kernel_rfl) (by kernel_rfl) (fun _ _ _ h => h) (Or.inl ⟨rfl, fun W hW => ?_⟩) (fun _ => hH) ?_
                · refine QuietRun.of_run ?_; go_simp
                try simp only [Act.put, List.setIfInBounds_toArray, List.set_cons_zero, List.set_cons_succ]
                refine wpAnyT_take0 (i := 1) (oi := { dst := some 49, op := Op.move (Operand.tmp 5), type := 3, pos := _, after := #[], guard := none }) (v := .int .i64 (n : Int)) rfl (by kernel_rfl) (by kernel_rfl) (by kernel_rfl) (by kernel_rfl) (fun _ _ _ h => h) (Or.inl ⟨rfl, fun W hW => ?_⟩) (fun _ => hH) ?_
                · refine QuietRun.of_run ?_; go_simp
                try simp only [Act.put, List.setIfInBounds_toArray, List.set_cons_zero, List.set_cons_succ]
                refine wpAnyT_take0 (i := 2) (oi := { dst := some 50, op := Op.binOp BinOp.add 3 (Operand.tmp 49) (Operand.const (Value.int IntKind.i64 1)) 3, type := 3, pos := _, after := #[{ on := 1, ground := Ground.data }], guard := none }) (v := .int .i64 (P : Int)) rfl (by kernel_rfl) (by kernel_rfl) (by kernel_rfl) (by kernel_rfl) (fun _ _ _ h => h) (Or.inl ⟨rfl, fun W hW => ?_⟩) (fun _ => hH) ?_
                · refine QuietRun.of_run ?_; go_simp
                try simp only [Act.put, List.setIfInBounds_toArray, List.set_cons_zero, List.set_cons_succ]
                refine wpAnyT_take (i := 3) (oi := { dst := some 51, op := Op.slice 22 (Operand.tmp 48) (some (Operand.tmp 50)) none none, type := 22, pos := _, after := #[{ on := 0, ground := Ground.data }, { on := 2, ground := Ground.data }], guard := none }) (v := S1) rfl (by kernel_rfl) (by kernel_rfl) (by kernel_rfl) (by kernel_rfl) (by kernel_rfl) (fun _ _ _ h => h) (Or.inl ⟨rfl, fun W hW => ?_⟩) hH ?_
                · refine QuietRun.of_run ?_; go_simp
                try simp only [Act.put, List.setIfInBounds_toArray, List.set_cons_zero, List.set_cons_succ]
                refine wpAnyT_take0 (i := 4) (oi := { dst := some 52, op := Op.move (Operand.tmp 3), type := 22, pos := _, after := #[], guard := none }) (v := .slice (some ⟨g, 0, none⟩) M c7) rfl (by kernel_rfl) (by kernel_rfl) (by kernel_rfl) (by kernel_rfl) (fun _ _ _ h => h) (Or.inl ⟨rfl, fun W hW => ?_⟩) (fun _ => hH) ?_
                · refine QuietRun.of_run ?_; go_simp
                try simp only [Act.put, List.setIfInBounds_toArray, List.set_cons_zero, List.set_cons_succ]
                refine wpAnyT_take0 (i := 5) (oi := { dst := some 53, op := Op.move (Operand.tmp 5), type := 3, pos := _, after := #[], guard := none }) (v := .int .i64 (n : Int)) rfl (by kernel_rfl) (by kernel_rfl) (by kernel_rfl) (by kernel_rfl) (fun _ _ _ h => h) (Or.inl ⟨rfl, fun W hW => ?_⟩) (fun _ => hH) ?_
                · refine QuietRun.of_run ?_; go_simp
                try simp only [Act.put, List.setIfInBounds_toArray, List.set_cons_zero, List.set_cons_succ]
                refine wpAnyT_take (i := 6) (oi := { dst := some 54, op := Op.slice 22 (Operand.tmp 52) (some (Operand.tmp 53)) none none, type := 22, pos := _, after := #[{ on := 4, ground := Ground.data }, { on := 5, ground := Ground.data }], guard := none }) (v := S2) rfl (by kernel_rfl) (by kernel_rfl) (by kernel_rfl) (by kernel_rfl) (by kernel_rfl) (fun _ _ _ h => h) (Or.inl ⟨rfl, fun W hW => ?_⟩) hH ?_
                · refine QuietRun.of_run ?_; go_simp
                try simp only [Act.put, List.setIfInBounds_toArray, List.set_cons_zero, List.set_cons_succ]
                refine wpAnyT_ready (rs := [7]) (by kernel_rfl) (by simp) ?_
                refine AllReadyT.cons (o := { dst := some 55, op := Op.call { callee := Callee.builtin Builtin.copy, args := #[Operand.tmp 51, Operand.tmp 54], argTypes := #[22, 22] }, type := 3, pos := _, after := #[{ on := 3, ground := Ground.data }, { on := 6, ground := Ground.data }], guard := none }) rfl (fun K hK => ?_) (AllReadyT.nil)
                refine step_copy_run rfl (.tmp 51) (.tmp 54) 22 22 rfl S1 S2 _ w8 rfl rfl (HRun.out _) ?_
                refine hK.out _ _ (fun h => absurd (h.symm.trans (show _ = true from by kernel_rfl)) (by decide)) (fun _ => ?_)
                clear hK K
                try simp only [Act.put, List.setIfInBounds_toArray, List.set_cons_zero, List.set_cons_succ]
                refine wpAnyT_done (by kernel_rfl) ?_ _
                obtain ⟨g', c8, e8, hgB, hfz, -, -⟩ := own_at (E := encZ) HO8.out (by rw [HL'.out]; omega)
                obtain ⟨e8, -, -⟩ := Value.slice.inj e8
                injection e8 with e8
                injection e8 with e8
                subst e8
                obtain ⟨z8, hz8⟩ : ∃ z, (((O ++ [(⟨0, 0, 0⟩ : Dg)]).take (n + 1) ++ O.drop n) : List Dg)[n]? = some z := ⟨_, List.getElem?_eq_getElem (by rw [HL'.out]; omega)⟩
                obtain ⟨p0, q0, hpq, s0, s1, s2⟩ := diag_cells (Reads.of_own (E := encZ) HO8.out) n z8 hz8
                injection hpq with hpq
                injection hpq with e1 e2
                subst e1 e2
                obtain ⟨p1, q1, hpq, x0, x1, x2⟩ := HX.out w8 (by rw [HB.out]; exact HB10.out) i x HHx.out
                injection hpq with hpq
                injection hpq with e1 e2
                subst e1 e2
                have f0 := hfz (n * 3)
                have f1 := hfz (n * 3 + 1)
                have f2 := hfz (n * 3 + 2)
                rw [Nat.zero_add] at s0 s1 s2
                have hp := own_put3 n x hz8 HO8.out
                rw [HPut.out] at hp
                have HP := Lib.hid hp
                have hnM : (n : Int) < (M : Int) := by omega
                clear hfz hp hz8
                go_wp2_with fail
                go_roundw
                case rel => exact ⟨i + 1, insD x O, by go_num, by omega, HSt.out, Nat.le_trans (ins_len x O) (by rw [HM.out]; omega), by have h9 := HP.out; rw [HL'.out] at h9; exact h9, ((HB10.out.setCell (p := ⟨g, n * 3, none⟩) hgB _).setCell (p := ⟨g, n * 3 + 1, none⟩) hgB _).setCell (p := ⟨g, n * 3 + 2, none⟩) hgB _⟩
                case measure => simp [intOf]; omega
    · obtain rfl : i = N := by omega
      have hii : ¬ ((i : Int) < (i : Int)) := by omega
      have hr := HO2.out
      rw [← HSo.out, ← HN.out, List.take_length] at hr
      have HD := Lib.hid (HQ.out _ _ hr (by have h9 := HBr.out; exact h9))
      clear hr
      go_wp2_with fail
      try simp only [Exit.jump]
      exact HD.out
end Go.Proofs.Ytdngcihjfbmbpaa.Zm
