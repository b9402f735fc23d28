/- Slices of elements of so many cells: pieces with no room behind them; append as one step of a region that draws its order. -/
import Derived.Test.YtdngcihjfbmbpaaDoorSeq
import Derived.Deep.RegionHeld3
import Derived.Deep.RegionLawGrows
namespace Go.Proofs.YtdngcihjfbmbpaaDoor.Sq
open Go.RowKit
variable {α : Type} {E : Enc α} {w w' : World} {l : List α}

/-- The slice value v reads as the elements l, and has no room behind them. -/
def Full (E : Enc α) (w : World) (v : Value) (l : List α) : Prop := Reads E w v l ∧ ∃ a, v = .slice a l.length l.length
theorem Full.below {v : Value} (h : Full E w v l) (hb : Below w.heap.size w w') : Full E w' v l := ⟨h.1.below hb, h.2⟩
theorem reads_cut_full {a : Option Addr} {cap lo hi : Nat} (h : Reads E w (.slice a l.length cap) l) (h1 : lo ≤ hi) (h2 : hi ≤ l.length) :
    Full E w (.slice (if hi = lo then a else a.map fun x => x.add (lo * E.k)) (hi - lo) (hi - lo)) ((l.drop lo).take (hi - lo)) := by
  have hz : ((l.drop lo).take (hi - lo)).length = hi - lo := by rw [List.length_take, List.length_drop]; omega
  refine ⟨?_, _, by rw [hz]⟩
  rcases h with ⟨hv, h0⟩ | ⟨b, off, cap', hv, g2, g3, g4⟩
  · obtain ⟨rfl, -, rfl⟩ := Value.slice.inj hv
    subst h0
    obtain rfl : hi = 0 := by simpa using h2
    obtain rfl : lo = 0 := by omega
    exact .inl ⟨rfl, rfl⟩
  · obtain ⟨rfl, -, rfl⟩ := Value.slice.inj hv
    by_cases hc : hi = lo
    · rw [if_pos hc]
      refine .inr ⟨b, off, hi - lo, by rw [hz], by rw [hz]; exact Nat.le_refl _, by omega, fun j x hj => ?_⟩
      have := (List.getElem?_eq_some_iff.1 hj).1
      omega
    · rw [if_neg hc]
      refine .inr ⟨b, off + lo * E.k, hi - lo, ?_, by rw [hz]; exact Nat.le_refl _, by omega, fun j x hj i u hu => ?_⟩
      · rw [hz, Option.map_some, add_addr]
      · have hj1 := (List.getElem?_eq_some_iff.1 hj).1
        rw [List.getElem?_take, if_pos (by omega), List.getElem?_drop] at hj
        rw [show off + lo * E.k + j * E.k + i = off + (lo + j) * E.k + i from by rw [Nat.add_mul]; omega]
        exact g4 (lo + j) x hj i u hu
/-- l[lo:hi:hi]. -/
theorem cut_lhm {P : Program} {t e : TypeId} {bytes : Nat} (T : Ty P E t e bytes) {a : Option Addr} {cap lo hi : Nat} (h : Reads E w (.slice a l.length cap) l) (h1 : lo ≤ hi) (h2 : hi ≤ l.length) :
    ∃ v, (∀ W : World, (Instr.slice t (.slice a l.length cap) (some (.int .i64 (lo : Int))) (some (.int .i64 (hi : Int))) (some (.int .i64 (hi : Int)))).run P W = .ok v W) ∧ Full E w v ((l.drop lo).take (hi - lo)) := by
  have hb := reads_cut_full h h1 h2
  have hc := h.cap_le
  refine ⟨_, fun W => ?_, hb⟩
  rw [run_slice_lhm W _ a l.length cap (by rw [T.he]; exact T.ht) .i64 .i64 .i64 lo hi hi (by omega) (by omega) (by omega) (by omega), T.he, T.size]
  simp [Result.andThen, sliced]
/-- l[:n:n]. -/
theorem cut_hm {P : Program} {t e : TypeId} {bytes : Nat} (T : Ty P E t e bytes) {a : Option Addr} {cap n : Nat} (h : Reads E w (.slice a l.length cap) l) (hn : n ≤ l.length) :
    ∃ v, (∀ W : World, (Instr.slice t (.slice a l.length cap) none (some (.int .i64 (n : Int))) (some (.int .i64 (n : Int)))).run P W = .ok v W) ∧ Full E w v (l.take n) := by
  have hb := reads_cut_full h (Nat.zero_le n) hn
  have hc := h.cap_le
  rw [List.drop_zero, Nat.sub_zero] at hb
  refine ⟨_, fun W => ?_, hb⟩
  rw [run_slice_hm W _ a l.length cap (by rw [T.he]; exact T.ht) .i64 .i64 n n (by omega) (by omega) (by omega), T.he, T.size]
  simp [Result.andThen, sliced]
/-- append onto a piece with no room: a new row. -/
theorem step_append_full {P : Program} {t e : TypeId} {bytes : Nat} (T : Ty P E t e bytes) {ops : Array Oper} {o : Oper} {act : Act} {K : Act → World → Prop} {Q : Exit → Act → World → Prop} {G : Prop} (hgd : o.guard = none) (x y : Operand)
    (ho : o.op = .call { callee := .builtin .append, args := #[x, y], argTypes := #[t, t] })
    (v : Value) (l : List α) (hs : act.eval x = v) (hF : Full E w v l) (b m : Nat) (us : List α) (hm : us.length = m) (hm0 : 0 < m) (hy : act.eval y = .slice (some ⟨b, 0, none⟩) m m)
    (hnew : ∀ j c, (E.all us)[j]? = some c → w.cell? ⟨b, j, none⟩ = some c) (hmax : l.length + m ≤ maxLen) (hlen : (l.length + m) * bytes ≤ 140737488355328)
    (h : ∀ v' w', w'.ownsRow w.heap.size e E.k v' (l ++ us).length (E.all (l ++ us)) → w.grownBy w' none → K (act.put o.dst v') w') :
    if Region.wanted o (yielded ops act.tmps) = true then Oper.wp P o act w K Q else G := by
  obtain ⟨i, z, hi, hz, hsz, hby, hzs⟩ := T.parts
  obtain ⟨hR, a, rfl⟩ := hF
  refine step_append_grows hgd x y t ho e i z E.k bytes T.ht hi hz hsz hby hzs E.pos a l.length l.length (E.all l) hs ?_ (all_len E l) ?_ ⟨b, 0, none⟩ m m (E.all us) hy (by rw [all_len, hm]) ?_ (all_one E us) (by omega) hmax hlen (fun v' w' q1 q2 => h v' w' (by rw [all_app, List.length_append, hm]; exact q1) q2)
  · intro ha
    subst ha
    rcases hR with ⟨hv, h0⟩ | ⟨b, off, cap', hv, g2, g3, g4⟩
    · rw [h0]; exact ⟨rfl, rfl⟩
    · cases (Value.slice.inj hv).1
  · intro p hp
    subst hp
    rcases hR with ⟨hv, h0⟩ | ⟨b, off, cap', hv, g2, g3, g4⟩
    · cases (Value.slice.inj hv).1
    · obtain ⟨e1, -, -⟩ := Value.slice.inj hv
      obtain rfl := Option.some.inj e1
      exact news g4
  · intro j c hj
    rw [add_addr, Nat.zero_add]
    exact hnew j c hj
/-- append(row of the call's own, elements...), as one step. -/
theorem step_append_all {P : Program} {t e : TypeId} {bytes : Nat} (T : Ty P E t e bytes) {ops : Array Oper} {o : Oper} {act : Act} {K : Act → World → Prop} {Q : Exit → Act → World → Prop} {G : Prop} (hgd : o.guard = none) (x y : Operand)
    (ho : o.op = .call { callee := .builtin .append, args := #[x, y], argTypes := #[t, t] })
    (base : Nat) (v : Value) (l : List α) (hs : act.eval x = v) (hown : w.ownsRow base e E.k v l.length (E.all l)) (yv : Value) (m : List α) (hy : act.eval y = yv) (hb : Reads E w yv m)
    (hmax : l.length + m.length ≤ maxLen) (hlen : (l.length + m.length) * bytes ≤ 140737488355328) (hbase : base ≤ w.heap.size)
    (h : ∀ v' w', w'.ownsRow base e E.k v' (l ++ m).length (E.all (l ++ m)) → w.grownBy w' v.ownBlock → K (act.put o.dst v') w') :
    if Region.wanted o (yielded ops act.tmps) = true then Oper.wp P o act w K Q else G := by
  obtain ⟨i, z, hi, hz, hsz, hby, hzs⟩ := T.parts
  have hw : Region.wanted o (yielded ops act.tmps) = true := by simp [Region.wanted, hgd]
  rw [if_pos hw]
  rcases hb with ⟨rfl, rfl⟩ | ⟨b, off, cap, rfl, h2, h3, h4⟩
  · have hrun := run_append_owned_none (P := P) (w := w) base t o.type e i E.k T.ht hi v l.length (E.all l) hown
    unfold Oper.wp execOp
    simp only [ho, resolve, invoke, builtin, Sem.run_bind, Sem.run_pure, Result.andThen_ok, List.map_toArray, List.map_cons, List.map_nil, hs, hy, hrun]
    refine h v w ?_ ⟨rfl, rfl, rfl, Nat.le_refl _, fun _ _ _ => rfl⟩
    rw [List.append_nil]
    exact hown
  · exact wp_append_own w x y t ho base e i z E.k bytes T.ht hi hz hsz hby hzs E.pos v l.length (E.all l) hs hown ⟨b, off, none⟩ m.length cap (E.all m) hy (all_len E m) (news h4) (all_one E m) hmax hlen hbase (fun v' w' q1 q2 _ => h v' w' (by rw [all_app, List.length_append]; exact q1) q2)
/-- append(row of the call's own, elements that were just laid), as one step. -/
theorem step_append_laid {P : Program} {t e : TypeId} {bytes : Nat} (T : Ty P E t e bytes) {ops : Array Oper} {o : Oper} {act : Act} {K : Act → World → Prop} {Q : Exit → Act → World → Prop} {G : Prop} (hgd : o.guard = none) (x y : Operand)
    (ho : o.op = .call { callee := .builtin .append, args := #[x, y], argTypes := #[t, t] })
    (base : Nat) (v : Value) (l : List α) (hs : act.eval x = v) (hown : w.ownsRow base e E.k v l.length (E.all l)) (b m : Nat) (us : List α) (hm : us.length = m) (hy : act.eval y = .slice (some ⟨b, 0, none⟩) m m)
    (hnew : ∀ j c, (E.all us)[j]? = some c → w.cell? ⟨b, j, none⟩ = some c) (hmax : l.length + m ≤ maxLen) (hlen : (l.length + m) * bytes ≤ 140737488355328) (hbase : base ≤ w.heap.size)
    (h : ∀ v' w', w'.ownsRow base e E.k v' (l ++ us).length (E.all (l ++ us)) → w.grownBy w' v.ownBlock → K (act.put o.dst v') w') :
    if Region.wanted o (yielded ops act.tmps) = true then Oper.wp P o act w K Q else G := by
  obtain ⟨i, z, hi, hz, hsz, hby, hzs⟩ := T.parts
  have hw : Region.wanted o (yielded ops act.tmps) = true := by simp [Region.wanted, hgd]
  rw [if_pos hw]
  refine wp_append_own w x y t ho base e i z E.k bytes T.ht hi hz hsz hby hzs E.pos v l.length (E.all l) hs hown ⟨b, 0, none⟩ m m (E.all us) hy (by rw [all_len, hm]) ?_ (all_one E us) hmax hlen hbase (fun v' w' q1 q2 _ => h v' w' (by rw [all_app, List.length_append, hm]; exact q1) q2)
  intro j c hj
  rw [add_addr, Nat.zero_add]
  exact hnew j c hj
end Go.Proofs.YtdngcihjfbmbpaaDoor.Sq
