/- Rows of texts of the call's own, put together one by one: append of texts that were just laid, as one law. -/
import Derived.Test.YtogiaaiphbamnaaStw
import Derived.Test.YtogiaaiphbamnaaSqb
namespace Go.Proofs.Ytogiaaiphbamnaa
open Go.RowKit
open Go.Proofs.Ytogiaaiphbamnaa.Sq

/-- v is a row of the call's own (none of its blocks lies below B) that holds the texts l. -/
def Strw (w : World) (B : Nat) (v : Value) (l : List ByteArray) : Prop := w.ownsRow B 9 encS.k v l.length (encS.all l)
theorem Strw.nil (w : World) (B : Nat) : Strw w B (.slice none 0 0) [] := Sq.own_nil encS w B
theorem Strw.below {w w' : World} {B : Nat} {v : Value} {l : List ByteArray} (h : Strw w B v l) (hb : Below w.heap.size w w') : Strw w' B v l := Sq.own_below h hb
theorem Strw.reads {w : World} {B : Nat} {v : Value} {l : List ByteArray} (h : Strw w B v l) : Reads encS w v l := Reads.of_own h
theorem Strw.shape {w : World} {B : Nat} {v : Value} {l : List ByteArray} (h : Strw w B v l) : ∃ a cap, v = .slice a l.length cap := h.reads.shape
/-- append(row, texts that were just laid). -/
theorem wpList_strs_new {w0 : World} {ops : Array Oper} {rest : List Oper} {o : Oper} {a : Act} {Q : Exit → Act → World → Prop} (hgd : o.guard = none) (x y : Operand)
    (ho : o.op = .call { callee := .builtin .append, args := #[x, y], argTypes := #[22, 22] })
    {B : Nat} {v : Value} {l : List ByteArray} (us : List ByteArray) {cs : Array Value} {m : Nat} (hs : a.eval x = v) (hown : Strw w0 B v l) (hu : cs = (us.map Value.string).toArray) (hm : us.length = m)
    (hy : a.eval y = .slice (some ⟨w0.heap.size, 0, none⟩) m m) (hl : l.length + m ≤ 1000000) (hB : B ≤ w0.heap.size)
    (h : ∀ v' w', Strw w' B v' (l ++ us) → Below B w0 w' → wpList Try.prog ops Q rest (a.put o.dst v') w') :
    wpList Try.prog ops Q (o :: rest) a (w0.alloc (.cells cs 9)) := by
  subst hu
  subst hm
  have hb0 := below_alloc w0 (.cells (us.map Value.string).toArray 9)
  have hX : Strw (w0.alloc (.cells (us.map Value.string).toArray 9)) B v l := hown.below hb0
  have hrd := (row_lit w0 us 9).reads (by simp only [maxLen]; omega)
  refine Sq.append_all tyS hgd x y ho B v l hs hX _ us hy hrd (by simp only [maxLen]; omega) (by omega) (Nat.le_trans hB hb0.size) (fun v' w' q1 q2 => h v' w' q1 ?_)
  exact ((hb0.mono hB).grown q2 (Nat.le_trans hB hb0.size) (fun k hk => (World.ownsRow.lt hX k hk).1))
/-- append(row, texts...), as one step of a region that draws its order. -/
theorem step_strs {w : World} {ops : Array Oper} {o : Oper} {a : Act} {K : Act → World → Prop} {Q : Exit → Act → World → Prop} {G : Prop} (hgd : o.guard = none) (x y : Operand)
    (ho : o.op = .call { callee := .builtin .append, args := #[x, y], argTypes := #[22, 22] })
    {B : Nat} {v yv : Value} {l : List ByteArray} (us : List ByteArray) (hs : a.eval x = v) (hown : Strw w B v l) (hy : a.eval y = yv) (hb : Reads encS w yv us) (hl : l.length + us.length ≤ 1000000) (hB : B ≤ w.heap.size)
    (h : ∀ v' w', Strw w' B v' (l ++ us) → Below B w w' → K (a.put o.dst v') w') :
    if Region.wanted o (yielded ops a.tmps) = true then Oper.wp Try.prog o a w K Q else G :=
  step_append_all tyS hgd x y ho B v l hs hown yv us hy hb (by simp only [maxLen]; omega) (by omega) hB (fun v' w' q1 q2 => h v' w' q1 ((Below.refl B w).grown q2 hB (fun k hk => (World.ownsRow.lt hown k hk).1)))
/-- Over a literal slice that was laid, and a draw. -/
theorem Strw.laid {w : World} {B : Nat} {v : Value} {l : List ByteArray} (h : Strw w B v l) (o : Obj) : Strw (w.alloc o).drew B v l := (h.below (below_alloc w o) : Strw (w.alloc o) B v l)
theorem below_laid {w : World} {B : Nat} (hB : B ≤ w.heap.size) (o : Obj) : Below B w (w.alloc o).drew := ((Below.refl B w).alloc hB _).drew
theorem reads_laid (w : World) (l : List ByteArray) (hl : l.length ≤ 1000) {cs : Array Value} (hc : cs = (l.map Value.string).toArray) {m : Nat} (hm : l.length = m) : Reads encS (w.alloc (.cells cs 9)).drew (.slice (some ⟨w.heap.size, 0, none⟩) m m) l := by
  subst hc
  subst hm
  exact (row_lit w l 9).reads (by simp only [maxLen]; omega)
/-- append(row, texts...), as it runs. -/
theorem run_strs {w : World} {B : Nat} {v yv : Value} {l us : List ByteArray} (ty : TypeId) (h : Strw w B v l) (hb : Reads encS w yv us) (hl : l.length + us.length ≤ 1000000) (hB : B ≤ w.heap.size) :
    ∃ v' w', (Builtin.append_ #[22, 22] ty #[v, yv]).run Try.prog w = .ok v' w' ∧ Strw w' B v' (l ++ us) ∧ Below B w w' := by
  obtain ⟨i, z, hi, hz, hsz, hby, hzs⟩ := tyS.parts
  rcases hb with ⟨rfl, rfl⟩ | ⟨b, off, cap, rfl, h2, h3, h4⟩
  · refine ⟨v, w, run_append_owned_none (P := Try.prog) (w := w) B 22 ty 9 i encS.k tyS.ht hi v _ _ h, ?_, Below.refl _ _⟩
    rw [List.append_nil]
    exact h
  · obtain ⟨v', w', q1, q2, q3, _⟩ := run_append_own (P := Try.prog) w B 22 ty 9 i z encS.k 16 tyS.ht hi hz hsz hby hzs encS.pos v _ _ h ⟨b, off, none⟩ us.length cap (encS.all us) (all_len encS us) (Sq.news h4) (all_one encS us) (by simp only [maxLen]; omega) (by omega) hB
    refine ⟨v', w', q1, ?_, (Below.refl B w).grown q3 hB (fun k hk => (World.ownsRow.lt h k hk).1)⟩
    unfold Strw
    rw [all_app, List.length_append]
    exact q2
/-- append(row, texts that were just laid), behind a guard that holds. -/
theorem wpList_strs_newG {w0 : World} {ops : Array Oper} {rest : List Oper} {o : Oper} {a : Act} {Q : Exit → Act → World → Prop} (hgd : Region.wanted o (yielded ops a.tmps) = true) (x y : Operand)
    (ho : o.op = .call { callee := .builtin .append, args := #[x, y], argTypes := #[22, 22] })
    {B : Nat} {v : Value} {l : List ByteArray} (us : List ByteArray) {cs : Array Value} {m : Nat} (hs : a.eval x = v) (hown : Strw w0 B v l) (hu : cs = (us.map Value.string).toArray) (hm : us.length = m)
    (hy : a.eval y = .slice (some ⟨w0.heap.size, 0, none⟩) m m) (hl : l.length + m ≤ 1000000) (hB : B ≤ w0.heap.size)
    (h : ∀ v' w', Strw w' B v' (l ++ us) → Below B w0 w' → wpList Try.prog ops Q rest (a.put o.dst v') w') :
    wpList Try.prog ops Q (o :: rest) a (w0.alloc (.cells cs 9)) := by
  subst hu
  subst hm
  have hb0 := below_alloc w0 (.cells (us.map Value.string).toArray 9)
  have hX : Strw (w0.alloc (.cells (us.map Value.string).toArray 9)) B v l := hown.below hb0
  have hrd := (row_lit w0 us 9).reads (by simp only [maxLen]; omega)
  refine wpList_step fun K hK => ?_
  rw [if_pos hgd]
  obtain ⟨v', w', hr, h2, h3⟩ := run_strs o.type hX hrd hl (Nat.le_trans hB hb0.size)
  unfold Oper.wp execOp
  simp only [ho, resolve, invoke, builtin, Sem.run_bind, Sem.run_pure, Result.andThen_ok, List.map_toArray, List.map_cons, List.map_nil, hs, hy, hr]
  exact hK _ _ (h v' w' h2 ((hb0.mono hB).trans h3))
end Go.Proofs.Ytogiaaiphbamnaa
