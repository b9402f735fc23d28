/- Trees of a call's own: a node is put behind all; a kid is put on (no function of the program's). -/
import Derived.Test.YthkieidcjakhgaaAr1
import Derived.Maps.AppendAt
namespace Go.Proofs.Ythkieidcjakhgaa
open Go.RowKit
open Go.Proofs.Ythkieidcjakhgaa.Sq
open Go.Proofs.Ythkieidcjakhgaa.Ar
set_option linter.unusedVariables false

section
variable {α : Type} {E : Enc α} {w : World}
/-- append(row of the call's own, elements...): where the answer lies, too. -/
theorem append_all_at {P : Program} {t e : TypeId} {bytes : Nat} (T : Ty P E t e bytes) {ops : Array Oper} {rest : List Oper} {o : Oper} {act : Act} {Q : Exit → Act → World → Prop} (hgd : o.guard = none) (x y : Operand)
    (ho : o.op = .call { callee := .builtin .append, args := #[x, y], argTypes := #[t, t] })
    (base : Nat) (v : Value) (l : List α) (hs : act.eval x = v) (hown : w.ownsRow base e E.k v l.length (E.all l)) (yv : Value) (m : List α) (hy : act.eval y = yv) (hb : Reads E w yv m)
    (hmax : l.length + m.length ≤ maxLen) (hlen : (l.length + m.length) * bytes ≤ 140737488355328) (hbase : base ≤ w.heap.size)
    (h : ∀ v' w', w'.ownsRow base e E.k v' (l ++ m).length (E.all (l ++ m)) → w.grownBy w' v.ownBlock → (v'.ownBlock = v.ownBlock ∨ v'.ownBlock = some w.heap.size) → wpList P ops Q rest (act.put o.dst v') w') : wpList P ops Q (o :: rest) act w := by
  obtain ⟨i, z, hi, hz, hsz, hby, hzs⟩ := T.parts
  rcases hb with ⟨rfl, rfl⟩ | ⟨b, off, cap, rfl, h2, h3, h4⟩
  · refine wpList_append_own_none hgd x y t ho base e i E.k T.ht hi v l.length (E.all l) hs hown hy ?_
    refine h v w ?_ ⟨rfl, rfl, rfl, Nat.le_refl _, fun _ _ _ => rfl⟩ (.inl rfl)
    rw [List.append_nil]
    exact hown
  · exact wpList_append_own_at w hgd x y t ho base e i z E.k bytes T.ht hi hz hsz hby hzs E.pos v l.length (E.all l) hs hown ⟨b, off, none⟩ m.length cap (E.all m) hy (all_len E m) (news h4) (all_one E m) hmax hlen hbase (fun v' w' q1 q2 _ q3 => h v' w' (by rw [all_app, List.length_append]; exact q1) q2 q3)
theorem laid_reads (w : World) (u : α) (cs : List Value) (t : TypeId) (hc : E.cells u = cs) : Reads E (w.alloc (.cells cs.toArray t)) (.slice (some ⟨w.heap.size, 0, none⟩) 1 1) [u] :=
  .inr ⟨w.heap.size, 0, 1, rfl, Nat.le_refl _, by decide, fun j x hj i c hi => by
    match j, hj with
    | 0, hj =>
      obtain rfl : u = x := by simpa using hj
      rw [hc] at hi
      have e : (⟨w.heap.size, 0 + 0 * E.k + i, none⟩ : Addr) = ⟨w.heap.size, i, none⟩ := by simp
      rw [e, World.cell?_alloc_mark, List.getElem?_toArray]
      exact hi
    | j + 1, hj => simp at hj⟩
theorem off_row {x y : Value} (h : ∀ g, x.ownBlock = some g → y.ownBlock ≠ some g) : y.ownBlock = none ∨ y.ownBlock ≠ x.ownBlock := by
  cases hy : y.ownBlock with
  | none => exact .inl rfl
  | some g => exact .inr (fun e => h g e.symm hy)
end
section
variable {w w' : World} {B : Nat} {v : Value} {L : List Ln}
theorem OT.push {v' : Value} {o : Obj} {p : Ln} (h : OT w B v L) (hk : w.ownsRow B 3 1 p.val p.nd.ks.length (encI.all p.nd.ks)) (ha : ∀ (i : Nat) (q : Ln), L[i]? = some q → ∀ g, p.val.ownBlock = some g → q.val.ownBlock ≠ some g)
    (hg : (w.alloc o).grownBy w' v.ownBlock) (hrow : w'.ownsRow B 48 6 v' (L ++ [p]).length (encN.all (L ++ [p]))) : OT w' B v' (L ++ [p]) := by
  have key : ∀ (a : Nat) (q : Ln), (L ++ [p])[a]? = some q → (L[a]? = some q ∧ a < L.length) ∨ (a = L.length ∧ q = p) := by
    intro a q hq
    rcases Nat.lt_trichotomy a L.length with hj | hj | hj
    · rw [List.getElem?_append_left hj] at hq; exact .inl ⟨hq, hj⟩
    · subst hj
      rw [List.getElem?_append_right (Nat.le_refl _)] at hq
      simp at hq
      exact .inr ⟨rfl, hq.symm⟩
    · rw [List.getElem?_eq_none (by simp; omega)] at hq; cases hq
  refine ⟨hrow, fun a q hq => ?_, fun a b q r hab hq hr g hgq => ?_⟩
  · rcases key a q hq with ⟨h1, _⟩ | ⟨_, rfl⟩
    · exact ((h.kids a q h1).alloc o).kept hg (off_row (own_types h.row (h.kids a q h1) (by decide)))
    · exact (hk.alloc o).kept hg (off_row (own_types h.row hk (by decide)))
  · rcases key a q hq with ⟨h1, _⟩ | ⟨ha1, rfl⟩
    · rcases key b r hr with ⟨h2, _⟩ | ⟨_, rfl⟩
      · exact h.apart a b q r hab h1 h2 g hgq
      · exact fun e => ha a q h1 g e hgq
    · rcases key b r hr with ⟨h2, _⟩ | ⟨hb1, rfl⟩
      · exact ha b r h2 g hgq
      · omega
theorem OT.kid {g n cap i : Nat} {o : Obj} {p : Ln} {a' : Option Addr} {n' c' : Nat} (h : OT w B (.slice (some ⟨g, 0, none⟩) n cap) L) (hp : L[i]? = some p) (z : Int) (hg : (w.alloc o).grownBy w' p.val.ownBlock)
    (hown : w'.ownsRow B 3 1 (.slice a' n' c') (p.nd.ks ++ [z]).length (encI.all (p.nd.ks ++ [z]))) (hat : (Value.slice a' n' c').ownBlock = p.val.ownBlock ∨ (Value.slice a' n' c').ownBlock = some (w.alloc o).heap.size) :
    OT (w'.setCell ⟨g, i * 6 + 4, none⟩ (.slice a' n' c')) B (.slice (some ⟨g, 0, none⟩) n cap) (L.set i ⟨{ p.nd with ks := p.nd.ks ++ [z] }, a', n', c'⟩) := by
  have hi := (List.getElem?_eq_some_iff.1 hp).1
  have hrow : w'.ownsRow B 48 6 (.slice (some ⟨g, 0, none⟩) n cap) L.length (encN.all L) :=
    (h.row.alloc o).kept hg (off_row (own_types (h.kids i p hp) h.row (by decide)))
  have key : ∀ (a : Nat) (q : Ln), (L.set i ⟨{ p.nd with ks := p.nd.ks ++ [z] }, a', n', c'⟩)[a]? = some q → (a = i ∧ q = ⟨{ p.nd with ks := p.nd.ks ++ [z] }, a', n', c'⟩) ∨ (a ≠ i ∧ L[a]? = some q) := by
    intro a q hq
    rw [List.getElem?_set] at hq
    split at hq
    · rename_i e; subst e
      injection hq with hq; exact .inl ⟨rfl, hq.symm⟩
    · rename_i e; exact .inr ⟨fun x => e x.symm, hq⟩
  have new : ∀ (b : Nat) (r : Ln), b ≠ i → L[b]? = some r → ∀ g, (Value.slice a' n' c').ownBlock = some g → r.val.ownBlock ≠ some g := by
    intro b r hb hr g1 hg1
    rcases hat with e | e
    · exact h.apart i b p r (fun x => hb x.symm) hp hr g1 (e ▸ hg1)
    · intro hr1
      have := ((h.kids b r hr).lt g1 hr1).2
      rw [hg1] at e
      injection e with e
      rw [size_alloc] at e
      omega
  refine ⟨own_set hrow i 4 p _ _ hp rfl (by decide), fun a q hq => ?_, fun a b q r hab hq hr g1 hgq => ?_⟩
  · rcases key a q hq with ⟨rfl, rfl⟩ | ⟨ha, hq⟩
    · exact ownsRow_setCell_other hown (own_types hrow hown (by decide) g rfl) _
    · have h1 := ((h.kids a q hq).alloc o).kept hg (off_row (fun g1 hg1 => h.apart i a p q (fun x => ha x.symm) hp hq g1 hg1))
      exact ownsRow_setCell_other h1 (own_types hrow h1 (by decide) g rfl) _
  · rcases key a q hq with ⟨rfl, rfl⟩ | ⟨ha, hq1⟩
    · rcases key b r hr with ⟨rfl, rfl⟩ | ⟨hb, hr⟩
      · exact absurd rfl hab
      · exact new b r hb hr g1 hgq
    · rcases key b r hr with ⟨rfl, rfl⟩ | ⟨hb, hr1⟩
      · exact fun e => new a q ha hq1 g1 e hgq
      · exact h.apart a b q r hab hq1 hr1 g1 hgq
end
end Go.Proofs.Ythkieidcjakhgaa
