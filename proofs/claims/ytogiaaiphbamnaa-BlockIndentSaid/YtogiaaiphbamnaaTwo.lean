/- Two rows of texts of the call's own that lie apart: each is put on, the other one stays; in whatever order the two stand in a region that draws. -/
import Derived.Test.YtogiaaiphbamnaaStn
import Derived.Maps.AppendAt
namespace Go.Proofs.Ytogiaaiphbamnaa
open Go.RowKit
open Go.Proofs.Ytogiaaiphbamnaa.Sq

theorem run_strs_at {w : World} {B : Nat} {v yv : Value} {l us : List ByteArray} (ty : TypeId) (h : Strw w B v l) (hb : Reads encS w yv us) (hl : l.length + us.length ≤ 1000000) (hB : B ≤ w.heap.size) :
    ∃ v' w', (Builtin.append_ #[22, 22] ty #[v, yv]).run Try.prog w = .ok v' w' ∧ Strw w' B v' (l ++ us) ∧ w.grownBy w' v.ownBlock ∧ (v'.ownBlock = v.ownBlock ∨ v'.ownBlock = some w.heap.size) := by
  obtain ⟨i, z, hi, hz, hsz, hby, hzs⟩ := tyS.parts
  rcases hb with ⟨rfl, rfl⟩ | ⟨b, off, cap, rfl, h2, h3, h4⟩
  · refine ⟨v, w, run_append_owned_none (P := Try.prog) (w := w) B 22 ty 9 i encS.k tyS.ht hi v _ _ h, ?_, ⟨rfl, rfl, rfl, Nat.le_refl _, fun _ _ _ => rfl⟩, .inl rfl⟩
    rw [List.append_nil]
    exact h
  · obtain ⟨v', w', q1, q2, q3, _, q5⟩ := run_append_own_at (P := Try.prog) w B 22 ty 9 i z encS.k 16 tyS.ht hi hz hsz hby hzs encS.pos v _ _ h ⟨b, off, none⟩ us.length cap (encS.all us) (all_len encS us) (Sq.news h4) (all_one encS us) (by simp only [maxLen]; omega) (by omega) hB
    refine ⟨v', w', q1, ?_, q3, q5⟩
    unfold Strw
    rw [all_app, List.length_append]
    exact q2
/-- Two rows, apart, laid since the world w0 (whose blocks below B stand). -/
structure Two (w0 w : World) (B : Nat) (v1 : Value) (l1 : List ByteArray) (v2 : Value) (l2 : List ByteArray) : Prop where
  fst : Strw w B v1 l1
  snd : Strw w B v2 l2
  ne : ∀ g, v1.ownBlock = some g → v2.ownBlock ≠ some g
  base : B ≤ w0.heap.size
  bel : Below B w0 w
variable {w0 w w' : World} {B : Nat} {v1 v2 : Value} {l1 l2 : List ByteArray}
theorem Two.below (h : Two w0 w B v1 l1 v2 l2) (hb : Below w.heap.size w w') : Two w0 w' B v1 l1 v2 l2 := ⟨h.fst.below hb, h.snd.below hb, h.ne, h.base, h.bel.trans (hb.mono (Nat.le_trans h.base h.bel.size))⟩
theorem Two.al (h : Two w0 w B v1 l1 v2 l2) (o : Obj) : Two w0 (w.alloc o) B v1 l1 v2 l2 := h.below (below_alloc w o)
theorem Two.dr (h : Two w0 w B v1 l1 v2 l2) : Two w0 w.drew B v1 l1 v2 l2 := ⟨h.fst, h.snd, h.ne, h.base, h.bel.drew⟩
theorem Two.swap (h : Two w0 w B v1 l1 v2 l2) : Two w0 w B v2 l2 v1 l1 := ⟨h.snd, h.fst, fun g h1 h2 => h.ne g h2 h1, h.base, h.bel⟩
theorem Two.none (w : World) (B : Nat) (hB : B ≤ w.heap.size) : Two w w B (.slice none 0 0) [] (.slice none 0 0) [] := ⟨Strw.nil w B, Strw.nil w B, (fun g h => by cases h), hB, Below.refl B w⟩
/-- One text behind the first row. -/
theorem run_two {yv : Value} {x : ByteArray} (ty : TypeId) (h : Two w0 w B v1 l1 v2 l2) (hb : Reads encS w yv [x]) (hl : l1.length + 1 ≤ 1000000) :
    ∃ v' w', (Builtin.append_ #[22, 22] ty #[v1, yv]).run Try.prog w = .ok v' w' ∧ Two w0 w' B v' (l1 ++ [x]) v2 l2 ∧
      (∀ g o u, w.cell? ⟨g, o, none⟩ = some u → v1.ownBlock ≠ some g → w'.cell? ⟨g, o, none⟩ = some u) := by
  have hB := Nat.le_trans h.base h.bel.size
  obtain ⟨v', w', q1, q2, q3, q4⟩ := run_strs_at ty h.fst hb hl hB
  have hne2 : v2.ownBlock = Option.none ∨ v2.ownBlock ≠ v1.ownBlock := by
    cases h2 : v2.ownBlock with
    | none => exact .inl rfl
    | some g => exact .inr fun e => h.ne g e.symm h2
  refine ⟨v', w', q1, ⟨q2, World.ownsRow.kept h.snd q3 hne2, fun g h1 h2 => ?_, h.base, h.bel.grown q3 hB (fun k hk => (World.ownsRow.lt h.fst k hk).1)⟩, fun g o u hu hg => q3.cell hu (fun e => hg e.symm)⟩
  rcases q4 with q4 | q4
  · exact h.ne g (q4 ▸ h1) h2
  · rw [q4] at h1
    obtain rfl := Option.some.inj h1
    have := (World.ownsRow.lt h.snd _ h2).2
    omega
theorem reads_at {w : World} {g : Nat} {x : ByteArray} (h : w.cell? ⟨g, 0, none⟩ = some (.string x)) : Reads encS w (.slice (some ⟨g, 0, none⟩) 1 1) [x] :=
  .inr ⟨g, 0, 1, rfl, Nat.le_refl _, by simp only [maxLen]; omega, fun j y hj i u hu => by
    have hj0 : j = 0 := by
      have := (List.getElem?_eq_some_iff.1 hj).1
      rw [List.length_singleton] at this; omega
    subst hj0
    obtain rfl : x = y := by simpa using hj
    have hi : i = 0 := by
      have h1 := (List.getElem?_eq_some_iff.1 hu).1
      have h2 : (encS.cells x).length = 1 := rfl
      rw [h2] at h1; omega
    subst hi
    have hu2 : u = .string x := by
      have : (encS.cells x)[0]? = some (.string x) := rfl
      rw [this] at hu; injection hu with hu; exact hu.symm
    subst hu2
    exact h⟩
/-- As one step of a region that draws. -/
theorem step_two {ops : Array Oper} {o : Oper} {a : Act} {K : Act → World → Prop} {Q : Exit → Act → World → Prop} {G : Prop} (hgd : o.guard = Option.none) (x y : Operand)
    (ho : o.op = .call { callee := .builtin .append, args := #[x, y], argTypes := #[22, 22] })
    (s : ByteArray) {g : Nat} (hs : a.eval x = v1) (h : Two w0 w B v1 l1 v2 l2) (hy : a.eval y = .slice (some ⟨g, 0, none⟩) 1 1) (hc : w.cell? ⟨g, 0, none⟩ = some (.string s)) (hl : l1.length + 1 ≤ 1000000)
    (hk : ∀ v' w', Two w0 w' B v' (l1 ++ [s]) v2 l2 → (∀ g o u, w.cell? ⟨g, o, none⟩ = some u → v1.ownBlock ≠ some g → w'.cell? ⟨g, o, none⟩ = some u) → K (a.put o.dst v') w') :
    if Region.wanted o (yielded ops a.tmps) = true then Oper.wp Try.prog o a w K Q else G := by
  have hw : Region.wanted o (yielded ops a.tmps) = true := by simp [Region.wanted, hgd]
  rw [if_pos hw]
  obtain ⟨v', w', hr, h2, h3⟩ := run_two o.type h (reads_at hc) hl
  unfold Oper.wp execOp
  simp only [ho, resolve, invoke, builtin, Sem.run_bind, Sem.run_pure, Result.andThen_ok, List.map_toArray, List.map_cons, List.map_nil, hs, hy, hr]
  exact hk v' w' h2 h3
theorem Two.far (h : Two w0 w B v1 l1 v2 l2) (g : Nat) (hg : w.heap.size ≤ g) : v1.ownBlock ≠ some g ∧ v2.ownBlock ≠ some g :=
  ⟨fun e => by have := (World.ownsRow.lt h.fst g e).2; omega, fun e => by have := (World.ownsRow.lt h.snd g e).2; omega⟩
theorem new_at {w : World} {C : Array Value} {t : TypeId} {k g : Nat} {u : Value} (hg : g = w.heap.size) (h : C[k]? = some u) : (w.alloc (.cells C t)).cell? ⟨g, k, none⟩ = some u := by subst hg; exact at_new h
end Go.Proofs.Ytogiaaiphbamnaa
