/- Several texts in one: Fr Fw1 Fs Fw2 Fw3. -/
import Derived.Test.YtmlpaafclobgcaaMgI
import Derived.Test.YtmlpaafclobgcaaMgF
import Derived.Test.YtmlpaafclobgcaaMgG
import Derived.Test.YtmlpaafclobgcaaMgH
import Derived.Test.YtmlpaafclobgcaaDr
/- Package flow: the reader in memory: its tokens from without, its nodes and what it has told in rows of the call's own; what a call may change besides (no function of the program's). -/
namespace Go.Proofs.Ytmlpaafclobgcaa.Sq
open Go.RowKit
set_option linter.unusedVariables false
section
variable {α : Type} {E : Enc α} {w : World}
/-- append(row of the call's own, elements that were just laid), as one step: where the answer lies, too. -/
theorem step_append_at {P : Program} {t e : TypeId} {bytes : Nat} (T : Ty P E t e bytes) {ops : Array Oper} {o : Oper} {act : Act} {K : Act → World → Prop} {Q : Exit → Act → World → Prop} {G : Prop} (hgd : o.guard = none) (x y : Operand)
    (ho : o.op = .call { callee := .builtin .append, args := #[x, y], argTypes := #[t, t] })
    (base : Nat) (v : Value) (l : List α) (hs : act.eval x = v) (hown : w.ownsRow base e E.k v l.length (E.all l)) (b m : Nat) (us : List α) (hm : us.length = m) (hy : act.eval y = .slice (some ⟨b, 0, none⟩) m m)
    (hnew : ∀ j c, (E.all us)[j]? = some c → w.cell? ⟨b, j, none⟩ = some c) (hmax : l.length + m ≤ maxLen) (hlen : (l.length + m) * bytes ≤ 140737488355328) (hbase : base ≤ w.heap.size)
    (h : ∀ v' w', w'.ownsRow base e E.k v' (l ++ us).length (E.all (l ++ us)) → w.grownBy w' v.ownBlock → (v'.ownBlock = v.ownBlock ∨ v'.ownBlock = some w.heap.size) → K (act.put o.dst v') w') :
    if Region.wanted o (yielded ops act.tmps) = true then Oper.wp P o act w K Q else G := by
  obtain ⟨i, z, hi, hz, hsz, hby, hzs⟩ := T.parts
  have hw : Region.wanted o (yielded ops act.tmps) = true := by simp [Region.wanted, hgd]
  rw [if_pos hw]
  obtain ⟨v', w', hrun, q1, q2, _, q3⟩ := run_append_own_at (P := P) (w := w) base t o.type e i z E.k bytes T.ht hi hz hsz hby hzs E.pos v l.length (E.all l) hown ⟨b, 0, none⟩ m m (E.all us) (by rw [all_len, hm]) (fun j c hj => by rw [add_addr, Nat.zero_add]; exact hnew j c hj) (all_one E us) hmax hlen hbase
  unfold Oper.wp execOp
  simp only [ho, resolve, invoke, builtin, Sem.run_bind, Sem.run_pure, Result.andThen_ok, List.map_toArray, List.map_cons, List.map_nil, hs, hy, hrun]
  exact h v' w' (by rw [all_app, List.length_append, hm]; exact q1) q2 q3
/-- A row of the call's own, in a world whose block is the same. -/
theorem own_same {w' : World} {B e size n : Nat} {v : Value} {xs : List Value} (h : w.ownsRow B e size v n xs) (hk : ∀ g, v.ownBlock = some g → w'.heap[g]? = w.heap[g]?) : w'.ownsRow B e size v n xs := by
  obtain ⟨h1, h2⟩ := h
  refine ⟨h1, ?_⟩
  rcases h2 with h2 | ⟨g, cap, cur, hv, hg, hh, hr⟩
  · exact .inl h2
  · exact .inr ⟨g, cap, cur, hv, hg, (hk g (by rw [hv]; rfl)).trans hh, hr⟩
end
end Go.Proofs.Ytmlpaafclobgcaa.Sq
namespace Go.Proofs.Ytmlpaafclobgcaa
open Go.RowKit
open Go.Proofs.Ytmlpaafclobgcaa.Sq
open Go.Proofs.Ytmlpaafclobgcaa.Ar
set_option linter.unusedVariables false

def dCells (x : Fl.Dg) : List Value := [.int .i64 x.code, .int .i64 x.f, .int .i64 x.t]
def encD : Enc Fl.Dg := ⟨dCells, 3, by decide, fun _ => rfl, fun x u hu => by
  cases hu with
  | head => rfl
  | tail _ hu => cases hu with
    | head => rfl
    | tail _ hu => cases hu with
      | head => rfl
      | tail _ hu => cases hu⟩
theorem tyD : Ty Try.prog encD 32 40 24 := Ty.of (z := .agg #[.int .i64 0, .int .i64 0, .int .i64 0]) Try.underlying32 (by kernel_rfl) (by kernel_rfl) rfl (fun w => by kernel_rfl)
/-- The blocks that the reader's rows lie in. -/
def RowOf (nv dv : Value) (L : List Ln) (g : Nat) : Prop := nv.ownBlock = some g ∨ dv.ownBlock = some g ∨ ∃ p ∈ L, p.val.ownBlock = some g
/-- What a call changes: the reader's block and rows, and what is new. -/
structure FP (w w' : World) (rb : Nat) (R R' : Nat → Prop) : Prop where
  size : w.heap.size ≤ w'.heap.size
  block : ∀ k, k < w.heap.size → k ≠ rb → ¬ R k → w'.heap[k]? = w.heap[k]?
  rows : ∀ k, R' k → R k ∨ w.heap.size ≤ k
theorem FP.trans {a b c : World} {rb : Nat} {R R' R'' : Nat → Prop} (h : FP a b rb R R') (g : FP b c rb R' R'') : FP a c rb R R'' :=
  ⟨Nat.le_trans h.size g.size, fun k hk hr hn => (g.block k (Nat.lt_of_lt_of_le hk h.size) hr (fun h2 => (h.rows k h2).elim hn (fun h3 => absurd hk (Nat.not_lt.2 h3)))).trans (h.block k hk hr hn),
    fun k hk => (g.rows k hk).elim (fun h2 => h.rows k h2) (fun h2 => .inr (Nat.le_trans h.size h2))⟩
theorem FP.below {w w' : World} {rb : Nat} {R : Nat → Prop} (h : Below w.heap.size w w') : FP w w' rb R R := ⟨h.size, fun k hk _ _ => h.block k hk, fun k hk => .inl hk⟩
theorem FP.refl (w : World) (rb : Nat) (R : Nat → Prop) : FP w w rb R R := FP.below (Below.refl _ _)
theorem row_off_box {w : World} {B e s n rb : Nat} {v : Value} {xs : List Value} {C : Array Value} {T : TypeId} {fr : Nat × Nat} (h : w.ownsRow B e s v n xs) (hb : w.heap[rb]? = some (.cells C T fr)) (hne : e ≠ T) : v.ownBlock ≠ some rb := fun hg => by
  rcases h.2 with ⟨h1, _⟩ | ⟨b, cap, cur, hv, _, hh, _⟩
  · rw [h1] at hg; cases hg
  · rw [hv] at hg
    obtain rfl : b = rb := by simpa [Value.ownBlock] using hg
    rw [hh] at hb
    injection hb with hb
    injection hb with _ h3
    exact hne h3
/-- The reader: all of it is laid since w0. -/
structure RM (w0 w : World) (rb : Nat) (tv nv dv : Value) (l : List Tk) (L : List Ln) (D : List Fl.Dg) : Prop where
  bel : Below w0.heap.size w0 w
  toks : Reads encT w0 tv l
  size : l.length ≤ 100000
  low : w0.heap.size ≤ rb
  box : w.heap[rb]? = some (.cells #[tv, nv, dv] 56 (0, 0))
  nodes : OT w w0.heap.size nv L
  told : w.ownsRow w0.heap.size 40 3 dv D.length (encD.all D)
section
variable {w0 w w' : World} {rb : Nat} {tv nv dv : Value} {l : List Tk} {L : List Ln} {D : List Fl.Dg}
theorem RM.lt (h : RM w0 w rb tv nv dv l L D) : rb < w.heap.size := lt_of_block h.box
theorem RM.cells (h : RM w0 w rb tv nv dv l L D) : w.cell? ⟨rb, 0, none⟩ = some tv ∧ w.cell? ⟨rb, 1, none⟩ = some nv ∧ w.cell? ⟨rb, 2, none⟩ = some dv :=
  ⟨(Joins.cell_of_block h.box 0).trans rfl, (Joins.cell_of_block h.box 1).trans rfl, (Joins.cell_of_block h.box 2).trans rfl⟩
theorem RM.free (h : RM w0 w rb tv nv dv l L D) (o : Nat) : w.frozen? ⟨rb, o, none⟩ = false := Joins.unfrozen_of_block h.box o
theorem RM.rt (h : RM w0 w rb tv nv dv l L D) : RT w rb tv l := ⟨h.cells.1, h.toks.below h.bel, h.size⟩
theorem RM.rows (h : RM w0 w rb tv nv dv l L D) {g : Nat} (hg : RowOf nv dv L g) : w0.heap.size ≤ g ∧ g < w.heap.size ∧ g ≠ rb := by
  rcases hg with hg | hg | ⟨p, hp, hg⟩
  · exact ⟨(h.nodes.row.lt g hg).1, (h.nodes.row.lt g hg).2, fun e => row_off_box h.nodes.row h.box (by decide) (e ▸ hg)⟩
  · exact ⟨(h.told.lt g hg).1, (h.told.lt g hg).2, fun e => row_off_box h.told h.box (by decide) (e ▸ hg)⟩
  · obtain ⟨i, hi⟩ := List.getElem?_of_mem hp
    have hk := h.nodes.kids i p hi
    exact ⟨(hk.lt g hg).1, (hk.lt g hg).2, fun e => row_off_box hk h.box (by decide) (e ▸ hg)⟩
theorem RM.keep (h : RM w0 w rb tv nv dv l L D) (hb : Below w0.heap.size w0 w') (hk : ∀ g, g = rb ∨ RowOf nv dv L g → w'.heap[g]? = w.heap[g]?) : RM w0 w' rb tv nv dv l L D :=
  ⟨hb, h.toks, h.size, h.low, (hk rb (.inl rfl)).trans h.box, ⟨own_same h.nodes.row (fun g hg => hk g (.inr (.inl hg))), fun i p hp => own_same (h.nodes.kids i p hp) (fun g hg => hk g (.inr (.inr (.inr ⟨p, List.mem_of_getElem? hp, hg⟩)))), h.nodes.apart⟩,
    own_same h.told (fun g hg => hk g (.inr (.inr (.inl hg))))⟩
theorem RM.below (h : RM w0 w rb tv nv dv l L D) (hb : Below w.heap.size w w') : RM w0 w' rb tv nv dv l L D :=
  h.keep (h.bel.trans (hb.mono h.bel.size)) (fun g hg => hb.block g (hg.elim (fun e => e ▸ h.lt) (fun h2 => (h.rows h2).2.1)))
/-- A store elsewhere. -/
theorem RM.store (h : RM w0 w rb tv nv dv l L D) {b : Nat} (h0 : w0.heap.size ≤ b) (hr : b ≠ rb) (hn : ¬ RowOf nv dv L b) (o : Nat) (u : Value) : RM w0 (w.setCell ⟨b, o, none⟩ u) rb tv nv dv l L D :=
  h.keep (h.bel.setCell (p := ⟨b, o, none⟩) h0 u) (fun g hg => Below.heap_setCell _ _ _ _ (fun e => hg.elim (fun h2 => hr (e.symm.trans h2)) (fun h2 => hn ((show g = b from e) ▸ h2))))
/-- The reader's nodes' row is stored. -/
theorem RM.toNodes {nv' : Value} {L' : List Ln} (h : RM w0 w rb tv nv dv l L D) (hb : Below w0.heap.size w0 w') (hx : w'.heap[rb]? = some (.cells #[tv, nv, dv] 56 (0, 0))) (hO : OT w' w0.heap.size nv' L') (hT : w'.ownsRow w0.heap.size 40 3 dv D.length (encD.all D)) :
    RM w0 (w'.setCell ⟨rb, 1, none⟩ nv') rb tv nv' dv l L' D := by
  have st : ∀ g, g ≠ rb → (w'.setCell ⟨rb, 1, none⟩ nv').heap[g]? = w'.heap[g]? := fun g hg => Below.heap_setCell _ _ _ _ hg
  refine ⟨hb.setCell (p := ⟨rb, 1, none⟩) h.low _, h.toks, h.size, h.low, ?_, ⟨own_same hO.row (fun g hg => st g (fun e => row_off_box hO.row hx (by decide) (e ▸ hg))), fun i p hp => own_same (hO.kids i p hp) (fun g hg => st g (fun e => row_off_box (hO.kids i p hp) hx (by decide) (e ▸ hg))), hO.apart⟩,
    own_same hT (fun g hg => st g (fun e => row_off_box hT hx (by decide) (e ▸ hg)))⟩
  exact Joins.block_setCell hx nv'
/-- What it has told is stored. -/
theorem RM.toTold {dv' : Value} {D' : List Fl.Dg} (h : RM w0 w rb tv nv dv l L D) (hb : Below w0.heap.size w0 w') (hx : w'.heap[rb]? = some (.cells #[tv, nv, dv] 56 (0, 0))) (hO : OT w' w0.heap.size nv L) (hT : w'.ownsRow w0.heap.size 40 3 dv' D'.length (encD.all D')) :
    RM w0 (w'.setCell ⟨rb, 2, none⟩ dv') rb tv nv dv' l L D' := by
  have st : ∀ g, g ≠ rb → (w'.setCell ⟨rb, 2, none⟩ dv').heap[g]? = w'.heap[g]? := fun g hg => Below.heap_setCell _ _ _ _ hg
  refine ⟨hb.setCell (p := ⟨rb, 2, none⟩) h.low _, h.toks, h.size, h.low, ?_, ⟨own_same hO.row (fun g hg => st g (fun e => row_off_box hO.row hx (by decide) (e ▸ hg))), fun i p hp => own_same (hO.kids i p hp) (fun g hg => st g (fun e => row_off_box (hO.kids i p hp) hx (by decide) (e ▸ hg))), hO.apart⟩,
    own_same hT (fun g hg => st g (fun e => row_off_box hT hx (by decide) (e ▸ hg)))⟩
  exact Joins.block_setCell hx dv'
end
/-- The reader holds so many nodes, has told so much; R: the blocks of its rows. -/
def RS (w0 w : World) (rb : Nat) (tv : Value) (l : List Tk) (s : Fl.PSt) (R : Nat → Prop) : Prop :=
  ∃ nv dv L, RM w0 w rb tv nv dv l L s.d ∧ L.map Ln.nd = s.q ∧ R = RowOf nv dv L
section
variable {w0 w w' : World} {rb : Nat} {tv : Value} {l : List Tk} {s : Fl.PSt} {R : Nat → Prop}
theorem RS.below (h : RS w0 w rb tv l s R) (hb : Below w.heap.size w w') : RS w0 w' rb tv l s R := by
  obtain ⟨nv, dv, L, h1, h2, h3⟩ := h
  exact ⟨nv, dv, L, h1.below hb, h2, h3⟩
theorem RS.rt (h : RS w0 w rb tv l s R) : RT w rb tv l := by
  obtain ⟨nv, dv, L, h1, h2, h3⟩ := h
  exact h1.rt
theorem RS.bel (h : RS w0 w rb tv l s R) : Below w0.heap.size w0 w := by
  obtain ⟨nv, dv, L, h1, h2, h3⟩ := h
  exact h1.bel
theorem RS.lt (h : RS w0 w rb tv l s R) : w0.heap.size ≤ rb ∧ rb < w.heap.size := by
  obtain ⟨nv, dv, L, h1, h2, h3⟩ := h
  exact ⟨h1.low, h1.lt⟩
theorem RS.rows (h : RS w0 w rb tv l s R) {g : Nat} (hg : R g) : w0.heap.size ≤ g ∧ g < w.heap.size ∧ g ≠ rb := by
  obtain ⟨nv, dv, L, h1, h2, rfl⟩ := h
  exact h1.rows hg
theorem RS.store (h : RS w0 w rb tv l s R) {b : Nat} (h0 : w0.heap.size ≤ b) (hr : b ≠ rb) (hn : ¬ R b) (o : Nat) (u : Value) : RS w0 (w.setCell ⟨b, o, none⟩ u) rb tv l s R := by
  obtain ⟨nv, dv, L, h1, h2, rfl⟩ := h
  exact ⟨nv, dv, L, h1.store h0 hr hn o u, h2, rfl⟩
end
section
variable {w0 w w' : World} {rb : Nat} {tv nv dv : Value} {l : List Tk} {L : List Ln} {D : List Fl.Dg}
theorem RowOf.set {i : Nat} {p p' : Ln} {k : Nat} (hv : p'.val = p.val) (hp : L[i]? = some p) (h : RowOf nv dv (L.set i p') k) : RowOf nv dv L k := by
  rcases h with h | h | ⟨q, hq, h⟩
  · exact .inl h
  · exact .inr (.inl h)
  · refine .inr (.inr ?_)
    obtain ⟨j, hj⟩ := List.getElem?_of_mem hq
    rw [List.getElem?_set] at hj
    split at hj
    · split at hj
      · injection hj with hj
        subst hj
        exact ⟨p, List.mem_of_getElem? hp, hv ▸ h⟩
      · cases hj
    · exact ⟨q, List.mem_of_getElem? hj, h⟩
/-- One number (no kids) of a node is stored. -/
theorem RM.setNode {g n cap : Nat} (h : RM w0 w rb tv (.slice (some ⟨g, 0, none⟩) n cap) dv l L D) (i j : Nat) (p : Ln) (nd : Nd) (u : Value) (hp : L[i]? = some p) (hks : nd.ks = p.nd.ks) (hc : nCells { p with nd := nd } = (nCells p).set j u) (hj : j < 6) :
    RM w0 (w.setCell ⟨g, i * 6 + j, none⟩ u) rb tv (.slice (some ⟨g, 0, none⟩) n cap) dv l (L.set i { p with nd := nd }) D ∧
    FP w (w.setCell ⟨g, i * 6 + j, none⟩ u) rb (RowOf (.slice (some ⟨g, 0, none⟩) n cap) dv L) (RowOf (.slice (some ⟨g, 0, none⟩) n cap) dv (L.set i { p with nd := nd })) := by
  have hg : RowOf (.slice (some ⟨g, 0, none⟩) n cap) dv L g := .inl rfl
  have hr := h.rows hg
  have st : ∀ k, k ≠ g → (w.setCell ⟨g, i * 6 + j, none⟩ u).heap[k]? = w.heap[k]? := fun k hk => Below.heap_setCell _ _ _ _ hk
  have hd : dv.ownBlock ≠ some g := fun e => own_types h.nodes.row h.told (by decide) g rfl e
  refine ⟨⟨h.bel.setCell (p := ⟨g, i * 6 + j, none⟩) hr.1 u, h.toks, h.size, h.low, (st rb (fun e => hr.2.2 e.symm)).trans h.box, h.nodes.set i j p nd u hp hks hc hj, own_same h.told (fun k hk => st k (fun e => hd (e ▸ hk)))⟩,
    ⟨?_, fun k _ _ hn => st k (fun e => hn (e ▸ hg)), fun k hk => .inl (RowOf.set (p := p) (p' := { p with nd := nd }) rfl hp hk)⟩⟩
  exact (Below.refl 0 w |>.setCell (p := ⟨g, i * 6 + j, none⟩) (Nat.zero_le _) u).size
end
/-- How a step of the reader is told: what it answers, what it holds then. -/
def Goes (w0 w : World) (rb : Nat) (tv : Value) (l : List Tk) (R : Nat → Prop) (v : Value) (s : Fl.PSt) (e : Ending) (w' : World) : Prop :=
  e = .returned v ∧ ∃ R', RS w0 w' rb tv l s R' ∧ FP w w' rb R R'
end Go.Proofs.Ytmlpaafclobgcaa

/- Package flow: reach. -/
namespace Go.Proofs.Ytmlpaafclobgcaa
open Go.RowKit
open Go.Proofs.Ytmlpaafclobgcaa.Sq
open Go.Proofs.Ytmlpaafclobgcaa.Ar
set_option linter.unusedVariables false

set_option maxHeartbeats 2000000 in
set_option maxRecDepth 100000 in
theorem fReach (w0 w : World) (rb : Nat) (tv : Value) (l : List Tk) (s : Fl.PSt) (R : Nat → Prop) (i t : Nat) (hS : RS w0 w rb tv l s R) (hi : i < s.q.length) (hn : s.q.length ≤ 1000000) :
    Calls Try.prog 55 #[RP rb, .int .i64 i, .int .i64 t] w (Goes w0 w rb tv l R (.int .i64 t) ⟨Fl.qEnd s.q i t, s.d⟩) := by
  obtain ⟨nv, dv, L, hM, hL, rfl⟩ := hS
  have hLn : L.length = s.q.length := by rw [← hL, List.length_map]
  obtain ⟨p, hp⟩ : ∃ p, L[i]? = some p := ⟨_, List.getElem?_eq_getElem (by omega)⟩
  obtain ⟨g, cap, rfl, hB, hfz, hc1, hc2⟩ := own_at hM.nodes.row (by omega)
  obtain ⟨hS2, hF⟩ := hM.setNode i 2 p { p.nd with t := (t : Int) } (.int .i64 t) hp rfl rfl (by decide)
  have c1 := hM.cells.2.1
  have c2 : w.cell? ⟨g, i * 6 + 2, none⟩ = some (.int .i64 p.nd.t) := by
    have := hM.nodes.row.cells (g := g) rfl _ _ ((all_get encN L i p hp 2 (by decide)).trans rfl)
    rw [add_addr, Nat.zero_add] at this
    exact this
  have hq : (L.set i { p with nd := { p.nd with t := (t : Int) } }).map Ln.nd = Fl.qEnd s.q i t := by
    have hx : s.q[i]? = some p.nd := by rw [← hL, List.getElem?_map, hp]; rfl
    unfold Fl.qEnd
    rw [hx, ← hL, List.map_set]
  have HD := Lib.hid (show Goes w0 w rb tv l (RowOf (.slice (some ⟨g, 0, none⟩) L.length cap) dv L) (.int .i64 t) ⟨Fl.qEnd s.q i t, s.d⟩ (.returned (.int .i64 t)) (w.setCell ⟨g, i * 6 + 2, none⟩ (.int .i64 t)) from ⟨rfl, _, ⟨_, _, _, hS2, hq, rfl⟩, hF⟩)
  have fz := hfz (i * 6 + 2)
  obtain ⟨N, hN⟩ : ∃ N, L.length = N := ⟨_, rfl⟩
  rw [hN] at HD c1 hLn ⊢
  have hii : (i : Int) < (N : Int) := by omega
  have hNs : N ≤ 1000000 := by omega
  clear hM hL hLn hp hS2 hF hq hB hfz hc1 hc2 hi hn hN
  obtain ⟨Q, hQ⟩ : ∃ Q, Goes w0 w rb tv l (RowOf (.slice (some ⟨g, 0, none⟩) N cap) dv L) (.int .i64 t) ⟨Fl.qEnd s.q i t, s.d⟩ = Q := ⟨_, rfl⟩
  rw [hQ] at HD ⊢
  clear hQ
  go_enter Try.func55, Try.ntmps55
  go_wp2_with fail
  exact HD.out
end Go.Proofs.Ytmlpaafclobgcaa

/- Package flow: the reader in memory: a node is put behind all, a kid is put on, more is told (no function of the program's). -/
namespace Go.Proofs.Ytmlpaafclobgcaa
open Go.RowKit
open Go.Proofs.Ytmlpaafclobgcaa.Sq
open Go.Proofs.Ytmlpaafclobgcaa.Ar
set_option linter.unusedVariables false

section
variable {w0 w w6 : World} {rb : Nat} {tv nv dv : Value} {l : List Tk} {L : List Ln} {D : List Fl.Dg} {o : Obj}
/-- A node is put behind all. -/
theorem RM.push {v6 : Value} {p : Ln} (h : RM w0 w rb tv nv dv l L D) (hv : p.val = .slice none 0 0) (hks : p.nd.ks = []) (hg : (w.alloc o).grownBy w6 nv.ownBlock) (hown : w6.ownsRow w0.heap.size 38 6 v6 (L ++ [p]).length (encN.all (L ++ [p])))
    (hat : v6.ownBlock = nv.ownBlock ∨ v6.ownBlock = some (w.alloc o).heap.size) :
    Below w0.heap.size w0 w6 ∧ w6.heap[rb]? = some (.cells #[tv, nv, dv] 56 (0, 0)) ∧
    RM w0 (w6.setCell ⟨rb, 1, none⟩ v6) rb tv v6 dv l (L ++ [p]) D ∧ FP w (w6.setCell ⟨rb, 1, none⟩ v6) rb (RowOf nv dv L) (RowOf v6 dv (L ++ [p])) := by
  have hsz : (w.alloc o).heap.size = w.heap.size + 1 := size_alloc w o
  have hoff : nv.ownBlock ≠ some rb := row_off_box h.nodes.row h.box (by decide)
  have hbox : w6.heap[rb]? = some (.cells #[tv, nv, dv] 56 (0, 0)) :=
    ((hg.block rb (by rw [hsz]; exact Nat.lt_succ_of_lt h.lt) (fun e => hoff e.symm)).trans ((below_alloc w o).block rb h.lt)).trans h.box
  have hO := h.nodes.push (p := p) (by rw [hks, hv]; exact own_nil encI _ _) (fun j q _ gg hgg => by rw [hv] at hgg; cases hgg) hg hown
  have hT := (h.told.alloc o).kept hg (off_row (own_types h.nodes.row h.told (by decide)))
  have hb6 : Below w0.heap.size w0 w6 := (h.bel.alloc h.bel.size o).grown hg (by rw [hsz]; have := h.bel.size; omega) (fun q hq => (h.nodes.row.lt q hq).1)
  refine ⟨hb6, hbox, h.toNodes hb6 hbox hO hT, ?_, fun k hk1 hk2 hn => ?_, fun k hk => ?_⟩
  · have h1 := hg.size
    have h2 : (w6.setCell ⟨rb, 1, none⟩ v6).heap.size = w6.heap.size := by simp
    omega
  · rw [Below.heap_setCell _ _ _ _ hk2, hg.block k (by omega) (fun e => hn (.inl e.symm)), (below_alloc w o).block k hk1]
  · rcases hk with hk | hk | ⟨q, hq, hk⟩
    · rcases hat with e | e
      · exact .inl (.inl (e ▸ hk))
      · rw [e] at hk
        injection hk with hk
        exact .inr (by omega)
    · exact .inl (.inr (.inl hk))
    · rw [List.mem_append] at hq
      rcases hq with hq | hq
      · exact .inl (.inr (.inr ⟨q, hq, hk⟩))
      · simp at hq
        subst hq
        rw [hv] at hk
        cases hk
/-- A kid is put on. -/
theorem RM.kid {g n cap i : Nat} {p : Ln} {a' : Option Addr} {n' c' : Nat} (h : RM w0 w rb tv (.slice (some ⟨g, 0, none⟩) n cap) dv l L D) (hp : L[i]? = some p) (z : Int) (hg : (w.alloc o).grownBy w6 p.val.ownBlock)
    (hown : w6.ownsRow w0.heap.size 3 1 (.slice a' n' c') (p.nd.ks ++ [z]).length (encI.all (p.nd.ks ++ [z]))) (hat : (Value.slice a' n' c').ownBlock = p.val.ownBlock ∨ (Value.slice a' n' c').ownBlock = some (w.alloc o).heap.size) :
    w6.heap[rb]? = w.heap[rb]? ∧ w6.heap[g]? = w.heap[g]? ∧
    RM w0 (w6.setCell ⟨g, i * 6 + 4, none⟩ (.slice a' n' c')) rb tv (.slice (some ⟨g, 0, none⟩) n cap) dv l (L.set i ⟨{ p.nd with ks := p.nd.ks ++ [z] }, a', n', c'⟩) D ∧
    FP w (w6.setCell ⟨g, i * 6 + 4, none⟩ (.slice a' n' c')) rb (RowOf (.slice (some ⟨g, 0, none⟩) n cap) dv L) (RowOf (.slice (some ⟨g, 0, none⟩) n cap) dv (L.set i ⟨{ p.nd with ks := p.nd.ks ++ [z] }, a', n', c'⟩)) := by
  have hsz : (w.alloc o).heap.size = w.heap.size + 1 := size_alloc w o
  have hpk := h.nodes.kids i p hp
  have hoff : p.val.ownBlock ≠ some rb := row_off_box hpk h.box (by decide)
  have hgr := h.rows (.inl rfl : RowOf (.slice (some ⟨g, 0, none⟩) n cap) dv L g)
  have hpg : p.val.ownBlock ≠ some g := fun e => own_types hpk h.nodes.row (by decide) g e rfl
  have b1 : w6.heap[rb]? = w.heap[rb]? := (hg.block rb (by rw [hsz]; exact Nat.lt_succ_of_lt h.lt) (fun e => hoff e.symm)).trans ((below_alloc w o).block rb h.lt)
  have b2 : w6.heap[g]? = w.heap[g]? := (hg.block g (by rw [hsz]; exact Nat.lt_succ_of_lt hgr.2.1) (fun e => hpg e.symm)).trans ((below_alloc w o).block g hgr.2.1)
  have st : ∀ k, k ≠ g → (w6.setCell ⟨g, i * 6 + 4, none⟩ (.slice a' n' c')).heap[k]? = w6.heap[k]? := fun k hk => Below.heap_setCell _ _ _ _ hk
  have hb6 : Below w0.heap.size w0 w6 := (h.bel.alloc h.bel.size o).grown hg (by rw [hsz]; have := h.bel.size; omega) (fun q hq => (hpk.lt q hq).1)
  have hT := (h.told.alloc o).kept hg (off_row (own_types hpk h.told (by decide)))
  have hdg : dv.ownBlock ≠ some g := fun e => own_types h.nodes.row h.told (by decide) g rfl e
  refine ⟨b1, b2, ⟨hb6.setCell (p := ⟨g, i * 6 + 4, none⟩) hgr.1 _, h.toks, h.size, h.low, ((st rb (fun e => hgr.2.2 e.symm)).trans b1).trans h.box, h.nodes.kid hp z hg hown hat, own_same hT (fun k hk => st k (fun e => hdg (e ▸ hk)))⟩, ?_, fun k hk1 hk2 hn => ?_, fun k hk => ?_⟩
  · have h1 := hg.size
    have h2 : (w6.setCell ⟨g, i * 6 + 4, none⟩ (.slice a' n' c')).heap.size = w6.heap.size := by simp
    omega
  · rw [st k (fun e => hn (.inl (by rw [e]; rfl))), hg.block k (by omega) (fun e => hn (.inr (.inr ⟨p, List.mem_of_getElem? hp, e.symm⟩))), (below_alloc w o).block k hk1]
  · rcases hk with hk | hk | ⟨q, hq, hk⟩
    · exact .inl (.inl hk)
    · exact .inl (.inr (.inl hk))
    · obtain ⟨j, hj⟩ := List.getElem?_of_mem hq
      rw [List.getElem?_set] at hj
      split at hj
      · split at hj
        · injection hj with hj
          subst hj
          rcases hat with e | e
          · exact .inl (.inr (.inr ⟨p, List.mem_of_getElem? hp, e ▸ hk⟩))
          · have hk : (Value.slice a' n' c').ownBlock = some k := hk
            rw [e] at hk
            injection hk with hk
            exact .inr (by omega)
        · cases hj
      · exact .inl (.inr (.inr ⟨q, List.mem_of_getElem? hj, hk⟩))
/-- More is told. -/
theorem RM.more {v6 : Value} {x : Fl.Dg} (h : RM w0 w rb tv nv dv l L D) (hg : (w.alloc o).grownBy w6 dv.ownBlock) (hown : w6.ownsRow w0.heap.size 40 3 v6 (D ++ [x]).length (encD.all (D ++ [x])))
    (hat : v6.ownBlock = dv.ownBlock ∨ v6.ownBlock = some (w.alloc o).heap.size) :
    Below w0.heap.size w0 w6 ∧ w6.heap[rb]? = some (.cells #[tv, nv, dv] 56 (0, 0)) ∧
    RM w0 (w6.setCell ⟨rb, 2, none⟩ v6) rb tv nv v6 l L (D ++ [x]) ∧ FP w (w6.setCell ⟨rb, 2, none⟩ v6) rb (RowOf nv dv L) (RowOf nv v6 L) := by
  have hsz : (w.alloc o).heap.size = w.heap.size + 1 := size_alloc w o
  have hoff : dv.ownBlock ≠ some rb := row_off_box h.told h.box (by decide)
  have hbox : w6.heap[rb]? = some (.cells #[tv, nv, dv] 56 (0, 0)) :=
    ((hg.block rb (by rw [hsz]; exact Nat.lt_succ_of_lt h.lt) (fun e => hoff e.symm)).trans ((below_alloc w o).block rb h.lt)).trans h.box
  have hO : OT w6 w0.heap.size nv L := ⟨(h.nodes.row.alloc o).kept hg (off_row (own_types h.told h.nodes.row (by decide))), fun i p hp => ((h.nodes.kids i p hp).alloc o).kept hg (off_row (own_types h.told (h.nodes.kids i p hp) (by decide))), h.nodes.apart⟩
  have hb6 : Below w0.heap.size w0 w6 := (h.bel.alloc h.bel.size o).grown hg (by rw [hsz]; have := h.bel.size; omega) (fun q hq => (h.told.lt q hq).1)
  refine ⟨hb6, hbox, h.toTold hb6 hbox hO hown, ?_, fun k hk1 hk2 hn => ?_, fun k hk => ?_⟩
  · have h1 := hg.size
    have h2 : (w6.setCell ⟨rb, 2, none⟩ v6).heap.size = w6.heap.size := by simp
    omega
  · rw [Below.heap_setCell _ _ _ _ hk2, hg.block k (by omega) (fun e => hn (.inr (.inl e.symm))), (below_alloc w o).block k hk1]
  · rcases hk with hk | hk | ⟨q, hq, hk⟩
    · exact .inl (.inl hk)
    · rcases hat with e | e
      · exact .inl (.inr (.inl (e ▸ hk)))
      · rw [e] at hk
        injection hk with hk
        exact .inr (by omega)
    · exact .inl (.inr (.inr ⟨q, hq, hk⟩))
end
end Go.Proofs.Ytmlpaafclobgcaa

/- Package flow: tell. (Its drawn region by tools/gen_fw.py.) -/
namespace Go.Proofs.Ytmlpaafclobgcaa
open Go.RowKit
open Go.Proofs.Ytmlpaafclobgcaa.Sq
open Go.Proofs.Ytmlpaafclobgcaa.Ar
set_option linter.unusedVariables false

set_option maxHeartbeats 4000000 in
set_option maxRecDepth 100000 in
theorem fTell (w0 w : World) (rb : Nat) (tv : Value) (l : List Tk) (s : Fl.PSt) (R : Nat → Prop) (code i j : Nat) (hS : RS w0 w rb tv l s R) (hi : i < l.length) (hj : j < l.length) (hn : s.d.length ≤ 1000000) :
    Calls Try.prog 59 #[RP rb, .int .i64 code, .int .i64 i, .int .i64 (j + 1 : Nat)] w (Goes w0 w rb tv l R (.tuple #[]) ⟨s.q, s.d ++ [⟨code, Fl.frm l i, Fl.too l j⟩]⟩) := by
  obtain ⟨nv, dv, L, hM, hL, rfl⟩ := hS
  obtain ⟨x, hx⟩ : ∃ x, l[i]? = some x := ⟨_, List.getElem?_eq_getElem hi⟩
  obtain ⟨y, hy⟩ : ∃ y, l[j]? = some y := ⟨_, List.getElem?_eq_getElem hj⟩
  have ef : Fl.frm l i = x.2.1 := by unfold Fl.frm; rw [hx]
  have et : Fl.too l j = y.2.2 := by unfold Fl.too; rw [hy]
  rw [ef, et]
  have hts := hM.toks
  obtain ⟨ta, tc, rfl⟩ := hts.shape
  obtain ⟨tb, off, rfl, -, x10, -⟩ := toks_at hts i x hx
  obtain ⟨tb', off', he, -, -, y20⟩ := toks_at hts j y hy
  injection he with he
  injection he with e1 e2
  subst e1 e2
  obtain ⟨F, hF⟩ : ∃ F, x.2.1 = F := ⟨_, rfl⟩
  obtain ⟨T, hT⟩ : ∃ T, y.2.2 = T := ⟨_, rfl⟩
  rw [hF] at x10 ⊢
  rw [hT] at y20 ⊢
  have x1 := at_below hM.bel x10
  have y2 := at_below hM.bel y20
  obtain ⟨c0, c1, c2⟩ := hM.cells
  have hls := hM.size
  have hown0 := hM.told
  obtain ⟨da, dc, hdv⟩ := (Reads.of_own (E := encD) hown0).shape
  subst hdv
  have HQ := Lib.hid (fun W (h : ∃ v6, RM w0 W rb (.slice (some ⟨tb, off, none⟩) l.length tc) nv v6 l L (s.d ++ [⟨code, F, T⟩]) ∧ FP w W rb (RowOf nv (.slice da s.d.length dc) L) (RowOf nv v6 L)) => show Goes w0 w rb (.slice (some ⟨tb, off, none⟩) l.length tc) l (RowOf nv (.slice da s.d.length dc) L) (.tuple #[]) ⟨s.q, s.d ++ [⟨code, F, T⟩]⟩ (.returned (.tuple #[])) W from by
    obtain ⟨v6, h1, h2⟩ := h
    exact ⟨rfl, _, ⟨_, _, _, h1, hL, rfl⟩, h2⟩)
  obtain ⟨Q, hQ⟩ : ∃ Q, Goes w0 w rb (.slice (some ⟨tb, off, none⟩) l.length tc) l (RowOf nv (.slice da s.d.length dc) L) (.tuple #[]) ⟨s.q, s.d ++ [⟨code, F, T⟩]⟩ = Q := ⟨_, rfl⟩
  rw [hQ] at HQ ⊢
  have HM := Lib.hid hM
  have HOwn := Lib.hid hown0
  obtain ⟨DN, hDN⟩ : ∃ DN, s.d.length = DN := ⟨_, rfl⟩
  have HMx := Lib.hid (show s.d.length + 1 ≤ maxLen by simp only [maxLen]; omega)
  have HMy := Lib.hid (show (s.d.length + 1) * 24 ≤ 140737488355328 by omega)
  have HDN := Lib.hid hDN
  rw [hDN] at c2 HM HQ HOwn
  obtain ⟨N, hN⟩ : ∃ N, l.length = N := ⟨_, rfl⟩
  rw [hN] at c0 hi hj hls HM HQ
  have gi : (i : Int) < (N : Int) := by omega
  have gj : (j : Int) < (N : Int) := by omega
  have gw : IntKind.i64.wrap (((j + 1 : Nat) : Int) - 1) = (j : Int) := by
    rw [show ((j + 1 : Nat) : Int) - 1 = (j : Int) by omega]; exact IntWalk.i64_in _ (by omega)
  have gw2 : IntKind.i64.wrap (j : Int) = (j : Int) := IntWalk.i64_in _ (by omega)
  have gw3 : IntKind.i64.wrap ((j : Int) + 1 - 1) = (j : Int) := by
    rw [show (j : Int) + 1 - 1 = (j : Int) by omega]; exact gw2
  obtain ⟨wx, hwx⟩ : ∃ wx, (w.alloc (.cells #[.int .i64 code, .int .i64 F, .int .i64 T] 40)).drew = wx := ⟨_, rfl⟩
  have hbx : Below w.heap.size w wx := by rw [← hwx]; exact (below_alloc w _).drew
  have HBx := Lib.hid hbx
  have HOx := Lib.hid (show wx.ownsRow w0.heap.size 40 encD.k (.slice da DN dc) s.d.length (encD.all s.d) by rw [← hDN]; exact own_below hown0 hbx)
  have hnewx : ∀ jj c, (encD.all [(⟨code, F, T⟩ : Fl.Dg)])[jj]? = some c → wx.cell? ⟨w.heap.size, jj, none⟩ = some c := by
    intro jj c hj
    rw [← hwx]
    show (w.alloc _).cell? ⟨w.heap.size, jj, none⟩ = _
    rw [World.cell?_alloc_mark]
    simpa [Enc.all, encD, dCells] using hj
  have HNew := Lib.hid hnewx
  have xc0 := at_below hbx c0
  have xc2 := at_below hbx c2
  have xx1 := at_below hbx x1
  have xy2 := at_below hbx y2
  have hws : w0.heap.size ≤ wx.heap.size := Nat.le_trans hM.bel.size hbx.size
  have HWx := Lib.hid hwx
  clear hM hL hts hown0 hDN hN hQ hx hy ef et hF hT hwx hnewx hbx hi hj
  go_enter Try.func59, Try.ntmps59
  go_upto_region 0 with fail
  -- GEN R0
  refine wp_region_T (fun wx => wx.cell? ⟨rb, 0, none⟩ = some (.slice (some ⟨tb, off, none⟩) N tc) ∧ wx.cell? ⟨rb, 2, none⟩ = some (.slice da DN dc) ∧ wx.cell? ⟨tb, off + i * 3 + 1, none⟩ = some (.int .i64 (F : Int)) ∧ wx.cell? ⟨tb, off + j * 3 + 2, none⟩ = some (.int .i64 (T : Int))) 28 (by kernel_rfl) ?_
  have hH : (fun wx : World => wx.cell? ⟨rb, 0, none⟩ = some (.slice (some ⟨tb, off, none⟩) N tc) ∧ wx.cell? ⟨rb, 2, none⟩ = some (.slice da DN dc) ∧ wx.cell? ⟨tb, off + i * 3 + 1, none⟩ = some (.int .i64 (F : Int)) ∧ wx.cell? ⟨tb, off + j * 3 + 2, none⟩ = some (.int .i64 (T : Int))) w.drew := ⟨at_drew c0, at_drew c2, at_drew x1, at_drew y2⟩
  refine wpAnyT_take (i := 0) (oi := { dst := some 8, op := Op.move (Operand.tmp 0), type := 71, pos := _, after := #[], guard := none }) (v := .pointer (some ⟨rb, 0, none⟩)) rfl (by kernel_rfl) (by kernel_rfl) (by kernel_rfl) (by kernel_rfl) (by kernel_rfl) (fun _ _ _ h => h) (Or.inl ⟨rfl, fun W hW => ?_⟩) hH ?_
  · refine QuietRun.of_run ?_; go_simp
  try simp only [Act.put, List.setIfInBounds_toArray, List.set_cons_zero, List.set_cons_succ]
  refine wpAnyT_take (i := 1) (oi := { dst := some 9, op := Op.move (Operand.tmp 0), type := 71, pos := _, after := #[], guard := none }) (v := .pointer (some ⟨rb, 0, none⟩)) rfl (by kernel_rfl) (by kernel_rfl) (by kernel_rfl) (by kernel_rfl) (by kernel_rfl) (fun _ _ _ h => h) (Or.inl ⟨rfl, fun W hW => ?_⟩) hH ?_
  · refine QuietRun.of_run ?_; go_simp
  try simp only [Act.put, List.setIfInBounds_toArray, List.set_cons_zero, List.set_cons_succ]
  refine wpAnyT_take (i := 2) (oi := { dst := some 10, op := Op.nilCheck (Operand.tmp 9), type := 0, pos := _, after := #[{ on := 1, ground := Ground.data }], guard := none }) (v := .pointer (some ⟨rb, 0, none⟩)) rfl (by kernel_rfl) (by kernel_rfl) (by kernel_rfl) (by kernel_rfl) (by kernel_rfl) (fun _ _ _ h => h) (Or.inl ⟨rfl, fun W hW => ?_⟩) hH ?_
  · refine QuietRun.of_run ?_; go_simp
  try simp only [Act.put, List.setIfInBounds_toArray, List.set_cons_zero, List.set_cons_succ]
  refine wpAnyT_take (i := 3) (oi := { dst := some 11, op := Op.fieldAddr 56 (Operand.tmp 10) 2, type := 0, pos := _, after := #[{ on := 2, ground := Ground.data }], guard := none }) (v := .pointer (some ⟨rb, 2, none⟩)) rfl (by kernel_rfl) (by kernel_rfl) (by kernel_rfl) (by kernel_rfl) (by kernel_rfl) (fun _ _ _ h => h) (Or.inl ⟨rfl, fun W hW => ?_⟩) hH ?_
  · refine QuietRun.of_run ?_; go_simp
  try simp only [Act.put, List.setIfInBounds_toArray, List.set_cons_zero, List.set_cons_succ]
  refine wpAnyT_take (i := 4) (oi := { dst := some 12, op := Op.load 32 (Operand.tmp 11), type := 32, pos := _, after := #[{ on := 3, ground := Ground.data }], guard := none }) (v := .slice da DN dc) rfl (by kernel_rfl) (by kernel_rfl) (by kernel_rfl) (by kernel_rfl) (by kernel_rfl) (fun _ _ _ h => h) (Or.inl ⟨rfl, fun W hW => ?_⟩) hH ?_
  · refine QuietRun.of_run ?_; obtain ⟨z0, z1, z2, z3⟩ := hW; go_simp
  try simp only [Act.put, List.setIfInBounds_toArray, List.set_cons_zero, List.set_cons_succ]
  refine wpAnyT_take (i := 5) (oi := { dst := some 13, op := Op.move (Operand.tmp 1), type := 3, pos := _, after := #[], guard := none }) (v := .int .i64 (code : Int)) rfl (by kernel_rfl) (by kernel_rfl) (by kernel_rfl) (by kernel_rfl) (by kernel_rfl) (fun _ _ _ h => h) (Or.inl ⟨rfl, fun W hW => ?_⟩) hH ?_
  · refine QuietRun.of_run ?_; go_simp
  try simp only [Act.put, List.setIfInBounds_toArray, List.set_cons_zero, List.set_cons_succ]
  refine wpAnyT_take (i := 6) (oi := { dst := some 14, op := Op.move (Operand.tmp 0), type := 71, pos := _, after := #[], guard := none }) (v := .pointer (some ⟨rb, 0, none⟩)) rfl (by kernel_rfl) (by kernel_rfl) (by kernel_rfl) (by kernel_rfl) (by kernel_rfl) (fun _ _ _ h => h) (Or.inl ⟨rfl, fun W hW => ?_⟩) hH ?_
  · refine QuietRun.of_run ?_; go_simp
  try simp only [Act.put, List.setIfInBounds_toArray, List.set_cons_zero, List.set_cons_succ]
  refine wpAnyT_take (i := 7) (oi := { dst := some 15, op := Op.nilCheck (Operand.tmp 14), type := 0, pos := _, after := #[{ on := 6, ground := Ground.data }], guard := none }) (v := .pointer (some ⟨rb, 0, none⟩)) rfl (by kernel_rfl) (by kernel_rfl) (by kernel_rfl) (by kernel_rfl) (by kernel_rfl) (fun _ _ _ h => h) (Or.inl ⟨rfl, fun W hW => ?_⟩) hH ?_
  · refine QuietRun.of_run ?_; go_simp
  try simp only [Act.put, List.setIfInBounds_toArray, List.set_cons_zero, List.set_cons_succ]
  refine wpAnyT_take (i := 8) (oi := { dst := some 16, op := Op.fieldAddr 56 (Operand.tmp 15) 0, type := 0, pos := _, after := #[{ on := 7, ground := Ground.data }], guard := none }) (v := .pointer (some ⟨rb, 0, none⟩)) rfl (by kernel_rfl) (by kernel_rfl) (by kernel_rfl) (by kernel_rfl) (by kernel_rfl) (fun _ _ _ h => h) (Or.inl ⟨rfl, fun W hW => ?_⟩) hH ?_
  · refine QuietRun.of_run ?_; go_simp
  try simp only [Act.put, List.setIfInBounds_toArray, List.set_cons_zero, List.set_cons_succ]
  refine wpAnyT_take (i := 9) (oi := { dst := some 17, op := Op.load 26 (Operand.tmp 16), type := 26, pos := _, after := #[{ on := 8, ground := Ground.data }], guard := none }) (v := .slice (some ⟨tb, off, none⟩) N tc) rfl (by kernel_rfl) (by kernel_rfl) (by kernel_rfl) (by kernel_rfl) (by kernel_rfl) (fun _ _ _ h => h) (Or.inl ⟨rfl, fun W hW => ?_⟩) hH ?_
  · refine QuietRun.of_run ?_; obtain ⟨z0, z1, z2, z3⟩ := hW; go_simp
  try simp only [Act.put, List.setIfInBounds_toArray, List.set_cons_zero, List.set_cons_succ]
  refine wpAnyT_take (i := 10) (oi := { dst := some 18, op := Op.move (Operand.tmp 2), type := 3, pos := _, after := #[], guard := none }) (v := .int .i64 (i : Int)) rfl (by kernel_rfl) (by kernel_rfl) (by kernel_rfl) (by kernel_rfl) (by kernel_rfl) (fun _ _ _ h => h) (Or.inl ⟨rfl, fun W hW => ?_⟩) hH ?_
  · refine QuietRun.of_run ?_; go_simp
  try simp only [Act.put, List.setIfInBounds_toArray, List.set_cons_zero, List.set_cons_succ]
  refine wpAnyT_take (i := 11) (oi := { dst := some 19, op := Op.indexAddr 26 (Operand.tmp 17) (Operand.tmp 18), type := 0, pos := _, after := #[{ on := 9, ground := Ground.data }, { on := 10, ground := Ground.data }], guard := none }) (v := .pointer (some ⟨tb, off + i * 3, none⟩)) rfl (by kernel_rfl) (by kernel_rfl) (by kernel_rfl) (by kernel_rfl) (by kernel_rfl) (fun _ _ _ h => h) (Or.inl ⟨rfl, fun W hW => ?_⟩) hH ?_
  · refine QuietRun.of_run ?_; go_simp
  try simp only [Act.put, List.setIfInBounds_toArray, List.set_cons_zero, List.set_cons_succ]
  refine wpAnyT_take (i := 12) (oi := { dst := some 20, op := Op.fieldAddr 64 (Operand.tmp 19) 1, type := 0, pos := _, after := #[{ on := 11, ground := Ground.data }], guard := none }) (v := .pointer (some ⟨tb, off + i * 3 + 1, none⟩)) rfl (by kernel_rfl) (by kernel_rfl) (by kernel_rfl) (by kernel_rfl) (by kernel_rfl) (fun _ _ _ h => h) (Or.inl ⟨rfl, fun W hW => ?_⟩) hH ?_
  · refine QuietRun.of_run ?_; go_simp
  try simp only [Act.put, List.setIfInBounds_toArray, List.set_cons_zero, List.set_cons_succ]
  refine wpAnyT_take (i := 13) (oi := { dst := some 21, op := Op.load 3 (Operand.tmp 20), type := 3, pos := _, after := #[{ on := 12, ground := Ground.data }], guard := none }) (v := .int .i64 (F : Int)) rfl (by kernel_rfl) (by kernel_rfl) (by kernel_rfl) (by kernel_rfl) (by kernel_rfl) (fun _ _ _ h => h) (Or.inl ⟨rfl, fun W hW => ?_⟩) hH ?_
  · refine QuietRun.of_run ?_; obtain ⟨z0, z1, z2, z3⟩ := hW; go_simp
  try simp only [Act.put, List.setIfInBounds_toArray, List.set_cons_zero, List.set_cons_succ]
  refine wpAnyT_take (i := 14) (oi := { dst := some 22, op := Op.move (Operand.tmp 0), type := 71, pos := _, after := #[], guard := none }) (v := .pointer (some ⟨rb, 0, none⟩)) rfl (by kernel_rfl) (by kernel_rfl) (by kernel_rfl) (by kernel_rfl) (by kernel_rfl) (fun _ _ _ h => h) (Or.inl ⟨rfl, fun W hW => ?_⟩) hH ?_
  · refine QuietRun.of_run ?_; go_simp
  try simp only [Act.put, List.setIfInBounds_toArray, List.set_cons_zero, List.set_cons_succ]
  refine wpAnyT_take (i := 15) (oi := { dst := some 23, op := Op.nilCheck (Operand.tmp 22), type := 0, pos := _, after := #[{ on := 14, ground := Ground.data }], guard := none }) (v := .pointer (some ⟨rb, 0, none⟩)) rfl (by kernel_rfl) (by kernel_rfl) (by kernel_rfl) (by kernel_rfl) (by kernel_rfl) (fun _ _ _ h => h) (Or.inl ⟨rfl, fun W hW => ?_⟩) hH ?_
  · refine QuietRun.of_run ?_; go_simp
  try simp only [Act.put, List.setIfInBounds_toArray, List.set_cons_zero, List.set_cons_succ]
  refine wpAnyT_take (i := 16) (oi := { dst := some 24, op := Op.fieldAddr 56 (Operand.tmp 23) 0, type := 0, pos := _, after := #[{ on := 15, ground := Ground.data }], guard := none }) (v := .pointer (some ⟨rb, 0, none⟩)) rfl (by kernel_rfl) (by kernel_rfl) (by kernel_rfl) (by kernel_rfl) (by kernel_rfl) (fun _ _ _ h => h) (Or.inl ⟨rfl, fun W hW => ?_⟩) hH ?_
  · refine QuietRun.of_run ?_; go_simp
  try simp only [Act.put, List.setIfInBounds_toArray, List.set_cons_zero, List.set_cons_succ]
  refine wpAnyT_take (i := 17) (oi := { dst := some 25, op := Op.load 26 (Operand.tmp 24), type := 26, pos := _, after := #[{ on := 16, ground := Ground.data }], guard := none }) (v := .slice (some ⟨tb, off, none⟩) N tc) rfl (by kernel_rfl) (by kernel_rfl) (by kernel_rfl) (by kernel_rfl) (by kernel_rfl) (fun _ _ _ h => h) (Or.inl ⟨rfl, fun W hW => ?_⟩) hH ?_
  · refine QuietRun.of_run ?_; obtain ⟨z0, z1, z2, z3⟩ := hW; go_simp
  try simp only [Act.put, List.setIfInBounds_toArray, List.set_cons_zero, List.set_cons_succ]
  refine wpAnyT_take (i := 18) (oi := { dst := some 26, op := Op.move (Operand.tmp 3), type := 3, pos := _, after := #[], guard := none }) (v := .int .i64 ((j + 1 : Nat) : Int)) rfl (by kernel_rfl) (by kernel_rfl) (by kernel_rfl) (by kernel_rfl) (by kernel_rfl) (fun _ _ _ h => h) (Or.inl ⟨rfl, fun W hW => ?_⟩) hH ?_
  · refine QuietRun.of_run ?_; go_simp
  try simp only [Act.put, List.setIfInBounds_toArray, List.set_cons_zero, List.set_cons_succ]
  refine wpAnyT_take (i := 19) (oi := { dst := some 27, op := Op.binOp BinOp.sub 3 (Operand.tmp 26) (Operand.const (Value.int IntKind.i64 1)) 3, type := 3, pos := _, after := #[{ on := 18, ground := Ground.data }], guard := none }) (v := .int .i64 (j : Int)) rfl (by kernel_rfl) (by kernel_rfl) (by kernel_rfl) (by kernel_rfl) (by kernel_rfl) (fun _ _ _ h => h) (Or.inl ⟨rfl, fun W hW => ?_⟩) hH ?_
  · refine QuietRun.of_run ?_; go_simp
  try simp only [Act.put, List.setIfInBounds_toArray, List.set_cons_zero, List.set_cons_succ]
  refine wpAnyT_take (i := 20) (oi := { dst := some 28, op := Op.indexAddr 26 (Operand.tmp 25) (Operand.tmp 27), type := 0, pos := _, after := #[{ on := 17, ground := Ground.data }, { on := 19, ground := Ground.data }], guard := none }) (v := .pointer (some ⟨tb, off + j * 3, none⟩)) rfl (by kernel_rfl) (by kernel_rfl) (by kernel_rfl) (by kernel_rfl) (by kernel_rfl) (fun _ _ _ h => h) (Or.inl ⟨rfl, fun W hW => ?_⟩) hH ?_
  · refine QuietRun.of_run ?_; go_simp
  try simp only [Act.put, List.setIfInBounds_toArray, List.set_cons_zero, List.set_cons_succ]
  refine wpAnyT_take (i := 21) (oi := { dst := some 29, op := Op.fieldAddr 64 (Operand.tmp 28) 2, type := 0, pos := _, after := #[{ on := 20, ground := Ground.data }], guard := none }) (v := .pointer (some ⟨tb, off + j * 3 + 2, none⟩)) rfl (by kernel_rfl) (by kernel_rfl) (by kernel_rfl) (by kernel_rfl) (by kernel_rfl) (fun _ _ _ h => h) (Or.inl ⟨rfl, fun W hW => ?_⟩) hH ?_
  · refine QuietRun.of_run ?_; go_simp
  try simp only [Act.put, List.setIfInBounds_toArray, List.set_cons_zero, List.set_cons_succ]
  refine wpAnyT_take (i := 22) (oi := { dst := some 30, op := Op.load 3 (Operand.tmp 29), type := 3, pos := _, after := #[{ on := 21, ground := Ground.data }], guard := none }) (v := .int .i64 (T : Int)) rfl (by kernel_rfl) (by kernel_rfl) (by kernel_rfl) (by kernel_rfl) (by kernel_rfl) (fun _ _ _ h => h) (Or.inl ⟨rfl, fun W hW => ?_⟩) hH ?_
  · refine QuietRun.of_run ?_; obtain ⟨z0, z1, z2, z3⟩ := hW; go_simp
  try simp only [Act.put, List.setIfInBounds_toArray, List.set_cons_zero, List.set_cons_succ]
  refine wpAnyT_take (i := 23) (oi := { dst := some 31, op := Op.build 40 #[(0, Operand.tmp 13), (1, Operand.tmp 21), (2, Operand.tmp 30)], type := 40, pos := _, after := #[{ on := 5, ground := Ground.data }, { on := 13, ground := Ground.data }, { on := 22, ground := Ground.data }], guard := none }) (v := .agg #[.int .i64 (code : Int), .int .i64 (F : Int), .int .i64 (T : Int)]) rfl (by kernel_rfl) (by kernel_rfl) (by kernel_rfl) (by kernel_rfl) (by kernel_rfl) (fun _ _ _ h => h) (Or.inl ⟨rfl, fun W hW => ?_⟩) hH ?_
  · refine QuietRun.of_run ?_; go_simp
  try simp only [Act.put, List.setIfInBounds_toArray, List.set_cons_zero, List.set_cons_succ]
  refine wpAnyT_ready (rs := [24]) (by kernel_rfl) (by simp) ?_
  refine AllReadyT.cons (o := { dst := some 32, op := Op.buildSlice 32 1 #[(0, Operand.tmp 31)], type := 32, pos := _, after := #[{ on := 23, ground := Ground.data }], guard := none }) rfl (fun K hK => ?_) (AllReadyT.nil)
  go_simp
  rw [HWx.out]
  refine hK.out _ _ (fun _ => ⟨xc0, xc2, xx1, xy2⟩) (fun hH2 => ?_)
  clear hK K
  replace hH := hH2 (by kernel_rfl)
  clear hH2
  try simp only [Act.put, List.setIfInBounds_toArray, List.set_cons_zero, List.set_cons_succ]
  refine wpAnyT_ready (rs := [25]) (by kernel_rfl) (by simp) ?_
  refine AllReadyT.cons (o := { dst := some 33, op := Op.call { callee := Callee.builtin Builtin.append, args := #[Operand.tmp 12, Operand.tmp 32], argTypes := #[32, 32] }, type := 32, pos := _, after := #[{ on := 4, ground := Ground.data }, { on := 24, ground := Ground.data }], guard := none }) rfl (fun K hK => ?_) (AllReadyT.nil)
  refine step_append_at tyD rfl (.tmp 12) (.tmp 32) rfl w0.heap.size (.slice da DN dc) s.d rfl HOx.out w.heap.size 1 [(⟨code, F, T⟩ : Fl.Dg)] rfl rfl HNew.out HMx.out HMy.out hws ?_
  intro v6 w6 hown6 hg6 hat6
  obtain ⟨a6, c6, hv6⟩ := (Reads.of_own (E := encD) hown6).shape
  obtain ⟨n6, hn6⟩ : ∃ n6, (s.d ++ [(⟨code, F, T⟩ : Fl.Dg)]).length = n6 := ⟨_, rfl⟩
  rw [hn6] at hv6
  clear hn6
  subst hv6
  have hgf := (gb_below ((below_alloc w (.cells #[.int .i64 code, .int .i64 F, .int .i64 T] 40)).size |> fun _ => (Below.refl _ (w.alloc (.cells #[.int .i64 code, .int .i64 F, .int .i64 T] 40))).drew) (Value.slice da DN dc).ownBlock)
  have hgw : (w.alloc (.cells #[.int .i64 code, .int .i64 F, .int .i64 T] 40)).grownBy w6 (Value.slice da DN dc).ownBlock := hgf.trans (by have := hg6; rw [← HWx.out] at this; exact this)
  have hat7 : (Value.slice a6 n6 c6).ownBlock = (Value.slice da DN dc).ownBlock ∨ (Value.slice a6 n6 c6).ownBlock = some (w.alloc (.cells #[.int .i64 code, .int .i64 F, .int .i64 T] 40)).heap.size := by have := hat6; rw [← HWx.out] at this; exact this
  obtain ⟨hb6, hbox6, hM6, hF6⟩ := HM.out.more hgw hown6 hat7
  have c26 : w6.cell? ⟨rb, 2, none⟩ = some (.slice da DN dc) := (Joins.cell_of_block hbox6 2).trans rfl
  have f26 : w6.frozen? ⟨rb, 2, none⟩ = false := Joins.unfrozen_of_block hbox6 2
  have c06 : w6.cell? ⟨rb, 0, none⟩ = some (.slice (some ⟨tb, off, none⟩) N tc) := (Joins.cell_of_block hbox6 0).trans rfl
  have xx16 : w6.cell? ⟨tb, off + i * 3 + 1, none⟩ = some (.int .i64 (F : Int)) := at_below hb6 x10
  have xy26 : w6.cell? ⟨tb, off + j * 3 + 2, none⟩ = some (.int .i64 (T : Int)) := at_below hb6 y20
  have HD := Lib.hid (HQ.out _ ⟨_, hM6, hF6⟩)
  clear hown6 hg6 hat6 hgf hgw hat7 hbox6 hM6 hF6 hb6
  refine hK.out _ _ (fun _ => ⟨c06, c26, xx16, xy26⟩) (fun hH2 => ?_)
  clear hK K
  replace hH := hH2 (by kernel_rfl)
  clear hH2
  try simp only [Act.put, List.setIfInBounds_toArray, List.set_cons_zero, List.set_cons_succ]
  refine wpAnyT_take0 (i := 26) (oi := { dst := some 34, op := Op.nilCheck (Operand.tmp 8), type := 0, pos := _, after := #[{ on := 0, ground := Ground.data }, { on := 0, ground := Ground.phase }, { on := 1, ground := Ground.phase }, { on := 2, ground := Ground.phase }, { on := 3, ground := Ground.phase }, { on := 4, ground := Ground.phase }, { on := 5, ground := Ground.phase }, { on := 6, ground := Ground.phase }, { on := 7, ground := Ground.phase }, { on := 8, ground := Ground.phase }, { on := 9, ground := Ground.phase }, { on := 10, ground := Ground.phase }, { on := 11, ground := Ground.phase }, { on := 12, ground := Ground.phase }, { on := 13, ground := Ground.phase }, { on := 14, ground := Ground.phase }, { on := 15, ground := Ground.phase }, { on := 16, ground := Ground.phase }, { on := 17, ground := Ground.phase }, { on := 18, ground := Ground.phase }, { on := 19, ground := Ground.phase }, { on := 20, ground := Ground.phase }, { on := 21, ground := Ground.phase }, { on := 22, ground := Ground.phase }, { on := 23, ground := Ground.phase }, { on := 24, ground := Ground.phase }, { on := 25, ground := Ground.phase }], guard := none }) (v := .pointer (some ⟨rb, 0, none⟩)) rfl (by kernel_rfl) (by kernel_rfl) (by kernel_rfl) (by kernel_rfl) (fun _ _ _ h => h) (Or.inl ⟨rfl, fun W hW => ?_⟩) (fun _ => hH) ?_
  · refine QuietRun.of_run ?_; go_simp
  try simp only [Act.put, List.setIfInBounds_toArray, List.set_cons_zero, List.set_cons_succ]
  refine wpAnyT_take (i := 27) (oi := { dst := some 35, op := Op.fieldAddr 56 (Operand.tmp 34) 2, type := 0, pos := _, after := #[{ on := 26, ground := Ground.data }, { on := 0, ground := Ground.phase }, { on := 1, ground := Ground.phase }, { on := 2, ground := Ground.phase }, { on := 3, ground := Ground.phase }, { on := 4, ground := Ground.phase }, { on := 5, ground := Ground.phase }, { on := 6, ground := Ground.phase }, { on := 7, ground := Ground.phase }, { on := 8, ground := Ground.phase }, { on := 9, ground := Ground.phase }, { on := 10, ground := Ground.phase }, { on := 11, ground := Ground.phase }, { on := 12, ground := Ground.phase }, { on := 13, ground := Ground.phase }, { on := 14, ground := Ground.phase }, { on := 15, ground := Ground.phase }, { on := 16, ground := Ground.phase }, { on := 17, ground := Ground.phase }, { on := 18, ground := Ground.phase }, { on := 19, ground := Ground.phase }, { on := 20, ground := Ground.phase }, { on := 21, ground := Ground.phase }, { on := 22, ground := Ground.phase }, { on := 23, ground := Ground.phase }, { on := 24, ground := Ground.phase }, { on := 25, ground := Ground.phase }], guard := none }) (v := .pointer (some ⟨rb, 2, none⟩)) rfl (by kernel_rfl) (by kernel_rfl) (by kernel_rfl) (by kernel_rfl) (by kernel_rfl) (fun _ _ _ h => h) (Or.inl ⟨rfl, fun W hW => ?_⟩) hH ?_
  · refine QuietRun.of_run ?_; go_simp
  try simp only [Act.put, List.setIfInBounds_toArray, List.set_cons_zero, List.set_cons_succ]
  refine wpAnyT_ready (rs := [28]) (by kernel_rfl) (by simp) ?_
  refine AllReadyT.cons (o := { dst := none, op := Op.store 32 (Operand.tmp 35) (Operand.tmp 33), type := 0, pos := _, after := #[{ on := 27, ground := Ground.data }, { on := 25, ground := Ground.data }, { on := 25, ground := Ground.chain }, { on := 0, ground := Ground.phase }, { on := 1, ground := Ground.phase }, { on := 2, ground := Ground.phase }, { on := 3, ground := Ground.phase }, { on := 4, ground := Ground.phase }, { on := 5, ground := Ground.phase }, { on := 6, ground := Ground.phase }, { on := 7, ground := Ground.phase }, { on := 8, ground := Ground.phase }, { on := 9, ground := Ground.phase }, { on := 10, ground := Ground.phase }, { on := 11, ground := Ground.phase }, { on := 12, ground := Ground.phase }, { on := 13, ground := Ground.phase }, { on := 14, ground := Ground.phase }, { on := 15, ground := Ground.phase }, { on := 16, ground := Ground.phase }, { on := 17, ground := Ground.phase }, { on := 18, ground := Ground.phase }, { on := 19, ground := Ground.phase }, { on := 20, ground := Ground.phase }, { on := 21, ground := Ground.phase }, { on := 22, ground := Ground.phase }, { on := 23, ground := Ground.phase }, { on := 24, ground := Ground.phase }, { on := 25, ground := Ground.phase }], guard := none }) rfl (fun K hK => ?_) (AllReadyT.nil)
  go_simp
  refine hK.out _ _ (fun h => absurd (h.symm.trans (show _ = true from by kernel_rfl)) (by decide)) (fun _ => ?_)
  clear hK K
  try simp only [Act.put, List.setIfInBounds_toArray, List.set_cons_zero, List.set_cons_succ]
  refine wpAnyT_done (by kernel_rfl) ?_ _
  -- END R0
  go_wp2_with fail
  go_end0
  exact HD.out
end Go.Proofs.Ytmlpaafclobgcaa

/- Package flow: add. (Its drawn region by tools/gen_fw.py.) -/
namespace Go.Proofs.Ytmlpaafclobgcaa
open Go.RowKit
open Go.Proofs.Ytmlpaafclobgcaa.Sq
open Go.Proofs.Ytmlpaafclobgcaa.Ar
set_option linter.unusedVariables false

set_option maxHeartbeats 8000000 in
set_option maxRecDepth 100000 in
theorem fAdd (w0 w : World) (rb : Nat) (tv : Value) (l : List Tk) (s : Fl.PSt) (R : Nat → Prop) (up : Int) (k f : Nat) (hS : RS w0 w rb tv l s R) (hu1 : -1 ≤ up) (hu2 : up < s.q.length) (hn : s.q.length ≤ 1000000) (hkl : ∀ x ∈ s.q, x.ks.length ≤ 1000000) :
    Calls Try.prog 56 #[RP rb, .int .i64 up, .int .i64 k, .int .i64 f] w (Goes w0 w rb tv l R (.int .i64 s.q.length) ⟨Fl.qPut s.q up k f, s.d⟩) := by
  obtain ⟨nv, dv, L, hM, hL, rfl⟩ := hS
  have hLn : L.length = s.q.length := by rw [← hL, List.length_map]
  have hkL : ∀ p ∈ L, p.nd.ks.length ≤ 1000000 := fun p hp => hkl p.nd (by rw [← hL]; exact List.mem_map_of_mem hp)
  obtain ⟨a, cap, rfl⟩ := (Reads.of_own (E := encN) hM.nodes.row).shape
  obtain ⟨pn, hpn⟩ : ∃ pn : Ln, (⟨⟨k, f, 0, up, [], false⟩, none, 0, 0⟩ : Ln) = pn := ⟨_, rfl⟩
  -- what the nodes are in the end
  have hq0 : up < 0 → (L ++ [pn]).map Ln.nd = Fl.qPut s.q up k f := fun h => by
    unfold Fl.qPut
    rw [if_pos h, List.map_append, hL, ← hpn]; rfl
  have hq1 : ∀ (i : Nat) (p : Ln) (a' : Option Addr) (n' c' : Nat), up = (i : Int) → (L ++ [pn])[i]? = some p → ((L ++ [pn]).set i ⟨{ p.nd with ks := p.nd.ks ++ [(L.length : Int)] }, a', n', c'⟩).map Ln.nd = Fl.qPut s.q up k f := fun i p a' n' c' hi hp => by
    subst hi
    have hil : i < L.length := by omega
    have hp0 : L[i]? = some p := by rw [List.getElem?_append_left hil] at hp; exact hp
    have hx : s.q[i]? = some p.nd := by rw [← hL, List.getElem?_map, hp0]; rfl
    unfold Fl.qPut
    rw [if_neg (by omega), Int.toNat_natCast, hx, List.map_set, List.map_append, hL, ← hpn, ← hLn]; rfl
  have HQ := Lib.hid (fun W (h : ∃ nv' dv' L', RM w0 W rb tv nv' dv' l L' s.d ∧ L'.map Ln.nd = Fl.qPut s.q up k f ∧ FP w W rb (RowOf (.slice a L.length cap) dv L) (RowOf nv' dv' L')) => show Goes w0 w rb tv l (RowOf (.slice a L.length cap) dv L) (.int .i64 s.q.length) ⟨Fl.qPut s.q up k f, s.d⟩ (.returned (.int .i64 s.q.length)) W from by
    obtain ⟨nv', dv', L', h1, h2, h3⟩ := h
    exact ⟨rfl, _, ⟨nv', dv', L', h1, h2, rfl⟩, h3⟩)
  obtain ⟨Q, hQ⟩ : ∃ Q, Goes w0 w rb tv l (RowOf (.slice a L.length cap) dv L) (.int .i64 s.q.length) ⟨Fl.qPut s.q up k f, s.d⟩ = Q := ⟨_, rfl⟩
  rw [hQ] at HQ ⊢
  clear hQ
  rw [← hLn] at HQ hu2 hn
  have hown0 := hM.nodes.row
  have HRow := Lib.hid hown0
  have c1 := hM.cells.2.1
  have HMx := Lib.hid (show L.length + [pn].length ≤ maxLen by simp only [maxLen, List.length_cons, List.length_nil]; omega)
  have HMy := Lib.hid (show (L.length + [pn].length) * 64 ≤ 140737488355328 by simp only [List.length_cons, List.length_nil]; omega)
  have hpc : encN.cells pn = [.int .i64 k, .int .i64 f, .int .i64 0, .int .i64 up, .slice none 0 0, .bool false] := by rw [← hpn]; rfl
  have HPc := Lib.hid hpc
  have HPn := Lib.hid hpn
  have HQ0 := Lib.hid hq0
  have HQ1 := Lib.hid hq1
  have HKL := Lib.hid hkL
  have HM := Lib.hid hM
  have hws : w0.heap.size ≤ (w.alloc (.cells #[.int .i64 k, .int .i64 f, .int .i64 0, .int .i64 up, .slice none 0 0, .bool false] 38)).heap.size := by rw [size_alloc]; have := hM.bel.size; omega
  obtain ⟨N, hN⟩ : ∃ N, L.length = N := ⟨_, rfl⟩
  have HN := Lib.hid hN
  rw [hN] at c1 hu2 hn HRow HM HQ HQ1
  clear hM hL hLn hkl hkL hq0 hq1 hown0 hpc hpn hN
  go_enter Try.func56, Try.ntmps56
  go_upto_region 3 with (at_builtin; go_must (refine append_all_at tyN rfl (.tmp 18) (.tmp 23) rfl w0.heap.size _ L rfl ((by rw [HN.out]; exact HRow.out : w.ownsRow w0.heap.size 38 encN.k (.slice a N cap) L.length (encN.all L)).alloc _) _ [pn] rfl (laid_reads w pn _ 38 HPc.out) HMx.out HMy.out hws ?_; intro v6 w6 hown6 hg6 hat6; obtain ⟨g6, cp6, hv6, hBg6, hfz6, hlc6, hcm6⟩ := own_at hown6 (by simp); rw [show (L ++ [pn]).length = N + 1 from by rw [List.length_append, HN.out]; rfl] at hv6 hlc6; subst hv6; obtain ⟨hb6, hbox6, hM6, hF6⟩ := HM.out.push (p := pn) (by rw [← HPn.out]) (by rw [← HPn.out]) hg6 hown6 hat6; have c16 : w6.cell? ⟨rb, 1, none⟩ = some (.slice a N cap) := (Joins.cell_of_block hbox6 1).trans rfl; have f16 : w6.frozen? ⟨rb, 1, none⟩ = false := Joins.unfrozen_of_block hbox6 1; have HM6 := Lib.hid hM6; have HF6 := Lib.hid hF6; clear hown6 hg6 hat6 hb6 hbox6 hM6 hF6 hBg6 hfz6))
  obtain ⟨w7, hw7⟩ : ∃ w7, w6.setCell ⟨rb, 1, none⟩ (.slice (some ⟨g6, 0, none⟩) (N + 1) cp6) = w7 := ⟨_, rfl⟩
  rw [hw7] at HM6 HF6 ⊢
  have c17 := HM6.out.cells.2.1
  clear hw7 c16 f16 c1 HRow HM hws HMx HMy HPc
  by_cases hu : up < 0
  · obtain rfl : up = -1 := by omega
    have HD := Lib.hid (HQ.out w7 ⟨_, _, _, HM6.out, HQ0.out hu, HF6.out⟩)
    clear HQ0 HQ1 HQ HM6 HF6 HPn
    go_wp2_with fail
    exact HD.out
  · obtain ⟨i, rfl⟩ : ∃ i : Nat, up = (i : Int) := ⟨up.toNat, by omega⟩
    have gne : ((i : Int) != -1) = true := by simp
    have gne2 : ((i : Int) == -1) = false := by simp
    have hi : i < N + 1 := by omega
    have hln6 : (L ++ [pn]).length = N + 1 := by rw [List.length_append, HN.out]; rfl
    obtain ⟨p, hp⟩ : ∃ p, (L ++ [pn])[i]? = some p := ⟨_, List.getElem?_eq_getElem (by rw [hln6]; exact hi)⟩
    have hpks : p.nd.ks.length ≤ 1000000 := by
      have h0 := hp
      rw [List.getElem?_append_left (by rw [HN.out]; omega)] at h0
      exact HKL.out p (List.mem_of_getElem? h0)
    have hkr := HM6.out.nodes.kids i p hp
    obtain ⟨ka, kc, hkv⟩ := (Reads.of_own (E := encI) hkr).shape
    obtain ⟨kn, hkn⟩ : ∃ kn, p.nd.ks.length = kn := ⟨_, rfl⟩
    rw [hkn] at hkv
    have c47 : w7.cell? ⟨g6, i * 6 + 4, none⟩ = some (.slice ka kn kc) := by
      have := HM6.out.nodes.row.cells (g := g6) rfl _ _ ((all_get encN (L ++ [pn]) i p hp 4 (by decide)).trans rfl)
      rw [add_addr, Nat.zero_add] at this
      rw [← hkv]; exact this
    have HKMx := Lib.hid (show p.nd.ks.length + 1 ≤ maxLen by simp only [maxLen]; omega)
    have HKMy := Lib.hid (show (p.nd.ks.length + 1) * 8 ≤ 140737488355328 by omega)
    obtain ⟨wx, hwx⟩ : ∃ wx, (w7.alloc (.cells #[.int .i64 (N : Int)] 3)).drew = wx := ⟨_, rfl⟩
    have hbx : Below w7.heap.size w7 wx := by rw [← hwx]; exact (below_alloc w7 _).drew
    have HKx := Lib.hid (show wx.ownsRow w0.heap.size 3 encI.k (.slice ka kn kc) p.nd.ks.length (encI.all p.nd.ks) by rw [← hkv]; exact own_below hkr hbx)
    have hnewx : ∀ jj c, (encI.all [(N : Int)])[jj]? = some c → wx.cell? ⟨w7.heap.size, jj, none⟩ = some c := by
      intro jj c hj
      rw [← hwx]
      show (w7.alloc _).cell? ⟨w7.heap.size, jj, none⟩ = _
      rw [World.cell?_alloc_mark]
      simpa [Enc.all, encI] using hj
    have HNew := Lib.hid hnewx
    have xc1 := at_below hbx c17
    have xc4 := at_below hbx c47
    have hwsx : w0.heap.size ≤ wx.heap.size := Nat.le_trans HM6.out.bel.size hbx.size
    have HWx := Lib.hid hwx
    have HP := Lib.hid hp
    have HKv := Lib.hid hkv
    have HKn := Lib.hid hkn
    have hgr := (HM6.out.rows (.inl rfl : RowOf (.slice (some ⟨g6, 0, none⟩) (N + 1) cp6) dv (L ++ [pn]) g6))
    have hiI : (i : Int) < (N : Int) + 1 := by omega
    have hiI2 : (i : Int) < ((N + 1 : Nat) : Int) := by omega
    clear hkr hkv hkn hnewx hbx hwx hp hln6 HQ0 HKL
    go_upto_region 4 with fail
    -- GEN R4
    refine wp_region_T (fun wx => wx.cell? ⟨rb, 1, none⟩ = some (.slice (some ⟨g6, 0, none⟩) (N + 1) cp6) ∧ wx.cell? ⟨g6, i * 6 + 4, none⟩ = some (.slice ka kn kc)) 18 (by kernel_rfl) ?_
    have hH : (fun wx : World => wx.cell? ⟨rb, 1, none⟩ = some (.slice (some ⟨g6, 0, none⟩) (N + 1) cp6) ∧ wx.cell? ⟨g6, i * 6 + 4, none⟩ = some (.slice ka kn kc)) w7.drew := ⟨at_drew c17, at_drew c47⟩
    refine wpAnyT_take (i := 0) (oi := { dst := some 29, op := Op.move (Operand.tmp 0), type := 71, pos := _, after := #[], guard := none }) (v := .pointer (some ⟨rb, 0, none⟩)) rfl (by kernel_rfl) (by kernel_rfl) (by kernel_rfl) (by kernel_rfl) (by kernel_rfl) (fun _ _ _ h => h) (Or.inl ⟨rfl, fun W hW => ?_⟩) hH ?_
    · refine QuietRun.of_run ?_; go_simp
    try simp only [Act.put, List.setIfInBounds_toArray, List.set_cons_zero, List.set_cons_succ]
    refine wpAnyT_take (i := 1) (oi := { dst := some 30, op := Op.nilCheck (Operand.tmp 29), type := 0, pos := _, after := #[{ on := 0, ground := Ground.data }], guard := none }) (v := .pointer (some ⟨rb, 0, none⟩)) rfl (by kernel_rfl) (by kernel_rfl) (by kernel_rfl) (by kernel_rfl) (by kernel_rfl) (fun _ _ _ h => h) (Or.inl ⟨rfl, fun W hW => ?_⟩) hH ?_
    · refine QuietRun.of_run ?_; go_simp
    try simp only [Act.put, List.setIfInBounds_toArray, List.set_cons_zero, List.set_cons_succ]
    refine wpAnyT_take (i := 2) (oi := { dst := some 31, op := Op.fieldAddr 56 (Operand.tmp 30) 1, type := 0, pos := _, after := #[{ on := 1, ground := Ground.data }], guard := none }) (v := .pointer (some ⟨rb, 1, none⟩)) rfl (by kernel_rfl) (by kernel_rfl) (by kernel_rfl) (by kernel_rfl) (by kernel_rfl) (fun _ _ _ h => h) (Or.inl ⟨rfl, fun W hW => ?_⟩) hH ?_
    · refine QuietRun.of_run ?_; go_simp
    try simp only [Act.put, List.setIfInBounds_toArray, List.set_cons_zero, List.set_cons_succ]
    refine wpAnyT_take (i := 3) (oi := { dst := some 32, op := Op.load 29 (Operand.tmp 31), type := 29, pos := _, after := #[{ on := 2, ground := Ground.data }], guard := none }) (v := .slice (some ⟨g6, 0, none⟩) (N + 1) cp6) rfl (by kernel_rfl) (by kernel_rfl) (by kernel_rfl) (by kernel_rfl) (by kernel_rfl) (fun _ _ _ h => h) (Or.inl ⟨rfl, fun W hW => ?_⟩) hH ?_
    · refine QuietRun.of_run ?_; obtain ⟨z0, z1⟩ := hW; go_simp
    try simp only [Act.put, List.setIfInBounds_toArray, List.set_cons_zero, List.set_cons_succ]
    refine wpAnyT_take (i := 4) (oi := { dst := some 33, op := Op.move (Operand.tmp 1), type := 3, pos := _, after := #[], guard := none }) (v := .int .i64 (i : Int)) rfl (by kernel_rfl) (by kernel_rfl) (by kernel_rfl) (by kernel_rfl) (by kernel_rfl) (fun _ _ _ h => h) (Or.inl ⟨rfl, fun W hW => ?_⟩) hH ?_
    · refine QuietRun.of_run ?_; go_simp
    try simp only [Act.put, List.setIfInBounds_toArray, List.set_cons_zero, List.set_cons_succ]
    refine wpAnyT_take (i := 5) (oi := { dst := some 34, op := Op.move (Operand.tmp 0), type := 71, pos := _, after := #[], guard := none }) (v := .pointer (some ⟨rb, 0, none⟩)) rfl (by kernel_rfl) (by kernel_rfl) (by kernel_rfl) (by kernel_rfl) (by kernel_rfl) (fun _ _ _ h => h) (Or.inl ⟨rfl, fun W hW => ?_⟩) hH ?_
    · refine QuietRun.of_run ?_; go_simp
    try simp only [Act.put, List.setIfInBounds_toArray, List.set_cons_zero, List.set_cons_succ]
    refine wpAnyT_take (i := 6) (oi := { dst := some 35, op := Op.nilCheck (Operand.tmp 34), type := 0, pos := _, after := #[{ on := 5, ground := Ground.data }], guard := none }) (v := .pointer (some ⟨rb, 0, none⟩)) rfl (by kernel_rfl) (by kernel_rfl) (by kernel_rfl) (by kernel_rfl) (by kernel_rfl) (fun _ _ _ h => h) (Or.inl ⟨rfl, fun W hW => ?_⟩) hH ?_
    · refine QuietRun.of_run ?_; go_simp
    try simp only [Act.put, List.setIfInBounds_toArray, List.set_cons_zero, List.set_cons_succ]
    refine wpAnyT_take (i := 7) (oi := { dst := some 36, op := Op.fieldAddr 56 (Operand.tmp 35) 1, type := 0, pos := _, after := #[{ on := 6, ground := Ground.data }], guard := none }) (v := .pointer (some ⟨rb, 1, none⟩)) rfl (by kernel_rfl) (by kernel_rfl) (by kernel_rfl) (by kernel_rfl) (by kernel_rfl) (fun _ _ _ h => h) (Or.inl ⟨rfl, fun W hW => ?_⟩) hH ?_
    · refine QuietRun.of_run ?_; go_simp
    try simp only [Act.put, List.setIfInBounds_toArray, List.set_cons_zero, List.set_cons_succ]
    refine wpAnyT_take (i := 8) (oi := { dst := some 37, op := Op.load 29 (Operand.tmp 36), type := 29, pos := _, after := #[{ on := 7, ground := Ground.data }], guard := none }) (v := .slice (some ⟨g6, 0, none⟩) (N + 1) cp6) rfl (by kernel_rfl) (by kernel_rfl) (by kernel_rfl) (by kernel_rfl) (by kernel_rfl) (fun _ _ _ h => h) (Or.inl ⟨rfl, fun W hW => ?_⟩) hH ?_
    · refine QuietRun.of_run ?_; obtain ⟨z0, z1⟩ := hW; go_simp
    try simp only [Act.put, List.setIfInBounds_toArray, List.set_cons_zero, List.set_cons_succ]
    refine wpAnyT_take (i := 9) (oi := { dst := some 38, op := Op.move (Operand.tmp 1), type := 3, pos := _, after := #[], guard := none }) (v := .int .i64 (i : Int)) rfl (by kernel_rfl) (by kernel_rfl) (by kernel_rfl) (by kernel_rfl) (by kernel_rfl) (fun _ _ _ h => h) (Or.inl ⟨rfl, fun W hW => ?_⟩) hH ?_
    · refine QuietRun.of_run ?_; go_simp
    try simp only [Act.put, List.setIfInBounds_toArray, List.set_cons_zero, List.set_cons_succ]
    refine wpAnyT_take (i := 10) (oi := { dst := some 39, op := Op.indexAddr 29 (Operand.tmp 37) (Operand.tmp 38), type := 0, pos := _, after := #[{ on := 8, ground := Ground.data }, { on := 9, ground := Ground.data }], guard := none }) (v := .pointer (some ⟨g6, i * 6, none⟩)) rfl (by kernel_rfl) (by kernel_rfl) (by kernel_rfl) (by kernel_rfl) (by kernel_rfl) (fun _ _ _ h => h) (Or.inl ⟨rfl, fun W hW => ?_⟩) hH ?_
    · refine QuietRun.of_run ?_; go_simp
    try simp only [Act.put, List.setIfInBounds_toArray, List.set_cons_zero, List.set_cons_succ]
    refine wpAnyT_take (i := 11) (oi := { dst := some 40, op := Op.fieldAddr 38 (Operand.tmp 39) 4, type := 0, pos := _, after := #[{ on := 10, ground := Ground.data }], guard := none }) (v := .pointer (some ⟨g6, i * 6 + 4, none⟩)) rfl (by kernel_rfl) (by kernel_rfl) (by kernel_rfl) (by kernel_rfl) (by kernel_rfl) (fun _ _ _ h => h) (Or.inl ⟨rfl, fun W hW => ?_⟩) hH ?_
    · refine QuietRun.of_run ?_; go_simp
    try simp only [Act.put, List.setIfInBounds_toArray, List.set_cons_zero, List.set_cons_succ]
    refine wpAnyT_take (i := 12) (oi := { dst := some 41, op := Op.load 22 (Operand.tmp 40), type := 22, pos := _, after := #[{ on := 11, ground := Ground.data }], guard := none }) (v := .slice ka kn kc) rfl (by kernel_rfl) (by kernel_rfl) (by kernel_rfl) (by kernel_rfl) (by kernel_rfl) (fun _ _ _ h => h) (Or.inl ⟨rfl, fun W hW => ?_⟩) hH ?_
    · refine QuietRun.of_run ?_; obtain ⟨z0, z1⟩ := hW; go_simp
    try simp only [Act.put, List.setIfInBounds_toArray, List.set_cons_zero, List.set_cons_succ]
    refine wpAnyT_take (i := 13) (oi := { dst := some 42, op := Op.move (Operand.tmp 8), type := 3, pos := _, after := #[], guard := none }) (v := .int .i64 (N : Int)) rfl (by kernel_rfl) (by kernel_rfl) (by kernel_rfl) (by kernel_rfl) (by kernel_rfl) (fun _ _ _ h => h) (Or.inl ⟨rfl, fun W hW => ?_⟩) hH ?_
    · refine QuietRun.of_run ?_; go_simp
    try simp only [Act.put, List.setIfInBounds_toArray, List.set_cons_zero, List.set_cons_succ]
    refine wpAnyT_ready (rs := [14]) (by kernel_rfl) (by simp) ?_
    refine AllReadyT.cons (o := { dst := some 43, op := Op.buildSlice 22 1 #[(0, Operand.tmp 42)], type := 22, pos := _, after := #[{ on := 13, ground := Ground.data }], guard := none }) rfl (fun K hK => ?_) (AllReadyT.nil)
    go_simp
    rw [HWx.out]
    refine hK.out _ _ (fun _ => ⟨xc1, xc4⟩) (fun hH2 => ?_)
    clear hK K
    replace hH := hH2 (by kernel_rfl)
    clear hH2
    try simp only [Act.put, List.setIfInBounds_toArray, List.set_cons_zero, List.set_cons_succ]
    refine wpAnyT_ready (rs := [15]) (by kernel_rfl) (by simp) ?_
    refine AllReadyT.cons (o := { dst := some 44, op := Op.call { callee := Callee.builtin Builtin.append, args := #[Operand.tmp 41, Operand.tmp 43], argTypes := #[22, 22] }, type := 22, pos := _, after := #[{ on := 12, ground := Ground.data }, { on := 14, ground := Ground.data }], guard := none }) rfl (fun K hK => ?_) (AllReadyT.nil)
    refine step_append_at tyI rfl (.tmp 41) (.tmp 43) rfl w0.heap.size (.slice ka kn kc) p.nd.ks rfl HKx.out w7.heap.size 1 [(N : Int)] rfl rfl HNew.out HKMx.out HKMy.out hwsx ?_
    intro v8 w8 hown8 hg8 hat8
    obtain ⟨a8, c8, hv8⟩ := (Reads.of_own (E := encI) hown8).shape
    obtain ⟨n8, hn8⟩ : ∃ n8, (p.nd.ks ++ [(N : Int)]).length = n8 := ⟨_, rfl⟩
    rw [hn8] at hv8
    clear hn8
    subst hv8
    have hgw : (w7.alloc (.cells #[.int .i64 (N : Int)] 3)).grownBy w8 p.val.ownBlock := (gb_below (Below.refl _ (w7.alloc (.cells #[.int .i64 (N : Int)] 3))).drew p.val.ownBlock).trans (by rw [HKv.out]; have := hg8; rw [← HWx.out] at this; exact this)
    have hat9 : (Value.slice a8 n8 c8).ownBlock = p.val.ownBlock ∨ (Value.slice a8 n8 c8).ownBlock = some (w7.alloc (.cells #[.int .i64 (N : Int)] 3)).heap.size := by rw [HKv.out]; have := hat8; rw [← HWx.out] at this; exact this
    obtain ⟨hr8, hgb8, hM8, hF8⟩ := HM6.out.kid HP.out (N : Int) hgw hown8 hat9
    have c18 : w8.cell? ⟨rb, 1, none⟩ = some (.slice (some ⟨g6, 0, none⟩) (N + 1) cp6) := (Joins.cell_of_block (hr8.trans HM6.out.box) 1).trans rfl
    have hrow8 := own_same HM6.out.nodes.row (w' := w8) (fun g hg => by have e : g6 = g := Option.some.inj hg; rw [← e]; exact hgb8)
    have c48 : w8.cell? ⟨g6, i * 6 + 4, none⟩ = some (.slice ka kn kc) := by have h5 := hrow8.cells (g := g6) rfl _ _ ((all_get encN (L ++ [pn]) i p HP.out 4 (by decide)).trans rfl); rw [add_addr, Nat.zero_add] at h5; rw [← HKv.out]; exact h5
    obtain ⟨gx, cpx, hvx, -, hfx, -, -⟩ := own_at (E := encN) hrow8 (by rw [List.length_append, HN.out]; simp)
    have ex := (Value.slice.inj hvx).1
    injection ex with ex
    injection ex with ex
    have f48 : w8.frozen? ⟨g6, i * 6 + 4, none⟩ = false := by rw [ex]; exact hfx _
    have HD := Lib.hid (HQ.out _ ⟨_, _, _, hM8, HQ1.out i p a8 n8 c8 rfl HP.out, HF6.out.trans hF8⟩)
    clear hown8 hg8 hat8 hgw hat9 hr8 hgb8 hM8 hF8 hrow8 hvx hfx ex
    refine hK.out _ _ (fun _ => ⟨c18, c48⟩) (fun hH2 => ?_)
    clear hK K
    replace hH := hH2 (by kernel_rfl)
    clear hH2
    try simp only [Act.put, List.setIfInBounds_toArray, List.set_cons_zero, List.set_cons_succ]
    refine wpAnyT_take0 (i := 16) (oi := { dst := some 45, op := Op.indexAddr 29 (Operand.tmp 32) (Operand.tmp 33), type := 0, pos := _, after := #[{ on := 3, ground := Ground.data }, { on := 4, ground := Ground.data }, { on := 0, ground := Ground.phase }, { on := 1, ground := Ground.phase }, { on := 2, ground := Ground.phase }, { on := 3, ground := Ground.phase }, { on := 4, ground := Ground.phase }, { on := 5, ground := Ground.phase }, { on := 6, ground := Ground.phase }, { on := 7, ground := Ground.phase }, { on := 8, ground := Ground.phase }, { on := 9, ground := Ground.phase }, { on := 10, ground := Ground.phase }, { on := 11, ground := Ground.phase }, { on := 12, ground := Ground.phase }, { on := 13, ground := Ground.phase }, { on := 14, ground := Ground.phase }, { on := 15, ground := Ground.phase }], guard := none }) (v := .pointer (some ⟨g6, i * 6, none⟩)) rfl (by kernel_rfl) (by kernel_rfl) (by kernel_rfl) (by kernel_rfl) (fun _ _ _ h => h) (Or.inl ⟨rfl, fun W hW => ?_⟩) (fun _ => hH) ?_
    · refine QuietRun.of_run ?_; go_simp
    try simp only [Act.put, List.setIfInBounds_toArray, List.set_cons_zero, List.set_cons_succ]
    refine wpAnyT_take (i := 17) (oi := { dst := some 46, op := Op.fieldAddr 38 (Operand.tmp 45) 4, type := 0, pos := _, after := #[{ on := 16, ground := Ground.data }, { on := 0, ground := Ground.phase }, { on := 1, ground := Ground.phase }, { on := 2, ground := Ground.phase }, { on := 3, ground := Ground.phase }, { on := 4, ground := Ground.phase }, { on := 5, ground := Ground.phase }, { on := 6, ground := Ground.phase }, { on := 7, ground := Ground.phase }, { on := 8, ground := Ground.phase }, { on := 9, ground := Ground.phase }, { on := 10, ground := Ground.phase }, { on := 11, ground := Ground.phase }, { on := 12, ground := Ground.phase }, { on := 13, ground := Ground.phase }, { on := 14, ground := Ground.phase }, { on := 15, ground := Ground.phase }], guard := none }) (v := .pointer (some ⟨g6, i * 6 + 4, none⟩)) rfl (by kernel_rfl) (by kernel_rfl) (by kernel_rfl) (by kernel_rfl) (by kernel_rfl) (fun _ _ _ h => h) (Or.inl ⟨rfl, fun W hW => ?_⟩) hH ?_
    · refine QuietRun.of_run ?_; go_simp
    try simp only [Act.put, List.setIfInBounds_toArray, List.set_cons_zero, List.set_cons_succ]
    refine wpAnyT_ready (rs := [18]) (by kernel_rfl) (by simp) ?_
    refine AllReadyT.cons (o := { dst := none, op := Op.store 22 (Operand.tmp 46) (Operand.tmp 44), type := 0, pos := _, after := #[{ on := 17, ground := Ground.data }, { on := 15, ground := Ground.data }, { on := 15, ground := Ground.chain }, { on := 0, ground := Ground.phase }, { on := 1, ground := Ground.phase }, { on := 2, ground := Ground.phase }, { on := 3, ground := Ground.phase }, { on := 4, ground := Ground.phase }, { on := 5, ground := Ground.phase }, { on := 6, ground := Ground.phase }, { on := 7, ground := Ground.phase }, { on := 8, ground := Ground.phase }, { on := 9, ground := Ground.phase }, { on := 10, ground := Ground.phase }, { on := 11, ground := Ground.phase }, { on := 12, ground := Ground.phase }, { on := 13, ground := Ground.phase }, { on := 14, ground := Ground.phase }, { on := 15, ground := Ground.phase }], guard := none }) rfl (fun K hK => ?_) (AllReadyT.nil)
    go_simp
    refine hK.out _ _ (fun h => absurd (h.symm.trans (show _ = true from by kernel_rfl)) (by decide)) (fun _ => ?_)
    clear hK K
    try simp only [Act.put, List.setIfInBounds_toArray, List.set_cons_zero, List.set_cons_succ]
    refine wpAnyT_done (by kernel_rfl) ?_ _
    -- END R4
    go_wp2_with fail
    exact HD.out
end Go.Proofs.Ytmlpaafclobgcaa
