/- Package flow: a value's nodes are turned to the tree's numbers, and put behind its own (no function of the program's). -/
import Derived.Test.YtmlpaafclobgcaaPfo
import Derived.Test.YtmlpaafclobgcaaMgJ
import Derived.Test.YtmlpaafclobgcaaMgL
namespace Go.Proofs.Ytmlpaafclobgcaa
open Go.RowKit
open Go.Proofs.Ytmlpaafclobgcaa.Sq
open Go.Proofs.Ytmlpaafclobgcaa.Ar
set_option linter.unusedVariables false

/-- A row's beginning, as a row of the call's own. -/
theorem own_prefix {α : Type} {E : Enc α} {w : World} {B e g N cap : Nat} {L : List α} (h : w.ownsRow B e E.k (.slice (some ⟨g, 0, none⟩) N cap) L.length (E.all L)) {n : Nat} (hn : n ≤ L.length) :
    w.ownsRow B e E.k (.slice (some ⟨g, 0, none⟩) n cap) (L.take n).length (E.all (L.take n)) := by
  obtain ⟨h1, h2⟩ := h
  have hlt : (L.take n).length = n := by rw [List.length_take]; omega
  rcases h2 with ⟨h2, _⟩ | ⟨g', cap', cur, hv, hg, hh, hN, hcp, hcs, ht⟩
  · cases h2
  · obtain ⟨e1, e2, e3⟩ := Value.slice.inj hv
    injection e1 with e1
    injection e1 with e1
    subst e1 e3
    refine ⟨all_len E _, .inr ⟨g, cap, cur, by rw [hlt], hg, hh, by rw [hlt]; omega, hcp, hcs, ?_⟩⟩
    rw [hlt, ← all_take E L n, ← ht, List.take_take]
    congr 1
    have := Nat.mul_le_mul_right E.k hn
    omega
section
variable {w w' : World} {B : Nat} {v : Value} {L : List Ln}
/-- A kid's number is stored. -/
theorem OT.setKid {kg kn kc : Nat} (h : OT w B v L) (i j : Nat) (p : Ln) (hp : L[i]? = some p) (hv : p.val = .slice (some ⟨kg, 0, none⟩) kn kc) (z z' : Int) (hz : p.nd.ks[j]? = some z) :
    OT (w.setCell ⟨kg, j, none⟩ (.int .i64 z')) B v (L.set i { p with nd := { p.nd with ks := p.nd.ks.set j z' } }) := by
  have hpk := h.kids i p hp
  rw [hv] at hpk
  have hset := own_set (E := encI) hpk j 0 z z' (.int .i64 z') hz rfl (by decide)
  have hj0 : j * encI.k + 0 = j := by show j * 1 + 0 = j; omega
  rw [hj0] at hset
  have hall : encN.all (L.set i { p with nd := { p.nd with ks := p.nd.ks.set j z' } }) = encN.all L := by
    have gen : ∀ (L : List Ln) (i : Nat), L[i]? = some p → encN.all (L.set i { p with nd := { p.nd with ks := p.nd.ks.set j z' } }) = encN.all L := by
      intro L
      induction L with
      | nil => intro i h; simp at h
      | cons q r ih =>
        intro i h
        cases i with
        | zero =>
          obtain rfl : q = p := by simpa using h
          rfl
        | succ i =>
          show encN.all (q :: r.set i _) = _
          rw [Enc.all, Enc.all, ih i (by simpa using h)]
    exact gen L i hp
  refine ⟨?_, fun a q hq => ?_, fun a b q r hab hq hr g hg => ?_⟩
  · rw [hall, List.length_set]
    exact ownsRow_setCell_other h.row (fun e => own_types hpk h.row (by decide) kg rfl e) _
  · rw [List.getElem?_set] at hq
    split at hq
    · split at hq
      · injection hq with hq
        subst hq
        show World.ownsRow _ _ _ _ p.val (p.nd.ks.set j z').length (encI.all (p.nd.ks.set j z'))
        rw [hv]
        exact hset
      · cases hq
    · rename_i hne
      exact ownsRow_setCell_other (h.kids a q hq) (fun e => h.apart a i q p (fun e => hne e.symm) hq hp kg e (by rw [hv]; rfl)) _
  · have key : ∀ (a : Nat) (q : Ln), (L.set i { p with nd := { p.nd with ks := p.nd.ks.set j z' } })[a]? = some q → ∃ q', L[a]? = some q' ∧ q.val = q'.val := by
      intro a q hq
      rw [List.getElem?_set] at hq
      split at hq
      · rename_i e
        split at hq
        · injection hq with hq
          subst hq
          exact ⟨p, e ▸ hp, rfl⟩
        · cases hq
      · exact ⟨q, hq, rfl⟩
    obtain ⟨q', h1, h2⟩ := key a q hq
    obtain ⟨r', h3, h4⟩ := key b r hr
    rw [h2] at hg
    rw [h4]
    exact h.apart a b q' r' hab h1 h3 g hg
/-- How nodes are turned: the first i of them wholly. -/
def turnP (at' : Int) (p : Ln) : Ln := { p with nd := { p.nd with u := p.nd.u + at', ks := p.nd.ks.map (· + at') } }
def turnN (at' : Int) (i : Nat) (L : List Ln) : List Ln := L.mapIdx (fun k p => if k < i then turnP at' p else p)
theorem turn_len (at' : Int) (i : Nat) (L : List Ln) : (turnN at' i L).length = L.length := by simp [turnN]
theorem turn_at (at' : Int) (i : Nat) (L : List Ln) (k : Nat) (p : Ln) (h : L[k]? = some p) : (turnN at' i L)[k]? = some (if k < i then turnP at' p else p) := by
  unfold turnN; rw [List.getElem?_mapIdx, h]; rfl
theorem turn_zero (at' : Int) (L : List Ln) : turnN at' 0 L = L := by
  refine List.ext_getElem? (fun k => ?_)
  unfold turnN
  rw [List.getElem?_mapIdx]
  cases h : L[k]? with
  | none => rfl
  | some p => simp
theorem turn_next (at' : Int) (i : Nat) (L : List Ln) (p : Ln) (h : L[i]? = some p) : (turnN at' i L).set i (turnP at' p) = turnN at' (i + 1) L := by
  have hi := (List.getElem?_eq_some_iff.1 h).1
  refine List.ext_getElem? (fun k => ?_)
  by_cases e : k = i
  · subst e
    rw [List.getElem?_set_self (by rw [turn_len]; exact hi), turn_at _ _ _ _ _ h, if_pos (by omega)]
  · rw [List.getElem?_set_ne (fun h => e h.symm)]
    cases hk : L[k]? with
    | none =>
      rw [List.getElem?_eq_none (by rw [turn_len]; exact List.getElem?_eq_none_iff.1 hk), List.getElem?_eq_none (by rw [turn_len]; exact List.getElem?_eq_none_iff.1 hk)]
    | some q =>
      rw [turn_at _ _ _ _ _ hk, turn_at _ _ _ _ _ hk]
      by_cases h2 : k < i
      · rw [if_pos h2, if_pos (by omega)]
      · rw [if_neg h2, if_neg (by omega)]
/-- In the middle of a node: its up turned, and its first j kids. -/
def midP (at' : Int) (j : Nat) (p : Ln) : Ln := { p with nd := { p.nd with u := p.nd.u + at', ks := (p.nd.ks.take j).map (· + at') ++ p.nd.ks.drop j } }
theorem mid_zero (at' : Int) (p : Ln) : midP at' 0 p = { p with nd := { p.nd with u := p.nd.u + at' } } := by unfold midP; simp
theorem mid_all (at' : Int) (p : Ln) : midP at' p.nd.ks.length p = turnP at' p := by unfold midP turnP; simp
theorem mid_next (at' : Int) (j : Nat) (p : Ln) (z : Int) (h : p.nd.ks[j]? = some z) : { midP at' j p with nd := { (midP at' j p).nd with ks := (midP at' j p).nd.ks.set j (z + at') } } = midP at' (j + 1) p := by
  have hj := (List.getElem?_eq_some_iff.1 h).1
  have e : (((p.nd.ks.take j).map (· + at') ++ p.nd.ks.drop j).set j (z + at')) = (p.nd.ks.take (j + 1)).map (· + at') ++ p.nd.ks.drop (j + 1) := by
    have hl : ((p.nd.ks.take j).map (· + at')).length = j := by rw [List.length_map, List.length_take]; omega
    rw [List.set_append_right _ _ (by omega), hl, Nat.sub_self, List.drop_eq_getElem_cons hj, List.set_cons_zero, List.take_add_one, h]
    simp
  unfold midP
  dsimp only
  rw [e]
theorem mid_get (at' : Int) (j : Nat) (p : Ln) (z : Int) (h : p.nd.ks[j]? = some z) : (midP at' j p).nd.ks[j]? = some z := by
  have hj := (List.getElem?_eq_some_iff.1 h).1
  have hl : ((p.nd.ks.take j).map (· + at')).length = j := by rw [List.length_map, List.length_take]; omega
  unfold midP
  dsimp only
  rw [List.getElem?_append_right (by omega), hl, Nat.sub_self, List.getElem?_drop, Nat.add_zero, h]
theorem mid_len (at' : Int) (j : Nat) (p : Ln) : (midP at' j p).nd.ks.length = p.nd.ks.length := by
  unfold midP
  dsimp only
  rw [List.length_append, List.length_map, List.length_take, List.length_drop]; omega
/-- All turned, the first one put into up: as they stand in the tree. -/
theorem turn_shift (up : Int) (B : Nat) (L : List Ln) (p : Ln) (h : L[0]? = some p) : ((turnN (B : Int) L.length L).set 0 { turnP (B : Int) p with nd := { (turnP (B : Int) p).nd with u := up } }).map Ln.nd = Fl.shift up B (L.map Ln.nd) := by
  have h0 := (List.getElem?_eq_some_iff.1 h).1
  refine List.ext_getElem? (fun k => ?_)
  rw [List.getElem?_map]
  by_cases e : k = 0
  · subst e
    rw [List.getElem?_set_self (by rw [turn_len]; exact h0)]
    have hx : (L.map Ln.nd)[0]? = some p.nd := by rw [List.getElem?_map, h]; rfl
    rw [Fl.shift_at _ _ _ _ _ hx, if_pos rfl]
    rfl
  · rw [List.getElem?_set_ne (fun h => e h.symm)]
    cases hk : L[k]? with
    | none =>
      have h1 := List.getElem?_eq_none_iff.1 hk
      rw [List.getElem?_eq_none (by rw [turn_len]; exact h1), List.getElem?_eq_none (by rw [Fl.shift_len, List.length_map]; exact h1)]; rfl
    | some q =>
      have hlt := (List.getElem?_eq_some_iff.1 hk).1
      have hx : (L.map Ln.nd)[k]? = some q.nd := by rw [List.getElem?_map, hk]; rfl
      rw [turn_at _ _ _ _ _ hk, if_pos hlt, Fl.shift_at _ _ _ _ _ hx, if_neg e]
      rfl
theorem PT.low (h : PT w B v L) (hk : ∀ g, B ≤ g → w'.heap[g]? = w.heap[g]?) : PT w' B v L := by
  refine ⟨own_same h.row (fun g hg => hk g (h.row.lt g hg).1), fun p hp => ?_⟩
  obtain ⟨h1, h2⟩ := h.kids p hp
  refine ⟨reads_of h1 (fun ad had o x hx _ _ => ?_), fun ad had => ⟨(h2 ad had).1, ?_⟩⟩
  · rw [World.cell?_of_block (a := ⟨ad.block, o, none⟩) (hk _ (h2 ad had).1)]; exact hx
  · obtain ⟨cs, fr, h3⟩ := (h2 ad had).2
    exact ⟨cs, fr, (hk _ (h2 ad had).1).trans h3⟩
theorem OT.box (h : OT w B v L) {g : Nat} {C : Array Value} {t : TypeId} {fr : Nat × Nat} (hh : w.heap[g]? = some (.cells C t fr)) (ht : 3 ≠ t) (ht2 : 38 ≠ t) (o : Nat) (u : Value) : OT (w.setCell ⟨g, o, none⟩ u) B v L := by
  have st : ∀ k, k ≠ g → (w.setCell ⟨g, o, none⟩ u).heap[k]? = w.heap[k]? := fun k hk => Below.heap_setCell _ _ _ _ hk
  exact ⟨own_same h.row (fun k hk => st k (fun e => row_off_box h.row hh ht2 (e ▸ hk))), fun i p hp => own_same (h.kids i p hp) (fun k hk => st k (fun e => row_off_box (h.kids i p hp) hh ht (e ▸ hk))), h.apart⟩
/-- Nodes of the tree, and behind them the value's. -/
theorem nodes_join {w9 : World} {Bp : Nat} {U : Value} {Lp L' : List Ln} {M : Nat} {v9 : Value} (hP : PT w Bp U Lp) (hO : OT w B v L') (hrow : w9.ownsRow Bp 38 6 v9 (Lp.take M ++ L').length (encN.all (Lp.take M ++ L'))) (hg : w.grownBy w9 U.ownBlock) : Nodes w9 v9 ((Lp.take M ++ L').map Ln.nd) := by
  refine ⟨_, rfl, Reads.of_own (E := encN) hrow, fun p hp => ?_⟩
  rw [List.mem_append] at hp
  rcases hp with hp | hp
  · exact ((hP.kids p (List.mem_of_mem_take hp)).keep (keepI_grown hP.row hg)).reads
  · obtain ⟨i, hi⟩ := List.getElem?_of_mem hp
    exact Reads.of_own (E := encI) ((hO.kids i p hi).kept hg (off_row (own_types hP.row (hO.kids i p hi) (by decide))))
end
/-- While the value's nodes are turned: they, the tree that was answered, its variable. -/
structure PL (w wr : World) (NR : Nat → Prop) (B Bp Br g gu M N cap uc : Nat) (LL Lp : List Ln) : Prop where
  ot : OT wr B (.slice (some ⟨g, 0, none⟩) N cap) LL
  pt : PT wr Bp (.slice (some ⟨gu, 0, none⟩) (M + 1) uc) Lp
  box : wr.heap[Br]? = some (.cells #[.slice (some ⟨gu, 0, none⟩) (M + 1) uc] 31 (0, 0))
  bel : Below B w wr
  keep : ∀ k, k < w.heap.size → ¬ NR k → wr.heap[k]? = w.heap[k]?
section
variable {w wr : World} {NR : Nat → Prop} {B Bp Br g gu M N cap uc : Nat} {LL Lp : List Ln}
theorem PL.setU (h : PL w wr NR B Bp Br g gu M N cap uc LL Lp) (i : Nat) (p : Ln) (hp : LL[i]? = some p) (u : Int) (hg : g < Bp) (hn : NR g) : PL w (wr.setCell ⟨g, i * 6 + 3, none⟩ (.int .i64 u)) NR B Bp Br g gu M N cap uc (LL.set i { p with nd := { p.nd with u := u } }) Lp := by
  have hne : Br ≠ g := fun e => row_off_box h.ot.row h.box (by decide) (by rw [e]; rfl)
  exact ⟨h.ot.set i 3 p { p.nd with u := u } _ hp rfl rfl (by decide), h.pt.low (fun k hk => Below.heap_setCell _ _ _ _ (fun e => by have e : k = g := e; omega)), (Below.heap_setCell _ _ _ _ hne).trans h.box, h.bel.setCell (p := ⟨g, i * 6 + 3, none⟩) (h.ot.row.lt g rfl).1 _, fun k hk hr => (Below.heap_setCell _ _ _ _ (fun e => hr (by have e : k = g := e; rw [e]; exact hn))).trans (h.keep k hk hr)⟩
theorem PL.setK (h : PL w wr NR B Bp Br g gu M N cap uc LL Lp) (i j kg kn kc : Nat) (p : Ln) (hp : LL[i]? = some p) (hv : p.val = .slice (some ⟨kg, 0, none⟩) kn kc) (z z' : Int) (hz : p.nd.ks[j]? = some z) (hg : kg < Bp) (hn : NR kg) : PL w (wr.setCell ⟨kg, j, none⟩ (.int .i64 z')) NR B Bp Br g gu M N cap uc (LL.set i { p with nd := { p.nd with ks := p.nd.ks.set j z' } }) Lp := by
  have hpk := h.ot.kids i p hp
  have hne : Br ≠ kg := fun e => row_off_box hpk h.box (by decide) (by rw [hv, e]; rfl)
  exact ⟨h.ot.setKid i j p hp hv z z' hz, h.pt.low (fun k hk => Below.heap_setCell _ _ _ _ (fun e => by have e : k = kg := e; omega)), (Below.heap_setCell _ _ _ _ hne).trans h.box, h.bel.setCell (p := ⟨kg, j, none⟩) (hpk.lt kg (by rw [hv]; rfl)).1 _, fun k hk hr => (Below.heap_setCell _ _ _ _ (fun e => hr (by have e : k = kg := e; rw [e]; exact hn))).trans (h.keep k hk hr)⟩
theorem PL.cell (h : PL w wr NR B Bp Br g gu M N cap uc LL Lp) (i : Nat) (p : Ln) (hp : LL[i]? = some p) (k : Nat) (u : Value) (hu : (nCells p)[k]? = some u) : wr.cell? ⟨g, i * 6 + k, none⟩ = some u := by
  have hk6 : k < 6 := (List.getElem?_eq_some_iff.1 hu).1
  have := h.ot.row.cells (g := g) rfl _ _ ((all_get encN LL i p hp k hk6).trans hu)
  rw [add_addr, Nat.zero_add] at this
  exact this
theorem PL.free (h : PL w wr NR B Bp Br g gu M N cap uc LL Lp) (h0 : 0 < LL.length) (o : Nat) : wr.frozen? ⟨g, o, none⟩ = false := by
  obtain ⟨g', c', hv, _, hf, _⟩ := own_at h.ot.row h0
  have e := (Value.slice.inj hv).1
  injection e with e
  injection e with e
  rw [e]
  exact hf o
theorem PL.kid (h : PL w wr NR B Bp Br g gu M N cap uc LL Lp) (i : Nat) (p : Ln) (hp : LL[i]? = some p) (j : Nat) (z : Int) (hz : p.nd.ks[j]? = some z) :
    ∃ kg kc, p.val = .slice (some ⟨kg, 0, none⟩) p.nd.ks.length kc ∧ wr.cell? ⟨kg, j, none⟩ = some (.int .i64 z) ∧ wr.frozen? ⟨kg, j, none⟩ = false := by
  have hpk := h.ot.kids i p hp
  have hj := (List.getElem?_eq_some_iff.1 hz).1
  obtain ⟨kg, kc, hv, _, hf, _⟩ := own_at (E := encI) hpk (by omega)
  refine ⟨kg, kc, hv, ?_, hf j⟩
  have := hpk.cells (g := kg) (by rw [hv]; rfl) _ _ ((all_get encI p.nd.ks j z hz 0 (by decide)).trans rfl)
  rw [add_addr, Nat.zero_add] at this
  have e : j * encI.k + 0 = j := by show j * 1 + 0 = j; omega
  rw [e] at this
  exact this
end
end Go.Proofs.Ytmlpaafclobgcaa
