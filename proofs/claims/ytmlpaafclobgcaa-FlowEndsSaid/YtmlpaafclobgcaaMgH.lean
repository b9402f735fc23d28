/- Several texts in one: Aq3 Aq4 Aq5 Aq1. -/
import Derived.Test.YtmlpaafclobgcaaMgG
import Derived.Test.YtmlpaafclobgcaaQt
/- Trees that package arena copies: the nodes' row is the call's own, each node's kids a piece of a row of numbers in blocks of the call's own (no function of the program's). -/
namespace Go.Proofs.Ytmlpaafclobgcaa
open Go.RowKit
open Go.Proofs.Ytmlpaafclobgcaa.Sq
open Go.Proofs.Ytmlpaafclobgcaa.Ar
set_option linter.unusedVariables false

/-- That block is a row of numbers. -/
def IntBlk (w : World) (g : Nat) : Prop := ∃ cs fr, w.heap[g]? = some (.cells cs 3 fr)
/-- All rows of numbers stay. -/
def KeepI (w w' : World) : Prop := ∀ g, IntBlk w g → w'.heap[g]? = w.heap[g]?
section
variable {w w' : World} {B : Nat} {v : Value}
theorem IntBlk.lt {g : Nat} (h : IntBlk w g) : g < w.heap.size := by
  obtain ⟨cs, fr, e⟩ := h
  exact lt_of_block e
theorem IntBlk.keep {g : Nat} (h : IntBlk w g) (k : KeepI w w') : IntBlk w' g := by
  have e1 := k g h
  obtain ⟨cs, fr, e⟩ := h
  exact ⟨cs, fr, e1.trans e⟩
theorem KeepI.refl (w : World) : KeepI w w := fun _ _ => rfl
theorem KeepI.trans {a b c : World} (h : KeepI a b) (k : KeepI b c) : KeepI a c := fun g hg => (k g (hg.keep h)).trans (h g hg)
theorem keepI_below (hb : Below w.heap.size w w') : KeepI w w' := fun g hg => hb.block g hg.lt
theorem keepI_alloc (w : World) (o : Obj) : KeepI w (w.alloc o) := keepI_below (below_alloc w o)
theorem keepI_drew (w : World) : KeepI w w.drew := fun _ _ => rfl
theorem keepI_none (hg : w.grownBy w' none) : KeepI w w' := fun g h => hg.block g h.lt (fun e => by cases e)
/-- The block of a row of nodes. -/
def NodeBlk (w : World) (g : Nat) : Prop := ∃ cs fr, w.heap[g]? = some (.cells cs 38 fr)
theorem blk_ne {g g' : Nat} (h : IntBlk w g) (h' : NodeBlk w g') : g ≠ g' := fun e => by
  subst e
  obtain ⟨cs, fr, e1⟩ := h
  obtain ⟨cs', fr', e2⟩ := h'
  rw [e1] at e2
  injection e2 with e2
  injection e2 with _ e3
  exact absurd e3 (by decide)
theorem row_blk {size n : Nat} {xs : List Value} (h : w.ownsRow B 38 size v n xs) {g : Nat} (hg : v.ownBlock = some g) : NodeBlk w g := by
  rcases h.2 with ⟨h1, _⟩ | ⟨b, cap, cur, hv, _, hh, _⟩
  · rw [h1] at hg; cases hg
  · rw [hv] at hg
    obtain rfl : b = g := by simpa [Value.ownBlock] using hg
    exact ⟨cur, (0, 0), hh⟩
theorem int_blk {size n : Nat} {xs : List Value} (h : w.ownsRow B 3 size v n xs) {g : Nat} (hg : v.ownBlock = some g) : IntBlk w g := by
  rcases h.2 with ⟨h1, _⟩ | ⟨b, cap, cur, hv, _, hh, _⟩
  · rw [h1] at hg; cases hg
  · rw [hv] at hg
    obtain rfl : b = g := by simpa [Value.ownBlock] using hg
    exact ⟨cur, (0, 0), hh⟩
theorem keepI_grown {size n : Nat} {xs : List Value} (h : w.ownsRow B 38 size v n xs) (hg : w.grownBy w' v.ownBlock) : KeepI w w' := fun g hi =>
  hg.block g hi.lt (fun e => blk_ne hi (row_blk h e.symm) rfl)
theorem keepI_set {g : Nat} (h : NodeBlk w g) (o : Nat) (u : Value) : KeepI w (w.setCell ⟨g, o, none⟩ u) := fun g' hi =>
  Below.heap_setCell _ _ _ _ (blk_ne hi h)
/-- A store into a block of one cell of the call's own. -/
theorem keepI_box {g : Nat} {cs : Array Value} {t : TypeId} {fr : Nat × Nat} (h : w.heap[g]? = some (.cells cs t fr)) (ht : t ≠ 3) (o : Nat) (u : Value) : KeepI w (w.setCell ⟨g, o, none⟩ u) := fun g' hi =>
  Below.heap_setCell _ _ _ _ (fun e => by
    obtain ⟨cs', fr', e2⟩ := hi
    rw [show g' = g from e] at e2
    rw [h] at e2
    injection e2 with e2
    injection e2 with _ e3
    exact ht e3)
/-- A node's kids: how they read, where they lie. -/
structure Kid (w : World) (B : Nat) (p : Ln) : Prop where
  reads : Reads encI w p.val p.nd.ks
  blk : ∀ ad, p.a = some ad → B ≤ ad.block ∧ IntBlk w ad.block
theorem reads_of {E : Enc Int} {a : Option Addr} {n c : Nat} {l : List Int} (h : Reads E w (.slice a n c) l) (hc : ∀ ad, a = some ad → ∀ o x, w.cell? ⟨ad.block, o, none⟩ = some x → ad.off ≤ o → o < ad.off + l.length * E.k → w'.cell? ⟨ad.block, o, none⟩ = some x) : Reads E w' (.slice a n c) l := by
  rcases h with h | ⟨b, off, cap, hv, h2, h3, h4⟩
  · exact .inl h
  · obtain ⟨rfl, -, -⟩ := Value.slice.inj hv
    refine .inr ⟨b, off, cap, hv, h2, h3, fun j x hj i u hu => ?_⟩
    have hjl := (List.getElem?_eq_some_iff.1 hj).1
    have hik : i < E.k := by rw [← E.len x]; exact (List.getElem?_eq_some_iff.1 hu).1
    refine hc _ rfl _ _ (h4 j x hj i u hu) (by show off ≤ _; omega) ?_
    show off + j * E.k + i < off + l.length * E.k
    have : (j + 1) * E.k ≤ l.length * E.k := Nat.mul_le_mul_right _ hjl
    rw [Nat.add_mul] at this
    omega
theorem Kid.keep {p : Ln} (h : Kid w B p) (k : KeepI w w') : Kid w' B p := by
  refine ⟨reads_of h.reads (fun ad had o x hx _ _ => ?_), fun ad had => ⟨(h.blk ad had).1, (h.blk ad had).2.keep k⟩⟩
  rw [World.cell?_of_block (a := ⟨ad.block, o, none⟩) (k _ (h.blk ad had).2)]
  exact hx
theorem Kid.nd {p : Ln} (h : Kid w B p) (nd : Nd) (hk : nd.ks = p.nd.ks) : Kid w B { p with nd := nd } := ⟨by show Reads _ _ p.val nd.ks; rw [hk]; exact h.reads, h.blk⟩
theorem Kid.nil (w : World) (B : Nat) (x : Nd) (hx : x.ks = []) : Kid w B ⟨x, none, 0, 0⟩ := ⟨by show Reads _ _ _ x.ks; rw [hx]; exact .inl ⟨rfl, rfl⟩, fun ad h => by cases h⟩
/-- Kids in a row of the call's own. -/
theorem Kid.own {x : Nd} {a : Option Addr} {n c : Nat} (h : w.ownsRow B 3 encI.k (.slice a n c) x.ks.length (encI.all x.ks)) : Kid w B ⟨x, a, n, c⟩ := by
  refine ⟨Reads.of_own (E := encI) h, fun ad had => ?_⟩
  have hob : (Value.slice a n c).ownBlock = some ad.block := by
    have had : a = some ad := had
    rw [had]; rfl
  exact ⟨(h.lt _ hob).1, int_blk h hob⟩
/-- A tree that was copied. -/
structure PT (w : World) (B : Nat) (v : Value) (L : List Ln) : Prop where
  row : w.ownsRow B 38 encN.k v L.length (encN.all L)
  kids : ∀ p ∈ L, Kid w B p
theorem PT.keep {L : List Ln} (h : PT w B v L) (hr : w'.ownsRow B 38 encN.k v L.length (encN.all L)) (k : KeepI w w') : PT w' B v L := ⟨hr, fun p hp => (h.kids p hp).keep k⟩
theorem PT.below {L : List Ln} (h : PT w B v L) (hb : Below w.heap.size w w') : PT w' B v L := h.keep (own_below h.row hb) (keepI_below hb)
theorem PT.nodes {L : List Ln} (h : PT w B v L) : Nodes w v (L.map Ln.nd) := ⟨L, rfl, Reads.of_own (E := encN) h.row, fun p hp => (h.kids p hp).reads⟩
/-- A store into a block of one cell. -/
theorem PT.box {L : List Ln} (h : PT w B v L) {g : Nat} {cs : Array Value} {t : TypeId} {fr : Nat × Nat} (hh : w.heap[g]? = some (.cells cs t fr)) (ht : t ≠ 3) (ht2 : t ≠ 38) (o : Nat) (u : Value) : PT (w.setCell ⟨g, o, none⟩ u) B v L :=
  h.keep (ownsRow_setCell_other h.row (a := ⟨g, o, none⟩) (fun e => by
    obtain ⟨cs', fr', e2⟩ := row_blk h.row e
    rw [hh] at e2
    injection e2 with e2
    injection e2 with _ e3
    exact ht2 e3) u) (keepI_box hh ht o u)
/-- A field of a node is stored; its kids may be others then. -/
theorem PT.set {g n cap : Nat} {L : List Ln} (h : PT w B (.slice (some ⟨g, 0, none⟩) n cap) L) (i j : Nat) (p p' : Ln) (u : Value) (hp : L[i]? = some p) (hc : nCells p' = (nCells p).set j u) (hj : j < 6) (hk : Kid w B p') :
    PT (w.setCell ⟨g, i * 6 + j, none⟩ u) B (.slice (some ⟨g, 0, none⟩) n cap) (L.set i p') := by
  have hkp : KeepI w (w.setCell ⟨g, i * 6 + j, none⟩ u) := keepI_set (row_blk h.row rfl) _ _
  refine ⟨own_set h.row i j p p' u hp hc hj, fun q hq => ?_⟩
  rcases List.mem_or_eq_of_mem_set hq with hq | rfl
  · exact (h.kids q hq).keep hkp
  · exact hk.keep hkp
/-- A node is put behind all. -/
theorem PT.push {v' : Value} {L : List Ln} {p : Ln} (h : PT w B v L) (hp : Kid w B p) (k : KeepI w w') (hrow : w'.ownsRow B 38 encN.k v' (L ++ [p]).length (encN.all (L ++ [p]))) : PT w' B v' (L ++ [p]) :=
  ⟨hrow, fun q hq => by
    rcases List.mem_append.1 hq with hq | hq
    · exact (h.kids q hq).keep k
    · obtain rfl : q = p := by simpa using hq
      exact hp.keep k⟩
end
/-- append onto a row of the call's own: where the row is moved all that was there stays. -/
theorem run_append_moved {P : Program} (w : World) (base : Nat) (t ty e : TypeId) (i : TypeInfo) (z : Value) (size bytes : Nat) (ht : P.underlying t = some (.slice e)) (hi : P.info? e = some i) (hz : i.zero = some z)
    (hsize : i.size = size) (hby : i.bytes = bytes) (hzs : z.cells.size = size) (hsz : 0 < size)
    (v : Value) (n : Nat) (xs : List Value) (hown : w.ownsRow base e size v n xs)
    (a : Addr) (m c : Nat) (news : List Value) (hl : news.length = m * size) (hnews : ∀ j u, news[j]? = some u → w.cell? (a.add j) = some u) (h1 : ∀ u ∈ news, u.oneCell' = true)
    (h63 : n + m ≤ maxLen) (hbytes : (n + m) * bytes ≤ 140737488355328) (hbase : base ≤ w.heap.size) :
    ∃ v' w', (Builtin.append_ #[t, t] ty #[v, .slice (some a) m c]).run P w = .ok v' w' ∧ w'.ownsRow base e size v' (n + m) (xs ++ news) ∧ w.grownBy w' v.ownBlock ∧
      (v'.ownBlock = v.ownBlock ∨ (v'.ownBlock = some w.heap.size ∧ w.grownBy w' none)) := by
  obtain ⟨v', w', hr, h2, h3, _, h5⟩ := run_append_own_at (P := P) w base t ty e i z size bytes ht hi hz hsize hby hzs hsz v n xs hown a m c news hl hnews h1 h63 hbytes hbase
  refine ⟨v', w', hr, h2, h3, ?_⟩
  rcases h5 with h5 | h5
  · exact .inl h5
  · rcases hown.2 with ⟨rfl, _⟩ | ⟨g, cap, cur, rfl, hbg, hg, hnc, hcm, hcs, htake⟩
    · exact .inr ⟨h5, h3⟩
    · have hlt : g < w.heap.size := (Array.getElem?_eq_some_iff.1 hg).1
      subst hsize
      subst hby
      by_cases hroom : n + m ≤ cap
      · have hr2 := run_append_room (P := P) w t ty e i ht hi g n cap cur hg a m c news hl hnews h1 hroom (by rw [hl, hcs, ← Nat.add_mul]; exact Nat.mul_le_mul_right _ hroom)
        rw [hr] at hr2
        injection hr2 with hr2 _
        subst hr2
        exact .inl rfl
      · simp only [maxLen] at h63
        have hr2 := run_append_grow (P := P) w t ty e i z ht hi hz ⟨g, 0, none⟩ n cap xs hown.1 (hown.cells (g := g) rfl) a m c news hl hnews (by omega) (by omega) (growslice_fits (by omega) hbytes)
        rw [hr] at hr2
        injection hr2 with _ hr2
        subst hr2
        exact .inr ⟨h5, ⟨rfl, rfl, rfl, by simp, fun k hk _ => heap_alloc_old w.drew _ hk⟩⟩
/-- append(row of the call's own, elements...), at the walk. -/
theorem append_all_mv {α : Type} {E : Enc α} {w : World} {P : Program} {t e : TypeId} {bytes : Nat} (T : Ty P E t e bytes) {ops : Array Oper} {rest : List Oper} {o : Oper} {act : Act} {Q : Exit → Act → World → Prop} (hgd : o.guard = none) (x y : Operand)
    (ho : o.op = .call { callee := .builtin .append, args := #[x, y], argTypes := #[t, t] })
    (base : Nat) (v : Value) (l : List α) (hs : act.eval x = v) (hown : w.ownsRow base e E.k v l.length (E.all l)) (yv : Value) (m : List α) (hy : act.eval y = yv) (hb : Reads E w yv m)
    (hmax : l.length + m.length ≤ maxLen) (hlen : (l.length + m.length) * bytes ≤ 140737488355328) (hbase : base ≤ w.heap.size)
    (h : ∀ v' w', w'.ownsRow base e E.k v' (l ++ m).length (E.all (l ++ m)) → w.grownBy w' v.ownBlock → (v'.ownBlock = v.ownBlock ∨ (v'.ownBlock = some w.heap.size ∧ w.grownBy w' none)) → wpList P ops Q rest (act.put o.dst v') w') : wpList P ops Q (o :: rest) act w := by
  obtain ⟨i, z, hi, hz, hsz, hby, hzs⟩ := T.parts
  rcases hb with ⟨rfl, rfl⟩ | ⟨b, off, cap, rfl, h2, h3, h4⟩
  · refine wpList_append_own_none hgd x y t ho base e i E.k T.ht hi v l.length (E.all l) hs hown hy ?_
    refine h v w ?_ ⟨rfl, rfl, rfl, Nat.le_refl _, fun _ _ _ => rfl⟩ (.inl rfl)
    rw [List.append_nil]
    exact hown
  · refine wpList_plain hgd fun K hK => ?_
    obtain ⟨v', w', hr, q1, q2, q3⟩ := run_append_moved (P := P) w base t o.type e i z E.k bytes T.ht hi hz hsz hby hzs E.pos v l.length (E.all l) hown ⟨b, off, none⟩ m.length cap (E.all m) (all_len E m) (news h4) (all_one E m) hmax hlen hbase
    unfold Oper.wp execOp
    simp only [ho, resolve, invoke, builtin, Sem.run_bind, Sem.run_pure, Result.andThen_ok, List.map_toArray, List.map_cons, List.map_nil, hs, hy, hr]
    exact hK _ _ (h v' w' (by rw [all_app, List.length_append]; exact q1) q2 q3)
/-- A piece of the row of all kids. -/
structure Piece (w : World) (B : Nat) (av : Value) (F : List Int) (p : Ln) : Prop where
  kid : Kid w B p
  full : p.c = p.n
  upto : ∀ ad, p.a = some ad → av.ownBlock = some ad.block → ad.off + p.nd.ks.length ≤ F.length
theorem Piece.moved {w w' : World} {B : Nat} {av av' : Value} {F ks : List Int} {p : Ln} (h : Piece w B av F p) (hown : w.ownsRow B 3 encI.k av F.length (encI.all F)) (hown' : w'.ownsRow B 3 encI.k av' (F ++ ks).length (encI.all (F ++ ks)))
    (hg : w.grownBy w' av.ownBlock) (hm : av'.ownBlock = av.ownBlock ∨ (av'.ownBlock = some w.heap.size ∧ w.grownBy w' none)) : Piece w' B av' (F ++ ks) p := by
  rcases hm with hm | ⟨hm, hn⟩
  · refine ⟨⟨reads_of h.kid.reads (fun ad had o x hx h1 h2 => ?_), fun ad had => ⟨(h.kid.blk ad had).1, ?_⟩⟩, h.full, fun ad had hb => ?_⟩
    · by_cases hb : av.ownBlock = some ad.block
      · have hu := h.upto ad had hb
        have h2 : o < ad.off + p.nd.ks.length * 1 := h2
        have ho : o < F.length := by omega
        obtain ⟨y, hy⟩ : ∃ y, F[o]? = some y := ⟨_, List.getElem?_eq_getElem ho⟩
        have c1 := hown.cells hb _ _ ((all_get encI F o y hy 0 (by decide)).trans rfl)
        have c2 := hown'.cells (hm.trans hb) _ _ ((all_get encI (F ++ ks) o y (by rw [List.getElem?_append_left ho]; exact hy) 0 (by decide)).trans rfl)
        rw [add_addr, Nat.zero_add] at c1 c2
        rw [show o * encI.k + 0 = o from by show o * 1 + 0 = o; omega] at c1 c2
        rw [hx] at c1
        rw [c2, c1]
      · rw [World.cell?_of_block (a := ⟨ad.block, o, none⟩) (hg.block _ (h.kid.blk ad had).2.lt (fun e => hb e.symm))]
        exact hx
    · by_cases hb : av.ownBlock = some ad.block
      · exact int_blk hown' (hm.trans hb)
      · obtain ⟨cs, fr, e⟩ := (h.kid.blk ad had).2
        exact ⟨cs, fr, (hg.block _ (h.kid.blk ad had).2.lt (fun e => hb e.symm)).trans e⟩
    · have := h.upto ad had (hm.symm.trans hb)
      rw [List.length_append]; omega
  · refine ⟨h.kid.keep (keepI_none hn), h.full, fun ad had hb => ?_⟩
    have h1 := (h.kid.blk ad had).2.lt
    rw [hm] at hb
    have := Option.some.inj hb
    omega
theorem Piece.keep {w w' : World} {B : Nat} {av : Value} {F : List Int} {p : Ln} (h : Piece w B av F p) (k : KeepI w w') : Piece w' B av F p := ⟨h.kid.keep k, h.full, h.upto⟩
theorem own_cap {w : World} {B e size n cap m : Nat} {a : Option Addr} {xs : List Value} (h : w.ownsRow B e size (.slice a n cap) m xs) : n = m ∧ n ≤ cap ∧ cap ≤ maxLen := by
  rcases h.2 with ⟨h1, h2⟩ | ⟨g, cap', cur, hv, _, _, h4, h5, _⟩
  · obtain ⟨_, rfl, rfl⟩ := Value.slice.inj h1
    exact ⟨h2.symm, Nat.le_refl _, Nat.zero_le _⟩
  · obtain ⟨_, rfl, rfl⟩ := Value.slice.inj hv
    exact ⟨rfl, h4, h5⟩
/-- The last piece of a row of the call's own: all[from:len:len]. -/
theorem piece_cut {w : World} {B g N cap : Nat} {F ks : List Int} (hown : w.ownsRow B 3 encI.k (.slice (some ⟨g, 0, none⟩) N cap) (F ++ ks).length (encI.all (F ++ ks))) (hks : 0 < ks.length) (x : Nd) (hx : x.ks = ks) :
    (∀ W : World, (Instr.slice 22 (.slice (some ⟨g, 0, none⟩) N cap) (some (.int .i64 (F.length : Int))) (some (.int .i64 (N : Int))) (some (.int .i64 (N : Int)))).run Try.prog W = .ok (.slice (some ⟨g, F.length, none⟩) ks.length ks.length) W) ∧
    Piece w B (.slice (some ⟨g, 0, none⟩) N cap) (F ++ ks) ⟨x, some ⟨g, F.length, none⟩, ks.length, ks.length⟩ := by
  subst hx
  obtain ⟨hN, hc1, hc2⟩ := own_cap hown
  have hN : N = F.length + x.ks.length := by rw [hN, List.length_append]
  have hmx : x.ks.length ≤ maxLen := by omega
  refine ⟨fun W => ?_, ⟨⟨.inr ⟨g, F.length, x.ks.length, rfl, Nat.le_refl _, hmx, fun j y hj i u hu => ?_⟩, fun ad had => ?_⟩, rfl, fun ad had _ => ?_⟩⟩
  · rw [run_slice_lhm W _ (some ⟨g, 0, none⟩) N cap (by rw [tyI.he]; exact tyI.ht) .i64 .i64 .i64 F.length N N (by omega) (by omega) (by omega) (by omega), tyI.he, tyI.size]
    have h1 : ¬ (N = F.length) := by omega
    have h2 : N - F.length = x.ks.length := by omega
    simp [Result.andThen, sliced, h1, h2, encI, add_addr]
  · have hj1 := (List.getElem?_eq_some_iff.1 hj).1
    have hi : i = 0 := by
      have := (List.getElem?_eq_some_iff.1 hu).1
      have e : (encI.cells y).length = 1 := rfl
      omega
    subst hi
    have c := hown.cells (g := g) rfl _ _ ((all_get encI (F ++ x.ks) (F.length + j) y (by rw [List.getElem?_append_right (by omega), show F.length + j - F.length = j by omega]; exact hj) 0 (by decide)).trans hu)
    rw [add_addr, Nat.zero_add] at c
    rw [show (F.length + j) * encI.k + 0 = F.length + j * encI.k + 0 from by show (F.length + j) * 1 + 0 = F.length + j * 1 + 0; omega] at c
    exact c
  · have had : some (⟨g, F.length, none⟩ : Addr) = some ad := had
    obtain rfl := Option.some.inj had
    exact ⟨(hown.lt g rfl).1, int_blk hown rfl⟩
  · have had : some (⟨g, F.length, none⟩ : Addr) = some ad := had
    obtain rfl := Option.some.inj had
    rw [List.length_append]; exact Nat.le_refl _
/-- make([]T, 0, n). -/
theorem make_row {α : Type} {E : Enc α} {P : Program} {t e : TypeId} {bytes : Nat} (T : Ty P E t e bytes) (n B : Nat) (w : World) (hn : bytes * n ≤ 281474976710656) (hm : n ≤ maxLen) (hB : B ≤ w.heap.size) :
    ∃ w', (∀ m : Int, m = (n : Int) → (Instr.makeSlice t (.int .i64 0) (.int .i64 m)).run P w = .ok (.slice (some ⟨w.heap.size, 0, none⟩) 0 n) w') ∧ w'.ownsRow B e E.k (.slice (some ⟨w.heap.size, 0, none⟩) 0 n) ([] : List α).length (E.all []) ∧ w.grownBy w' none := by
  obtain ⟨i, z, hi, hz, hsz, hby, hzs⟩ := T.parts
  obtain ⟨w', h1, h2, h3⟩ := run_make_own (P := P) w B t e i z E.k T.ht hi hz hsz .i64 .i64 n (by rw [hby]; exact hn) hm hB
  exact ⟨w', fun m hm => by rw [hm]; exact h1, h2, h3⟩
end Go.Proofs.Ytmlpaafclobgcaa

/- Package arena: copied. -/
namespace Go.Proofs.Ytmlpaafclobgcaa
open Go.RowKit
open Go.Proofs.Ytmlpaafclobgcaa.Sq
open Go.Proofs.Ytmlpaafclobgcaa.Ar
set_option linter.unusedVariables false

/-- What copied has at a round's beginning: the row of all kids, the nodes' row (it lies in the block Bn), the pieces. -/
structure CM (wr : World) (gn Bn : Nat) (w1 : World) (av nv : Value) (F : List Int) (L : List Ln) : Prop where
  all : wr.ownsRow gn 3 encI.k av F.length (encI.all F)
  row : wr.ownsRow gn 38 encN.k nv L.length (encN.all L)
  pcs : ∀ p ∈ L, Piece wr gn av F p
  box : wr.heap[Bn]? = some (.cells #[nv] 31 (0, 0))
  low : Below gn w1 wr
  le : gn ≤ Bn
section
variable {wr w' w1 : World} {gn Bn : Nat} {av nv : Value} {F : List Int} {L : List Ln}
theorem CM.lt (h : CM wr gn Bn w1 av nv F L) : Bn < wr.heap.size := lt_of_block h.box
theorem CM.below (h : CM wr gn Bn w1 av nv F L) (hb : Below wr.heap.size wr w') : CM w' gn Bn w1 av nv F L :=
  ⟨own_below h.all hb, own_below h.row hb, fun p hp => (h.pcs p hp).keep (keepI_below hb), (hb.block Bn h.lt).trans h.box, h.low.trans (hb.mono (by have := h.lt; have := h.le; omega)), h.le⟩
theorem other_type {w : World} {g g' : Nat} {cs cs' : Array Value} {t t' : TypeId} {fr fr' : Nat × Nat} (h : w.heap[g]? = some (.cells cs t fr)) (h' : w.heap[g']? = some (.cells cs' t' fr')) (ht : t ≠ t') : g ≠ g' := fun e => by
  subst e
  rw [h] at h'
  injection h' with h'
  injection h' with _ e3
  exact ht e3
theorem CM.append {av' : Value} {ks : List Int} (h : CM wr gn Bn w1 av nv F L) (hown' : w'.ownsRow gn 3 encI.k av' (F ++ ks).length (encI.all (F ++ ks))) (hg : wr.grownBy w' av.ownBlock) (hm : av'.ownBlock = av.ownBlock ∨ (av'.ownBlock = some wr.heap.size ∧ wr.grownBy w' none)) :
    CM w' gn Bn w1 av' nv (F ++ ks) L := by
  have hgs := h.low.size
  refine ⟨hown', h.row.kept hg (off_row (own_types h.all h.row (by decide))), fun p hp => (h.pcs p hp).moved h.all hown' hg hm, ?_, h.low.grown hg (by have := h.lt; have := h.le; omega) (fun k hk => (h.all.lt k hk).1), h.le⟩
  refine (hg.block Bn h.lt (fun e => ?_)).trans h.box
  obtain ⟨cs, fr, e2⟩ := int_blk h.all e.symm
  exact other_type h.box e2 (by decide) rfl
theorem CM.store {xb : Nat} {cs : Array Value} {fr : Nat × Nat} (h : CM wr gn Bn w1 av nv F L) (hx : wr.heap[xb]? = some (.cells cs 38 fr)) (hne : nv.ownBlock ≠ some xb) (hge : gn ≤ xb) (o : Nat) (u : Value) : CM (wr.setCell ⟨xb, o, none⟩ u) gn Bn w1 av nv F L :=
  ⟨ownsRow_setCell_other h.all (a := ⟨xb, o, none⟩) (fun e => by
    obtain ⟨cs', fr', e2⟩ := int_blk h.all e
    exact other_type hx e2 (by decide) rfl) u,
   ownsRow_setCell_other h.row (a := ⟨xb, o, none⟩) hne u, fun p hp => (h.pcs p hp).keep (keepI_box hx (by decide) o u),
   (Below.heap_setCell _ _ _ _ (fun e => other_type hx h.box (by decide) e.symm)).trans h.box, h.low.setCell (p := ⟨xb, o, none⟩) hge u, h.le⟩
theorem CM.push {nv' : Value} {p : Ln} (h : CM wr gn Bn w1 av nv F L) (hp : Piece wr gn av F p) (hown' : w'.ownsRow gn 38 encN.k nv' (L ++ [p]).length (encN.all (L ++ [p]))) (hg : wr.grownBy w' nv.ownBlock) :
    CM (w'.setCell ⟨Bn, 0, none⟩ nv') gn Bn w1 av nv' F (L ++ [p]) := by
  have hk : KeepI wr w' := keepI_grown h.row hg
  have hbx : w'.heap[Bn]? = some (.cells #[nv] 31 (0, 0)) := (hg.block Bn h.lt (fun e => by
    obtain ⟨cs, fr, e2⟩ := row_blk h.row e.symm
    exact other_type h.box e2 (by decide) rfl)).trans h.box
  have hk2 : KeepI wr (w'.setCell ⟨Bn, 0, none⟩ nv') := hk.trans (keepI_box hbx (by decide) 0 nv')
  have hall : w'.ownsRow gn 3 encI.k av F.length (encI.all F) := h.all.kept hg (off_row (own_types h.row h.all (by decide)))
  refine ⟨ownsRow_setCell_other hall (a := ⟨Bn, 0, none⟩) (fun e => ?_) nv', ownsRow_setCell_other hown' (a := ⟨Bn, 0, none⟩) (fun e => ?_) nv', fun q hq => ?_, one_setCell hbx, (h.low.grown hg (by have := h.lt; have := h.le; omega) (fun k hk => (h.row.lt k hk).1)).setCell (p := ⟨Bn, 0, none⟩) h.le nv', h.le⟩
  · obtain ⟨cs, fr, e2⟩ := int_blk hall e
    exact other_type hbx e2 (by decide) rfl
  · obtain ⟨cs, fr, e2⟩ := row_blk hown' e
    exact other_type hbx e2 (by decide) rfl
  · rcases List.mem_append.1 hq with hq | hq
    · exact (h.pcs q hq).keep hk2
    · obtain rfl : q = p := by simpa using hq
      exact hp.keep hk2
theorem CM.pt (h : CM wr gn Bn w1 av nv F L) {B : Nat} (hB : B ≤ gn) : PT wr B nv L ∧ ∀ p ∈ L, p.c = p.n :=
  ⟨⟨own_base h.row hB, fun p hp => ⟨(h.pcs p hp).kid.reads, fun ad had => ⟨Nat.le_trans hB ((h.pcs p hp).kid.blk ad had).1, ((h.pcs p hp).kid.blk ad had).2⟩⟩⟩, fun p hp => (h.pcs p hp).full⟩
end
theorem PT.setLow {w : World} {B b : Nat} {v : Value} {L : List Ln} (h : PT w B v L) (hb : b < B) (u : Value) : PT (w.setCell ⟨b, 0, none⟩ u) B v L := by
  refine ⟨ownsRow_setCell_below h.row (a := ⟨b, 0, none⟩) hb u, fun p hp => ⟨reads_of (h.kids p hp).reads (fun ad had o x hx _ _ => ?_), fun ad had => ⟨((h.kids p hp).blk ad had).1, ?_⟩⟩⟩
  · have := ((h.kids p hp).blk ad had).1
    exact at_far (by omega) hx
  · have h1 := ((h.kids p hp).blk ad had).1
    obtain ⟨cs, fr, e⟩ := ((h.kids p hp).blk ad had).2
    exact ⟨cs, fr, (Below.heap_setCell _ _ _ _ (by show ad.block ≠ b; omega)).trans e⟩
theorem PT.base {w : World} {B B' : Nat} {v : Value} {L : List Ln} (h : PT w B v L) (hB : B' ≤ B) : PT w B' v L :=
  ⟨own_base h.row hB, fun p hp => ⟨(h.kids p hp).reads, fun ad had => ⟨Nat.le_trans hB ((h.kids p hp).blk ad had).1, ((h.kids p hp).blk ad had).2⟩⟩⟩
/-- What copied answers: a tree of its own, of the same nodes, each row of kids without room. -/
def Pieced (l : List Nd) (w : World) (e : Ending) (w' : World) : Prop :=
  ∃ u, e = .returned (.agg #[u]) ∧ (∃ L, L.map Ln.nd = l ∧ PT w' w.heap.size u L ∧ ∀ p ∈ L, p.c = p.n) ∧ Below w.heap.size w w'
set_option maxHeartbeats 4000000 in
set_option maxRecDepth 100000 in
theorem aCopied (v : Value) (l : List Nd) (m : Nat) (w : World) (h : Nodes w v l) (hs : l.length ≤ 1000) (hk : ∀ x ∈ l, x.ks.length ≤ 1000) (hm : m ≤ 10) :
    Calls Try.prog 74 #[.agg #[v], .int .i64 m] w (Pieced l w) := by
  obtain ⟨a, cap, rfl⟩ := h.shape
  have HQ := Lib.hid (fun u w' => show ((∃ L, L.map Ln.nd = l ∧ PT w' w.heap.size u L ∧ ∀ p ∈ L, p.c = p.n) ∧ Below w.heap.size w w') → Pieced l w (.returned (.agg #[u])) w' from fun h => ⟨u, rfl, h⟩)
  obtain ⟨Q, hQ⟩ : ∃ Q, Pieced l w = Q := ⟨_, rfl⟩
  rw [hQ] at HQ ⊢
  have HX := Lib.hid (fun W (hb : Below w.heap.size w W) j x (hj : l[j]? = some x) => (h.below hb).at_ j x hj)
  have HKs := Lib.hid hk
  obtain ⟨N, hN⟩ : ∃ N, l.length = N := ⟨_, rfl⟩
  rw [hN] at hs ⊢
  have HN := Lib.hid hN
  obtain ⟨w1, hw1⟩ : ∃ w1, (w.alloc (.cells #[.slice a N cap] 31)).alloc (.cells #[.slice none 0 0] 31) = w1 := ⟨_, rfl⟩
  obtain ⟨Bt, hBt⟩ : ∃ Bt, w.heap.size = Bt := ⟨_, rfl⟩
  obtain ⟨Br, hBr⟩ : ∃ Br, w.heap.size + 1 = Br := ⟨_, rfl⟩
  have hb1 := below_allocS (below_alloc w (.cells #[.slice a N cap] 31)) (.cells #[.slice none 0 0] 31)
  have ct : w1.cell? ⟨Bt, 0, none⟩ = some (.slice a N cap) := by rw [← hw1, ← hBt]; exact at_alloc (at_new rfl)
  have cr : Hld w1 Br 0 (.slice none 0 0) := by
    rw [← hw1, ← hBr]
    have h := hld_new (W := w.alloc (.cells #[.slice a N cap] 31)) (C := #[.slice none 0 0]) (t := 31) (k := 0) rfl
    rw [size_alloc] at h
    exact h
  rw [hw1] at hb1
  have hbr : w.heap.size ≤ Br := by omega
  have hs1 := hb1.size
  obtain ⟨gn, hgn⟩ : ∃ gn, w1.heap.size = gn := ⟨_, rfl⟩
  obtain ⟨w3, hmk, hown3, hg3⟩ := make_row tyN (N + m) gn w1 (by omega) (by simp only [maxLen]; omega) (by omega)
  rw [hgn] at hmk hown3
  have hmk2 := hmk ((N : Int) + (m : Int)) (by omega)
  have hb3 : Below gn w1 w3 := (Below.refl _ _).grown hg3 (by omega) (fun q hq => by cases hq)
  have hs3 : gn ≤ w3.heap.size := by rw [← hgn]; exact hg3.size
  obtain ⟨Bn, hBn⟩ : ∃ Bn, w3.heap.size = Bn := ⟨_, rfl⟩
  obtain ⟨w4, hw4⟩ : ∃ w4, w3.alloc (.cells #[.slice (some ⟨gn, 0, none⟩) 0 (N + m)] 31) = w4 := ⟨_, rfl⟩
  have blk4 : w4.heap[Bn]? = some (.cells #[.slice (some ⟨gn, 0, none⟩) 0 (N + m)] 31 (0, 0)) := by rw [← hw4, ← hBn]; exact heap_alloc_new _ _
  have hb4 : Below gn w1 w4 := by rw [← hw4]; exact hb3.alloc hs3 _
  have hown4 : w4.ownsRow gn 38 encN.k (.slice (some ⟨gn, 0, none⟩) 0 (N + m)) ([] : List Ln).length (encN.all []) := by rw [← hw4]; exact hown3.alloc _
  have hs4 : gn ≤ w4.heap.size := by rw [← hgn]; exact hb4.size
  obtain ⟨w5, hmk5, hown5, hg5⟩ := make_row tyI N gn w4 (by omega) (by simp only [maxLen]; omega) hs4
  obtain ⟨ga, hga⟩ : ∃ ga, w4.heap.size = ga := ⟨_, rfl⟩
  rw [hga] at hmk5 hown5
  have hmk6 := hmk5 (N : Int) rfl
  have hcm : CM w5 gn Bn w1 (.slice (some ⟨ga, 0, none⟩) 0 N) (.slice (some ⟨gn, 0, none⟩) 0 (N + m)) [] [] :=
    ⟨hown5, hown4.kept hg5 (.inr (by simp [Value.ownBlock])), (fun p hp => by cases hp), (hg5.block Bn (lt_of_block blk4) (fun e => by cases e)).trans blk4, hb4.grown hg5 hs4 (fun q hq => by cases hq), by omega⟩
  have hlt1 : Bt < gn := by rw [← hgn]; exact lt_of_cell ct
  have hlt2 : Br < gn := by rw [← hgn]; exact lt_of_cell cr.1
  have HCt := Lib.hid (fun W (hb : Below gn w1 W) => show W.cell? ⟨Bt, 0, none⟩ = some (.slice a N cap) from by rw [hb.cell (p := ⟨Bt, 0, none⟩) hlt1]; exact ct)
  have HCr := Lib.hid (fun W (hb : Below gn w1 W) => show Hld W Br 0 (.slice none 0 0) from ⟨by rw [hb.cell (p := ⟨Br, 0, none⟩) hlt2]; exact cr.1, by rw [hb.frozen (p := ⟨Br, 0, none⟩) hlt2]; exact cr.2⟩)
  have hb1' : Below w.heap.size w w1 := hb1
  have HBlw := Lib.hid (fun W (hb : Below gn w1 W) => show Below w.heap.size w W from hb1'.trans (hb.mono (by omega)))
  have hgw : w.heap.size ≤ gn := by omega
  have ct3 := HCt.out w3 hb3
  have ct4 := HCt.out w4 hb4
  have ct5 := HCt.out w5 hcm.low
  have HCM := Lib.hid hcm
  have HW1 := Lib.hid hw1
  have HBt := Lib.hid hBt
  have HBr := Lib.hid hBr
  have HW4 := Lib.hid hw4
  have HBn := Lib.hid hBn
  clear h hk hQ hN hw1 hBt hBr hmk hown3 hg3 hb1 hb1' hb3 hs1 hgn hBn hw4 blk4 hb4 hown4 hs4 hmk5 hown5 hg5 hga hcm hs3 cr hlt1
  go_enter Try.func74, Try.ntmps74
  go_upto_region 1 with fail
  rw [HW1.out, HBr.out, HBt.out]
  clear HW1 HBr HBt
  go_upto_region 2 with fail
  rw [HW4.out, HBn.out]
  clear HW4 HBn hmk2
  go_wp2_with fail
  clear hmk6
  go_loopw [6, 24] (fun av iv wr => ∃ (i : Nat) (F : List Int) (L : List Ln) (nv : Value), iv = .int .i64 i ∧ i ≤ N ∧ Hid (L.length = i) ∧ Hid (L.map Ln.nd = l.take i) ∧ Hid (F.length ≤ i * 1000) ∧ Hid (CM wr gn Bn w1 av nv F L)) (fun _ iv _ => N - (intOf iv).toNat)
  case atStart => exact ⟨0, [], [], _, rfl, Nat.zero_le _, Lib.hid rfl, Lib.hid rfl, Lib.hid (Nat.zero_le _), HCM⟩
  case round =>
    clear ct ct3 ct4 ct5 HCM
    obtain ⟨i, F, L, nv, rfl, hi, HL, HM, HF, HC⟩ := hrel
    have ct := HCt.out wr HC.out.low
    obtain ⟨aa, ac, hav⟩ := (Reads.of_own (E := encI) HC.out.all).shape
    obtain ⟨an, nc, hnv⟩ := (Reads.of_own (E := encN) HC.out.row).shape
    subst hav hnv
    by_cases hlt : i < N
    · obtain ⟨x, hx⟩ : ∃ x, l[i]? = some x := ⟨_, List.getElem?_eq_getElem (by rw [HN.out]; exact hlt)⟩
      obtain ⟨b, off, ka, kc, rfl, x0, x1, x2, x3, x4, x5, hkr⟩ := HX.out wr (HBlw.out wr HC.out.low) i x hx
      have hii : (i : Int) < (N : Int) := by omega
      have hkl := HKs.out x (List.mem_of_getElem? hx)
      have hfl := HF.out
      have HM2 := Lib.hid (fun (p : Ln) (hp : p.nd = x) => show (L ++ [p]).map Ln.nd = l.take (i + 1) by rw [List.map_append, HM.out, List.take_add_one, hx, List.map_cons, hp]; rfl)
      have HF2 := Lib.hid (show (F ++ x.ks).length ≤ (i + 1) * 1000 by rw [List.length_append]; omega)
      obtain ⟨xb, hxb⟩ : ∃ xb, wr.heap.size = xb := ⟨_, rfl⟩
      obtain ⟨wa, hwa⟩ : ∃ wa, wr.alloc (.cells #[.int .i64 x.k, .int .i64 x.f, .int .i64 x.t, .int .i64 x.u, .slice ka x.ks.length kc, .bool x.y] 38) = wa := ⟨_, rfl⟩
      have hba : Below wr.heap.size wr wa := hwa ▸ below_alloc wr _
      have blk : wa.heap[xb]? = some (.cells #[.int .i64 x.k, .int .i64 x.f, .int .i64 x.t, .int .i64 x.u, .slice ka x.ks.length kc, .bool x.y] 38 (0, 0)) := by rw [← hwa, ← hxb]; exact heap_alloc_new _ _
      have y4 : wa.cell? ⟨xb, 4, none⟩ = some (.slice ka x.ks.length kc) := Joins.cell_of_block blk 4
      have HRd := Lib.hid (hkr.below hba)
      have HCa := Lib.hid (HC.out.below hba)
      have HNx := Lib.hid (show ∀ q, (Value.slice an L.length nc).ownBlock = some q → q < xb from fun q hq => by rw [← hxb]; exact (HC.out.row.lt q hq).2)
      have HAx := Lib.hid (show ∀ q, (Value.slice aa F.length ac).ownBlock = some q → q < xb from fun q hq => by rw [← hxb]; exact (HC.out.all.lt q hq).2)
      have hgx : gn ≤ xb := by have h1 := HC.out.lt; have h2 := HC.out.le; omega
      have HBlk := Lib.hid blk
      have HWa := Lib.hid hwa
      have HXb := Lib.hid hxb
      have hL1 : F.length + x.ks.length ≤ maxLen := by simp only [maxLen]; omega
      have hL2 : (F.length + x.ks.length) * 8 ≤ 140737488355328 := by omega
      have HL1 := Lib.hid hL1
      have HL2 := Lib.hid hL2
      have hbs : gn ≤ wa.heap.size := by have h1 := HCa.out.lt; have h2 := HCa.out.le; omega
      clear hx hkr hwa hba blk hxb hL1 hL2 hfl
      go_upto_region 6 with fail
      rw [HWa.out, HXb.out]
      clear HWa x0 x1 x2 x3 x4 x5
      go_upto_region 8 with (at_builtin; go_must (refine append_all_mv tyI rfl (.tmp 30) (.tmp 32) rfl gn _ F rfl HCa.out.all _ x.ks rfl HRd.out HL1.out HL2.out hbs ?_; intro v2 w2 hown2 hg2 hat2; obtain ⟨a2, c2, hv2⟩ := (Reads.of_own (E := encI) hown2).shape; obtain ⟨M2, hM2⟩ : ∃ M2, (F ++ x.ks).length = M2 := ⟨_, rfl⟩; rw [hM2] at hv2; subst hv2; have HMM := Lib.hid hM2; have HC2 := Lib.hid (HCa.out.append hown2 hg2 hat2); have hb2 := (hg2.block xb (lt_of_block HBlk.out) (fun e => by have h1 := HAx.out xb e.symm; omega)).trans HBlk.out; have HBlk2 := Lib.hid hb2; have f4 := Joins.unfrozen_of_block hb2 4; have y4 := Joins.cell_of_block hb2 4; clear hown2 hg2 hat2 hb2 hM2))
      have hne : (Value.slice an L.length nc).ownBlock ≠ some xb := fun e => by have h1 := HNx.out xb e; omega
      have HC3 := Lib.hid (HC2.out.store HBlk2.out hne hgx 4 (.slice none 0 0))
      have HB3 := Lib.hid (Joins.block_setCell (i := 4) HBlk2.out (.slice none 0 0))
      obtain ⟨w3, hw3⟩ : ∃ w3, w2.setCell ⟨xb, 4, none⟩ (.slice none 0 0) = w3 := ⟨_, rfl⟩
      have blk3 : w3.heap[xb]? = some (.cells #[.int .i64 x.k, .int .i64 x.f, .int .i64 x.t, .int .i64 x.u, .slice none 0 0, .bool x.y] 38 (0, 0)) := by rw [← hw3]; exact HB3.out
      rw [hw3] at HC3
      have HW3 := Lib.hid hw3
      have HBlk3 := Lib.hid blk3
      clear hw3 blk3 HB3
      go_upto_region 9 with fail
      rw [HW3.out]
      clear HW3 f4 y4 ct
      go_upto_if 38 with fail
      go_cut [] (fun wx => ∃ pa pn, Hid (Piece wx gn (.slice a2 M2 c2) (F ++ x.ks) ⟨x, pa, pn, pn⟩) ∧ Hid (wx.heap[xb]? = some (.cells #[.int .i64 x.k, .int .i64 x.f, .int .i64 x.t, .int .i64 x.u, .slice pa pn pn, .bool x.y] 38 (0, 0))) ∧ Hid (CM wx gn Bn w1 (.slice a2 M2 c2) (.slice an L.length nc) (F ++ x.ks) L))
      case first =>
        have hml : M2 = F.length + x.ks.length := by rw [← HMM.out, List.length_append]
        rcases Nat.eq_zero_or_pos x.ks.length with hz | hz
        · have hxe : x.ks = [] := List.eq_nil_of_length_eq_zero hz
          have n1 : ¬ ((F.length : Int) < (M2 : Int)) := by omega
          have HP := Lib.hid (show Piece w3 gn (.slice a2 M2 c2) (F ++ x.ks) ⟨x, none, 0, 0⟩ from ⟨Kid.nil w3 gn x hxe, rfl, fun ad had => by cases had⟩)
          clear hml hz hxe
          go_wp2_with fail
          go_meet
          exact ⟨none, 0, HP, HBlk3, HC3⟩
        · have n1 : (F.length : Int) < (M2 : Int) := by omega
          obtain ⟨g2, cp2, hv2, _, _, _, _⟩ := own_at (E := encI) HC3.out.all (by rw [List.length_append]; omega)
          obtain ⟨rfl, hMx, rfl⟩ := Value.slice.inj hv2
          obtain ⟨hsl, hpc⟩ := piece_cut HC3.out.all hz x rfl
          have hsl2 := fun W => hsl W
          obtain ⟨kn, hkn⟩ : ∃ kn, x.ks.length = kn := ⟨_, rfl⟩
          rw [hkn] at hsl hpc
          have HC4 := Lib.hid (HC3.out.store HBlk3.out hne hgx 4 (.slice (some ⟨g2, F.length, none⟩) kn kn))
          have HB4 := Lib.hid (Joins.block_setCell (i := 4) HBlk3.out (.slice (some ⟨g2, F.length, none⟩) kn kn))
          have HP4 := Lib.hid (hpc.keep (keepI_box HBlk3.out (by decide) 4 (.slice (some ⟨g2, F.length, none⟩) kn kn)))
          have f4 := Joins.unfrozen_of_block HBlk3.out 4
          have y4 := Joins.cell_of_block HBlk3.out 4
          clear hml hz hv2 hMx hpc hsl2 hkn
          go_wp2_with fail
          go_meet
          exact ⟨_, _, HP4, Lib.hid HB4.out, HC4⟩
      case rest =>
      obtain ⟨pa, pn, HP, HBx, HCx⟩ := hcut
      rename World => w6
      have y0 := Joins.cell_of_block HBx.out 0
      have y1 := Joins.cell_of_block HBx.out 1
      have y2 := Joins.cell_of_block HBx.out 2
      have y3 := Joins.cell_of_block HBx.out 3
      have y4 := Joins.cell_of_block HBx.out 4
      have y5 := Joins.cell_of_block HBx.out 5
      have bx := cell_of_one HCx.out.box
      have HPc := Lib.hid (show encN.cells (⟨x, pa, pn, pn⟩ : Ln) = [.int .i64 x.k, .int .i64 x.f, .int .i64 x.t, .int .i64 x.u, .slice pa pn pn, .bool x.y] from rfl)
      have HM1 := Lib.hid (show L.length + 1 ≤ maxLen by rw [HL.out]; simp only [maxLen]; omega)
      have HM3 := Lib.hid (show (L.length + 1) * 64 ≤ 140737488355328 by rw [HL.out]; omega)
      have hbs6 : gn ≤ w6.heap.size := by have h1 := HCx.out.lt; have h2 := HCx.out.le; omega
      have HCy := Lib.hid (fun o => HCx.out.below (below_alloc w6 o))
      have HPy := Lib.hid (fun o => HP.out.keep (keepI_alloc w6 o))
      clear y4 hbs hne
      have y4 := Joins.cell_of_block HBx.out 4
      go_upto_region 12 with (at_builtin; go_must (refine append_one tyN rfl (.tmp 48) (.tmp 50) rfl gn _ L (⟨x, pa, pn, pn⟩ : Ln) _ HPc.out rfl HCx.out.row rfl HM1.out HM3.out hbs6 ?_; intro v7 w7 hown7 hg7; obtain ⟨a7, k7, hv7⟩ := (Reads.of_own (E := encN) hown7).shape; obtain ⟨M7, hM7⟩ : ∃ M7, (L ++ [(⟨x, pa, pn, pn⟩ : Ln)]).length = M7 := ⟨_, rfl⟩; rw [hM7] at hv7; clear hM7; subst hv7; have HC7 := Lib.hid ((HCy.out _).push (HPy.out _) hown7 hg7); have hb7 : w7.heap[Bn]? = some (.cells #[.slice an L.length nc] 31 (0, 0)) := ((hg7.block Bn (HCy.out _).lt (fun e => by obtain ⟨cs, fr, e2⟩ := row_blk (HCy.out (.cells [Value.int .i64 x.k, .int .i64 x.f, .int .i64 x.t, .int .i64 x.u, .slice pa pn pn, .bool x.y].toArray 38)).row e.symm; exact other_type (HCy.out _).box e2 (by decide) rfl)).trans (HCy.out _).box); have c7 := cell_of_one hb7; have f7 := free_of_one hb7; clear hown7 hg7 hb7))
      go_wp2_with fail
      go_roundw
      case rel =>
        first
          | exact ⟨i + 1, F ++ x.ks, L ++ [⟨x, pa, pn, pn⟩], .slice a7 M7 k7, by go_num, by omega, Lib.hid (by simp [HL.out]), Lib.hid (HM2.out _ rfl), HF2, HC7⟩
          | ((repeat apply Exists.intro); exact ⟨⟨i + 1, F ++ x.ks, L ++ [⟨x, pa, pn, pn⟩], .slice a7 M7 k7, by go_num, by omega, Lib.hid (by simp [HL.out]), Lib.hid (HM2.out _ rfl), HF2, HC7⟩, rfl⟩)
      case measure => simp [intOf]; omega
    · obtain rfl : i = N := by omega
      have hii : ¬ ((i : Int) < (i : Int)) := by omega
      have hm := HM.out
      rw [List.take_of_length_le (by rw [HN.out]; exact Nat.le_refl _)] at hm
      have bx := cell_of_one HC.out.box
      have cr := HCr.out wr HC.out.low
      have cr0 := cr.1
      have fr0 := cr.2
      have hpt := HC.out.pt (Nat.le_refl _)
      have HD := Lib.hid (HQ.out (.slice an L.length nc) (wr.setCell ⟨Br, 0, none⟩ (.slice an L.length nc)) ⟨⟨L, hm, (hpt.1.setLow hlt2 _).base hgw, hpt.2⟩, (HBlw.out wr HC.out.low).setCell (p := ⟨Br, 0, none⟩) hbr _⟩)
      clear hm hlt hpt cr
      go_wp2_with fail
      refine bodyPost_ret (v := .agg #[.slice an L.length nc]) ?_ rfl HD.out
      simp [results, Try.results74, go_sem, cr0, cell_set_eq]
end Go.Proofs.Ytmlpaafclobgcaa

/- Package arena: reach. -/
namespace Go.Proofs.Ytmlpaafclobgcaa
open Go.RowKit
open Go.Proofs.Ytmlpaafclobgcaa.Sq
open Go.Proofs.Ytmlpaafclobgcaa.Ar
set_option linter.unusedVariables false

theorem gb_below {w w' : World} (hb : Below w.heap.size w w') (r : Option Nat) : w.grownBy w' r := ⟨hb.os, hb.tape, hb.output, hb.size, fun k hk _ => hb.block k hk⟩
theorem gb_any {w w' : World} (h : w.grownBy w' none) (r : Option Nat) : w.grownBy w' r := ⟨h.os, h.tape, h.output, h.size, fun k hk _ => h.block k hk (fun e => by cases e)⟩
theorem gb_set {w w' : World} {r : Option Nat} (h : w.grownBy w' r) {b : Nat} (hb : r = some b ∨ w.heap.size ≤ b) (o : Nat) (u : Value) : w.grownBy (w'.setCell ⟨b, o, none⟩ u) r :=
  ⟨h.os, h.tape, h.output, by simp [World.setCell]; exact h.size, fun k hk hne => (Below.heap_setCell _ _ _ _ (fun e => by
    have e : k = b := e
    rcases hb with hb | hb
    · exact hne (by rw [hb, e])
    · omega)).trans (h.block k hk hne)⟩
theorem gb_then {w w' w'' : World} {r : Option Nat} (h : w.grownBy w' r) (hb : Below w'.heap.size w' w'') : w.grownBy w'' r := h.trans (gb_below hb r)
theorem gb_drew {w w' : World} {r : Option Nat} (h : w.grownBy w' r) : w.grownBy w'.drew r := gb_then h (Below.refl _ _).drew
theorem gb_low {w w' : World} {g B : Nat} (h : w.grownBy w' (some g)) (hB : B ≤ g) (hw : B ≤ w.heap.size) : Below B w w' := (Below.refl B w).grown h hw (fun k hk => by have e : g = k := Option.some.inj hk; omega)
/-- What reach leaves of a copied tree. -/
def ReachedP (R : List Nd) (B g : Nat) (v : Value) (w : World) (e : Ending) (w' : World) : Prop :=
  e = .returned (.tuple #[]) ∧ (∃ L, L.map Ln.nd = R ∧ PT w' B v L) ∧ w.grownBy w' (some g)
theorem PT.drew {w : World} {B : Nat} {v : Value} {L : List Ln} (h : PT w B v L) : PT w.drew B v L := h.below (Below.refl _ _).drew
set_option maxHeartbeats 4000000 in
set_option maxRecDepth 100000 in
theorem aReach (g cap B n : Nat) (L : List Ln) (k to' : Int) (w : World) (h : PT w B (.slice (some ⟨g, 0, none⟩) n cap) L) (hn : L.length = n) (hG : Ar.Good (L.map Ln.nd)) (hk1 : -1 ≤ k) (hk2 : k < n) :
    Calls Try.prog 76 #[.agg #[.slice (some ⟨g, 0, none⟩) n cap], .agg #[.int .i64 k, .int .i64 to']] w (ReachedP (reachN (L.map Ln.nd) k to') B g (.slice (some ⟨g, 0, none⟩) n cap) w) := by
  obtain ⟨R, hR⟩ : ∃ R, reachN (L.map Ln.nd) k to' = R := ⟨_, rfl⟩
  rw [hR]
  have HQ := Lib.hid (fun w' => show ((∃ L, L.map Ln.nd = R ∧ PT w' B (.slice (some ⟨g, 0, none⟩) n cap) L) ∧ w.grownBy w' (some g)) → ReachedP R B g (.slice (some ⟨g, 0, none⟩) n cap) w (.returned (.tuple #[])) w' from fun h => ⟨rfl, h⟩)
  obtain ⟨Q, hQ⟩ : ∃ Q, ReachedP R B g (.slice (some ⟨g, 0, none⟩) n cap) w = Q := ⟨_, rfl⟩
  rw [hQ] at HQ ⊢
  have hcap := own_cap h.row
  simp only [maxLen] at hcap
  obtain ⟨-, hc1, hc2⟩ := hcap
  obtain ⟨Bt, hBt⟩ : ∃ Bt, w.heap.size = Bt := ⟨_, rfl⟩
  obtain ⟨Bg, hBg⟩ : ∃ Bg, w.heap.size + 1 = Bg := ⟨_, rfl⟩
  obtain ⟨w1, hw1⟩ : ∃ w1, (w.alloc (.cells #[.slice (some ⟨g, 0, none⟩) n cap] 31)).alloc (.cells #[.int .i64 k, .int .i64 to'] 80) = w1 := ⟨_, rfl⟩
  have hgw : B ≤ g ∧ g < w.heap.size := h.row.lt g rfl
  have hb1 : Below w.heap.size w w1 := by rw [← hw1]; exact below_allocS (below_alloc w _) _
  have ct : w1.cell? ⟨Bt, 0, none⟩ = some (.slice (some ⟨g, 0, none⟩) n cap) := by rw [← hw1, ← hBt]; exact at_alloc (at_new rfl)
  have hsz : (w.alloc (.cells #[.slice (some ⟨g, 0, none⟩) n cap] 31)).heap.size = Bg := by rw [size_alloc]; exact hBg
  have cg0 : w1.cell? ⟨Bg, 0, none⟩ = some (.int .i64 k) := by rw [← hw1, ← hsz]; exact at_new rfl
  have cg1 : w1.cell? ⟨Bg, 1, none⟩ = some (.int .i64 to') := by rw [← hw1, ← hsz]; exact at_new rfl
  have ht1 : g ≠ Bt := by omega
  have ht2 : g ≠ Bg := by omega
  have H0 := Lib.hid (h.below hb1)
  have HB0 := Lib.hid (gb_below hb1 (some g))
  have HG0 := Lib.hid hG
  have HR0 := Lib.hid hR
  have HN0 := Lib.hid hn
  have HW1 := Lib.hid hw1
  have HBt := Lib.hid hBt
  have HBg := Lib.hid hBg
  clear h hG hR hn hQ hw1 hBt hBg hb1 hsz
  obtain ⟨hBgl, -⟩ := hgw
  go_enter Try.func76, Try.ntmps76
  go_upto_region 1 with fail
  rw [HW1.out, HBg.out, HBt.out]
  clear HW1 HBg HBt
  go_wp2_with fail
  have ct0 := Lib.hid ct
  have cg10 := Lib.hid cg1
  clear cg0 ct cg1
  go_loopw [4] (fun kv wr => ∃ (k : Int) (L : List Ln), kv = .int .i64 k ∧ -1 ≤ k ∧ k < n ∧ Hid (PT wr B (.slice (some ⟨g, 0, none⟩) n cap) L) ∧ Hid (Ar.Good (L.map Ln.nd)) ∧ Hid (reachN (L.map Ln.nd) k to' = R) ∧ Hid (L.length = n) ∧ Hid (w.grownBy wr (some g)) ∧ Hid (wr.cell? ⟨Bt, 0, none⟩ = some (.slice (some ⟨g, 0, none⟩) n cap)) ∧ Hid (wr.cell? ⟨Bg, 1, none⟩ = some (.int .i64 to'))) (fun kv _ => (intOf kv + 1).toNat)
  case atStart => exact ⟨k, L, rfl, hk1, hk2, H0, HG0, HR0, HN0, HB0, ct0, cg10⟩
  case round =>
    clear hk1 hk2 H0 HG0 HR0 HN0 HB0 ct0 cg10
    obtain ⟨k, L, rfl, hk1, hk2, HO, HG, HR, HN, HB, HCt, HCg⟩ := hrel
    by_cases hneg : k < 0
    · obtain rfl : k = -1 := by omega
      have hr := HR.out
      rw [reach_stop _ _ _ (by omega)] at hr
      have HD := Lib.hid (HQ.out wr ⟨⟨L, hr, HO.out⟩, HB.out⟩)
      clear hr hk2
      go_wp2_with fail
      go_end0
      exact HD.out
    · obtain ⟨i, rfl⟩ : ∃ i : Nat, k = (i : Int) := ⟨k.toNat, by omega⟩
      have hin : i < n := by omega
      obtain ⟨p, hp⟩ : ∃ p, L[i]? = some p := ⟨_, List.getElem?_eq_getElem (by rw [HN.out]; exact hin)⟩
      have hrow := HO.out.row
      have c2 : wr.cell? ⟨g, i * 6 + 2, none⟩ = some (.int .i64 p.nd.t) := by
        have := hrow.cells (g := g) rfl _ _ ((all_get encN L i p hp 2 (by decide)).trans rfl)
        rw [add_addr, Nat.zero_add] at this
        exact this
      have c3 : wr.cell? ⟨g, i * 6 + 3, none⟩ = some (.int .i64 p.nd.u) := by
        have := hrow.cells (g := g) rfl _ _ ((all_get encN L i p hp 3 (by decide)).trans rfl)
        rw [add_addr, Nat.zero_add] at this
        exact this
      obtain ⟨g', cap', hv, -, hfz, -, -⟩ := own_at hrow (by rw [HN.out]; omega)
      have e1 := (Value.slice.inj hv).1
      injection e1 with e1
      injection e1 with e1
      subst e1
      have f2 := hfz (i * 6 + 2)
      have d3 := at_off (o := i * 6 + 2) (v := .int .i64 (max p.nd.t to')) (by omega) c3
      have e3 := at_drew d3
      have hx : (L.map Ln.nd)[i]? = some p.nd := by rw [List.getElem?_map, hp]; rfl
      have hu := HG.out.up i p.nd hx
      have hst := reach_step (L.map Ln.nd) i to' p.nd HG.out (by omega) (by rw [Int.toNat_natCast]; exact hx)
      rw [Int.toNat_natCast] at hst
      have hO2 := HO.out.set i 2 p { p with nd := { p.nd with t := max p.nd.t to' } } (.int .i64 (max p.nd.t to')) hp rfl (by decide) ((HO.out.kids p (List.mem_of_getElem? hp)).nd _ rfl)
      have hmap : (L.set i { p with nd := { p.nd with t := max p.nd.t to' } }).map Ln.nd = (L.map Ln.nd).set i { p.nd with t := max p.nd.t to' } := by rw [List.map_set]
      obtain ⟨L2, hL2⟩ : ∃ L2, L.set i { p with nd := { p.nd with t := max p.nd.t to' } } = L2 := ⟨_, rfl⟩
      rw [hL2] at hO2 hmap
      have HO2 := Lib.hid hO2.drew
      have HG2 := Lib.hid (show Ar.Good (L2.map Ln.nd) by rw [hmap]; exact good_set HG.out i p.nd hx _ (Int.le_max_left _ _))
      have HR2 := Lib.hid (show reachN (L2.map Ln.nd) p.nd.u to' = R by rw [hmap, ← hst]; exact HR.out)
      have HN2 := Lib.hid (show L2.length = n by rw [← hL2, List.length_set]; exact HN.out)
      have HB2 := Lib.hid (gb_drew (gb_set HB.out (.inl rfl) (i * 6 + 2) (.int .i64 (max p.nd.t to'))))
      have ct := HCt.out
      have cg := HCg.out
      have HCt2 := Lib.hid (at_drew (at_far (o := i * 6 + 2) (v := .int .i64 (max p.nd.t to')) ht1 ct))
      have HCg2 := Lib.hid (at_drew (at_far (o := i * 6 + 2) (v := .int .i64 (max p.nd.t to')) ht2 cg))
      have hi2 : (i : Int) < (n : Int) := by omega
      have hup : ¬ ((i : Int) ≤ p.nd.u) := by omega
      clear hrow hv hfz hx hst hO2 hmap hL2 hp
      go_upto_region 4 with fail
      go_region
      obtain ⟨w2, hw2⟩ : ∃ w2, (wr.setCell ⟨g, i * 6 + 2, none⟩ (.int .i64 (max p.nd.t to'))).drew = w2 := ⟨_, rfl⟩
      rw [hw2] at HO2 HB2 HCt2 HCg2 e3
      rw [hw2]
      clear hw2 d3 c2 c3 f2 ct cg
      go_wp2_with fail
      go_roundw
      case rel => exact ⟨p.nd.u, L2, rfl, by omega, by omega, HO2, HG2, HR2, HN2, HB2, HCt2, HCg2⟩
      case measure => simp [intOf]; omega
end Go.Proofs.Ytmlpaafclobgcaa

/- Package arena: New, has; slices.Equal of numbers; alike. -/
namespace Go.Proofs.Ytmlpaafclobgcaa
open Go.RowKit
open Go.Proofs.Ytmlpaafclobgcaa.Sq
open Go.Proofs.Ytmlpaafclobgcaa.Ar
set_option linter.unusedVariables false

theorem aot_new (w : World) (u : Value) (x : Nd) (hx : x.ks = []) : OT ((w.alloc (.cells #[u] 31)).alloc (.cells #[.int .i64 x.k, .int .i64 x.f, .int .i64 x.t, .int .i64 x.u, .slice none 0 0, .bool x.y] 38)) w.heap.size (.slice (some ⟨w.heap.size + 1, 0, none⟩) 1 1) [⟨x, none, 0, 0⟩] := by
  have h := ot_one (w.alloc (.cells #[u] 31)) w.heap.size x hx (by simp)
  rw [size_alloc] at h
  exact h
set_option maxHeartbeats 1000000 in
theorem aNew : ∀ (n : Int) (w : World), Calls Try.prog 13 #[.int .i64 n] w (Treed false (newN n) w) := by
  intro n w
  obtain ⟨m, hm⟩ : ∃ m, (if n < 0 ∨ 32768 < n then 0 else n) = m := ⟨_, rfl⟩
  have e : newN n = [⟨1, 0, m, -1, [], false⟩] := by unfold newN; rw [hm]
  have hO := fun u => aot_new w u ⟨1, 0, m, -1, [], false⟩ rfl
  have HO := Lib.hid hO
  rw [e]
  have HB := Lib.hid (fun o o' => below_allocS (below_alloc w o) o')
  clear e hO
  by_cases h1 : n < 0
  · rw [if_pos (.inl h1)] at hm
    subst hm
    go_enter Try.func13, Try.ntmps13
    go_wp2
    refine bodyPost_ret (v := .agg #[.slice (some ⟨w.heap.size + 1, 0, none⟩) 1 1]) ?_ rfl ⟨_, rfl, (HO.out _).nodes, fun e => absurd e (by decide), HB.out _ _⟩
    simp [results, Try.results13, go_sem]
  · by_cases h2 : 32768 < n
    · rw [if_pos (.inr h2)] at hm
      subst hm
      go_enter Try.func13, Try.ntmps13
      go_wp2
      refine bodyPost_ret (v := .agg #[.slice (some ⟨w.heap.size + 1, 0, none⟩) 1 1]) ?_ rfl ⟨_, rfl, (HO.out _).nodes, fun e => absurd e (by decide), HB.out _ _⟩
      simp [results, Try.results13, go_sem]
    · rw [if_neg (fun h => h.elim h1 h2)] at hm
      subst hm
      go_enter Try.func13, Try.ntmps13
      go_wp2
      refine bodyPost_ret (v := .agg #[.slice (some ⟨w.heap.size + 1, 0, none⟩) 1 1]) ?_ rfl ⟨_, rfl, (HO.out _).nodes, fun e => absurd e (by decide), HB.out _ _⟩
      simp [results, Try.results13, go_sem]
/-- Is there a node of that number? -/
def hasN (N : Nat) (k : Int) : Bool := decide (0 ≤ k) && decide (k < N)
set_option maxHeartbeats 1000000 in
theorem has_any (a : Option Addr) (N cap : Nat) (k : Int) (w : World) (hN : N ≤ 1000000) :
    Calls Try.prog 50 #[.agg #[.slice a N cap], .int .i64 k] w (fun e w' => e = .returned (.bool (hasN N k)) ∧ Below w.heap.size w w') := by
  have HB := Lib.hid (fun o => below_alloc w o)
  obtain ⟨R, hR⟩ : ∃ R, hasN N k = R := ⟨_, rfl⟩
  rw [hR]
  unfold hasN at hR
  by_cases h1 : 0 ≤ k
  · have d1 : decide (0 ≤ k) = true := decide_eq_true h1
    by_cases h2 : k < (N : Int)
    · obtain rfl : R = true := by rw [← hR]; simp [h1, h2]
      have d2 : decide (k < (N : Int)) = true := decide_eq_true h2
      clear hR
      go_enter Try.func50, Try.ntmps50
      go_wp2_with fail
      go_ret
      exact ⟨rfl, HB.out _⟩
    · obtain rfl : R = false := by rw [← hR]; simp [h2]
      have d2 : decide (k < (N : Int)) = false := decide_eq_false h2
      clear hR
      go_enter Try.func50, Try.ntmps50
      go_wp2_with fail
      go_ret
      exact ⟨rfl, HB.out _⟩
  · obtain rfl : R = false := by rw [← hR]; simp [h1]
    have d1 : decide (0 ≤ k) = false := decide_eq_false h1
    clear hR
    go_enter Try.func50, Try.ntmps50
    go_wp2_with fail
    go_ret
    exact ⟨rfl, HB.out _⟩
end Go.Proofs.Ytmlpaafclobgcaa
