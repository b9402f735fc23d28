/- Trees that package arena copies: the nodes' row is the call's own, each node's kids a piece of a row of numbers in blocks of the call's own (no function of the program's). -/
import Derived.Test.YthkieidcjakhgaaAid10
namespace Go.Proofs.Ythkieidcjakhgaa
open Go.RowKit
open Go.Proofs.Ythkieidcjakhgaa.Sq
open Go.Proofs.Ythkieidcjakhgaa.Ar
set_option linter.unusedVariables false

/-- That block is a row of numbers. -/
def IntBlk (w : World) (g : Nat) : Prop := ∃ cs fr, w.heap[g]? = some (.cells cs 3 fr)
/-- All rows of numbers stay. -/
def KeepI (w w' : World) : Prop := ∀ g, IntBlk w g → w'.heap[g]? = w.heap[g]?
section
variable {w w' : World} {B : Nat} {v : Value}
theorem IntBlk.lt {g : Nat} (h : IntBlk w g) : g < w.heap.size := by
  obtain ⟨cs, fr, e⟩ := h
  exact lt_of_block e
theorem IntBlk.keep {g : Nat} (h : IntBlk w g) (k : KeepI w w') : IntBlk w' g := by
  have e1 := k g h
  obtain ⟨cs, fr, e⟩ := h
  exact ⟨cs, fr, e1.trans e⟩
theorem KeepI.refl (w : World) : KeepI w w := fun _ _ => rfl
theorem KeepI.trans {a b c : World} (h : KeepI a b) (k : KeepI b c) : KeepI a c := fun g hg => (k g (hg.keep h)).trans (h g hg)
theorem keepI_below (hb : Below w.heap.size w w') : KeepI w w' := fun g hg => hb.block g hg.lt
theorem keepI_alloc (w : World) (o : Obj) : KeepI w (w.alloc o) := keepI_below (below_alloc w o)
theorem keepI_drew (w : World) : KeepI w w.drew := fun _ _ => rfl
theorem keepI_none (hg : w.grownBy w' none) : KeepI w w' := fun g h => hg.block g h.lt (fun e => by cases e)
/-- The block of a row of nodes. -/
def NodeBlk (w : World) (g : Nat) : Prop := ∃ cs fr, w.heap[g]? = some (.cells cs 48 fr)
theorem blk_ne {g g' : Nat} (h : IntBlk w g) (h' : NodeBlk w g') : g ≠ g' := fun e => by
  subst e
  obtain ⟨cs, fr, e1⟩ := h
  obtain ⟨cs', fr', e2⟩ := h'
  rw [e1] at e2
  injection e2 with e2
  injection e2 with _ e3
  exact absurd e3 (by decide)
theorem row_blk {size n : Nat} {xs : List Value} (h : w.ownsRow B 48 size v n xs) {g : Nat} (hg : v.ownBlock = some g) : NodeBlk w g := by
  rcases h.2 with ⟨h1, _⟩ | ⟨b, cap, cur, hv, _, hh, _⟩
  · rw [h1] at hg; cases hg
  · rw [hv] at hg
    obtain rfl : b = g := by simpa [Value.ownBlock] using hg
    exact ⟨cur, (0, 0), hh⟩
theorem int_blk {size n : Nat} {xs : List Value} (h : w.ownsRow B 3 size v n xs) {g : Nat} (hg : v.ownBlock = some g) : IntBlk w g := by
  rcases h.2 with ⟨h1, _⟩ | ⟨b, cap, cur, hv, _, hh, _⟩
  · rw [h1] at hg; cases hg
  · rw [hv] at hg
    obtain rfl : b = g := by simpa [Value.ownBlock] using hg
    exact ⟨cur, (0, 0), hh⟩
theorem keepI_grown {size n : Nat} {xs : List Value} (h : w.ownsRow B 48 size v n xs) (hg : w.grownBy w' v.ownBlock) : KeepI w w' := fun g hi =>
  hg.block g hi.lt (fun e => blk_ne hi (row_blk h e.symm) rfl)
theorem keepI_set {g : Nat} (h : NodeBlk w g) (o : Nat) (u : Value) : KeepI w (w.setCell ⟨g, o, none⟩ u) := fun g' hi =>
  Below.heap_setCell _ _ _ _ (blk_ne hi h)
/-- A store into a block of one cell of the call's own. -/
theorem keepI_box {g : Nat} {cs : Array Value} {t : TypeId} {fr : Nat × Nat} (h : w.heap[g]? = some (.cells cs t fr)) (ht : t ≠ 3) (o : Nat) (u : Value) : KeepI w (w.setCell ⟨g, o, none⟩ u) := fun g' hi =>
  Below.heap_setCell _ _ _ _ (fun e => by
    obtain ⟨cs', fr', e2⟩ := hi
    rw [show g' = g from e] at e2
    rw [h] at e2
    injection e2 with e2
    injection e2 with _ e3
    exact ht e3)
/-- A node's kids: how they read, where they lie. -/
structure Kid (w : World) (B : Nat) (p : Ln) : Prop where
  reads : Reads encI w p.val p.nd.ks
  blk : ∀ ad, p.a = some ad → B ≤ ad.block ∧ IntBlk w ad.block
theorem reads_of {E : Enc Int} {a : Option Addr} {n c : Nat} {l : List Int} (h : Reads E w (.slice a n c) l) (hc : ∀ ad, a = some ad → ∀ o x, w.cell? ⟨ad.block, o, none⟩ = some x → ad.off ≤ o → o < ad.off + l.length * E.k → w'.cell? ⟨ad.block, o, none⟩ = some x) : Reads E w' (.slice a n c) l := by
  rcases h with h | ⟨b, off, cap, hv, h2, h3, h4⟩
  · exact .inl h
  · obtain ⟨rfl, -, -⟩ := Value.slice.inj hv
    refine .inr ⟨b, off, cap, hv, h2, h3, fun j x hj i u hu => ?_⟩
    have hjl := (List.getElem?_eq_some_iff.1 hj).1
    have hik : i < E.k := by rw [← E.len x]; exact (List.getElem?_eq_some_iff.1 hu).1
    refine hc _ rfl _ _ (h4 j x hj i u hu) (by show off ≤ _; omega) ?_
    show off + j * E.k + i < off + l.length * E.k
    have : (j + 1) * E.k ≤ l.length * E.k := Nat.mul_le_mul_right _ hjl
    rw [Nat.add_mul] at this
    omega
theorem Kid.keep {p : Ln} (h : Kid w B p) (k : KeepI w w') : Kid w' B p := by
  refine ⟨reads_of h.reads (fun ad had o x hx _ _ => ?_), fun ad had => ⟨(h.blk ad had).1, (h.blk ad had).2.keep k⟩⟩
  rw [World.cell?_of_block (a := ⟨ad.block, o, none⟩) (k _ (h.blk ad had).2)]
  exact hx
theorem Kid.nd {p : Ln} (h : Kid w B p) (nd : Nd) (hk : nd.ks = p.nd.ks) : Kid w B { p with nd := nd } := ⟨by show Reads _ _ p.val nd.ks; rw [hk]; exact h.reads, h.blk⟩
theorem Kid.nil (w : World) (B : Nat) (x : Nd) (hx : x.ks = []) : Kid w B ⟨x, none, 0, 0⟩ := ⟨by show Reads _ _ _ x.ks; rw [hx]; exact .inl ⟨rfl, rfl⟩, fun ad h => by cases h⟩
/-- Kids in a row of the call's own. -/
theorem Kid.own {x : Nd} {a : Option Addr} {n c : Nat} (h : w.ownsRow B 3 encI.k (.slice a n c) x.ks.length (encI.all x.ks)) : Kid w B ⟨x, a, n, c⟩ := by
  refine ⟨Reads.of_own (E := encI) h, fun ad had => ?_⟩
  have hob : (Value.slice a n c).ownBlock = some ad.block := by
    have had : a = some ad := had
    rw [had]; rfl
  exact ⟨(h.lt _ hob).1, int_blk h hob⟩
/-- A tree that was copied. -/
structure PT (w : World) (B : Nat) (v : Value) (L : List Ln) : Prop where
  row : w.ownsRow B 48 encN.k v L.length (encN.all L)
  kids : ∀ p ∈ L, Kid w B p
theorem PT.keep {L : List Ln} (h : PT w B v L) (hr : w'.ownsRow B 48 encN.k v L.length (encN.all L)) (k : KeepI w w') : PT w' B v L := ⟨hr, fun p hp => (h.kids p hp).keep k⟩
theorem PT.below {L : List Ln} (h : PT w B v L) (hb : Below w.heap.size w w') : PT w' B v L := h.keep (own_below h.row hb) (keepI_below hb)
theorem PT.nodes {L : List Ln} (h : PT w B v L) : Nodes w v (L.map Ln.nd) := ⟨L, rfl, Reads.of_own (E := encN) h.row, fun p hp => (h.kids p hp).reads⟩
/-- A store into a block of one cell. -/
theorem PT.box {L : List Ln} (h : PT w B v L) {g : Nat} {cs : Array Value} {t : TypeId} {fr : Nat × Nat} (hh : w.heap[g]? = some (.cells cs t fr)) (ht : t ≠ 3) (ht2 : t ≠ 48) (o : Nat) (u : Value) : PT (w.setCell ⟨g, o, none⟩ u) B v L :=
  h.keep (ownsRow_setCell_other h.row (a := ⟨g, o, none⟩) (fun e => by
    obtain ⟨cs', fr', e2⟩ := row_blk h.row e
    rw [hh] at e2
    injection e2 with e2
    injection e2 with _ e3
    exact ht2 e3) u) (keepI_box hh ht o u)
/-- A field of a node is stored; its kids may be others then. -/
theorem PT.set {g n cap : Nat} {L : List Ln} (h : PT w B (.slice (some ⟨g, 0, none⟩) n cap) L) (i j : Nat) (p p' : Ln) (u : Value) (hp : L[i]? = some p) (hc : nCells p' = (nCells p).set j u) (hj : j < 6) (hk : Kid w B p') :
    PT (w.setCell ⟨g, i * 6 + j, none⟩ u) B (.slice (some ⟨g, 0, none⟩) n cap) (L.set i p') := by
  have hkp : KeepI w (w.setCell ⟨g, i * 6 + j, none⟩ u) := keepI_set (row_blk h.row rfl) _ _
  refine ⟨own_set h.row i j p p' u hp hc hj, fun q hq => ?_⟩
  rcases List.mem_or_eq_of_mem_set hq with hq | rfl
  · exact (h.kids q hq).keep hkp
  · exact hk.keep hkp
/-- A node is put behind all. -/
theorem PT.push {v' : Value} {L : List Ln} {p : Ln} (h : PT w B v L) (hp : Kid w B p) (k : KeepI w w') (hrow : w'.ownsRow B 48 encN.k v' (L ++ [p]).length (encN.all (L ++ [p]))) : PT w' B v' (L ++ [p]) :=
  ⟨hrow, fun q hq => by
    rcases List.mem_append.1 hq with hq | hq
    · exact (h.kids q hq).keep k
    · obtain rfl : q = p := by simpa using hq
      exact hp.keep k⟩
end
/-- append onto a row of the call's own: where the row is moved all that was there stays. -/
theorem run_append_moved {P : Program} (w : World) (base : Nat) (t ty e : TypeId) (i : TypeInfo) (z : Value) (size bytes : Nat) (ht : P.underlying t = some (.slice e)) (hi : P.info? e = some i) (hz : i.zero = some z)
    (hsize : i.size = size) (hby : i.bytes = bytes) (hzs : z.cells.size = size) (hsz : 0 < size)
    (v : Value) (n : Nat) (xs : List Value) (hown : w.ownsRow base e size v n xs)
    (a : Addr) (m c : Nat) (news : List Value) (hl : news.length = m * size) (hnews : ∀ j u, news[j]? = some u → w.cell? (a.add j) = some u) (h1 : ∀ u ∈ news, u.oneCell' = true)
    (h63 : n + m ≤ maxLen) (hbytes : (n + m) * bytes ≤ 140737488355328) (hbase : base ≤ w.heap.size) :
    ∃ v' w', (Builtin.append_ #[t, t] ty #[v, .slice (some a) m c]).run P w = .ok v' w' ∧ w'.ownsRow base e size v' (n + m) (xs ++ news) ∧ w.grownBy w' v.ownBlock ∧
      (v'.ownBlock = v.ownBlock ∨ (v'.ownBlock = some w.heap.size ∧ w.grownBy w' none)) := by
  obtain ⟨v', w', hr, h2, h3, _, h5⟩ := run_append_own_at (P := P) w base t ty e i z size bytes ht hi hz hsize hby hzs hsz v n xs hown a m c news hl hnews h1 h63 hbytes hbase
  refine ⟨v', w', hr, h2, h3, ?_⟩
  rcases h5 with h5 | h5
  · exact .inl h5
  · rcases hown.2 with ⟨rfl, _⟩ | ⟨g, cap, cur, rfl, hbg, hg, hnc, hcm, hcs, htake⟩
    · exact .inr ⟨h5, h3⟩
    · have hlt : g < w.heap.size := (Array.getElem?_eq_some_iff.1 hg).1
      subst hsize
      subst hby
      by_cases hroom : n + m ≤ cap
      · have hr2 := run_append_room (P := P) w t ty e i ht hi g n cap cur hg a m c news hl hnews h1 hroom (by rw [hl, hcs, ← Nat.add_mul]; exact Nat.mul_le_mul_right _ hroom)
        rw [hr] at hr2
        injection hr2 with hr2 _
        subst hr2
        exact .inl rfl
      · simp only [maxLen] at h63
        have hr2 := run_append_grow (P := P) w t ty e i z ht hi hz ⟨g, 0, none⟩ n cap xs hown.1 (hown.cells (g := g) rfl) a m c news hl hnews (by omega) (by omega) (growslice_fits (by omega) hbytes)
        rw [hr] at hr2
        injection hr2 with _ hr2
        subst hr2
        exact .inr ⟨h5, ⟨rfl, rfl, rfl, by simp, fun k hk _ => heap_alloc_old w.drew _ hk⟩⟩
/-- append(row of the call's own, elements...), at the walk. -/
theorem append_all_mv {α : Type} {E : Enc α} {w : World} {P : Program} {t e : TypeId} {bytes : Nat} (T : Ty P E t e bytes) {ops : Array Oper} {rest : List Oper} {o : Oper} {act : Act} {Q : Exit → Act → World → Prop} (hgd : o.guard = none) (x y : Operand)
    (ho : o.op = .call { callee := .builtin .append, args := #[x, y], argTypes := #[t, t] })
    (base : Nat) (v : Value) (l : List α) (hs : act.eval x = v) (hown : w.ownsRow base e E.k v l.length (E.all l)) (yv : Value) (m : List α) (hy : act.eval y = yv) (hb : Reads E w yv m)
    (hmax : l.length + m.length ≤ maxLen) (hlen : (l.length + m.length) * bytes ≤ 140737488355328) (hbase : base ≤ w.heap.size)
    (h : ∀ v' w', w'.ownsRow base e E.k v' (l ++ m).length (E.all (l ++ m)) → w.grownBy w' v.ownBlock → (v'.ownBlock = v.ownBlock ∨ (v'.ownBlock = some w.heap.size ∧ w.grownBy w' none)) → wpList P ops Q rest (act.put o.dst v') w') : wpList P ops Q (o :: rest) act w := by
  obtain ⟨i, z, hi, hz, hsz, hby, hzs⟩ := T.parts
  rcases hb with ⟨rfl, rfl⟩ | ⟨b, off, cap, rfl, h2, h3, h4⟩
  · refine wpList_append_own_none hgd x y t ho base e i E.k T.ht hi v l.length (E.all l) hs hown hy ?_
    refine h v w ?_ ⟨rfl, rfl, rfl, Nat.le_refl _, fun _ _ _ => rfl⟩ (.inl rfl)
    rw [List.append_nil]
    exact hown
  · refine wpList_plain hgd fun K hK => ?_
    obtain ⟨v', w', hr, q1, q2, q3⟩ := run_append_moved (P := P) w base t o.type e i z E.k bytes T.ht hi hz hsz hby hzs E.pos v l.length (E.all l) hown ⟨b, off, none⟩ m.length cap (E.all m) (all_len E m) (news h4) (all_one E m) hmax hlen hbase
    unfold Oper.wp execOp
    simp only [ho, resolve, invoke, builtin, Sem.run_bind, Sem.run_pure, Result.andThen_ok, List.map_toArray, List.map_cons, List.map_nil, hs, hy, hr]
    exact hK _ _ (h v' w' (by rw [all_app, List.length_append]; exact q1) q2 q3)
/-- A piece of the row of all kids. -/
structure Piece (w : World) (B : Nat) (av : Value) (F : List Int) (p : Ln) : Prop where
  kid : Kid w B p
  full : p.c = p.n
  upto : ∀ ad, p.a = some ad → av.ownBlock = some ad.block → ad.off + p.nd.ks.length ≤ F.length
theorem Piece.moved {w w' : World} {B : Nat} {av av' : Value} {F ks : List Int} {p : Ln} (h : Piece w B av F p) (hown : w.ownsRow B 3 encI.k av F.length (encI.all F)) (hown' : w'.ownsRow B 3 encI.k av' (F ++ ks).length (encI.all (F ++ ks)))
    (hg : w.grownBy w' av.ownBlock) (hm : av'.ownBlock = av.ownBlock ∨ (av'.ownBlock = some w.heap.size ∧ w.grownBy w' none)) : Piece w' B av' (F ++ ks) p := by
  rcases hm with hm | ⟨hm, hn⟩
  · refine ⟨⟨reads_of h.kid.reads (fun ad had o x hx h1 h2 => ?_), fun ad had => ⟨(h.kid.blk ad had).1, ?_⟩⟩, h.full, fun ad had hb => ?_⟩
    · by_cases hb : av.ownBlock = some ad.block
      · have hu := h.upto ad had hb
        have h2 : o < ad.off + p.nd.ks.length * 1 := h2
        have ho : o < F.length := by omega
        obtain ⟨y, hy⟩ : ∃ y, F[o]? = some y := ⟨_, List.getElem?_eq_getElem ho⟩
        have c1 := hown.cells hb _ _ ((all_get encI F o y hy 0 (by decide)).trans rfl)
        have c2 := hown'.cells (hm.trans hb) _ _ ((all_get encI (F ++ ks) o y (by rw [List.getElem?_append_left ho]; exact hy) 0 (by decide)).trans rfl)
        rw [add_addr, Nat.zero_add] at c1 c2
        rw [show o * encI.k + 0 = o from by show o * 1 + 0 = o; omega] at c1 c2
        rw [hx] at c1
        rw [c2, c1]
      · rw [World.cell?_of_block (a := ⟨ad.block, o, none⟩) (hg.block _ (h.kid.blk ad had).2.lt (fun e => hb e.symm))]
        exact hx
    · by_cases hb : av.ownBlock = some ad.block
      · exact int_blk hown' (hm.trans hb)
      · obtain ⟨cs, fr, e⟩ := (h.kid.blk ad had).2
        exact ⟨cs, fr, (hg.block _ (h.kid.blk ad had).2.lt (fun e => hb e.symm)).trans e⟩
    · have := h.upto ad had (hm.symm.trans hb)
      rw [List.length_append]; omega
  · refine ⟨h.kid.keep (keepI_none hn), h.full, fun ad had hb => ?_⟩
    have h1 := (h.kid.blk ad had).2.lt
    rw [hm] at hb
    have := Option.some.inj hb
    omega
theorem Piece.keep {w w' : World} {B : Nat} {av : Value} {F : List Int} {p : Ln} (h : Piece w B av F p) (k : KeepI w w') : Piece w' B av F p := ⟨h.kid.keep k, h.full, h.upto⟩
theorem own_cap {w : World} {B e size n cap m : Nat} {a : Option Addr} {xs : List Value} (h : w.ownsRow B e size (.slice a n cap) m xs) : n = m ∧ n ≤ cap ∧ cap ≤ maxLen := by
  rcases h.2 with ⟨h1, h2⟩ | ⟨g, cap', cur, hv, _, _, h4, h5, _⟩
  · obtain ⟨_, rfl, rfl⟩ := Value.slice.inj h1
    exact ⟨h2.symm, Nat.le_refl _, Nat.zero_le _⟩
  · obtain ⟨_, rfl, rfl⟩ := Value.slice.inj hv
    exact ⟨rfl, h4, h5⟩
/-- The last piece of a row of the call's own: all[from:len:len]. -/
theorem piece_cut {w : World} {B g N cap : Nat} {F ks : List Int} (hown : w.ownsRow B 3 encI.k (.slice (some ⟨g, 0, none⟩) N cap) (F ++ ks).length (encI.all (F ++ ks))) (hks : 0 < ks.length) (x : Nd) (hx : x.ks = ks) :
    (∀ W : World, (Instr.slice 46 (.slice (some ⟨g, 0, none⟩) N cap) (some (.int .i64 (F.length : Int))) (some (.int .i64 (N : Int))) (some (.int .i64 (N : Int)))).run Try.prog W = .ok (.slice (some ⟨g, F.length, none⟩) ks.length ks.length) W) ∧
    Piece w B (.slice (some ⟨g, 0, none⟩) N cap) (F ++ ks) ⟨x, some ⟨g, F.length, none⟩, ks.length, ks.length⟩ := by
  subst hx
  obtain ⟨hN, hc1, hc2⟩ := own_cap hown
  have hN : N = F.length + x.ks.length := by rw [hN, List.length_append]
  have hmx : x.ks.length ≤ maxLen := by omega
  refine ⟨fun W => ?_, ⟨⟨.inr ⟨g, F.length, x.ks.length, rfl, Nat.le_refl _, hmx, fun j y hj i u hu => ?_⟩, fun ad had => ?_⟩, rfl, fun ad had _ => ?_⟩⟩
  · rw [run_slice_lhm W _ (some ⟨g, 0, none⟩) N cap (by rw [tyI.he]; exact tyI.ht) .i64 .i64 .i64 F.length N N (by omega) (by omega) (by omega) (by omega), tyI.he, tyI.size]
    have h1 : ¬ (N = F.length) := by omega
    have h2 : N - F.length = x.ks.length := by omega
    simp [Result.andThen, sliced, h1, h2, encI, add_addr]
  · have hj1 := (List.getElem?_eq_some_iff.1 hj).1
    have hi : i = 0 := by
      have := (List.getElem?_eq_some_iff.1 hu).1
      have e : (encI.cells y).length = 1 := rfl
      omega
    subst hi
    have c := hown.cells (g := g) rfl _ _ ((all_get encI (F ++ x.ks) (F.length + j) y (by rw [List.getElem?_append_right (by omega), show F.length + j - F.length = j by omega]; exact hj) 0 (by decide)).trans hu)
    rw [add_addr, Nat.zero_add] at c
    rw [show (F.length + j) * encI.k + 0 = F.length + j * encI.k + 0 from by show (F.length + j) * 1 + 0 = F.length + j * 1 + 0; omega] at c
    exact c
  · have had : some (⟨g, F.length, none⟩ : Addr) = some ad := had
    obtain rfl := Option.some.inj had
    exact ⟨(hown.lt g rfl).1, int_blk hown rfl⟩
  · have had : some (⟨g, F.length, none⟩ : Addr) = some ad := had
    obtain rfl := Option.some.inj had
    rw [List.length_append]; exact Nat.le_refl _
/-- make([]T, 0, n). -/
theorem make_row {α : Type} {E : Enc α} {P : Program} {t e : TypeId} {bytes : Nat} (T : Ty P E t e bytes) (n B : Nat) (w : World) (hn : bytes * n ≤ 281474976710656) (hm : n ≤ maxLen) (hB : B ≤ w.heap.size) :
    ∃ w', (∀ m : Int, m = (n : Int) → (Instr.makeSlice t (.int .i64 0) (.int .i64 m)).run P w = .ok (.slice (some ⟨w.heap.size, 0, none⟩) 0 n) w') ∧ w'.ownsRow B e E.k (.slice (some ⟨w.heap.size, 0, none⟩) 0 n) ([] : List α).length (E.all []) ∧ w.grownBy w' none := by
  obtain ⟨i, z, hi, hz, hsz, hby, hzs⟩ := T.parts
  obtain ⟨w', h1, h2, h3⟩ := run_make_own (P := P) w B t e i z E.k T.ht hi hz hsz .i64 .i64 n (by rw [hby]; exact hn) hm hB
  exact ⟨w', fun m hm => by rw [hm]; exact h1, h2, h3⟩
end Go.Proofs.Ythkieidcjakhgaa
