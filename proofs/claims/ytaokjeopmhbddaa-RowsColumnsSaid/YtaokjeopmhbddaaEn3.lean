/- Package rows: the closure that puts an entry on (over five captured variables). -/
import Derived.Test.YtaokjeopmhbddaaEn1
import Derived.Test.YtaokjeopmhbddaaSqb
import Derived.Deep.RegionHeld3
import Derived.Deep.DeepCutAuto
import Derived.Deep.CutBlock
namespace Go.Proofs.Ytaokjeopmhbddaa
open Go.RowKit
open Go.Proofs.Ytaokjeopmhbddaa.Sg
open Go.Proofs.Ytaokjeopmhbddaa.Sq
set_option linter.unusedVariables false

/-- The captured variables: the row that was asked for (its first token), where the rest begins, the entries, the row's tokens, the place. -/
structure EM (w : World) (Br Be Bs Bw Ba : Nat) (F : Nat) (ev : Value) (es : List Rw.E) (rest : Int) (rowv : Value) (p : Nat) : Prop where
  r1 : w.cell? ⟨Br, 1, none⟩ = some (.int .i64 F)
  e : w.heap[Be]? = some (.cells #[ev] 35 (0, 0))
  s : w.heap[Bs]? = some (.cells #[.int .i64 rest] 3 (0, 0))
  row : w.heap[Bw]? = some (.cells #[rowv] 27 (0, 0))
  at' : w.heap[Ba]? = some (.cells #[.int .i64 p] 3 (0, 0))
  own : w.ownsRow (Ba + 1) 42 4 ev es.length (encE.all es)
  ord : Br < Be ∧ Be < Bs ∧ Bs < Bw ∧ Bw < Ba
/-- The same, but for what the entries' row holds. -/
structure EV (w : World) (Br Be Bs Bw Ba : Nat) (F : Nat) (ev : Value) (rest : Int) (rowv : Value) (p : Nat) : Prop where
  r1 : w.cell? ⟨Br, 1, none⟩ = some (.int .i64 F)
  e : w.heap[Be]? = some (.cells #[ev] 35 (0, 0))
  s : w.heap[Bs]? = some (.cells #[.int .i64 rest] 3 (0, 0))
  row : w.heap[Bw]? = some (.cells #[rowv] 27 (0, 0))
  at' : w.heap[Ba]? = some (.cells #[.int .i64 p] 3 (0, 0))
theorem grownBy_al {w w' : World} {o : Obj} {r : Option Nat} (h : (w.alloc o).grownBy w' r) : w.grownBy w' r :=
  ⟨h.os, h.tape, h.output, Nat.le_trans (by simp) h.size, fun k hk hne => (h.block k (by simp; omega) hne).trans (Below.heap_alloc _ _ _ hk)⟩
section
variable {w w' : World} {Br Be Bs Bw Ba F p : Nat} {ev rowv : Value} {es : List Rw.E} {rest : Int}
theorem EM.below (h : EM w Br Be Bs Bw Ba F ev es rest rowv p) (hb : Below w.heap.size w w') : EM w' Br Be Bs Bw Ba F ev es rest rowv p :=
  ⟨at_below hb h.r1, (hb.block _ (lt_of_block h.e)).trans h.e, (hb.block _ (lt_of_block h.s)).trans h.s, (hb.block _ (lt_of_block h.row)).trans h.row, (hb.block _ (lt_of_block h.at')).trans h.at', own_below h.own hb, h.ord⟩
theorem block_set {b b2 o : Nat} {u : Value} {x : Obj} (h : w.heap[b]? = some x) (hne : b ≠ b2) : (w.setCell ⟨b2, o, none⟩ u).heap[b]? = some x := (Below.heap_setCell _ _ _ _ hne).trans h
theorem own_ne_block {base e size n B : Nat} {v : Value} {xs : List Value} (h : w.ownsRow base e size v n xs) (hB : B < base) : v.ownBlock ≠ some B := fun e => by have := (h.lt _ e).1; omega
theorem EM.setS (h : EM w Br Be Bs Bw Ba F ev es rest rowv p) (u : Int) : EM (w.setCell ⟨Bs, 0, none⟩ (.int .i64 u)) Br Be Bs Bw Ba F ev es u rowv p := by
  have ho := h.ord
  exact ⟨at_far (by omega) h.r1, block_set h.e (by omega), one_setCell h.s, block_set h.row (by omega), block_set h.at' (by omega), ownsRow_setCell_below h.own (a := ⟨Bs, 0, none⟩) (by show Bs < _; omega) _, ho⟩
theorem EM.setA (h : EM w Br Be Bs Bw Ba F ev es rest rowv p) (u : Nat) : EM (w.setCell ⟨Ba, 0, none⟩ (.int .i64 u)) Br Be Bs Bw Ba F ev es rest rowv u := by
  have ho := h.ord
  exact ⟨at_far (by omega) h.r1, block_set h.e (by omega), block_set h.s (by omega), block_set h.row (by omega), one_setCell h.at', ownsRow_setCell_below h.own (a := ⟨Ba, 0, none⟩) (by show Ba < _; omega) _, ho⟩
theorem EM.grown (h : EM w Br Be Bs Bw Ba F ev es rest rowv p) (hg : w.grownBy w' ev.ownBlock) : EV w' Br Be Bs Bw Ba F ev rest rowv p := by
  have ho := h.ord
  have hn : ∀ B, B < Ba + 1 → some B ≠ ev.ownBlock := fun B hB e => own_ne_block h.own hB e.symm
  exact ⟨hg.cell h.r1 (hn Br (by omega)), (hg.block Be (lt_of_block h.e) (hn Be (by omega))).trans h.e, (hg.block Bs (lt_of_block h.s) (hn Bs (by omega))).trans h.s, (hg.block Bw (lt_of_block h.row) (hn Bw (by omega))).trans h.row, (hg.block Ba (lt_of_block h.at') (hn Ba (by omega))).trans h.at'⟩
/-- The entries have been put on, and the variable holds them. -/
theorem EM.setE (h : EM w Br Be Bs Bw Ba F ev es rest rowv p) {ev2 : Value} {es2 : List Rw.E} (hg : w.grownBy w' ev.ownBlock) (hown : w'.ownsRow (Ba + 1) 42 4 ev2 es2.length (encE.all es2)) : EM (w'.setCell ⟨Be, 0, none⟩ ev2) Br Be Bs Bw Ba F ev2 es2 rest rowv p := by
  have ho := h.ord
  have hn : ∀ B, B < Ba + 1 → some B ≠ ev.ownBlock := fun B hB e => own_ne_block h.own hB e.symm
  have he := (hg.block Be (lt_of_block h.e) (hn Be (by omega))).trans h.e
  exact ⟨at_far (by omega) (hg.cell h.r1 (hn Br (by omega))), one_setCell he, block_set ((hg.block Bs (lt_of_block h.s) (hn Bs (by omega))).trans h.s) (by omega), block_set ((hg.block Bw (lt_of_block h.row) (hn Bw (by omega))).trans h.row) (by omega), block_set ((hg.block Ba (lt_of_block h.at') (hn Ba (by omega))).trans h.at') (by omega), ownsRow_setCell_below hown (a := ⟨Be, 0, none⟩) (by show Be < _; omega) _, ho⟩
end
theorem ent_new (W : World) (x : Rw.E) (cs : List Value) (t : TypeId) (h : encE.cells x = cs) : ∀ j c, (encE.all [x])[j]? = some c → (W.alloc (.cells cs.toArray t)).cell? ⟨W.heap.size, j, none⟩ = some c := by
  intro j c hj
  rw [World.cell?_alloc_mark, ← h]
  have ea : encE.all [x] = encE.cells x := by rw [Enc.all, Enc.all, List.append_nil]
  rw [ea] at hj
  simpa using hj
/-- What enter leaves. -/
def Entered (Br Be Bs Bw Ba F : Nat) (es : List Rw.E) (x : Rw.E) (rest : Int) (rowv : Value) (p : Nat) (w : World) (e : Ending) (w' : World) : Prop :=
  e = .returned (.tuple #[]) ∧ (∃ ev, EM w' Br Be Bs Bw Ba F ev (es ++ [x]) rest rowv p) ∧ Below Br w w'
set_option maxHeartbeats 8000000 in
set_option maxRecDepth 100000 in
theorem pEnter (dash : Bool) (tq : Nat) (Br Be Bs Bw Ba F p : Nat) (ev rowv : Value) (es : List Rw.E) (rest : Int) (ts : List Tk) (w : World) (hM : EM w Br Be Bs Bw Ba F ev es rest rowv p) (hR : ∀ W, Below Br w W → Reads encT W rowv ts) (hs : ts.length ≤ 100000) (hf : ∀ x ∈ ts, x.2.1 ≤ 1000000) (hp : p ≤ ts.length) (hto : tq ≤ ts.length) (hF : F ≤ 100000) (hes : es.length ≤ 100000) :
    Calls Try.prog 31 #[.bool dash, .int .i64 tq, .pointer (some ⟨Br, 0, none⟩), .pointer (some ⟨Bs, 0, none⟩), .pointer (some ⟨Be, 0, none⟩), .pointer (some ⟨Bw, 0, none⟩), .pointer (some ⟨Ba, 0, none⟩)] w
      (Entered Br Be Bs Bw Ba F es ⟨dash, Rw.colA ts p, F + p, F + tq⟩ (F + tq : Nat) rowv (tq + Rw.blanks (ts.drop tq)) w) := by
  have ho := hM.ord
  have hM1 := hM.setS ((F : Int) + (tq : Int))
  have k1 := hM.r1
  have f2 := free_of_one hM.s
  have cS := cell_of_one hM.s
  have hb1 : Below Br w (w.setCell ⟨Bs, 0, none⟩ (.int .i64 ((F : Int) + (tq : Int)))) := (Below.refl Br w).setCell (p := ⟨Bs, 0, none⟩) (by show Br ≤ Bs; omega) _
  obtain ⟨W1, hW1⟩ : ∃ W1, w.setCell ⟨Bs, 0, none⟩ (.int .i64 ((F : Int) + (tq : Int))) = W1 := ⟨_, rfl⟩
  rw [hW1] at hM1 hb1
  have HW1 := Lib.hid hW1
  have HM1 := Lib.hid hM1
  have HB1 := Lib.hid hb1
  have hbr0 : Br ≤ w.heap.size := Nat.le_of_lt (cell_lt hM.r1)
  have hbr : Br ≤ W1.heap.size := Nat.le_of_lt (cell_lt hM1.r1)
  have HC := Lib.hid (fun W (hb : Below W1.heap.size W1 W) => pColumn rowv ts p W (hR W (hb1.trans (hb.mono hbr))) (by omega) hp hf)
  have HP := Lib.hid (fun W (hb : Below Br w W) => pPast rowv ts tq W (hR W hb) (by omega) hto)
  have HQ := Lib.hid (fun e w' => show (e = .returned (.tuple #[]) ∧ (∃ ev, EM w' Br Be Bs Bw Ba F ev (es ++ [⟨dash, Rw.colA ts p, F + p, F + tq⟩]) (F + tq : Nat) rowv (tq + Rw.blanks (ts.drop tq))) ∧ Below Br w w') → Entered Br Be Bs Bw Ba F es ⟨dash, Rw.colA ts p, F + p, F + tq⟩ (F + tq : Nat) rowv (tq + Rw.blanks (ts.drop tq)) w e w' from fun h => h)
  obtain ⟨Q, hQ⟩ : ∃ Q, Entered Br Be Bs Bw Ba F es ⟨dash, Rw.colA ts p, F + p, F + tq⟩ (F + tq : Nat) rowv (tq + Rw.blanks (ts.drop tq)) w = Q := ⟨_, rfl⟩
  rw [hQ] at HQ ⊢
  obtain ⟨N, hN⟩ : ∃ N, ts.length = N := ⟨_, rfl⟩
  rw [hN] at hs hp hto
  obtain ⟨C, hC⟩ : ∃ C, Rw.colA ts p = C := ⟨_, rfl⟩
  rw [hC] at HC HQ
  obtain ⟨Z, hZ⟩ : ∃ Z, tq + Rw.blanks (ts.drop tq) = Z := ⟨_, rfl⟩
  rw [hZ] at HP HQ
  have HCs := Lib.hid (show encE.cells ⟨dash, C, F + p, F + tq⟩ = [.bool dash, .int .i64 C, .int .i64 ((F : Int) + (p : Int)), .int .i64 ((F : Int) + (tq : Int))] by simp [encE, eCells])
  clear hM hM1 hb1 hR hf hN hC hZ hQ hW1
  go_enter Try.func31, Try.ntmps31
  go_upto_region 1 with fail
  rw [HW1.out]
  clear k1 f2 cS
  have c1 := HM1.out.r1
  have c2 := cell_of_one HM1.out.s
  have c3 := cell_of_one HM1.out.row
  have c4 := cell_of_one HM1.out.at'
  have c5 := cell_of_one HM1.out.e
  have hw := IntWalk.i64_in ((F : Int) + (p : Int)) (by omega)
  have HD := Lib.hid (show Below W1.heap.size W1 W1.drew from ⟨rfl, rfl, rfl, Nat.le_refl _, fun _ _ => rfl⟩)
  have M1 := Lib.hid (show es.length + 1 ≤ maxLen by simp only [maxLen]; omega)
  have M2 := Lib.hid (show (es.length + 1) * 32 ≤ 140737488355328 by omega)
  have HBr2 := Lib.hid (fun W (hb : Below Br w W) => Nat.le_trans hbr0 hb.size)
  clear HW1
  go_cut [] (fun wx => ∃ ev2, EM wx Br Be Bs Bw Ba F ev2 (es ++ [⟨dash, C, F + p, F + tq⟩]) ((F : Int) + (tq : Int)) rowv p ∧ Below Br w wx)
  case first =>
    go_wp2_with fail
    refine wp_region_held_drew (S := fun wx => wx.cell? ⟨Br, 1, none⟩ = some (.int .i64 F) ∧ wx.cell? ⟨Bs, 0, none⟩ = some (.int .i64 ((F : Int) + (tq : Int))) ∧ wx.cell? ⟨Bw, 0, none⟩ = some rowv ∧ wx.cell? ⟨Ba, 0, none⟩ = some (.int .i64 p)) (by kernel_rfl) (⟨c1, c2, c3, c4⟩) (fun hH => ?_)
    refine wpAnyH_take (i := 1) (oi := { dst := some 14, op := Op.move (Operand.tmp 0), type := 4, pos := _, after := #[], guard := none }) (v := .bool dash) rfl (by kernel_rfl) (by kernel_rfl) (by kernel_rfl) (fun _ _ _ h => h) (Or.inl ⟨rfl, fun W hW => ?_⟩) hH ?_
    · go_simp
    try simp only [Act.put, List.setIfInBounds_toArray, List.set_cons_zero, List.set_cons_succ]
    refine wpAnyH_take (i := 2) (oi := { dst := some 15, op := Op.load 27 (Operand.tmp 5), type := 27, pos := _, after := #[], guard := none }) (v := rowv) rfl (by kernel_rfl) (by kernel_rfl) (by kernel_rfl) (fun _ _ _ h => h) (Or.inl ⟨rfl, fun W hW => ?_⟩) hH ?_
    · obtain ⟨z1, z2, z3, z4⟩ := hW; go_simp
    try simp only [Act.put, List.setIfInBounds_toArray, List.set_cons_zero, List.set_cons_succ]
    refine wpAnyH_take (i := 3) (oi := { dst := some 16, op := Op.load 3 (Operand.tmp 6), type := 3, pos := _, after := #[], guard := none }) (v := .int .i64 p) rfl (by kernel_rfl) (by kernel_rfl) (by kernel_rfl) (fun _ _ _ h => h) (Or.inl ⟨rfl, fun W hW => ?_⟩) hH ?_
    · obtain ⟨z1, z2, z3, z4⟩ := hW; go_simp
    try simp only [Act.put, List.setIfInBounds_toArray, List.set_cons_zero, List.set_cons_succ]
    refine wpAnyH_take (i := 5) (oi := { dst := some 18, op := Op.fieldAddr 33 (Operand.tmp 2) 1, type := 0, pos := _, after := #[], guard := none }) (v := .pointer (some ⟨Br, 1, none⟩)) rfl (by kernel_rfl) (by kernel_rfl) (by kernel_rfl) (fun _ _ _ h => h) (Or.inl ⟨rfl, fun W hW => ?_⟩) hH ?_
    · go_simp
    try simp only [Act.put, List.setIfInBounds_toArray, List.set_cons_zero, List.set_cons_succ]
    refine wpAnyH_take (i := 6) (oi := { dst := some 19, op := Op.load 3 (Operand.tmp 18), type := 3, pos := _, after := #[{ on := 5, ground := Ground.data }], guard := none }) (v := .int .i64 F) rfl (by kernel_rfl) (by kernel_rfl) (by kernel_rfl) (fun _ _ _ h => h) (Or.inl ⟨rfl, fun W hW => ?_⟩) hH ?_
    · obtain ⟨z1, z2, z3, z4⟩ := hW; go_simp
    try simp only [Act.put, List.setIfInBounds_toArray, List.set_cons_zero, List.set_cons_succ]
    refine wpAnyH_take (i := 7) (oi := { dst := some 20, op := Op.load 3 (Operand.tmp 6), type := 3, pos := _, after := #[], guard := none }) (v := .int .i64 p) rfl (by kernel_rfl) (by kernel_rfl) (by kernel_rfl) (fun _ _ _ h => h) (Or.inl ⟨rfl, fun W hW => ?_⟩) hH ?_
    · obtain ⟨z1, z2, z3, z4⟩ := hW; go_simp
    try simp only [Act.put, List.setIfInBounds_toArray, List.set_cons_zero, List.set_cons_succ]
    refine wpAnyH_take (i := 8) (oi := { dst := some 21, op := Op.binOp BinOp.add 3 (Operand.tmp 19) (Operand.tmp 20) 3, type := 3, pos := _, after := #[{ on := 6, ground := Ground.data }, { on := 7, ground := Ground.data }], guard := none }) (v := .int .i64 ((F : Int) + (p : Int))) rfl (by kernel_rfl) (by kernel_rfl) (by kernel_rfl) (fun _ _ _ h => h) (Or.inl ⟨rfl, fun W hW => ?_⟩) hH ?_
    · go_simp
    try simp only [Act.put, List.setIfInBounds_toArray, List.set_cons_zero, List.set_cons_succ]
    refine wpAnyH_take (i := 9) (oi := { dst := some 22, op := Op.load 3 (Operand.tmp 3), type := 3, pos := _, after := #[], guard := none }) (v := .int .i64 ((F : Int) + (tq : Int))) rfl (by kernel_rfl) (by kernel_rfl) (by kernel_rfl) (fun _ _ _ h => h) (Or.inl ⟨rfl, fun W hW => ?_⟩) hH ?_
    · obtain ⟨z1, z2, z3, z4⟩ := hW; go_simp
    try simp only [Act.put, List.setIfInBounds_toArray, List.set_cons_zero, List.set_cons_succ]
    refine wpAnyH_ready (rs := [0, 4]) (by kernel_rfl) (by simp) ?_
    refine AllReadyH.cons (o := { dst := some 13, op := Op.load 35 (Operand.tmp 4), type := 35, pos := _, after := #[], guard := none }) rfl (fun K hK => ?_) (AllReadyH.cons (o := { dst := some 17, op := Op.call { callee := Callee.value (Operand.func 28), args := #[Operand.tmp 15, Operand.tmp 16], argTypes := #[27, 3] }, type := 3, pos := _, after := #[{ on := 2, ground := Ground.data }, { on := 3, ground := Ground.data }], guard := none }) rfl (fun K hK => ?_) (AllReadyH.nil))
    · skip
      go_simp
      refine hK.out _ _ (⟨c1, c2, c3, c4⟩) (fun hH2 => ?_)
      clear hK K
      try simp only [Act.put, List.setIfInBounds_toArray, List.set_cons_zero, List.set_cons_succ]
      refine wpAnyH_ready (rs := [4]) (by kernel_rfl) (by simp) ?_
      refine AllReadyH.cons (o := { dst := some 17, op := Op.call { callee := Callee.value (Operand.func 28), args := #[Operand.tmp 15, Operand.tmp 16], argTypes := #[27, 3] }, type := 3, pos := _, after := #[{ on := 2, ground := Ground.data }, { on := 3, ground := Ground.data }], guard := none }) rfl (fun K hK => ?_) (AllReadyH.nil)
      go_simp
      refine (HC.out _ HD.out).mono ?_
      rintro e w2 ⟨rfl, hb2⟩
      have HM2 := Lib.hid ((HM1.out.below HD.out).below hb2)
      have HB2 := Lib.hid (HB1.out.trans ((HD.out.trans (hb2.mono HD.out.size)).mono hbr))
      have q1 := HM2.out.r1
      have q2 := cell_of_one HM2.out.s
      have q3 := cell_of_one HM2.out.row
      have q4 := cell_of_one HM2.out.at'
      have q5 := cell_of_one HM2.out.e
      have x5 := at_alloc (o := .cells #[.bool dash, .int .i64 C, .int .i64 ((F : Int) + (p : Int)), .int .i64 ((F : Int) + (tq : Int))] 42) q5
      have HO2 := Lib.hid HM2.out.own
      have HS3 := Lib.hid (show Ba + 1 ≤ (w2.alloc (.cells #[.bool dash, .int .i64 C, .int .i64 ((F : Int) + (p : Int)), .int .i64 ((F : Int) + (tq : Int))] 42)).heap.size from by have := lt_of_block HM2.out.at'; simp; omega)
      clear hb2
      try go_wp2_with fail
      refine hK.out _ _ (⟨q1, q2, q3, q4⟩) (fun hH2 => ?_)
      clear hK K
      try simp only [Act.put, List.setIfInBounds_toArray, List.set_cons_zero, List.set_cons_succ]
      refine wpAnyH_take (i := 10) (oi := { dst := some 23, op := Op.build 42 #[(0, Operand.tmp 14), (1, Operand.tmp 17), (2, Operand.tmp 21), (3, Operand.tmp 22)], type := 42, pos := _, after := #[{ on := 1, ground := Ground.data }, { on := 4, ground := Ground.data }, { on := 8, ground := Ground.data }, { on := 9, ground := Ground.data }], guard := none }) (v := .agg #[.bool dash, .int .i64 C, .int .i64 ((F : Int) + (p : Int)), .int .i64 ((F : Int) + (tq : Int))]) rfl (by kernel_rfl) (by kernel_rfl) (by kernel_rfl) (fun _ _ _ h => h) (Or.inl ⟨rfl, fun W hW => ?_⟩) hH2 ?_
      · go_simp
      try simp only [Act.put, List.setIfInBounds_toArray, List.set_cons_zero, List.set_cons_succ]
      refine wpAnyH_ready (rs := [11]) (by kernel_rfl) (by simp) ?_
      refine AllReadyH.cons (o := { dst := some 24, op := Op.buildSlice 35 1 #[(0, Operand.tmp 23)], type := 35, pos := _, after := #[{ on := 10, ground := Ground.data }], guard := none }) rfl (fun K hK => ?_) (AllReadyH.nil)
      go_simp
      refine hK.out _ _ (⟨at_alloc q1, at_alloc q2, at_alloc q3, at_alloc q4⟩) (fun hH2 => ?_)
      clear hK K
      try simp only [Act.put, List.setIfInBounds_toArray, List.set_cons_zero, List.set_cons_succ]
      refine wpAnyH_ready (rs := [12]) (by kernel_rfl) (by simp) ?_
      refine AllReadyH.cons (o := { dst := some 25, op := Op.call { callee := Callee.builtin Builtin.append, args := #[Operand.tmp 13, Operand.tmp 24], argTypes := #[35, 35] }, type := 35, pos := _, after := #[{ on := 0, ground := Ground.data }, { on := 11, ground := Ground.data }, { on := 4, ground := Ground.chain }], guard := none }) rfl (fun K hK => ?_) (AllReadyH.nil)
      refine step_append_laid tyE rfl (.tmp 13) (.tmp 24) rfl (Ba + 1) ev es rfl (HO2.out.alloc _) w2.heap.size 1 ([⟨dash, C, F + p, F + tq⟩] : List Rw.E) rfl rfl (ent_new w2 _ _ _ HCs.out) M1.out M2.out HS3.out ?_
      intro v3 w3 hown3 hg3
      obtain ⟨a3, cap3, hv3⟩ := (Reads.of_own (E := encE) hown3).shape
      rw [show (es ++ [(⟨dash, C, F + p, F + tq⟩ : Rw.E)]).length = es.length + 1 from by simp] at hv3
      subst hv3
      have HG3 := Lib.hid (grownBy_al hg3)
      have HO3 := Lib.hid hown3
      have HM3 := Lib.hid (HM2.out.grown HG3.out)
      have r1 := HM3.out.r1
      have r2 := cell_of_one HM3.out.s
      have r3 := cell_of_one HM3.out.row
      have r4 := cell_of_one HM3.out.at'
      have r5 := cell_of_one HM3.out.e
      have rf := free_of_one HM3.out.e
      clear hown3 hg3
      refine hK.out _ _ (⟨r1, r2, r3, r4⟩) (fun hH2 => ?_)
      clear hK K
      try simp only [Act.put, List.setIfInBounds_toArray, List.set_cons_zero, List.set_cons_succ]
      refine wpAnyH_ready (rs := [13]) (by kernel_rfl) (by simp) ?_
      refine AllReadyH.cons (o := { dst := none, op := Op.store 35 (Operand.tmp 4) (Operand.tmp 25), type := 0, pos := _, after := #[{ on := 12, ground := Ground.data }, { on := 12, ground := Ground.chain }, { on := 0, ground := Ground.phase }, { on := 1, ground := Ground.phase }, { on := 2, ground := Ground.phase }, { on := 3, ground := Ground.phase }, { on := 4, ground := Ground.phase }, { on := 5, ground := Ground.phase }, { on := 6, ground := Ground.phase }, { on := 7, ground := Ground.phase }, { on := 8, ground := Ground.phase }, { on := 9, ground := Ground.phase }, { on := 10, ground := Ground.phase }, { on := 11, ground := Ground.phase }, { on := 12, ground := Ground.phase }], guard := none }) rfl (fun K hK => ?_) (AllReadyH.nil)
      go_simp
      refine hK.out _ _ (⟨at_far (show Be ≠ Br by omega) r1, at_far (show Be ≠ Bs by omega) r2, at_far (show Be ≠ Bw by omega) r3, at_far (show Be ≠ Ba by omega) r4⟩) (fun hH2 => ?_)
      clear hK K
      try simp only [Act.put, List.setIfInBounds_toArray, List.set_cons_zero, List.set_cons_succ]
      refine wpAnyH_done (by kernel_rfl) ?_ _
      go_wp2_with fail
      go_meet
      exact ⟨_, HM2.out.setE HG3.out HO3.out, (HB2.out.grown HG3.out (HBr2.out w2 HB2.out) (fun q hq => by have := (HO2.out.lt q hq).1; omega)).setCell (p := ⟨Be, 0, none⟩) (by show Br ≤ Be; omega) _⟩
    · skip
      go_simp
      refine (HC.out _ HD.out).mono ?_
      rintro e w2 ⟨rfl, hb2⟩
      have HM2 := Lib.hid ((HM1.out.below HD.out).below hb2)
      have HB2 := Lib.hid (HB1.out.trans ((HD.out.trans (hb2.mono HD.out.size)).mono hbr))
      have q1 := HM2.out.r1
      have q2 := cell_of_one HM2.out.s
      have q3 := cell_of_one HM2.out.row
      have q4 := cell_of_one HM2.out.at'
      have q5 := cell_of_one HM2.out.e
      have x5 := at_alloc (o := .cells #[.bool dash, .int .i64 C, .int .i64 ((F : Int) + (p : Int)), .int .i64 ((F : Int) + (tq : Int))] 42) q5
      have HO2 := Lib.hid HM2.out.own
      have HS3 := Lib.hid (show Ba + 1 ≤ (w2.alloc (.cells #[.bool dash, .int .i64 C, .int .i64 ((F : Int) + (p : Int)), .int .i64 ((F : Int) + (tq : Int))] 42)).heap.size from by have := lt_of_block HM2.out.at'; simp; omega)
      clear hb2
      try go_wp2_with fail
      refine hK.out _ _ (⟨q1, q2, q3, q4⟩) (fun hH2 => ?_)
      clear hK K
      try simp only [Act.put, List.setIfInBounds_toArray, List.set_cons_zero, List.set_cons_succ]
      refine wpAnyH_take (i := 10) (oi := { dst := some 23, op := Op.build 42 #[(0, Operand.tmp 14), (1, Operand.tmp 17), (2, Operand.tmp 21), (3, Operand.tmp 22)], type := 42, pos := _, after := #[{ on := 1, ground := Ground.data }, { on := 4, ground := Ground.data }, { on := 8, ground := Ground.data }, { on := 9, ground := Ground.data }], guard := none }) (v := .agg #[.bool dash, .int .i64 C, .int .i64 ((F : Int) + (p : Int)), .int .i64 ((F : Int) + (tq : Int))]) rfl (by kernel_rfl) (by kernel_rfl) (by kernel_rfl) (fun _ _ _ h => h) (Or.inl ⟨rfl, fun W hW => ?_⟩) hH2 ?_
      · go_simp
      try simp only [Act.put, List.setIfInBounds_toArray, List.set_cons_zero, List.set_cons_succ]
      refine wpAnyH_ready (rs := [0, 11]) (by kernel_rfl) (by simp) ?_
      refine AllReadyH.cons (o := { dst := some 13, op := Op.load 35 (Operand.tmp 4), type := 35, pos := _, after := #[], guard := none }) rfl (fun K hK => ?_) (AllReadyH.cons (o := { dst := some 24, op := Op.buildSlice 35 1 #[(0, Operand.tmp 23)], type := 35, pos := _, after := #[{ on := 10, ground := Ground.data }], guard := none }) rfl (fun K hK => ?_) (AllReadyH.nil))
      · skip
        go_simp
        refine hK.out _ _ (⟨q1, q2, q3, q4⟩) (fun hH2 => ?_)
        clear hK K
        try simp only [Act.put, List.setIfInBounds_toArray, List.set_cons_zero, List.set_cons_succ]
        refine wpAnyH_ready (rs := [11]) (by kernel_rfl) (by simp) ?_
        refine AllReadyH.cons (o := { dst := some 24, op := Op.buildSlice 35 1 #[(0, Operand.tmp 23)], type := 35, pos := _, after := #[{ on := 10, ground := Ground.data }], guard := none }) rfl (fun K hK => ?_) (AllReadyH.nil)
        go_simp
        refine hK.out _ _ (⟨at_alloc q1, at_alloc q2, at_alloc q3, at_alloc q4⟩) (fun hH2 => ?_)
        clear hK K
        try simp only [Act.put, List.setIfInBounds_toArray, List.set_cons_zero, List.set_cons_succ]
        refine wpAnyH_ready (rs := [12]) (by kernel_rfl) (by simp) ?_
        refine AllReadyH.cons (o := { dst := some 25, op := Op.call { callee := Callee.builtin Builtin.append, args := #[Operand.tmp 13, Operand.tmp 24], argTypes := #[35, 35] }, type := 35, pos := _, after := #[{ on := 0, ground := Ground.data }, { on := 11, ground := Ground.data }, { on := 4, ground := Ground.chain }], guard := none }) rfl (fun K hK => ?_) (AllReadyH.nil)
        refine step_append_laid tyE rfl (.tmp 13) (.tmp 24) rfl (Ba + 1) ev es rfl (HO2.out.alloc _) w2.heap.size 1 ([⟨dash, C, F + p, F + tq⟩] : List Rw.E) rfl rfl (ent_new w2 _ _ _ HCs.out) M1.out M2.out HS3.out ?_
        intro v3 w3 hown3 hg3
        obtain ⟨a3, cap3, hv3⟩ := (Reads.of_own (E := encE) hown3).shape
        rw [show (es ++ [(⟨dash, C, F + p, F + tq⟩ : Rw.E)]).length = es.length + 1 from by simp] at hv3
        subst hv3
        have HG3 := Lib.hid (grownBy_al hg3)
        have HO3 := Lib.hid hown3
        have HM3 := Lib.hid (HM2.out.grown HG3.out)
        have r1 := HM3.out.r1
        have r2 := cell_of_one HM3.out.s
        have r3 := cell_of_one HM3.out.row
        have r4 := cell_of_one HM3.out.at'
        have r5 := cell_of_one HM3.out.e
        have rf := free_of_one HM3.out.e
        clear hown3 hg3
        refine hK.out _ _ (⟨r1, r2, r3, r4⟩) (fun hH2 => ?_)
        clear hK K
        try simp only [Act.put, List.setIfInBounds_toArray, List.set_cons_zero, List.set_cons_succ]
        refine wpAnyH_ready (rs := [13]) (by kernel_rfl) (by simp) ?_
        refine AllReadyH.cons (o := { dst := none, op := Op.store 35 (Operand.tmp 4) (Operand.tmp 25), type := 0, pos := _, after := #[{ on := 12, ground := Ground.data }, { on := 12, ground := Ground.chain }, { on := 0, ground := Ground.phase }, { on := 1, ground := Ground.phase }, { on := 2, ground := Ground.phase }, { on := 3, ground := Ground.phase }, { on := 4, ground := Ground.phase }, { on := 5, ground := Ground.phase }, { on := 6, ground := Ground.phase }, { on := 7, ground := Ground.phase }, { on := 8, ground := Ground.phase }, { on := 9, ground := Ground.phase }, { on := 10, ground := Ground.phase }, { on := 11, ground := Ground.phase }, { on := 12, ground := Ground.phase }], guard := none }) rfl (fun K hK => ?_) (AllReadyH.nil)
        go_simp
        refine hK.out _ _ (⟨at_far (show Be ≠ Br by omega) r1, at_far (show Be ≠ Bs by omega) r2, at_far (show Be ≠ Bw by omega) r3, at_far (show Be ≠ Ba by omega) r4⟩) (fun hH2 => ?_)
        clear hK K
        try simp only [Act.put, List.setIfInBounds_toArray, List.set_cons_zero, List.set_cons_succ]
        refine wpAnyH_done (by kernel_rfl) ?_ _
        go_wp2_with fail
        go_meet
        exact ⟨_, HM2.out.setE HG3.out HO3.out, (HB2.out.grown HG3.out (HBr2.out w2 HB2.out) (fun q hq => by have := (HO2.out.lt q hq).1; omega)).setCell (p := ⟨Be, 0, none⟩) (by show Br ≤ Be; omega) _⟩
      · skip
        go_simp
        refine hK.out _ _ (⟨at_alloc q1, at_alloc q2, at_alloc q3, at_alloc q4⟩) (fun hH2 => ?_)
        clear hK K
        try simp only [Act.put, List.setIfInBounds_toArray, List.set_cons_zero, List.set_cons_succ]
        refine wpAnyH_ready (rs := [0]) (by kernel_rfl) (by simp) ?_
        refine AllReadyH.cons (o := { dst := some 13, op := Op.load 35 (Operand.tmp 4), type := 35, pos := _, after := #[], guard := none }) rfl (fun K hK => ?_) (AllReadyH.nil)
        go_simp
        refine hK.out _ _ (⟨at_alloc q1, at_alloc q2, at_alloc q3, at_alloc q4⟩) (fun hH2 => ?_)
        clear hK K
        try simp only [Act.put, List.setIfInBounds_toArray, List.set_cons_zero, List.set_cons_succ]
        refine wpAnyH_ready (rs := [12]) (by kernel_rfl) (by simp) ?_
        refine AllReadyH.cons (o := { dst := some 25, op := Op.call { callee := Callee.builtin Builtin.append, args := #[Operand.tmp 13, Operand.tmp 24], argTypes := #[35, 35] }, type := 35, pos := _, after := #[{ on := 0, ground := Ground.data }, { on := 11, ground := Ground.data }, { on := 4, ground := Ground.chain }], guard := none }) rfl (fun K hK => ?_) (AllReadyH.nil)
        refine step_append_laid tyE rfl (.tmp 13) (.tmp 24) rfl (Ba + 1) ev es rfl (HO2.out.alloc _) w2.heap.size 1 ([⟨dash, C, F + p, F + tq⟩] : List Rw.E) rfl rfl (ent_new w2 _ _ _ HCs.out) M1.out M2.out HS3.out ?_
        intro v3 w3 hown3 hg3
        obtain ⟨a3, cap3, hv3⟩ := (Reads.of_own (E := encE) hown3).shape
        rw [show (es ++ [(⟨dash, C, F + p, F + tq⟩ : Rw.E)]).length = es.length + 1 from by simp] at hv3
        subst hv3
        have HG3 := Lib.hid (grownBy_al hg3)
        have HO3 := Lib.hid hown3
        have HM3 := Lib.hid (HM2.out.grown HG3.out)
        have r1 := HM3.out.r1
        have r2 := cell_of_one HM3.out.s
        have r3 := cell_of_one HM3.out.row
        have r4 := cell_of_one HM3.out.at'
        have r5 := cell_of_one HM3.out.e
        have rf := free_of_one HM3.out.e
        clear hown3 hg3
        refine hK.out _ _ (⟨r1, r2, r3, r4⟩) (fun hH2 => ?_)
        clear hK K
        try simp only [Act.put, List.setIfInBounds_toArray, List.set_cons_zero, List.set_cons_succ]
        refine wpAnyH_ready (rs := [13]) (by kernel_rfl) (by simp) ?_
        refine AllReadyH.cons (o := { dst := none, op := Op.store 35 (Operand.tmp 4) (Operand.tmp 25), type := 0, pos := _, after := #[{ on := 12, ground := Ground.data }, { on := 12, ground := Ground.chain }, { on := 0, ground := Ground.phase }, { on := 1, ground := Ground.phase }, { on := 2, ground := Ground.phase }, { on := 3, ground := Ground.phase }, { on := 4, ground := Ground.phase }, { on := 5, ground := Ground.phase }, { on := 6, ground := Ground.phase }, { on := 7, ground := Ground.phase }, { on := 8, ground := Ground.phase }, { on := 9, ground := Ground.phase }, { on := 10, ground := Ground.phase }, { on := 11, ground := Ground.phase }, { on := 12, ground := Ground.phase }], guard := none }) rfl (fun K hK => ?_) (AllReadyH.nil)
        go_simp
        refine hK.out _ _ (⟨at_far (show Be ≠ Br by omega) r1, at_far (show Be ≠ Bs by omega) r2, at_far (show Be ≠ Bw by omega) r3, at_far (show Be ≠ Ba by omega) r4⟩) (fun hH2 => ?_)
        clear hK K
        try simp only [Act.put, List.setIfInBounds_toArray, List.set_cons_zero, List.set_cons_succ]
        refine wpAnyH_done (by kernel_rfl) ?_ _
        go_wp2_with fail
        go_meet
        exact ⟨_, HM2.out.setE HG3.out HO3.out, (HB2.out.grown HG3.out (HBr2.out w2 HB2.out) (fun q hq => by have := (HO2.out.lt q hq).1; omega)).setCell (p := ⟨Be, 0, none⟩) (by show Br ≤ Be; omega) _⟩
  case rest =>
    obtain ⟨ev2, hM, hB⟩ := hcut
    have c3 := cell_of_one hM.row
    have c4 := cell_of_one hM.at'
    have f4 := free_of_one hM.at'
    have HM := Lib.hid hM
    have HB := Lib.hid hB
    have HPw := Lib.hid (HP.out wc hB)
    clear hM hB HP
    go_wp2_with fail
    refine HPw.out.mono ?_
    rintro e w2 ⟨rfl, rfl⟩
    have HD := Lib.hid (HQ.out _ _ ⟨rfl, ⟨ev2, by rw [show ((F + tq : Nat) : Int) = (F : Int) + (tq : Int) from by omega]; exact HM.out.setA Z⟩, HB.out.setCell (p := ⟨Ba, 0, none⟩) (by show Br ≤ Ba; omega) _⟩)
    go_wp2_with fail
    go_end0
    exact HD.out
end Go.Proofs.Ytaokjeopmhbddaa
